import Derived.Test.YteioennfpkoagaaGreatDoorRefD
namespace Go.Proofs.YteioennfpkoagaaGreatDoor
open Go.RowKit
attribute [local go_sem ↓] Go.wp_at_zero Go.wp_at_succ

theorem RdOK.next {w : World} {b g N cap : Nat} {l : List UInt8} {r : RS} (h : RdOK w b g N cap l r) (hn : pos l (N - 1) = l.length) (hs : (tk l r.at').sort ≠ 0) : r.at' + 1 < N := by
  have := tk_lt l (N - 1) r.at' hn (by have := h.lt; omega) hs
  omega
theorem ret_str {a b : ByteArray} (h : a = b) : Ending.returned (.string a) = .returned (.string b) := by rw [h]

set_option maxRecDepth 100000 in
set_option maxHeartbeats 400000 in
theorem some_dead (w : World) (b g N cap : Nat) (l : List UInt8) (r : RS) (st : Int) (h : RdOK w b g N cap l r) (he : r.e ≠ 0) :
    Calls Tryz.prog 131 #[.pointer (some ⟨b, 0, none⟩), .int .i64 st] w fun e w' => e = .returned (.string ⟨#[]⟩) ∧ w' = w := by
  have c2 := h.c2
  have hz1 : ((r.e : Int) != 0) = true := by simp; omega
  go_enter Tryz.func131, Tryz.ntmps131
  go_wp2_with fail
  go_ret
  exact ⟨rfl, rfl⟩

set_option maxRecDepth 100000 in
set_option maxHeartbeats 400000 in
theorem some_live (w : World) (b g N cap : Nat) (l : List UInt8) (r : RS) (st : Nat) (h : RdOK w b g N cap l r) (he : r.e = 0) (hlen : l.length ≤ 8192) (hn : pos l (N - 1) = l.length) (h1 : 1 ≤ st) (hN : N ≤ 8193) :
    Calls Tryz.prog 131 #[.pointer (some ⟨b, 0, none⟩), .int .i64 st] w fun e w' => e = .returned (.string ⟨(someR l r st).1.toArray⟩) ∧ RdOK w' b g N cap l (someR l r st).2 ∧ w.grownBy w' (some b) := by
  have c0 := h.c0
  have c1 := h.c1
  have c2 := h.c2
  have t0 := h.t0
  have t1 := h.t1
  have t2 := h.t2
  have t3 := h.t3
  have hbs := lt_of_blk h.blk
  have hgs : g < w.heap.size := by obtain ⟨cur, hc, _⟩ := h.toks; exact lt_of_blk hc
  have hl : (r.at' : Int) < (N : Int) := by have := h.lt; omega
  have h0 : (0 : Int) ≤ (r.at' : Int) := by omega
  have hx : (tk l r.at').text.length ≤ 8192 := Nat.le_trans (tk_len _ _) hlen
  have hz1 : ((r.e : Int) != 0) = false := by simp; omega
  go_enter Tryz.func131, Tryz.ntmps131
  go_wp2_with fail
  go_region
  go_wp2_with fail
  refine (looks_tok (tk l r.at') _ _ _ hx).mono ?_
  rintro e w2 ⟨rfl, hb2⟩
  have hg2 : w.grownBy w2 (some b) := grown_trans (grown_drewN w 1 _) (grown_trans (grown_below ((Below.refl _ _).alloc (Nat.le_refl _) _) _) (grown_below hb2 _))
  have hr2 : RdOK w2 b g N cap l r := (h.kept (grown_trans (grown_drewN w 1 none) (grown_trans (grown_below ((Below.refl _ _).alloc (Nat.le_refl _) _) _) (grown_below hb2 _))) (by simp) (by simp))
  have x0 : w2.cell? ⟨w.heap.size, 0, none⟩ = some (.int .i64 (tk l r.at').sort) := by rw [hb2.cell (by simp)]; simp
  have x1 : w2.cell? ⟨w.heap.size, 1, none⟩ = some (.string ⟨(tk l r.at').text.toArray⟩) := by rw [hb2.cell (by simp)]; simp
  have HK : Hid (lk l r.at' = looksF (tk l r.at').sort (tk l r.at').text) := rfl
  rw [← HK.out]
  have HS : Hid (someR l r st = if (tk l r.at').sort ≠ st ∨ lk l r.at' ≠ 0 then ([], failR l r 1) else ((tk l r.at').text, nextR r)) := by unfold someR; rw [if_neg (by simp [he])]; exact rfl
  have HNX := hr2.next hn
  clear c0 c1 c2 t0 t1 t2 t3 hb2
  have c1 := hr2.c1
  have f1 := hr2.fz 1
  by_cases hc : (tk l r.at').sort ≠ st ∨ lk l r.at' ≠ 0
  · have HC : Hid _ := hc
    have hcase : (((tk l r.at').sort : Int) != (st : Int)) = true ∨ (((tk l r.at').sort : Int) != (st : Int)) = false ∧ ((lk l r.at' : Int) != 0) = true := by
      rcases hc with hc | hc
      · left; simp; omega
      · by_cases h2 : (tk l r.at').sort = st
        · right; exact ⟨by simp; omega, by simp; omega⟩
        · left; simp; omega
    clear hc
    rcases hcase with q1 | ⟨q1, q2⟩
    all_goals
      go_wp2_with fail
      refine (fail_any _ b g N cap l r 1 hr2 hlen).mono ?_
      rintro e w3 ⟨rfl, hr3, hg3⟩
      go_wp2_with fail
      go_ret
      rw [HS.out, if_pos HC.out]
      exact ⟨ret_str rfl, hr3, grown_trans hg2 hg3⟩
  · have HC : Hid _ := hc
    have q1 : (((tk l r.at').sort : Int) != (st : Int)) = false := by simp; omega
    have q2 : ((lk l r.at' : Int) != 0) = false := by simp; omega
    have hat : r.at' + 1 < N := HNX (by omega)
    clear hc
    go_wp2_with fail
    go_ret
    rw [HS.out, if_neg HC.out]
    exact ⟨ret_str rfl, hr2.setAt (r.at' + 1) hat, grown_trans hg2 (grown_set _ _ _ _)⟩

theorem some_any (w : World) (b g N cap : Nat) (l : List UInt8) (r : RS) (st : Nat) (h : RdOK w b g N cap l r) (hlen : l.length ≤ 8192) (hn : pos l (N - 1) = l.length) (h1 : 1 ≤ st) (hN : N ≤ 8193) :
    Calls Tryz.prog 131 #[.pointer (some ⟨b, 0, none⟩), .int .i64 st] w fun e w' => e = .returned (.string ⟨(someR l r st).1.toArray⟩) ∧ RdOK w' b g N cap l (someR l r st).2 ∧ w.grownBy w' (some b) := by
  by_cases he : r.e = 0
  · exact some_live w b g N cap l r st h he hlen hn h1 hN
  · refine (some_dead w b g N cap l r st h he).mono ?_
    rintro e w' ⟨rfl, rfl⟩
    have : someR l r st = ([], r) := by unfold someR; rw [if_pos he]
    rw [this]
    exact ⟨rfl, h, grown_refl _ _⟩

theorem some_number_len (l : List UInt8) (r : RS) : (someR l r 2).1.length ≤ 6 := by
  unfold someR
  split; · simp
  split; · simp
  rename_i hc
  have h1 : (tk l r.at').sort = 2 := by omega
  have h2 : lk l r.at' = 0 := by omega
  unfold lk looksF at h2
  rw [h1] at h2
  simp only [Nat.reduceEqDiff, false_and, if_false, ne_eq, not_true_eq_false] at h2
  split at h2
  · omega
  · simp only []; omega

set_option maxRecDepth 100000 in
set_option maxHeartbeats 400000 in
theorem number_any (w : World) (b g N cap : Nat) (l : List UInt8) (r : RS) (h : RdOK w b g N cap l r) (hlen : l.length ≤ 8192) (hn : pos l (N - 1) = l.length) (hN : N ≤ 8193) :
    Calls Tryz.prog 80 #[.pointer (some ⟨b, 0, none⟩)] w fun e w' => e = .returned (.int .i64 (numberR l r).1) ∧ RdOK w' b g N cap l (numberR l r).2 ∧ w.grownBy w' (some b) := by
  have hx := some_number_len l r
  unfold numberR
  go_enter Tryz.func80, Tryz.ntmps80
  go_wp2_with fail
  refine (some_any _ b g N cap l r 2 h hlen hn (by omega) hN).mono ?_
  rintro e w2 ⟨rfl, hr2, hg2⟩
  go_wp2_with fail
  refine (value_any _ _ (by show Array.size _ ≤ 6; simpa using hx)).mono ?_
  rintro e w3 ⟨rfl, rfl⟩
  go_wp2_with fail
  go_ret
  exact ⟨rfl, hr2, hg2⟩
end Go.Proofs.YteioennfpkoagaaGreatDoor
