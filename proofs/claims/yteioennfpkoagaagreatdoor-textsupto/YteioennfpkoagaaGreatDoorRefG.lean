import Derived.Test.YteioennfpkoagaaGreatDoorRefF
namespace Go.Proofs.YteioennfpkoagaaGreatDoor
open Go.RowKit
attribute [local go_sem ↓] Go.wp_at_zero Go.wp_at_succ

/- Strings lie in block sb. -/
def StrB (w : World) (sb : Nat) (kws : List (List UInt8)) : Prop :=
  ∃ cur t fr, w.heap[sb]? = some (.cells cur t fr) ∧ ∀ j (hj : j < kws.length), cur[j]? = some (.string ⟨kws[j].toArray⟩)
theorem StrB.kept {w w' : World} {sb : Nat} {kws : List (List UInt8)} (h : StrB w sb kws) {row : Option Nat} (hg : w.grownBy w' row) (hne : some sb ≠ row) : StrB w' sb kws := by
  obtain ⟨cur, t, fr, h1, h2⟩ := h
  exact ⟨cur, t, fr, by rw [hg.block sb (lt_of_blk h1) hne]; exact h1, h2⟩
theorem StrB.at {w : World} {sb : Nat} {kws : List (List UInt8)} (h : StrB w sb kws) (j : Nat) (hj : j < kws.length) : w.cell? ⟨sb, j, none⟩ = some (.string ⟨kws[j].toArray⟩) := by
  obtain ⟨cur, t, fr, h1, h2⟩ := h
  rw [cell_of_blk h1]; exact h2 j hj
theorem oneOf_step (l : List UInt8) (r : RS) (kws : List (List UInt8)) (k : Nat) (hk : k < kws.length) : oneOfR l r k (kws.drop k) = if isR l r kws[k] = true then (k + 1, nextR r) else oneOfR l r (k + 1) (kws.drop (k + 1)) := by
  rw [List.drop_eq_getElem_cons hk]; rfl

set_option maxRecDepth 100000 in
set_option maxHeartbeats 400000 in
theorem oneOf_any (w : World) (b g N cap sb c : Nat) (l : List UInt8) (r : RS) (kws : List (List UInt8)) (h : RdOK w b g N cap l r) (hst : StrB w sb kws) (hm : kws.length ≤ 100) (hlen : l.length ≤ 8192) (hn : pos l (N - 1) = l.length) (hN : N ≤ 8193) :
    Calls Tryz.prog 133 #[.pointer (some ⟨b, 0, none⟩), .slice (some ⟨sb, 0, none⟩) kws.length c] w fun e w' => e = .returned (.int .i64 (oneOfR l r 0 kws).1) ∧ RdOK w' b g N cap l (oneOfR l r 0 kws).2 ∧ w.grownBy w' (some b) := by
  generalize hfin : oneOfR l r 0 kws = fin
  have HF : Hid (fin = oneOfR l r 0 (kws.drop 0)) := hfin.symm
  clear hfin
  go_enter Tryz.func133, Tryz.ntmps133
  go_wp2_with fail
  go_loopw [5] (fun i wr => ∃ (k q : Nat), i = .int .i64 k ∧ k ≤ kws.length ∧ Hid (fin = oneOfR l r k (kws.drop k)) ∧ wr = w.drewN q) (fun i _ => kws.length - (intOf i).toNat)
  case atStart => exact ⟨0, 0, rfl, by omega, HF, rfl⟩
  case round =>
    obtain ⟨k, q, rfl, hk, HK, rfl⟩ := hrel
    clear HF
    by_cases hlt : k < kws.length
    · have hc := hst.at k hlt
      have hst2 := hst
      clear hst2
      have HS := oneOf_step l r kws k hlt
      have HSS : Hid _ := HS
      clear HS
      generalize kws[k] = kw at *
      go_wp2_with fail
      refine (is_any _ b g N cap l r _ (h.drewN q)).mono ?_
      rintro e w2 ⟨rfl, q2, rfl⟩
      have hr2 := (h.drewN q).drewN q2
      have c1 := h.c1
      have f1 := h.fz 1
      have hg2 : w.grownBy ((w.drewN q).drewN q2) (some b) := grown_trans (grown_drewN w q _) (grown_drewN _ q2 _)
      cases hi : isR l r kw
      · go_wp2_with fail
        go_roundw
        case rel => exact ⟨k + 1, q + q2, by go_num, by omega, by have := HSS.out; rw [hi] at this; exact HK.out.trans (by simpa using this), by simp⟩
        case measure => simp [intOf]; omega
      · have hat := hr2.next hn (isR_sort hi)
        have HX : Hid (fin = (k + 1, nextR r)) := by have := HSS.out; rw [hi] at this; exact HK.out.trans (by simpa using this)
        go_wp2_with fail
        go_ret
        rw [HX.out]
        rw [World.drewN_drewN] at hr2 hg2
        exact ⟨ret_int (by simp), by exact hr2.setAt (r.at' + 1) hat, grown_trans hg2 (grown_set _ _ _ _)⟩
    · go_wp2_with fail
      refine (fail_any _ b g N cap l r 1 (h.drewN q) hlen).mono ?_
      rintro e w3 ⟨rfl, hr3, hg3⟩
      go_wp2_with fail
      go_ret
      have : fin = (0, failR l r 1) := by rw [HK.out, List.drop_eq_nil_of_le (by omega)]; rfl
      rw [this]
      exact ⟨rfl, hr3, grown_trans (grown_drewN w q _) hg3⟩

/- The names of partitions lie in block pb: five cells each, the name first. -/
def PartB (w : World) (pb : Nat) (names : List (List UInt8)) : Prop :=
  ∃ cur t fr, w.heap[pb]? = some (.cells cur t fr) ∧ ∀ j (hj : j < names.length), cur[j * 5]? = some (.string ⟨names[j].toArray⟩)
theorem PartB.kept {w w' : World} {sb : Nat} {kws : List (List UInt8)} (h : PartB w sb kws) {row : Option Nat} (hg : w.grownBy w' row) (hne : some sb ≠ row) : PartB w' sb kws := by
  obtain ⟨cur, t, fr, h1, h2⟩ := h
  exact ⟨cur, t, fr, by rw [hg.block sb (lt_of_blk h1) hne]; exact h1, h2⟩
theorem PartB.at {w : World} {sb : Nat} {kws : List (List UInt8)} (h : PartB w sb kws) (j : Nat) (hj : j < kws.length) : w.cell? ⟨sb, j * 5, none⟩ = some (.string ⟨kws[j].toArray⟩) := by
  obtain ⟨cur, t, fr, h1, h2⟩ := h
  rw [cell_of_blk h1]; exact h2 j hj
/- a slice of partitions: nil, or in block pb -/
def PartS (w : World) (v : Value) (names : List (List UInt8)) : Prop :=
  (v = .slice none 0 0 ∧ names = []) ∨ ∃ pb c, v = .slice (some ⟨pb, 0, none⟩) names.length c ∧ PartB w pb names
theorem fail_again (l : List UInt8) (r : RS) : failR l (failR l r 4) 1 = failR l r 4 := by
  have h : (failR l r 4).e ≠ 0 := by
    unfold failR; split
    · assumption
    · simp only []; split
      · assumption
      · simp
  generalize failR l r 4 = x at *
  unfold failR
  rw [if_pos h]
theorem end_step (l : List UInt8) (r : RS) (kws : List (List UInt8)) (k : Nat) (hk : k < kws.length) : endGo l r k (kws.drop k) = if (tk l r.at').sort = 1 ∧ kws[k] = (tk l r.at').text then (k, nextR r) else endGo l r (k + 1) (kws.drop (k + 1)) := by
  rw [List.drop_eq_getElem_cons hk]; rfl

set_option maxRecDepth 100000 in
set_option maxHeartbeats 400000 in
theorem end_dead (w : World) (b g N cap : Nat) (l : List UInt8) (r : RS) (v : Value) (h : RdOK w b g N cap l r) (he : r.e ≠ 0) :
    Calls Tryz.prog 134 #[.pointer (some ⟨b, 0, none⟩), v] w fun e w' => e = .returned (.int .i64 0) ∧ w' = w := by
  have c2 := h.c2
  have hz1 : ((r.e : Int) != 0) = true := by simp; omega
  go_enter Tryz.func134, Tryz.ntmps134
  go_wp2_with fail
  go_ret
  exact ⟨rfl, rfl⟩

set_option maxRecDepth 100000 in
set_option maxHeartbeats 400000 in
theorem end_live (w : World) (b g N cap pb c : Nat) (l : List UInt8) (r : RS) (names : List (List UInt8)) (h : RdOK w b g N cap l r) (he : r.e = 0) (hst : PartB w pb names) (hm : names.length ≤ 10000) (hlen : l.length ≤ 8192) (hn : pos l (N - 1) = l.length) (hN : N ≤ 8193) :
    Calls Tryz.prog 134 #[.pointer (some ⟨b, 0, none⟩), .slice (some ⟨pb, 0, none⟩) names.length c] w fun e w' => e = .returned (.int .i64 (endGo l r 0 names).1) ∧ RdOK w' b g N cap l (endGo l r 0 names).2 ∧ w.grownBy w' (some b) := by
  generalize hfin : endGo l r 0 names = fin
  have HF : Hid (fin = endGo l r 0 (names.drop 0)) := hfin.symm
  clear hfin
  have c0 := h.c0
  have c1 := h.c1
  have c2 := h.c2
  have f1 := h.fz 1
  have t0 := h.t0
  have t1 := h.t1
  have hl : (r.at' : Int) < (N : Int) := by have := h.lt; omega
  have h0 : (0 : Int) ≤ (r.at' : Int) := by omega
  have hz1 : ((r.e : Int) != 0) = false := by simp; omega
  go_enter Tryz.func134, Tryz.ntmps134
  go_wp2_with fail
  go_loopw [5] (fun i wr => ∃ (k q : Nat), i = .int .i64 k ∧ k ≤ names.length ∧ Hid (fin = endGo l r k (names.drop k)) ∧ wr = w.drewN q) (fun i _ => names.length - (intOf i).toNat)
  case atStart => exact ⟨0, 0, rfl, by omega, HF, rfl⟩
  case round =>
    obtain ⟨k, q, rfl, hk, HK, rfl⟩ := hrel
    clear HF
    by_cases hlt : k < names.length
    · have hc := hst.at k hlt
      have hlt' : (k : Int) < (names.length : Int) := by omega
      have hk0 : (0 : Int) ≤ (k : Int) := by omega
      have HS := end_step l r names k hlt
      have HSS : Hid _ := HS
      clear HS
      generalize names[k] = nm at *
      have HNX := h.next hn
      by_cases hs1 : (tk l r.at').sort = 1
      · have hq : (((tk l r.at').sort : Int) == 1) = true := by simp; omega
        go_wp2_with fail
        go_quiet (fail)
        go_wp2_with fail
        · have hh : (nm == (tk l r.at').text) = true := by assumption
          have hat := HNX (by omega)
          have HX : Hid (fin = (k, nextR r)) := by have := HSS.out; rw [if_pos ⟨hs1, by simpa using hh⟩] at this; exact HK.out.trans this
          go_ret
          rw [HX.out]
          exact ⟨rfl, by exact (h.drewN (q + nq)).setAt (r.at' + 1) hat, grown_trans (grown_drewN w (q + nq) _) (grown_set _ _ _ _)⟩
        · have hh : (nm == (tk l r.at').text) = false := by assumption
          go_roundw
          case rel => exact ⟨k + 1, q + nq, by go_num, by omega, by have := HSS.out; rw [if_neg (by simp at hh; simp [hh])] at this; exact HK.out.trans this, rfl⟩
          case measure => simp [intOf]; omega
      · have hq : (((tk l r.at').sort : Int) == 1) = false := by simp; omega
        go_wp2_with fail
        go_quiet (fail)
        go_wp2_with fail
        go_roundw
        case rel => exact ⟨k + 1, q + nq, by go_num, by omega, by have := HSS.out; rw [if_neg (by simp [hs1])] at this; exact HK.out.trans this, rfl⟩
        case measure => simp [intOf]; omega
    · have HX : Hid (fin = (0, failR l r (if (tk l r.at').sort = 1 then 4 else 1))) := by have := HK.out; rw [List.drop_eq_nil_of_le (by omega)] at this; exact this
      clear HK
      go_wp2_with fail
      go_quiet (fail)
      go_wp2_with fail
      · have hh : (((tk l r.at').sort : Int) == 1) = true := by assumption
        refine (fail_any _ b g N cap l r 4 (h.drewN (q + nq)) hlen).mono ?_
        rintro e w3 ⟨rfl, hr3, hg3⟩
        go_wp2_with fail
        refine (fail_any _ b g N cap l _ 1 hr3 hlen).mono ?_
        rintro e w4 ⟨rfl, hr4, hg4⟩
        go_wp2_with fail
        go_ret
        rw [HX.out, if_pos (by simp at hh; omega)]
        rw [fail_again] at hr4
        exact ⟨rfl, hr4, grown_trans (grown_trans (grown_drewN w (q + nq) _) hg3) hg4⟩
      · have hh : (((tk l r.at').sort : Int) == 1) = false := by assumption
        refine (fail_any _ b g N cap l r 1 (h.drewN (q + nq)) hlen).mono ?_
        rintro e w3 ⟨rfl, hr3, hg3⟩
        go_wp2_with fail
        go_ret
        rw [HX.out, if_neg (by simp at hh; omega)]
        exact ⟨rfl, hr3, grown_trans (grown_drewN w (q + nq) _) hg3⟩

set_option maxRecDepth 100000 in
set_option maxHeartbeats 400000 in
theorem end_nil (w : World) (b g N cap : Nat) (l : List UInt8) (r : RS) (h : RdOK w b g N cap l r) (he : r.e = 0) (hlen : l.length ≤ 8192) :
    Calls Tryz.prog 134 #[.pointer (some ⟨b, 0, none⟩), .slice none 0 0] w fun e w' => e = .returned (.int .i64 (endGo l r 0 []).1) ∧ RdOK w' b g N cap l (endGo l r 0 []).2 ∧ w.grownBy w' (some b) := by
  have HX : Hid (endGo l r 0 [] = (0, failR l r (if (tk l r.at').sort = 1 then 4 else 1))) := rfl
  generalize endGo l r 0 [] = fin at *
  have c0 := h.c0
  have c1 := h.c1
  have c2 := h.c2
  have f1 := h.fz 1
  have t0 := h.t0
  have t1 := h.t1
  have hl : (r.at' : Int) < (N : Int) := by have := h.lt; omega
  have h0 : (0 : Int) ≤ (r.at' : Int) := by omega
  have hz1 : ((r.e : Int) != 0) = false := by simp; omega
  go_enter Tryz.func134, Tryz.ntmps134
  go_wp2_with fail
  go_rounds 1
  go_quiet (fail)
  go_wp2_with fail
  · have hh : (((tk l r.at').sort : Int) == 1) = true := by assumption
    refine (fail_any _ b g N cap l r 4 (h.drewN nq) hlen).mono ?_
    rintro e w3 ⟨rfl, hr3, hg3⟩
    go_wp2_with fail
    refine (fail_any _ b g N cap l _ 1 hr3 hlen).mono ?_
    rintro e w4 ⟨rfl, hr4, hg4⟩
    go_wp2_with fail
    go_ret
    rw [HX.out, if_pos (by simp at hh; omega)]
    rw [fail_again] at hr4
    exact ⟨rfl, hr4, grown_trans (grown_trans (grown_drewN w nq _) hg3) hg4⟩
  · have hh : (((tk l r.at').sort : Int) == 1) = false := by assumption
    refine (fail_any _ b g N cap l r 1 (h.drewN nq) hlen).mono ?_
    rintro e w3 ⟨rfl, hr3, hg3⟩
    go_wp2_with fail
    go_ret
    rw [HX.out, if_neg (by simp at hh; omega)]
    exact ⟨rfl, hr3, grown_trans (grown_drewN w nq _) hg3⟩

theorem end_any (w : World) (b g N cap : Nat) (v : Value) (l : List UInt8) (r : RS) (names : List (List UInt8)) (h : RdOK w b g N cap l r) (hst : PartS w v names) (hm : names.length ≤ 10000) (hlen : l.length ≤ 8192) (hn : pos l (N - 1) = l.length) (hN : N ≤ 8193) :
    Calls Tryz.prog 134 #[.pointer (some ⟨b, 0, none⟩), v] w fun e w' => e = .returned (.int .i64 (endR l r names).1) ∧ RdOK w' b g N cap l (endR l r names).2 ∧ w.grownBy w' (some b) := by
  by_cases he : r.e = 0
  · have hx : endR l r names = endGo l r 0 names := by unfold endR; rw [if_neg (by simp [he])]
    rw [hx]
    rcases hst with ⟨rfl, rfl⟩ | ⟨pb, c, rfl, hp⟩
    · exact end_nil w b g N cap l r h he hlen
    · exact end_live w b g N cap pb c l r names h he hp hm hlen hn hN
  · have hx : endR l r names = (0, r) := by unfold endR; rw [if_pos he]
    rw [hx]
    refine (end_dead w b g N cap l r v h he).mono ?_
    rintro e w' ⟨rfl, rfl⟩
    exact ⟨rfl, h, grown_refl _ _⟩
end Go.Proofs.YteioennfpkoagaaGreatDoor
