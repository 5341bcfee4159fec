import Derived.Test.YteioennfpkoagaaGreatDoorRefC
import Derived.Test.YteioennfpkoagaaGreatDoorPureR
import Derived.Handy
namespace Go.Proofs.YteioennfpkoagaaGreatDoor
open Go.RowKit
attribute [local go_sem ↓] Go.wp_at_zero Go.wp_at_succ

/- N tokens of a text lie in block g. -/
def TokB (w : World) (g N : Nat) (l : List UInt8) : Prop :=
  ∃ cur, w.heap[g]? = some (.cells cur 164 (0, 0)) ∧ ∀ k, k < N → cur[k * 4]? = some (.int .i64 (tk l k).sort) ∧ cur[k * 4 + 1]? = some (.string ⟨(tk l k).text.toArray⟩) ∧ cur[k * 4 + 2]? = some (.int .i64 (tk l k).line) ∧ cur[k * 4 + 3]? = some (.int .i64 (tk l k).col)
def rdCells (g N cap : Nat) (r : RS) : Array Value := #[.slice (some ⟨g, 0, none⟩) N cap, .int .i64 r.at', .int .i64 r.e, .int .i64 r.ln, .int .i64 r.cl]
/- The reader lies in block b, in the state r. -/
structure RdOK (w : World) (b g N cap : Nat) (l : List UInt8) (r : RS) : Prop where
  blk : w.heap[b]? = some (.cells (rdCells g N cap r) 160 (0, 0))
  toks : TokB w g N l
  ne : g ≠ b
  lt : r.at' < N

theorem grown_drewN (w : World) (n : Nat) (row : Option Nat) : w.grownBy (w.drewN n) row := ⟨rfl, rfl, rfl, Nat.le_refl _, fun _ _ _ => rfl⟩
theorem grown_refl (w : World) (row : Option Nat) : w.grownBy w row := ⟨rfl, rfl, rfl, Nat.le_refl _, fun _ _ _ => rfl⟩
theorem grown_trans {a b c : World} {row : Option Nat} (h : a.grownBy b row) (k : b.grownBy c row) : a.grownBy c row :=
  ⟨k.os.trans h.os, k.tape.trans h.tape, k.output.trans h.output, Nat.le_trans h.size k.size, fun i hi hne => (k.block i (Nat.lt_of_lt_of_le hi h.size) hne).trans (h.block i hi hne)⟩
theorem grown_below {a b : World} (h : Below a.heap.size a b) (row : Option Nat) : a.grownBy b row := ⟨h.os, h.tape, h.output, h.size, fun k hk _ => h.block k hk⟩
theorem grown_set (w : World) (b i : Nat) (v : Value) : w.grownBy (w.setCell ⟨b, i, none⟩ v) (some b) :=
  ⟨rfl, rfl, rfl, by simp [World.setCell], fun k _ hne => Below.heap_setCell _ _ _ _ (by intro h; apply hne; rw [h])⟩
theorem lt_of_blk {w : World} {b : Nat} {o : Obj} (h : w.heap[b]? = some o) : b < w.heap.size := by
  rcases Nat.lt_or_ge b w.heap.size with h' | h'
  · exact h'
  · rw [Array.getElem?_eq_none h'] at h; cases h
theorem TokB.kept {w w' : World} {g N : Nat} {l : List UInt8} (h : TokB w g N l) {row : Option Nat} (hg : w.grownBy w' row) (hne : some g ≠ row) : TokB w' g N l := by
  obtain ⟨cur, h1, h2⟩ := h
  exact ⟨cur, by rw [hg.block g (lt_of_blk h1) hne]; exact h1, h2⟩
/- the reader stands as it did where other blocks were made or written -/
theorem RdOK.kept {w w' : World} {b g N cap : Nat} {l : List UInt8} {r : RS} (h : RdOK w b g N cap l r) {row : Option Nat} (hg : w.grownBy w' row) (h1 : some b ≠ row) (h2 : some g ≠ row) : RdOK w' b g N cap l r :=
  ⟨by rw [hg.block b (lt_of_blk h.blk) h1]; exact h.blk, h.toks.kept hg h2, h.ne, h.lt⟩
theorem cell_of_blk {w : World} {b i : Nat} {cs : Array Value} {t : TypeId} {fr : Nat × Nat} (h : w.heap[b]? = some (.cells cs t fr)) : w.cell? ⟨b, i, none⟩ = cs[i]? := by
  simp [World.cell?, h]
theorem frozen_of_blk {w : World} {b i : Nat} {cs : Array Value} {t : TypeId} (h : w.heap[b]? = some (.cells cs t (0, 0))) : w.frozen? ⟨b, i, none⟩ = false := by
  simp [World.frozen?, h]
theorem RdOK.c0 {w : World} {b g N cap : Nat} {l : List UInt8} {r : RS} (h : RdOK w b g N cap l r) : w.cell? ⟨b, 0, none⟩ = some (.slice (some ⟨g, 0, none⟩) N cap) := by rw [cell_of_blk h.blk]; rfl
theorem RdOK.c1 {w : World} {b g N cap : Nat} {l : List UInt8} {r : RS} (h : RdOK w b g N cap l r) : w.cell? ⟨b, 1, none⟩ = some (.int .i64 r.at') := by rw [cell_of_blk h.blk]; rfl
theorem RdOK.c2 {w : World} {b g N cap : Nat} {l : List UInt8} {r : RS} (h : RdOK w b g N cap l r) : w.cell? ⟨b, 2, none⟩ = some (.int .i64 r.e) := by rw [cell_of_blk h.blk]; rfl
theorem RdOK.c3 {w : World} {b g N cap : Nat} {l : List UInt8} {r : RS} (h : RdOK w b g N cap l r) : w.cell? ⟨b, 3, none⟩ = some (.int .i64 r.ln) := by rw [cell_of_blk h.blk]; rfl
theorem RdOK.c4 {w : World} {b g N cap : Nat} {l : List UInt8} {r : RS} (h : RdOK w b g N cap l r) : w.cell? ⟨b, 4, none⟩ = some (.int .i64 r.cl) := by rw [cell_of_blk h.blk]; rfl
theorem RdOK.fz {w : World} {b g N cap : Nat} {l : List UInt8} {r : RS} (h : RdOK w b g N cap l r) (i : Nat) : w.frozen? ⟨b, i, none⟩ = false := frozen_of_blk h.blk
theorem RdOK.t0 {w : World} {b g N cap : Nat} {l : List UInt8} {r : RS} (h : RdOK w b g N cap l r) : w.cell? ⟨g, r.at' * 4, none⟩ = some (.int .i64 (tk l r.at').sort) := by
  obtain ⟨cur, h1, h2⟩ := h.toks; rw [cell_of_blk h1]; exact (h2 _ h.lt).1
theorem RdOK.t1 {w : World} {b g N cap : Nat} {l : List UInt8} {r : RS} (h : RdOK w b g N cap l r) : w.cell? ⟨g, r.at' * 4 + 1, none⟩ = some (.string ⟨(tk l r.at').text.toArray⟩) := by
  obtain ⟨cur, h1, h2⟩ := h.toks; rw [cell_of_blk h1]; exact (h2 _ h.lt).2.1
theorem RdOK.t2 {w : World} {b g N cap : Nat} {l : List UInt8} {r : RS} (h : RdOK w b g N cap l r) : w.cell? ⟨g, r.at' * 4 + 2, none⟩ = some (.int .i64 (tk l r.at').line) := by
  obtain ⟨cur, h1, h2⟩ := h.toks; rw [cell_of_blk h1]; exact (h2 _ h.lt).2.2.1
theorem RdOK.t3 {w : World} {b g N cap : Nat} {l : List UInt8} {r : RS} (h : RdOK w b g N cap l r) : w.cell? ⟨g, r.at' * 4 + 3, none⟩ = some (.int .i64 (tk l r.at').col) := by
  obtain ⟨cur, h1, h2⟩ := h.toks; rw [cell_of_blk h1]; exact (h2 _ h.lt).2.2.2

theorem str_eq (s : ByteArray) (tt : List UInt8) : (tt == s.toList) = decide (tt = s.data.toList) := by
  rw [ByteArray.toList_eq, Bool.eq_iff_iff]; simp

set_option maxRecDepth 100000 in
set_option maxHeartbeats 400000 in
theorem is_any (w : World) (b g N cap : Nat) (l : List UInt8) (r : RS) (s : ByteArray) (h : RdOK w b g N cap l r) :
    Calls Tryz.prog 81 #[.pointer (some ⟨b, 0, none⟩), .string s] w fun e w' => e = .returned (.bool (isR l r s.data.toList)) ∧ ∃ q, w' = w.drewN q := by
  have c0 := h.c0
  have c1 := h.c1
  have c2 := h.c2
  have t0 := h.t0
  have t1 := h.t1
  have hl : (r.at' : Int) < (N : Int) := by have := h.lt; omega
  have h0 : (0 : Int) ≤ (r.at' : Int) := by omega
  have HI : Hid (decide (r.e = 0 ∧ (tk l r.at').sort ≠ 0 ∧ (tk l r.at').text = s.data.toList) = isR l r s.data.toList) := rfl
  generalize isR l r s.data.toList = q at *
  obtain ⟨at1, e1, ln1, cl1⟩ := r
  simp only [] at *
  generalize tk l at1 = t at *
  obtain ⟨ts, tt, tl, tc⟩ := t
  simp only [] at *
  clear h
  by_cases he : e1 = 0
  · subst he
    by_cases hz : ts = 0
    · subst hz
      have hb : q = false := by rw [← HI.out]; simp
      subst hb
      clear HI
      go_enter Tryz.func81, Tryz.ntmps81
      go_wp2_with fail
      go_quiet (fail)
      go_wp2
      go_ret
      exact ⟨rfl, _, rfl⟩
    · have hz1 : ((ts : Int) != 0) = true := by simp; omega
      have hb : q = (tt == s.toList) := by rw [← HI.out, str_eq]; simp [hz]
      subst hb
      clear HI hz
      go_enter Tryz.func81, Tryz.ntmps81
      go_wp2_with fail
      go_quiet (fail)
      go_wp2
      go_ret
      exact ⟨rfl, _, rfl⟩
  · have hz1 : ((e1 : Int) == 0) = false := by simp; omega
    have hb : q = false := by rw [← HI.out]; simp [he]
    subst hb
    clear HI he
    go_enter Tryz.func81, Tryz.ntmps81
    go_wp2_with fail
    go_quiet (fail)
    go_wp2
    go_ret
    exact ⟨rfl, _, rfl⟩

theorem looks_tok (t : Tok) (ln cl : Int) (w : World) (hs : t.text.length ≤ 8192) :
    Calls Tryz.prog 135 #[.agg #[.int .i64 t.sort, .string ⟨t.text.toArray⟩, .int .i64 ln, .int .i64 cl]] w fun e w' => e = .returned (.int .i64 (looksF t.sort t.text)) ∧ Below w.heap.size w w' :=
  looks_any t.sort ⟨t.text.toArray⟩ ln cl w (by show t.text.toArray.size ≤ _; simpa using hs)

theorem rd_set {w : World} {b g N cap : Nat} {r : RS} (i : Nat) (v : Value) (h : w.heap[b]? = some (.cells (rdCells g N cap r) 160 (0, 0))) :
    (w.setCell ⟨b, i, none⟩ v).heap[b]? = some (.cells ((rdCells g N cap r).setIfInBounds i v) 160 (0, 0)) := by
  simp [World.setCell, Array.getElem?_modify, h]

theorem RdOK.setE {w : World} {b g N cap : Nat} {l : List UInt8} {r : RS} (h : RdOK w b g N cap l r) (e : Nat) : RdOK (w.setCell ⟨b, 2, none⟩ (.int .i64 e)) b g N cap l ⟨r.at', e, r.ln, r.cl⟩ :=
  ⟨by rw [rd_set 2 _ h.blk]; rfl, h.toks.kept (grown_set w b 2 _) (by simp [h.ne]), h.ne, h.lt⟩
theorem RdOK.setLn {w : World} {b g N cap : Nat} {l : List UInt8} {r : RS} (h : RdOK w b g N cap l r) (x : Int) : RdOK (w.setCell ⟨b, 3, none⟩ (.int .i64 x)) b g N cap l ⟨r.at', r.e, x, r.cl⟩ :=
  ⟨by rw [rd_set 3 _ h.blk]; rfl, h.toks.kept (grown_set w b 3 _) (by simp [h.ne]), h.ne, h.lt⟩
theorem RdOK.setCl {w : World} {b g N cap : Nat} {l : List UInt8} {r : RS} (h : RdOK w b g N cap l r) (x : Int) : RdOK (w.setCell ⟨b, 4, none⟩ (.int .i64 x)) b g N cap l ⟨r.at', r.e, r.ln, x⟩ :=
  ⟨by rw [rd_set 4 _ h.blk]; rfl, h.toks.kept (grown_set w b 4 _) (by simp [h.ne]), h.ne, h.lt⟩
theorem RdOK.setAt {w : World} {b g N cap : Nat} {l : List UInt8} {r : RS} (h : RdOK w b g N cap l r) (k : Nat) (hk : k < N) : RdOK (w.setCell ⟨b, 1, none⟩ (.int .i64 k)) b g N cap l ⟨k, r.e, r.ln, r.cl⟩ :=
  ⟨by rw [rd_set 1 _ h.blk]; rfl, h.toks.kept (grown_set w b 1 _) (by simp [h.ne]), h.ne, hk⟩
theorem RdOK.drewN {w : World} {b g N cap : Nat} {l : List UInt8} {r : RS} (h : RdOK w b g N cap l r) (q : Nat) : RdOK (w.drewN q) b g N cap l r := ⟨h.blk, h.toks, h.ne, h.lt⟩

set_option maxRecDepth 100000 in
set_option maxHeartbeats 400000 in
theorem fail_dead (w : World) (b g N cap : Nat) (l : List UInt8) (r : RS) (er : Int) (h : RdOK w b g N cap l r) (he : r.e ≠ 0) :
    Calls Tryz.prog 84 #[.pointer (some ⟨b, 0, none⟩), .int .i64 er] w fun e w' => e = .returned (.tuple #[]) ∧ w' = w := by
  have c2 := h.c2
  have hz1 : ((r.e : Int) != 0) = true := by simp; omega
  go_enter Tryz.func84, Tryz.ntmps84
  go_wp2_with fail
  go_returns
  exact ⟨rfl, rfl⟩

set_option maxRecDepth 100000 in
set_option maxHeartbeats 400000 in
theorem fail_live (w : World) (b g N cap : Nat) (l : List UInt8) (r : RS) (er : Nat) (h : RdOK w b g N cap l r) (he : r.e = 0) (hlen : l.length ≤ 8192) :
    Calls Tryz.prog 84 #[.pointer (some ⟨b, 0, none⟩), .int .i64 er] w fun e w' => e = .returned (.tuple #[]) ∧ RdOK w' b g N cap l (failR l r er) ∧ w.grownBy w' (some b) := by
  have c0 := h.c0
  have c1 := h.c1
  have c2 := h.c2
  have f2 := h.fz 2
  have f3 := h.fz 3
  have f4 := h.fz 4
  have t0 := h.t0
  have t1 := h.t1
  have t2 := h.t2
  have t3 := h.t3
  have hl : (r.at' : Int) < (N : Int) := by have := h.lt; omega
  have h0 : (0 : Int) ≤ (r.at' : Int) := by omega
  have hx : (tk l r.at').text.length ≤ 8192 := Nat.le_trans (tk_len _ _) hlen
  have HK : Hid (lk l r.at' = looksF (tk l r.at').sort (tk l r.at').text) := rfl
  have hz1 : ((r.e : Int) != 0) = false := by simp; omega
  have HF : Hid (failR l r er = ⟨r.at', if lk l r.at' ≠ 0 then lk l r.at' else er, (tk l r.at').line, (tk l r.at').col⟩) := by unfold failR; rw [if_neg (by simp [he])]; exact rfl
  have hgb : g ≠ b := h.ne
  go_enter Tryz.func84, Tryz.ntmps84
  go_wp2_with fail
  go_region_held3 (fun w' => w'.cell? ⟨b, 0, none⟩ = some (.slice (some ⟨g, 0, none⟩) N cap) ∧ w'.cell? ⟨b, 1, none⟩ = some (.int .i64 r.at') ∧ w'.cell? ⟨g, r.at' * 4, none⟩ = some (.int .i64 (tk l r.at').sort) ∧ w'.cell? ⟨g, r.at' * 4 + 1, none⟩ = some (.string ⟨(tk l r.at').text.toArray⟩) ∧ w'.cell? ⟨g, r.at' * 4 + 2, none⟩ = some (.int .i64 (tk l r.at').line) ∧ w'.cell? ⟨g, r.at' * 4 + 3, none⟩ = some (.int .i64 (tk l r.at').col)) (first | go_keep | exact ⟨hr2.c0, hr2.c1, hr2.t0, hr2.t1, hr2.t2, hr2.t3⟩) ((first
    | (go_at_call 135; refine (looks_tok (tk l r.at') _ _ _ hx).mono ?_; rintro e w2 ⟨rfl, hb2⟩; have hr2 : RdOK w2 b g N cap l r := h.kept (grown_below (below_drew hb2) none) (by simp) (by simp))))
  clear c0 c1 c2 t0 t1 t2 t3 f2 f3 f4
  have hg2 : w.grownBy w2 (some b) := grown_below (below_drew hb2) _
  have c0 := hr2.c0
  have c1 := hr2.c1
  have c2 := hr2.c2
  have f2 := hr2.fz 2
  have f3 := hr2.fz 3
  have f4 := hr2.fz 4
  have t0 := hr2.t0
  have t2 := hr2.t2
  have t3 := hr2.t3
  rw [← HK.out]
  have hfin : ∀ (W : World) (ev : Nat), RdOK W b g N cap l ⟨r.at', ev, r.ln, r.cl⟩ → w.grownBy W (some b) → ev = (if lk l r.at' ≠ 0 then lk l r.at' else er) → RdOK (((W.setCell ⟨b, 3, none⟩ (.int .i64 (tk l r.at').line)).setCell ⟨b, 4, none⟩ (.int .i64 (tk l r.at').col)).drew) b g N cap l (failR l r er) ∧ w.grownBy (((W.setCell ⟨b, 3, none⟩ (.int .i64 (tk l r.at').line)).setCell ⟨b, 4, none⟩ (.int .i64 (tk l r.at').col)).drew) (some b) := by
    intro W ev hW hg he
    subst he
    rw [HF.out]
    exact ⟨((hW.setLn _).setCl _).drewN 1, grown_trans (grown_trans (grown_trans hg (grown_set _ _ _ _)) (grown_set _ _ _ _)) (grown_drewN _ 1 _)⟩
  have HFIN : Hid _ := hfin
  clear hfin
  by_cases hz : lk l r.at' = 0
  · rw [hz]
    go_wp2_with fail
    have hr3 := hr2.setE er
    have hg3 := grown_trans hg2 (grown_set w2 b 2 (.int .i64 er))
    generalize w2.setCell ⟨b, 2, none⟩ (.int .i64 er) = W at *
    clear c0 c1 c2 t0 t2 t3 f2 f3 f4 hr2 hg2 hb2 h
    have c0 := hr3.c0
    have c1 := hr3.c1
    have c3 := hr3.c3
    have c4 := hr3.c4
    have f3 := hr3.fz 3
    have f4 := hr3.fz 4
    have t2 := hr3.t2
    have t3 := hr3.t3
    simp only [] at c1 t2 t3
    go_region
    go_returns
    exact ⟨rfl, HFIN.out W _ hr3 hg3 (by simp [hz])⟩
  · have hz2 : ((lk l r.at' : Int) != 0) = true := by simp; omega
    go_wp2_with fail
    have hr3 := hr2.setE (lk l r.at')
    have hg3 := grown_trans hg2 (grown_set w2 b 2 (.int .i64 (lk l r.at')))
    generalize w2.setCell ⟨b, 2, none⟩ (.int .i64 (lk l r.at')) = W at *
    clear c0 c1 c2 t0 t2 t3 f2 f3 f4 hr2 hg2 hb2 h
    have c0 := hr3.c0
    have c1 := hr3.c1
    have c3 := hr3.c3
    have c4 := hr3.c4
    have f3 := hr3.fz 3
    have f4 := hr3.fz 4
    have t2 := hr3.t2
    have t3 := hr3.t3
    simp only [] at c1 t2 t3
    go_region
    go_returns
    exact ⟨rfl, HFIN.out W _ hr3 hg3 (by simp [hz])⟩

theorem fail_any (w : World) (b g N cap : Nat) (l : List UInt8) (r : RS) (er : Nat) (h : RdOK w b g N cap l r) (hlen : l.length ≤ 8192) :
    Calls Tryz.prog 84 #[.pointer (some ⟨b, 0, none⟩), .int .i64 er] w fun e w' => e = .returned (.tuple #[]) ∧ RdOK w' b g N cap l (failR l r er) ∧ w.grownBy w' (some b) := by
  by_cases he : r.e = 0
  · exact fail_live w b g N cap l r er h he hlen
  · refine (fail_dead w b g N cap l r er h he).mono ?_
    rintro e w' ⟨rfl, rfl⟩
    refine ⟨rfl, ?_, grown_refl _ _⟩
    unfold failR; rw [if_pos he]; exact h
end Go.Proofs.YteioennfpkoagaaGreatDoor
