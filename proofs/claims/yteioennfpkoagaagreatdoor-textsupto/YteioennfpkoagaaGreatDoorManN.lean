import Derived.Test.YteioennfpkoagaaGreatDoorManM
namespace Go.Proofs.YteioennfpkoagaaGreatDoor
open Go.RowKit
attribute [local go_sem ↓] Go.wp_at_zero Go.wp_at_succ

theorem PartT.below {w w' : World} {v : Value} {names : List (List UInt8)} (h : PartT w v names) (hb : Below w.heap.size w w') : PartT w' v names := by
  rcases h with h | ⟨pb, c, h1, h2⟩
  · exact .inl h
  · exact .inr ⟨pb, c, h1, h2.below hb⟩
set_option maxRecDepth 100000 in
set_option maxHeartbeats 1000000 in
theorem index_nil (w : World) (f : Value) :
    Calls Tryz.prog 175 #[.slice none 0 0, f] w fun e w' => e = .returned (.int .i64 (-1)) ∧ w' = w := by
  go_enter Tryz.func175, Tryz.ntmps175
  go_wp2_with fail
  go_rounds 1
  go_ret
  exact ⟨rfl, rfl⟩
theorem index_any (w : World) (pb bx : Nat) (v : Value) (tt : List UInt8) (names : List (List UInt8)) (hst : PartT w v names) (hm : names.length ≤ 10000) (hbx : w.cell? ⟨bx, 0, none⟩ = some (.pointer (some ⟨pb, 0, none⟩))) (c2 : w.cell? ⟨pb, 2, none⟩ = some (.string (ba tt))) :
    Calls Tryz.prog 175 #[v, .func (Fn.func 242) #[] #[.pointer (some ⟨bx, 0, none⟩)]] w fun e w' => e = .returned (.int .i64 (idxF tt 0 names)) ∧ Below w.heap.size w w' := by
  rcases hst with ⟨rfl, rfl⟩ | ⟨sb, c, rfl, hp⟩
  · refine (index_nil w _).mono ?_
    rintro e w' ⟨rfl, rfl⟩
    exact ⟨rfl, Below.refl _ _⟩
  · exact index_live w pb bx sb c tt names hp hm hbx c2

def PlcR (l : List UInt8) (names : List (List UInt8)) (st : St) (v : Nat) : Prop := ∀ k, st = .inl k → v = (plcP l names st).1
set_option maxRecDepth 100000 in
set_option maxHeartbeats 1000000 in
theorem pplace_any (w : World) (pb c B : Nat) (ew en eu es ex : Addr) (l : List UInt8) (st : St) (pv : Value) (names : List (List UInt8)) (h : PR w pb c B ew en eu es ex l st pv) (hst : PartT w pv names) (hm : names.length ≤ 10000) :
    Calls Tryz.prog 205 #[.pointer (some ⟨pb, 0, none⟩)] w fun e w' => ∃ v : Nat, e = .returned (.int .i64 v) ∧ PlcR l names st v ∧ PR w' pb c B ew en eu es ex l (plcP l names st).2 pv ∧ KP pb c w w' := by
  have HNO : Hid (noOf ew en eu es = 1) := by
    have := h.gl.ne
    show noOf ew en eu es = 1
    unfold noOf
    rw [if_neg (fun e => this.2.2.1 e.symm), if_neg (fun e => this.2.2.2.2.1 e.symm), if_neg (fun e => this.2.2.2.2.2 e.symm)]
  have HNU : Hid (noOf ew en eu eu = 4) := by
    have := h.gl.ne
    show noOf ew en eu eu = 4
    unfold noOf
    rw [if_neg (fun e => this.2.1 e.symm), if_neg (fun e => this.2.2.2.1 e.symm), if_pos rfl]
  obtain ⟨s1, s2, s3, rfl⟩ := h.shape
  have hsh : ∃ k tt v a b ev, w.heap[pb]? = some (.cells (prCells c k (ba tt) v a b ev (.slice s1 s2 s3)) 177 (0, 0)) ∧ (∀ j, st = .inl j → k = kindT (tk l j) ∧ tt = (tk l j).text) := by
    have ha := h.at'
    rcases st with j | ⟨er, ln, cl⟩
    · exact ⟨_, _, _, _, _, _, ha.2.2, fun j' hj => by cases hj; exact ⟨rfl, rfl⟩⟩
    · obtain ⟨k, tt, v, a, b, mb, eb, h1, _⟩ := ha
      exact ⟨k, tt.data.toList, v, a, b, _, by rw [← ba_eq rfl]; exact h1, fun j' hj => by cases hj⟩
  obtain ⟨kk, tt, v0, a0, b0, ev, hblk, hlive⟩ := hsh
  have HL : Hid _ := hlive
  clear hlive
  have hpb := lt_of_blk hblk
  have c1 : w.cell? ⟨pb, 1, none⟩ = some (.int .i64 kk) := by rw [cell_of_blk hblk]; rfl
  have c7 : w.cell? ⟨pb, 7, none⟩ = some (.slice s1 s2 s3) := by rw [cell_of_blk hblk]; rfl
  have c2 : w.cell? ⟨pb, 2, none⟩ = some (.string (ba tt)) := by rw [cell_of_blk hblk]; rfl
  clear hblk
  have hb0 : Below w.heap.size w (w.alloc (.cells #[.pointer (some ⟨pb, 0, none⟩)] 170)) := (Below.refl _ w).alloc (Nat.le_refl _) _
  have h0 := h.aside hb0
  have hst0 := hst.below hb0
  have hk0 : KP pb c w _ := KP.below hb0
  have e1 := (hb0.cell (p := ⟨pb, 1, none⟩) hpb).trans c1
  have e2 := (hb0.cell (p := ⟨pb, 2, none⟩) hpb).trans c2
  have e7 := (hb0.cell (p := ⟨pb, 7, none⟩) hpb).trans c7
  have eb : (w.alloc (.cells #[.pointer (some ⟨pb, 0, none⟩)] 170)).cell? ⟨w.heap.size, 0, none⟩ = some (.pointer (some ⟨pb, 0, none⟩)) := by rw [cell_of_blk (heap_new _ _)]; rfl
  have hbx : w.heap.size < (w.alloc (.cells #[.pointer (some ⟨pb, 0, none⟩)] 170)).heap.size := by simp
  have hbp : w.heap.size ≠ pb ∧ w.heap.size ≠ c ∧ w.heap.size ≠ c + 1 := by have := h.ord; omega
  clear hb0 c1 c2 c7 hst
  go_enter Tryz.func205, Tryz.ntmps205
  by_cases hk1 : kk = 1
  · subst hk1
    go_wp2_with fail
    generalize w.alloc (.cells #[.pointer (some ⟨pb, 0, none⟩)] 170) = W0 at *
    refine (index_any W0 pb w.heap.size _ tt names hst0 hm eb e2).mono ?_
    rintro e W1 ⟨rfl, hb1⟩
    have h1 := h0.aside hb1
    have hk1 : KP pb c w W1 := hk0.trans (KP.below hb1)
    have eb1 : W1.cell? ⟨w.heap.size, 0, none⟩ = some (.pointer (some ⟨pb, 0, none⟩)) := (hb1.cell (by exact hbx)).trans eb
    have cU := h1.gl.cU
    unfold errV at cU
    clear h0 hk0 hb1 e1 e2 e7 eb
    generalize hix : idxF tt 0 names = ix at *
    have HIX : Hid _ := hix
    clear hix
    by_cases hneg : ix < 0
    · have hd : decide (ix < 0) = true := by simp [hneg]
      go_wp2_with fail
      refine (refuse_any W1 pb c B ew en eu es ex l st _ eu 4 h1 (by simp) HNU.out).mono ?_
      rintro e W2 ⟨rfl, h2, hk2⟩
      go_wp2_with fail
      go_ret
      have hq : ∀ j, st = .inl j → plcP l names st = (0, badP l j 4) := by
        intro j hj
        obtain ⟨g1, g2⟩ := HL.out j hj
        subst hj
        simp only [plcP]
        rw [if_pos (by omega), plcGo_idx, ← g2, HIX.out, if_pos hneg]
      refine ⟨0, rfl, fun j hj => by rw [hq j hj], ?_, hk1.trans hk2⟩
      rcases st with j | x
      · rw [hq j rfl]; exact h2
      · exact h2
    · have hd : decide (ix < 0) = false := by simp [hneg]
      go_wp2_with fail
      refine (advance_any W1 pb c B ew en eu es ex l st _ h1).mono ?_
      rintro e W2 ⟨rfl, h2, hk2⟩
      go_wp2_with fail
      go_ret
      have hq : ∀ j, st = .inl j → plcP l names st = (ix.toNat, normP l (j + 1)) := by
        intro j hj
        obtain ⟨g1, g2⟩ := HL.out j hj
        subst hj
        simp only [plcP]
        rw [if_pos (by omega), plcGo_idx, ← g2, HIX.out, if_neg (by omega)]
      refine ⟨ix.toNat, ret_int (by omega), fun j hj => by rw [hq j hj], ?_, hk1.trans hk2⟩
      rcases st with j | x
      · rw [hq j rfl]; exact h2
      · exact h2
  · have hz : ((kk : Int) != 1) = true := by simp; omega
    have cS := h0.gl.cS
    unfold errV at cS
    go_wp2_with fail
    generalize w.alloc (.cells #[.pointer (some ⟨pb, 0, none⟩)] 170) = W0 at *
    refine (refuse_any W0 pb c B ew en eu es ex l st _ es 1 h0 (by simp) HNO.out).mono ?_
    rintro e W2 ⟨rfl, h2, hk2⟩
    go_wp2_with fail
    go_ret
    have hq : ∀ j, st = .inl j → plcP l names st = (0, badP l j 1) := by
      intro j hj
      obtain ⟨g1, g2⟩ := HL.out j hj
      subst hj
      simp only [plcP]
      rw [if_neg (by omega)]
    refine ⟨0, rfl, fun j hj => by rw [hq j hj], ?_, hk0.trans hk2⟩
    rcases st with j | x
    · rw [hq j rfl]; exact h2
    · exact h2
end Go.Proofs.YteioennfpkoagaaGreatDoor
