import Derived.Test.YteioennfpkoagaaGreatDoorManL
namespace Go.Proofs.YteioennfpkoagaaGreatDoor
open Go.RowKit
attribute [local go_sem ↓] Go.wp_at_zero Go.wp_at_succ

/- Partitions lie in block sb: five cells each. -/
def PartF (w : World) (sb : Nat) (names : List (List UInt8)) : Prop :=
  ∃ cur t fr, w.heap[sb]? = some (.cells cur t fr) ∧ ∀ j (hj : j < names.length), cur[j * 5]? = some (.string ⟨names[j].toArray⟩) ∧ ∃ a b c x y z, cur[j * 5 + 1]? = some (.int .i64 a) ∧ cur[j * 5 + 2]? = some (.int .i64 b) ∧ cur[j * 5 + 3]? = some (.int .i64 c) ∧ cur[j * 5 + 4]? = some (.slice x y z)
theorem PartF.at {w : World} {sb : Nat} {names : List (List UInt8)} (h : PartF w sb names) (j : Nat) (hj : j < names.length) : w.cell? ⟨sb, j * 5, none⟩ = some (.string ⟨names[j].toArray⟩) ∧ ∃ a b c x y z, w.cell? ⟨sb, j * 5 + 1, none⟩ = some (.int .i64 a) ∧ w.cell? ⟨sb, j * 5 + 2, none⟩ = some (.int .i64 b) ∧ w.cell? ⟨sb, j * 5 + 3, none⟩ = some (.int .i64 c) ∧ w.cell? ⟨sb, j * 5 + 4, none⟩ = some (.slice x y z) := by
  obtain ⟨cur, t, fr, h1, h2⟩ := h
  obtain ⟨h3, a, b, c, x, y, z, h4, h5, h6, h7⟩ := h2 j hj
  exact ⟨by rw [cell_of_blk h1]; exact h3, a, b, c, x, y, z, by rw [cell_of_blk h1]; exact h4, by rw [cell_of_blk h1]; exact h5, by rw [cell_of_blk h1]; exact h6, by rw [cell_of_blk h1]; exact h7⟩
theorem PartF.below {w w' : World} {sb : Nat} {names : List (List UInt8)} (h : PartF w sb names) (hb : Below w.heap.size w w') : PartF w' sb names := by
  obtain ⟨cur, t, fr, h1, h2⟩ := h
  exact ⟨cur, t, fr, by rw [hb.block _ (lt_of_blk h1)]; exact h1, h2⟩
def PartT (w : World) (v : Value) (names : List (List UInt8)) : Prop :=
  (v = .slice none 0 0 ∧ names = []) ∨ ∃ pb c, v = .slice (some ⟨pb, 0, none⟩) names.length c ∧ PartF w pb names
/- the first place of a name, or -1 -/
def idxF (tt : List UInt8) (i : Nat) : List (List UInt8) → Int
  | [] => -1
  | nm :: t => if nm = tt then i else idxF tt (i + 1) t
theorem idx_step (tt : List UInt8) (kws : List (List UInt8)) (k : Nat) (hk : k < kws.length) : idxF tt k (kws.drop k) = if kws[k] = tt then (k : Int) else idxF tt (k + 1) (kws.drop (k + 1)) := by
  rw [List.drop_eq_getElem_cons hk]; rfl
theorem idx_ge (tt : List UInt8) (i : Nat) (kws : List (List UInt8)) : idxF tt i kws = -1 ∨ ((i : Int) ≤ idxF tt i kws ∧ idxF tt i kws < i + kws.length) := by
  induction kws generalizing i with
  | nil => exact .inl rfl
  | cons a t ih =>
    simp only [idxF]; split
    · right; simp; omega
    · rcases ih (i + 1) with h | h
      · exact .inl h
      · right; simp; omega
theorem plcGo_idx (l : List UInt8) (k i : Nat) (kws : List (List UInt8)) : plcGo l k i kws = if idxF (tk l k).text i kws < 0 then (0, badP l k 4) else ((idxF (tk l k).text i kws).toNat, normP l (k + 1)) := by
  induction kws generalizing i with
  | nil => rfl
  | cons a t ih =>
    by_cases h : a = (tk l k).text
    · have e1 : idxF (tk l k).text i (a :: t) = (i : Int) := by simp only [idxF]; rw [if_pos h]
      have e2 : plcGo l k i (a :: t) = (i, normP l (k + 1)) := by simp only [plcGo]; rw [if_pos h]
      rw [e1, e2, if_neg (by omega)]; simp
    · have e1 : idxF (tk l k).text i (a :: t) = idxF (tk l k).text (i + 1) t := by simp only [idxF]; rw [if_neg h]
      have e2 : plcGo l k i (a :: t) = plcGo l k (i + 1) t := by simp only [plcGo]; rw [if_neg h]
      rw [e1, e2, ih]

set_option maxRecDepth 100000 in
set_option maxHeartbeats 1000000 in
theorem clo_any (w : World) (pb bx : Nat) (tt nm : List UInt8) (a b d : Int) (x : Option Addr) (y z : Nat) (hbx : w.cell? ⟨bx, 0, none⟩ = some (.pointer (some ⟨pb, 0, none⟩))) (c2 : w.cell? ⟨pb, 2, none⟩ = some (.string (ba tt))) :
    Calls Tryz.prog 242 #[.agg #[.string ⟨nm.toArray⟩, .int .i64 a, .int .i64 b, .int .i64 d, .slice x y z], .pointer (some ⟨bx, 0, none⟩)] w fun e w' => e = .returned (.bool (decide (nm = tt))) ∧ Below w.heap.size w w' := by
  have hb : decide (nm = tt) = (nm == tt) := by rw [Bool.eq_iff_iff]; simp
  have h1 := World.block_lt_of_cell? w _ hbx
  have h2 := World.block_lt_of_cell? w _ c2
  simp only [] at h1 h2
  rw [hb]
  clear hb
  unfold ba at c2
  go_enter Tryz.func242, Tryz.ntmps242
  go_wp2_with fail
  go_quiet (fail)
  go_wp2_with fail
  go_ret
  exact ⟨rfl, (((Below.refl _ w).alloc (Nat.le_refl _) _).trans ⟨rfl, rfl, rfl, Nat.le_refl _, fun _ _ => rfl⟩)⟩

set_option maxRecDepth 100000 in
set_option maxHeartbeats 1000000 in
theorem index_live (w : World) (pb bx sb c : Nat) (tt : List UInt8) (names : List (List UInt8)) (hst : PartF w sb names) (hm : names.length ≤ 10000) (hbx : w.cell? ⟨bx, 0, none⟩ = some (.pointer (some ⟨pb, 0, none⟩))) (c2 : w.cell? ⟨pb, 2, none⟩ = some (.string (ba tt))) :
    Calls Tryz.prog 175 #[.slice (some ⟨sb, 0, none⟩) names.length c, .func (Fn.func 242) #[] #[.pointer (some ⟨bx, 0, none⟩)]] w fun e w' => e = .returned (.int .i64 (idxF tt 0 names)) ∧ Below w.heap.size w w' := by
  generalize hfin : idxF tt 0 names = fin
  have HF : Hid (fin = idxF tt 0 (names.drop 0)) := hfin.symm
  clear hfin
  have l1 := World.block_lt_of_cell? w _ hbx
  have l2 := World.block_lt_of_cell? w _ c2
  simp only [] at l1 l2
  go_enter Tryz.func175, Tryz.ntmps175
  go_wp2_with fail
  go_loopw [8] (fun i wr => ∃ (k : Nat), i = .int .i64 k ∧ k ≤ names.length ∧ Hid (fin = idxF tt k (names.drop k)) ∧ Below w.heap.size w wr) (fun i _ => names.length - (intOf i).toNat)
  case atStart => exact ⟨0, rfl, by omega, HF, Below.refl _ _⟩
  case round =>
    obtain ⟨k, rfl, hk, HK, hbel⟩ := hrel
    clear HF
    by_cases hlt : k < names.length
    · have hcells := (hst.below hbel).at k hlt
      obtain ⟨d0, x1, x2, x3, x4, x5, x6, d1, d2, d3, d4⟩ := hcells
      have hlt' : (k : Int) < (names.length : Int) := by omega
      have hk0 : (0 : Int) ≤ (k : Int) := by omega
      have HSS : Hid _ := idx_step tt names k hlt
      generalize names[k] = nm at *
      have hclo := clo_any wr pb bx tt nm x1 x2 x3 x4 x5 x6 (by rw [hbel.cell (by exact l1)]; exact hbx) (by rw [hbel.cell (by exact l2)]; exact c2)
      go_wp2_with fail
      refine hclo.mono ?_
      rintro e w2 ⟨rfl, hb2⟩
      by_cases hh : nm = tt
      · have HX : Hid (fin = (k : Int)) := HK.out.trans (HSS.out.trans (if_pos hh))
        have hd : decide (nm = tt) = true := by simp [hh]
        rw [hd]
        clear hd hh
        go_wp2_with fail
        go_ret
        exact ⟨by rw [HX.out]; rfl, hbel.trans (hb2.mono hbel.size)⟩
      · have HX : Hid (fin = idxF tt (k + 1) (names.drop (k + 1))) := HK.out.trans (HSS.out.trans (if_neg hh))
        have hd : decide (nm = tt) = false := by simp [hh]
        rw [hd]
        clear hd hh
        go_wp2_with fail
        go_roundw
        case rel => exact ⟨k + 1, by go_num, by omega, HX, hbel.trans (hb2.mono hbel.size)⟩
        case measure => simp [intOf]; omega
    · have HX : Hid (fin = -1) := by have := HK.out; rw [List.drop_eq_nil_of_le (by omega)] at this; exact this
      go_wp2_with fail
      go_ret
      exact ⟨by rw [HX.out]; rfl, hbel⟩
end Go.Proofs.YteioennfpkoagaaGreatDoor
