import Derived.Test.YteioennfpkoagaaPlnD
import Derived.Handy
namespace Go.Proofs.Yteioennfpkoagaa.C
open Go.RowKit
attribute [local go_sem ↓] Go.wp_at_zero Go.wp_at_succ

set_option maxRecDepth 100000 in
set_option maxHeartbeats 1000000 in
theorem sameInts_true (w : World) (B B' : Nat) (u v : Value) (l : List Int) (hm : l.length ≤ 100000) (hu : w.ownsRow B 3 1 u l.length (intsC l)) (hv : w.ownsRow B' 3 1 v l.length (intsC l)) :
    Calls Try.prog 12 #[u, v] w fun e w' => e = .returned (.bool true) ∧ Below w.heap.size w w' := by
  have HU : Hid _ := hu
  have HV : Hid _ := hv
  obtain ⟨ua, uc, rfl⟩ := own_shape hu
  obtain ⟨va, vc, rfl⟩ := own_shape hv
  clear hu hv
  go_enter Try.func12, Try.ntmps12
  go_wp2_with fail
  go_loopw [5] (fun i wr => ∃ (k : Nat), i = .int .i64 k ∧ k ≤ l.length ∧ Below w.heap.size w wr) (fun i _ => l.length - (intOf i).toNat)
  case atStart => exact ⟨0, rfl, by omega, Below.refl _ _⟩
  case round =>
    obtain ⟨k, rfl, hk, hbel⟩ := hrel
    by_cases hlt : k < l.length
    · have hlt' : (k : Int) < (l.length : Int) := by omega
      have hk0 : (0 : Int) ≤ (k : Int) := by omega
      rcases own_nil_or HU.out with ⟨h0, _⟩ | ⟨g, cap, e1⟩
      · omega
      cases e1
      rcases own_nil_or HV.out with ⟨h0, _⟩ | ⟨g', cap', e1⟩
      · omega
      cases e1
      have c0 := own_cells HU.out k (by omega)
      have c1 := own_cells HV.out k (by omega)
      rw [intsC_at l k hlt] at c0 c1
      have d0 := (hbel.cell (by exact World.block_lt_of_cell? w _ c0)).trans c0
      have d1 := (hbel.cell (by exact World.block_lt_of_cell? w _ c1)).trans c1
      clear c0 c1
      generalize l.getD k 0 = y at *
      go_wp2_with fail
      go_quiet (fail)
      go_wp2_with fail
      go_roundw
      case rel => exact ⟨k + 1, by go_num, by omega, below_drewN hbel _⟩
      case measure => simp [intOf]; omega
    · have hlt' : ¬ (k : Int) < (l.length : Int) := by omega
      go_wp2_with fail
      go_ret
      exact ⟨rfl, hbel⟩

set_option maxRecDepth 100000 in
set_option maxHeartbeats 2000000 in
theorem wholeT_true (w : World) (B bb : Nat) (tv : Value) (T : List Value) (hb : BookT w B bb tv T) (hTl : T.length ≤ 900000000000) :
    Calls Try.prog 7 #[.pointer (some ⟨bb, 0, none⟩)] w fun e w' => e = .returned (.bool true) ∧ Below w.heap.size w w' := by
  have HB : Hid _ := hb
  obtain ⟨ra, rc, rfl⟩ := own_shape hb.rT
  have c0 : w.cell? ⟨bb, 0, none⟩ = some (.slice none 0 0) := by rw [cell_of_blk hb.blk]; rfl
  have c1 : w.cell? ⟨bb, 1, none⟩ = some (.slice none 0 0) := by rw [cell_of_blk hb.blk]; rfl
  have c2 : w.cell? ⟨bb, 2, none⟩ = some (.slice none 0 0) := by rw [cell_of_blk hb.blk]; rfl
  have c3 : w.cell? ⟨bb, 3, none⟩ = some (.slice ra T.length rc) := by rw [cell_of_blk hb.blk]; rfl
  have C3 : Hid _ := c3
  clear hb
  go_enter Try.func7, Try.ntmps7
  go_wp2_with fail
  go_rounds 1
  go_wp2_with fail
  go_rounds 1
  go_wp2_with fail
  go_rounds 1
  go_wp2_with fail
  clear c0 c1 c2 c3
  go_loopw [10] (fun i wr => ∃ (k : Nat), i = .int .i64 k ∧ k ≤ T.length ∧ Below w.heap.size w wr) (fun i _ => T.length - (intOf i).toNat)
  case atStart => exact ⟨0, rfl, by omega, Below.refl _ _⟩
  case round =>
    obtain ⟨k, rfl, hk, hbel⟩ := hrel
    have m3 := (hbel.cell (by exact World.block_lt_of_cell? w _ C3.out)).trans C3.out
    by_cases hlt : k < T.length
    · have hlt' : (k : Int) < (T.length : Int) := by omega
      have hk0 : (0 : Int) ≤ (k : Int) := by omega
      obtain ⟨n, hn, ho⟩ := HB.out.kT k hlt
      rcases own_nil_or HB.out.rT with ⟨h0, _⟩ | ⟨g, cap, e1⟩
      · omega
      cases e1
      have ct := own_cells HB.out.rT k (by omega)
      rw [List.getElem?_eq_getElem hlt] at ct
      have CT : Hid _ := ct
      clear ct
      generalize T[k] = u at *
      have HO : Hid _ := ho
      obtain ⟨ua, uc, rfl⟩ := own_shape ho
      clear ho
      have hq4 := quo4 k
      have hbt : ∀ w0 : World, Calls Try.prog 18 #[.int .i64 ((k : Int) / 4)] w0 fun e w' => e = .returned (.int .i64 (-1000 - ((k / 4 : Nat) : Int))) ∧ w' = w0 := fun w0 => by rw [hq4]; exact badTick_any (k / 4) w0 (by omega)
      have HBT : Hid _ := hbt
      clear hbt hq4
      have ct := (hbel.cell (by exact World.block_lt_of_cell? w _ CT.out)).trans CT.out
      go_wp2_with fail
      clear ct m3
      generalize wr = wz at *
      go_loopw [11] (fun j wx => ∃ (q : Nat), j = .int .i64 q ∧ q ≤ n ∧ Below w.heap.size w wx) (fun j _ => n - (intOf j).toNat)
      case atStart => exact ⟨0, rfl, by omega, hbel⟩
      case round =>
        obtain ⟨q, rfl, hq, hbx⟩ := hrel
        have m3 := (hbx.cell (by exact World.block_lt_of_cell? w _ C3.out)).trans C3.out
        have ct := (hbx.cell (by exact World.block_lt_of_cell? w _ CT.out)).trans CT.out
        by_cases hql : q < n
        · have hql' : (q : Int) < (n : Int) := by omega
          have hq0 : (0 : Int) ≤ (q : Int) := by omega
          rcases own_nil_or HO.out with ⟨h0, _⟩ | ⟨g', cap', e1⟩
          · omega
          cases e1
          have cu := own_cells HO.out q (by omega)
          rw [show rep (badT (k / 4)) n = List.replicate n (.int .i64 (-1000 - ((k / 4 : Nat) : Int))) from rep1 _ _, List.getElem?_replicate, if_pos hql] at cu
          have du := (hbx.cell (by exact World.block_lt_of_cell? w _ cu)).trans cu
          clear cu
          go_wp2_with fail
          go_quiet (first | (go_at_call 18; exact Calls.quiet_of_same (HBT.out _)))
          go_wp2_with fail
          go_roundw
          case rel => exact ⟨q + 1, by go_num, by omega, below_drewN hbx _⟩
          case measure => simp [intOf]; omega
        · have hql' : ¬ (q : Int) < (n : Int) := by omega
          go_wp2_with fail
          go_roundw
          case rel => exact ⟨k + 1, by go_num, by omega, hbx⟩
          case measure => simp [intOf]; omega
    · have hlt' : ¬ (k : Int) < (T.length : Int) := by omega
      go_wp2_with fail
      go_ret
      exact ⟨rfl, hbel⟩
end Go.Proofs.Yteioennfpkoagaa.C
