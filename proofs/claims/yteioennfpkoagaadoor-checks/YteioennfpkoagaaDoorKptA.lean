import Derived.Test.YteioennfpkoagaaDoorChkV
namespace Go.Proofs.YteioennfpkoagaaDoor.C
open Go.RowKit
attribute [local go_sem ↓] Go.wp_at_zero Go.wp_at_succ

set_option maxRecDepth 100000 in
set_option maxHeartbeats 1000000 in
theorem sameRegions_any (rs : List RegD) (a b : Value) (w : World) (ha : RegsV w a rs) (hb : RegsV w b rs) (hl : rs.length ≤ 4611686018427387903) :
    Calls Tryd.prog 39 #[a, b] w fun e w' => e = .returned (.bool true) ∧ Below w.heap.size w w' := by
  obtain ⟨va, ca, rfl, hca⟩ := ha
  obtain ⟨vb, cb, rfl, hcb⟩ := hb
  have HA : Hid _ := hca
  have HB : Hid _ := hcb
  clear hca hcb
  go_enter Tryd.func39, Tryd.ntmps39
  go_wp2_with fail
  go_loopw [5] (fun i wr => ∃ (k : Nat), i = .int .i64 k ∧ k ≤ rs.length ∧ Below w.heap.size w wr) (fun i _ => rs.length - (intOf i).toNat)
  case atStart => exact ⟨0, rfl, by omega, Below.refl _ _⟩
  case round =>
    obtain ⟨k, rfl, hk, hbel⟩ := hrel
    by_cases hlt : k < rs.length
    · have hlt' : (k : Int) < (rs.length : Int) := by omega
      have hk0 : (0 : Int) ≤ (k : Int) := by omega
      obtain ⟨ab, ao, rfl, c0, c1, c2⟩ := HA.out k hlt
      obtain ⟨bb, bo, rfl, e0, e1, e2⟩ := HB.out k hlt
      have hbl := World.block_lt_of_cell? w _ c0
      have hbl2 := World.block_lt_of_cell? w _ e0
      have d0 := (hbel.cell (by exact hbl)).trans c0
      have d1 := (hbel.cell (by exact hbl)).trans c1
      have d2 := (hbel.cell (by exact hbl)).trans c2
      have f0 := (hbel.cell (by exact hbl2)).trans e0
      have f1 := (hbel.cell (by exact hbl2)).trans e1
      have f2 := (hbel.cell (by exact hbl2)).trans e2
      clear c0 c1 c2 e0 e1 e2
      generalize rs[k] = r at *
      go_wp2_with fail
      go_quiet (fail)
      go_wp2_with fail
      go_roundw
      case rel => exact ⟨k + 1, by go_num, by omega, below_drewN hbel _⟩
      case measure => simp [intOf]; omega
    · have hlt' : ¬ (k : Int) < (rs.length : Int) := by omega
      go_wp2_with fail
      go_ret
      exact ⟨rfl, hbel⟩
set_option maxRecDepth 100000 in
set_option maxHeartbeats 1000000 in
theorem isBad_0 (w : World) :
    Calls Tryd.prog 23 #[.agg #[.string ⟨#[63, 63]⟩, .int .i64 (-1000), .int .i64 0, .int .i64 0, .slice none 0 0], .int .i64 0] w fun e w' => e = .returned (.bool true) ∧ Below w.heap.size w w' := by
  have h : IntKind.i64.wrap (-1000 - 0) = -1000 := by decide
  go_enter Tryd.func23, Tryd.ntmps23
  go_wp2_with fail
  go_ret
  exact ⟨rfl, (Below.refl _ w).alloc (Nat.le_refl _) _⟩
set_option maxRecDepth 100000 in
set_option maxHeartbeats 4000000 in
theorem samePartitions_any (ps : List PartD) (a b : Value) (w : World) (ha : PartsV w a ps) (hb : PartsV w b ps) (hl : ps.length ≤ 4611686018427387903) (hrl : ∀ k (h : k < ps.length), ps[k].regs.length ≤ 4611686018427387903) :
    Calls Tryd.prog 24 #[a, b] w fun e w' => e = .returned (.bool true) ∧ Below w.heap.size w w' := by
  obtain ⟨va, ca, rfl, hca⟩ := ha
  obtain ⟨vb, cb, rfl, hcb⟩ := hb
  have HA : Hid _ := hca
  have HB : Hid _ := hcb
  have HRL : Hid _ := hrl
  clear hca hcb hrl
  go_enter Tryd.func24, Tryd.ntmps24
  go_wp2_with fail
  go_loopw [5] (fun i wr => ∃ (k : Nat), i = .int .i64 k ∧ k ≤ ps.length ∧ Below w.heap.size w wr) (fun i _ => ps.length - (intOf i).toNat)
  case atStart => exact ⟨0, rfl, by omega, Below.refl _ _⟩
  case round =>
    obtain ⟨k, rfl, hk, hbel⟩ := hrel
    by_cases hlt : k < ps.length
    · have hlt' : (k : Int) < (ps.length : Int) := by omega
      have hk0 : (0 : Int) ≤ (k : Int) := by omega
      obtain ⟨ab, ao, ra, rfl, c0, c1, c2, c3, c4, hra⟩ := HA.out k hlt
      obtain ⟨bb, bo, rb, rfl, e0, e1, e2, e3, e4, hrb⟩ := HB.out k hlt
      have hbl := World.block_lt_of_cell? w _ c0
      have hbl2 := World.block_lt_of_cell? w _ e0
      have HRA : Hid _ := hra
      have HRB : Hid _ := hrb
      have hRL := HRL.out k hlt
      obtain ⟨x1, x2, rfl, hx⟩ := hra
      clear hx
      obtain ⟨z1, z2, rfl, hx⟩ := hrb
      clear hx
      generalize ps[k] = x at *
      have HS : ∀ w' : World, Below w.heap.size w w' → (w'.cell? ⟨ab, ao + k * 5 + 4, none⟩ = some (.slice x1 x.regs.length x2) ∧ w'.cell? ⟨bb, bo + k * 5 + 4, none⟩ = some (.slice z1 x.regs.length z2) ∧ Below w.heap.size w w') := fun w' hw => ⟨(hw.cell (by exact hbl)).trans c4, (hw.cell (by exact hbl2)).trans e4, hw⟩
      go_wp2_with fail
      have hB : Below w.heap.size w wr.drew := hbel.drew
      go_region_held3 (fun w' => w'.cell? ⟨ab, ao + k * 5 + 4, none⟩ = some (.slice x1 x.regs.length x2) ∧ w'.cell? ⟨bb, bo + k * 5 + 4, none⟩ = some (.slice z1 x.regs.length z2) ∧ Below w.heap.size w w') (first | exact HS _ hB) ((first
        | (go_at_call 39; refine (sameRegions_any x.regs _ _ _ (RegsV.below HRA.out hB) (RegsV.below HRB.out hB) hRL).mono ?_; rintro e w2 ⟨rfl, hb2⟩; have hB := hB.trans (hb2.mono hB.size))))
      clear HS
      have d0 := (hB.cell (by exact hbl)).trans c0
      have d1 := (hB.cell (by exact hbl)).trans c1
      have d2 := (hB.cell (by exact hbl)).trans c2
      have d3 := (hB.cell (by exact hbl)).trans c3
      have f0 := (hB.cell (by exact hbl2)).trans e0
      have f1 := (hB.cell (by exact hbl2)).trans e1
      have f2 := (hB.cell (by exact hbl2)).trans e2
      have f3 := (hB.cell (by exact hbl2)).trans e3
      clear c0 c1 c2 c3 c4 e0 e1 e2 e3 e4
      go_wp2_with fail
      go_quiet (fail)
      go_wp2_with fail
      go_roundw
      case rel => exact ⟨k + 1, by go_num, by omega, below_drewN hB _⟩
      case measure => simp [intOf]; omega
    · have hlt' : ¬ (k : Int) < (ps.length : Int) := by omega
      go_wp2_with fail
      go_ret
      exact ⟨rfl, hbel⟩
end Go.Proofs.YteioennfpkoagaaDoor.C
