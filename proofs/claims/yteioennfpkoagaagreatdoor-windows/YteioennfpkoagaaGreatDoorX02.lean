import Derived.Test.YteioennfpkoagaaGreatDoorM07
import Derived.Test.YteioennfpkoagaaGreatDoorX01
namespace Go.Proofs.YteioennfpkoagaaGreatDoor.C
open Go.ChangeShapes Go.WideShapes Go.ChangeAt Go.RowKit

section
variable {H : Type} {enc : TypeId × Value → H} {w : World} {base : Nat} {spare : Nat → Bool} {held : Bool}
theorem bStep : Tryz.prog.bytesOf 71 = 48 := by kernel_rfl
theorem bStr : Tryz.prog.bytesOf 9 = 16 := by kernel_rfl
theorem open_stepsF {fuel : Nat} {cs : List Value} {x : DataW H × List MemPlace} (h : DataW.trod enc Tryz.prog w base spare held fuel 65 cs = some x) (hw : (x.1.weights Tryz.prog 65).all (· ≤ reachBytes) = true) :
    ∃ v os, cs = [v] ∧ StepsV w v os := by
  obtain ⟨va, n, cap, rfl, _, hrow⟩ := open_rows Tryz.underlying65 cStep (by omega) h
  have hn := rows_w Tryz.underlying65 h hw
  rw [bStep] at hn
  obtain ⟨rs, hl, hr⟩ := list_of (p := fun i (r : StepD) => StepR r ∧ ∃ b off, va = some ⟨b, off, none⟩ ∧ w.cell? ⟨b, off + i * 5, none⟩ = some (.int .i64 r.kind) ∧ w.cell? ⟨b, off + i * 5 + 1, none⟩ = some (.int .i64 r.p) ∧ w.cell? ⟨b, off + i * 5 + 2, none⟩ = some (.int .i64 r.n) ∧ w.cell? ⟨b, off + i * 5 + 3, none⟩ = some (.int .i64 r.b) ∧ w.cell? ⟨b, off + i * 5 + 4, none⟩ = some (.string r.text)) n (fun i hi => by
    obtain ⟨b, off, row, y, k, e1, e2, e3, e4, _⟩ := hrow i hi
    obtain ⟨r, rfl, hg⟩ := open_step e4
    exact ⟨r, hg, b, off, e1, e3 0 (by omega), e3 1 (by omega), e3 2 (by omega), e3 3 (by omega), e3 4 (by omega)⟩)
  subst hl
  refine ⟨_, rs, rfl, by omega, fun x hx => ?_, va, cap, rfl, fun i hi => (hr i hi).2⟩
  obtain ⟨i, hi, rfl⟩ := List.getElem_of_mem hx
  exact (hr i hi).1
theorem open_strsF {fuel : Nat} {cs : List Value} {x : DataW H × List MemPlace} (h : DataW.trod enc Tryz.prog w base spare held fuel 22 cs = some x) (hw : (x.1.weights Tryz.prog 22).all (· ≤ reachBytes) = true) :
    ∃ v xs, cs = [v] ∧ xs.length ≤ 8796093021952 ∧ StrsV w v xs := by
  obtain ⟨va, n, cap, rfl, _, hrow⟩ := open_rows Tryz.underlying22 cStr (by omega) h
  have hn := rows_w Tryz.underlying22 h hw
  rw [bStr] at hn
  obtain ⟨rs, hl, hr⟩ := list_of (p := fun i (r : ByteArray) => r.size ≤ 9223372036854775807 ∧ ∃ b off, va = some ⟨b, off, none⟩ ∧ w.cell? ⟨b, off + i, none⟩ = some (.string r)) n (fun i hi => by
    obtain ⟨b, off, row, y, k, e1, e2, e3, e4, _⟩ := hrow i hi
    obtain ⟨s, rfl, _, hw⟩ := DataW.trod_string Tryz.underlying9 e4
    have h0 := e3 0 (by omega)
    simp only [Nat.mul_one, Nat.add_zero] at h0
    exact ⟨s, hw, b, off, e1, h0⟩)
  subst hl
  refine ⟨_, rs, rfl, by omega, fun x hx => ?_, va, cap, rfl, fun i hi => (hr i hi).2⟩
  obtain ⟨i, hi, rfl⟩ := List.getElem_of_mem hx
  exact (hr i hi).1
end
end Go.Proofs.YteioennfpkoagaaGreatDoor.C
