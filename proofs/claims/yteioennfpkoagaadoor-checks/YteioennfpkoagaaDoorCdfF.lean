import Derived.Test.YteioennfpkoagaaDoorCdfE
namespace Go.Proofs.YteioennfpkoagaaDoor.C
open Go.RowKit
attribute [local go_sem ↓] Go.wp_at_zero Go.wp_at_succ

theorem many_true {M : ManD} (h : M.parts.length < 1 ∨ 8 < M.parts.length ∨ 8 < M.chans.length) : manyB M = true := by
  unfold manyB
  rcases h with h | h | h <;> simp [h]
theorem many_wide {M : ManD} (h : ¬ (M.parts.length < 1 ∨ 8 < M.parts.length ∨ 8 < M.chans.length)) : manyB M = wideB M.parts := by
  unfold manyB
  have h1 : decide (M.parts.length < 1) = false := by rw [decide_eq_false_iff_not]; omega
  have h2 : decide (8 < M.parts.length) = false := by rw [decide_eq_false_iff_not]; omega
  have h3 : decide (8 < M.chans.length) = false := by rw [decide_eq_false_iff_not]; omega
  rw [h1, h2, h3]; rfl
theorem wide_len {ps : List PartD} (h : wideB ps = false) (k : Nat) (hk : k < ps.length) : ps[k].regs.length ≤ 4 := by
  unfold wideB at h
  rw [List.any_eq_false] at h
  have := h ps[k] (List.getElem_mem _)
  simp at this
  omega
theorem ticks_one {f p d : Int} (h1 : 1 ≤ p) (h2 : p ≤ f) (h3 : 1 ≤ d) (h4 : d ≤ p) (h5 : f ≤ 240) : 0 ≤ f / p ∧ f / p ≤ 240 ∧ 0 ≤ f / p * d ∧ f / p * d ≤ 240 := by
  have a1 : 0 ≤ f / p := Int.ediv_nonneg (by omega) (by omega)
  have a2 : f / p * p ≤ f := Int.ediv_mul_le f (by omega)
  have a3 : f / p * d ≤ f / p * p := Int.mul_le_mul_of_nonneg_left h4 a1
  have a4 : f / p * 1 ≤ f / p * p := Int.mul_le_mul_of_nonneg_left h1 a1
  have a5 : 0 ≤ f / p * d := Int.mul_nonneg a1 (by omega)
  exact ⟨a1, by omega, a5, by omega⟩
end Go.Proofs.YteioennfpkoagaaDoor.C
