import Derived.Test.YteioennfpkoagaaPlnV
import Derived.Test.YteioennfpkoagaaPlnH
import Derived.Handed
import Derived.Deep.DeepHandedRow
namespace Go.Proofs.Yteioennfpkoagaa.C
open Go.ChangeShapes Go.WideShapes Go.ChangeAt Go.RowKit

set_option maxRecDepth 100000 in
theorem liftedP (os : Os) (started : os.Started) (H : Type) (enc : TypeId × Value → H) (F : Stop.Interp) :
    ReturnsInHanded {} Try.checked os 3 .any ((Rows.OpenSpec.upto Rows.plansSpec).pre6 enc Try.prog Try.f3 Rows.plansUptoRow.domain false) (((Rows.OpenSpec.upto Rows.plansSpec).at F).post enc Try.prog Try.f3 false true false false) := by
  refine returnsInHanded_of_cond (C := Try.checked) (s := Rows.OpenSpec.upto Rows.plansSpec) (k := Rows.uptoSmall) rfl ownK started (by kernel_rfl) Try.func3
    (OpenSpec.witness (enc := enc) (C := Try.checked) (s := Rows.OpenSpec.upto Rows.plansSpec) (k := Rows.uptoSmall) rfl false ⟨#[], #[.slice none 0 0], []⟩ 8 (by kernel_rfl) (by kernel_rfl) (by kernel_rfl)
      (x := ([.nil], [], [])) (by kernel_rfl) rfl (by kernel_rfl)) ?_
  intro W base args ds gs before hval hW _ hk _
  exact contractP planC_true H enc W base args ds gs before hval hW hk
theorem plansUpto : Rows.PlansUptoSaid :=
  OpenClaim.holds_of_cond 3 Try.f3 rfl rfl rfl rfl rfl rfl rfl ⟨rfl, rfl, rfl, rfl, rfl⟩ rfl rfl rfl rfl rfl (by kernel_rfl) Try.func3 (by kernel_rfl)
    (of_decide_eq_true (by kernel_rfl)) (by unfold Func.isWrapper; first | (rw [if_pos (by decide +kernel)]; kernel_rfl) | (rw [if_neg (by decide +kernel)]; exact ⟨rfl, rfl⟩))
    (fun os started H enc _ F => liftedP os started H enc F)
end Go.Proofs.Yteioennfpkoagaa.C
namespace Go.Proofs.Yteioennfpkoagaa
theorem plansUpto : Rows.PlansUptoSaid := C.plansUpto
end Go.Proofs.Yteioennfpkoagaa
