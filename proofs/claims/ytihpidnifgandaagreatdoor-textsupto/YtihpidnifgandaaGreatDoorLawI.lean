import Derived.Test.YtihpidnifgandaaGreatDoorLawH
import Derived.KernelRfl
namespace Go.Proofs.YtihpidnifgandaaGreatDoor
open Go.RowKit

def kText : List UInt8 := [109, 111, 100, 117, 108, 101, 32, 55, 59, 112, 97, 114, 116, 105, 116, 105, 111, 110, 32, 120, 123, 112, 101, 114, 105, 111, 100, 32, 55, 59, 100, 117, 114, 97, 116, 105, 111, 110, 32, 55, 59, 102, 97, 117, 108, 116, 32, 114, 101, 115, 116, 97, 114, 116, 59, 125]
set_option maxRecDepth 100000 in
theorem k_tok : TokN kText 17 := by
  refine ⟨by decide, by kernel_rfl, ?_⟩
  have h : (List.range 16).all (fun j => decide (pos kText j < kText.length)) = true := by kernel_rfl
  intro j hj
  rw [List.all_eq_true] at h
  have := h j (by simp; omega)
  simpa using this
set_option maxRecDepth 100000 in
theorem k_e : (parseR kText 17).2.e = 0 := by kernel_rfl
set_option maxRecDepth 100000 in
theorem k_f : (parseR kText 17).1.frame = 7 := by kernel_rfl
set_option maxRecDepth 100000 in
theorem k_p : (parseR kText 17).1.parts.length = 1 := by kernel_rfl
set_option maxRecDepth 100000 in
theorem k_a : (parseR kText 17).1.parts.map Part.action = [3] := by kernel_rfl
end Go.Proofs.YtihpidnifgandaaGreatDoor
