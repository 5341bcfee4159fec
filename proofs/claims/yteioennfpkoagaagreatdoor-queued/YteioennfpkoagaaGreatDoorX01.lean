import Derived.Test.YteioennfpkoagaaGreatDoorB30
import Derived.Test.YteioennfpkoagaaGreatDoorRows
import Derived.Test.YteioennfpkoagaaGreatDoorB31
namespace Go.Proofs.YteioennfpkoagaaGreatDoor.C
open Go.ChangeShapes Go.WideShapes Go.ChangeAt Go.RowKit

/- a list of an argument is no longer than its room -/
theorem rows_w {H : Type} {enc : TypeId × Value → H} {w : World} {base : Nat} {spare : Nat → Bool} {held : Bool} {t e : TypeId} {fuel n cap : Nat} {va : Option Addr} {x : DataW H × List MemPlace} (ht : Tryz.prog.underlying t = some (.slice e))
    (h : DataW.trod enc Tryz.prog w base spare held fuel t [.slice va n cap] = some x) (hw : (x.1.weights Tryz.prog t).all (· ≤ reachBytes) = true) : n * Tryz.prog.bytesOf e ≤ 140737488351232 := by
  rcases DataW.trod_slice ht h with ⟨hc, _⟩ | ⟨a, len, cap', elems, rest, m, _, hc, hx, _, _, _, hlen, _⟩
  · have : n = 0 := by simpa using (show (Value.slice va n cap) = .slice none 0 0 from by simpa using hc) |> fun e => by injection e
    rw [this]; omega
  · have hn : n = len := by
      have e1 : (Value.slice va n cap) = .slice (some a) len cap' := by simpa using hc
      injection e1
    rw [hx] at hw
    simp only [DataW.weights, ht, List.all_cons, Bool.and_eq_true, decide_eq_true_eq, List.length_map] at hw
    have h1 := hw.1
    have h2 : n * Tryz.prog.bytesOf e ≤ (elems.length + rest.length) * Tryz.prog.bytesOf e := Nat.mul_le_mul_right _ (by omega)
    unfold reachBytes at h1
    omega
end Go.Proofs.YteioennfpkoagaaGreatDoor.C
