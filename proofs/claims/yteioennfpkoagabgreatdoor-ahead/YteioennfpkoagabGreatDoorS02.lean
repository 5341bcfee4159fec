import Derived.Test.YteioennfpkoagabGreatDoorS01
import Derived.Test.YteioennfpkoagabGreatDoorH22
namespace Go.Proofs.YteioennfpkoagabGreatDoor.C
open Go.RowKit

theorem madeF_true : MadeF := fun w u L hL => Calls.mono (made_any w u L hL) fun e w' ⟨F, ps, cs, pv, cv, h1, h2, h3, h4, h5, h6, ⟨i, left, h7, h7b⟩, h8, h9, h10, h11, h12, ys, h13, h14, h15⟩ => by
  obtain ⟨n, rfl⟩ : ∃ n : Nat, F = n := ⟨F.toNat, by omega⟩
  exact ⟨n, ps, cs, pv, cv, h1, h2, h4, h3, h5, made_chk h6 h7 h7b h8 h9 h10, h8, fun x hx => (h7.all x hx).few.2.2, h11, by omega, ⟨i, left, h7, h7b⟩, h9, h10, ⟨ys, h13, h14⟩, h15, by omega⟩
end Go.Proofs.YteioennfpkoagabGreatDoor.C
