import Derived.Test.YteioennfpkoagaaDoorCdfG
import Derived.Test.YteioennfpkoagaaDoorChkZ
import Derived.Test.YteioennfpkoagaaDoorChkY
namespace Go.Proofs.YteioennfpkoagaaDoor.C
open Go.RowKit
attribute [local go_sem ↓] Go.wp_at_zero Go.wp_at_succ

/- the text of a manifest -/
def actW : Nat → List UInt8
  | 1 => [105, 103, 110, 111, 114, 101]
  | 2 => [115, 116, 111, 112]
  | 3 => [114, 101, 115, 116, 97, 114, 116]
  | _ => []
def rightW : Nat → List UInt8
  | 1 => [108, 111, 111, 107]
  | 2 => [99, 104, 97, 110, 103, 101]
  | _ => []
def kindW : Nat → List UInt8
  | 1 => [113, 117, 101, 117, 101]
  | 2 => [115, 97, 109, 112, 108, 101]
  | _ => []
def regT (r : RegD) : List UInt8 := [32, 32, 109, 101, 109, 111, 114, 121, 32] ++ decF r.page ++ [32] ++ decF r.pages ++ [32] ++ rightW r.rights.toNat ++ [59, 10]
def partT (x : PartD) : List UInt8 := [112, 97, 114, 116, 105, 116, 105, 111, 110, 32] ++ x.name.data.toList ++ [32, 123, 10, 32, 32, 112, 101, 114, 105, 111, 100, 32] ++ decF x.period ++ [59, 10, 32, 32, 100, 117, 114, 97, 116, 105, 111, 110, 32] ++ decF x.duration ++ [59, 10, 32, 32, 102, 97, 117, 108, 116, 32] ++ actW x.action.toNat ++ [59, 10] ++ x.regs.flatMap regT ++ [125, 10]
def nameAt (ps : List PartD) (i : Int) : List UInt8 := (ps[i.toNat]?.map fun p => p.name.data.toList).getD []
def chanT (ps : List PartD) (c : ChanD) : List UInt8 := [99, 104, 97, 110, 110, 101, 108, 32] ++ c.name.data.toList ++ [32] ++ nameAt ps c.source ++ [32, 45, 62, 32] ++ nameAt ps c.target ++ [32] ++ kindW c.kind.toNat ++ [32] ++ decF c.size ++ [32] ++ decF c.depth ++ [59, 10]
def headT (f : Int) : List UInt8 := [109, 111, 100, 117, 108, 101, 32] ++ decF f ++ [59, 10]
def printL (M : ManD) : List UInt8 := headT M.frame ++ M.parts.flatMap partT ++ M.chans.flatMap (chanT M.parts)

theorem ba_data (l : List UInt8) : (ba l).data.toList = l := by simp [ba]
theorem flat_step {α : Type} (l : List α) (g : α → List UInt8) (k : Nat) (hk : k < l.length) : (l.take (k + 1)).flatMap g = (l.take k).flatMap g ++ g l[k] := by
  rw [take_snocD l k hk, List.flatMap_append]; simp
end Go.Proofs.YteioennfpkoagaaDoor.C
