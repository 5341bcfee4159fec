import Derived.Test.YteioennfpkoagaaDoorCksA
import Derived.Test.YteioennfpkoagaaDoorKrxD
import Derived.Test.YteioennfpkoagaaDoorRowP
import Derived.Lib.LaidTab
namespace Go.Proofs.YteioennfpkoagaaDoor.C
open Go.ChangeShapes Go.WideShapes Go.ChangeAt Go.RowKit

theorem filtNoneK : (Rows.checksUptoRow.laid.filter fun x => x.2.handleName?.isNone) = Rows.checksUptoRow.laid := by kernel_rfl
theorem filtSomeK : (Rows.checksUptoRow.laid.filter fun x => x.2.handleName?.isSome) = [] := by kernel_rfl
theorem laid_allK {W : World} (h : laidMetH Tryd.prog Rows.checksUptoRow.laid W) : laidMet Tryd.prog Rows.checksUptoRow.laid W := by
  unfold laidMetH at h
  rw [filtSomeK, filtNoneK] at h
  exact h
theorem tb_of_laidK {W : World} (h : laidMetH Tryd.prog Rows.checksUptoRow.laid W) : TB W := by
  have h3 := (laid_allK h).tail.tail
  exact Lib.tabIs_of_head (g := 0) (t := 117) (e := 105) (n := 20) (rest := []) (by kernel_rfl) (by kernel_rfl) Tryd.underlying117 Tryd.underlying105 (by kernel_rfl) (by kernel_rfl) h3
/- a world for the witness -/
def tab32K : Array Value := #[.int .u8 0, .int .u8 1, .int .u8 28, .int .u8 2, .int .u8 29, .int .u8 14, .int .u8 24, .int .u8 3, .int .u8 30, .int .u8 22, .int .u8 20, .int .u8 15, .int .u8 25, .int .u8 17, .int .u8 4, .int .u8 8, .int .u8 31, .int .u8 27, .int .u8 13, .int .u8 23, .int .u8 21, .int .u8 19, .int .u8 16, .int .u8 7, .int .u8 26, .int .u8 12, .int .u8 18, .int .u8 6, .int .u8 11, .int .u8 5, .int .u8 10, .int .u8 9]
def tab64K : Array Value := #[.int .u8 0, .int .u8 1, .int .u8 56, .int .u8 2, .int .u8 57, .int .u8 49, .int .u8 28, .int .u8 3, .int .u8 61, .int .u8 58, .int .u8 42, .int .u8 50, .int .u8 38, .int .u8 29, .int .u8 17, .int .u8 4, .int .u8 62, .int .u8 47, .int .u8 59, .int .u8 36, .int .u8 45, .int .u8 43, .int .u8 51, .int .u8 22, .int .u8 53, .int .u8 39, .int .u8 33, .int .u8 30, .int .u8 24, .int .u8 18, .int .u8 12, .int .u8 5, .int .u8 63, .int .u8 55, .int .u8 48, .int .u8 27, .int .u8 60, .int .u8 41, .int .u8 37, .int .u8 16, .int .u8 46, .int .u8 35, .int .u8 44, .int .u8 21, .int .u8 52, .int .u8 32, .int .u8 23, .int .u8 11, .int .u8 54, .int .u8 26, .int .u8 40, .int .u8 15, .int .u8 34, .int .u8 20, .int .u8 31, .int .u8 10, .int .u8 25, .int .u8 14, .int .u8 19, .int .u8 9, .int .u8 13, .int .u8 8, .int .u8 7, .int .u8 6]
def tabTenK : Array Value := #[.int .u64 1, .int .u64 10, .int .u64 100, .int .u64 1000, .int .u64 10000, .int .u64 100000, .int .u64 1000000, .int .u64 10000000, .int .u64 100000000, .int .u64 1000000000, .int .u64 10000000000, .int .u64 100000000000, .int .u64 1000000000000, .int .u64 10000000000000, .int .u64 100000000000000, .int .u64 1000000000000000, .int .u64 10000000000000000, .int .u64 100000000000000000, .int .u64 1000000000000000000, .int .u64 10000000000000000000]
def putK (cs : Array Value) : Obj → Obj
  | .cells _ t z => .cells cs t z
  | o => o
def baseK (P : Program) (os : Os) : World := World.holding P os ⟨#[], #[], []⟩
def laidK (P : Program) (os : Os) : World :=
  { baseK P os with heap := (((baseK P os).heap.modify 2 (putK tab32K)).modify 3 (putK tab64K)).modify 0 (putK tabTenK) }
end Go.Proofs.YteioennfpkoagaaDoor.C
