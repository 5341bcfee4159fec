import Derived.Test.YteioennfpkoagaaDoorCdfF
import Derived.Laws.BytesArg
namespace Go.Proofs.YteioennfpkoagaaDoor.C
open Go.RowKit
attribute [local go_sem ↓] Go.wp_at_zero Go.wp_at_succ

/- a number's digits: of as many as the first number says -/
def dig (n : Nat) : UInt8 := UInt8.ofNat (48 + n)
def decG : Nat → Nat → List UInt8
  | 0, _ => []
  | k + 1, n => if n < 10 then [dig n] else decG k (n / 10) ++ [dig (n % 10)]
def ba (l : List UInt8) : ByteArray := ⟨l.toArray⟩
theorem ba_size (l : List UInt8) : (ba l).size = l.length := by simp [ba, ByteArray.size]
theorem decG_len (k n : Nat) : (decG k n).length ≤ k := by
  induction k generalizing n with
  | zero => simp [decG]
  | succ k ih =>
    have := ih (n / 10)
    unfold decG
    split <;> simp <;> omega
theorem ba_append (a b : List UInt8) : ba a ++ ba b = ba (a ++ b) := by
  apply ByteArray.ext
  simp [ba]

theorem nums_dig (n : Nat) : strOfNums [48 + (n : Int)] = ba [dig n] := by
  have e : (48 + (n : Int)).toNat = 48 + n := by omega
  unfold strOfNums ba dig
  rw [List.map_cons, List.map_nil, e]
theorem conv_one (w : World) (x : Int) : (convert 40 9 (.slice (some ⟨w.heap.size, 0, none⟩) 1 1)).run Tryd.prog (w.alloc (.cells #[.int .u8 x] 5)) = .ok (.string (strOfNums [x])) (w.alloc (.cells #[.int .u8 x] 5)) := by
  refine run_convert_bytes_arg (P := Tryd.prog) (w.alloc (.cells #[.int .u8 x] 5)) 40 5 Tryd.underlying40 Tryd.underlying5 w.heap.size 0 1 1 [x] rfl ?_ 9 Tryd.underlying9
  intro i hi
  have : i = 0 := by omega
  subst this
  rw [cell_of_blk (heap_new _ _)]; rfl
def decF (n : Int) : List UInt8 := decG 3 n.toNat
theorem decF_len (n : Int) : (decF n).length ≤ 3 := decG_len _ _
end Go.Proofs.YteioennfpkoagaaDoor.C
