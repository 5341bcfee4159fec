import Derived.Test.YteioennfpkoagabGreatDoorH04
import Derived.Lib.Builder
import Derived.Lib.FrozenHead2
import Derived.Lib.OthersKept
import Derived.Lib.UnsafeStr
import Derived.Lib.AppendStr
import Derived.OwnWalk
import Derived.Laws.Externs
import Derived.Test.YteioennfpkoagabGreatDoorShelf
import Derived.Shelf.RegionOpenPlain
namespace Go.Proofs.YteioennfpkoagabGreatDoor.C
open Go.RowKit
attribute [local go_sem ↓] Go.wp_at_zero Go.wp_at_succ

theorem byteInfo : (Tryz.prog.info? 5).map (fun i => (i.zero, i.size, i.bytes)) = some (some (.int .u8 0), 1, 1) := by kernel_rfl
/- the table of powers of ten, as the program's text lays it -/
def TB (w : World) : Prop := Lib.TabIs Tryz.prog w "internal/strconv.uint64pow10" .u64 Lib.pow10Tab
theorem TB.below {w w' : World} (h : TB w) (hb : Below w.heap.size w w') : TB w' := by
  unfold TB Lib.TabIs World.var? at *
  cases hg : Tryz.prog.globalNamed "internal/strconv.uint64pow10" with
  | none => rw [hg] at h; simp at h
  | some g =>
    rw [hg] at h
    simp only [Option.bind_some] at h ⊢
    have hlt : g < w.heap.size := by
      rcases Nat.lt_or_ge g w.heap.size with h' | h'
      · exact h'
      · rw [Array.getElem?_eq_none h'] at h; cases h
    rw [hb.block g hlt]; exact h
theorem digits_one (n : Nat) (h : n < 10) : Lib.decDigits n = [dig n] := by rw [Lib.decDigits, dif_pos h]; rfl
theorem digits_more (n : Nat) (h : ¬ n < 10) : Lib.decDigits n = Lib.decDigits (n / 10) ++ [dig (n % 10)] := by rw [Lib.decDigits, dif_neg h]; rfl
theorem digits_dec : ∀ (k n : Nat), n < 10 ^ (k + 1) → Lib.decDigits n = decG (k + 1) n := by
  intro k
  induction k with
  | zero =>
    intro n h
    have h' : n < 10 := by simpa using h
    rw [digits_one n h']
    simp only [decG]
    rw [if_pos h']
  | succ k ih =>
    intro n h
    by_cases h' : n < 10
    · rw [digits_one n h']
      simp only [decG]
      rw [if_pos h']
    · rw [digits_more n h', ih (n / 10) (by rw [Nat.pow_succ] at h; omega)]
      conv => rhs; unfold decG
      rw [if_neg h']
theorem itoa_dec {n : Int} (h : 0 ≤ n ∧ n ≤ 999) : Lib.itoa n = decF n := by
  unfold Lib.itoa decF
  rw [if_neg (by omega), digits_dec 2 n.toNat (by have : (10 : Nat) ^ (2 + 1) = 1000 := rfl
                                                  omega)]
theorem below_grow (w : World) (k : Nat) (os : Array Obj) : Below w.heap.size w (Go.Sort.grow (w.drewN k) os) := by
  refine ⟨rfl, rfl, rfl, ?_, fun b hb => ?_⟩
  · show w.heap.size ≤ (w.heap ++ os).size; simp
  · show (w.heap ++ os)[b]? = w.heap[b]?; rw [Array.getElem?_append_left hb]
theorem itoa_any (n : Int) (w : World) (h : 0 ≤ n ∧ n ≤ 999) (ht : TB w) :
    Calls Tryz.prog 99 #[.int .i64 n] w fun e w' => e = .returned (.string (ba (decF n))) ∧ Below w.heap.size w w' := by
  refine (Any.strconv_Itoa Tryz.laysM171 n (by omega) (by omega) w ht).mono ?_
  rintro e w' ⟨rfl, k, os, rfl⟩
  exact ⟨by rw [itoa_dec h]; rfl, below_grow w k os⟩
end Go.Proofs.YteioennfpkoagabGreatDoor.C
