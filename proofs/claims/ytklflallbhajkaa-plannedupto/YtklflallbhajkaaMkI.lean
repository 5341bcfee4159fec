import Derived.Test.YtklflallbhajkaaKpA
import Derived.Test.YtklflallbhajkaaChkR
namespace Go.Proofs.Ytklflallbhajkaa.C
open Go.ChangeShapes Go.WideShapes Go.ChangeAt Go.RowKit

theorem cIntP : Try.prog.cellsOf 3 = 1 := by kernel_rfl
theorem wf_in {z : Int} (h : (Lit.int .i64 z).wf = true) : inI z := bounds_i64 h
theorem open_intsV {H : Type} {enc : TypeId × Value → H} {w : World} {base : Nat} {spare : Nat → Bool} {held : Bool} {fuel : Nat} {cs : List Value} {x : DataW H × List MemPlace} (h : DataW.trod enc Try.prog w base spare held fuel 38 cs = some x) (hb : Rows.uptoBulk x.1 ≤ 1048576) :
    ∃ v L, cs = [v] ∧ IntsV w v L := by
  obtain ⟨va, n, cap, rfl, hbk, hrow⟩ := open_rows Try.underlying38 cIntP (by omega) h
  have hz : ∀ i : Nat, ∃ z : Int, i < n → inI z ∧ ∃ b off, va = some ⟨b, off, none⟩ ∧ w.cell? ⟨b, off + i, none⟩ = some (.int .i64 z) := fun i => by
    by_cases hi : i < n
    · obtain ⟨b, off, row, y, k, e1, e2, e3, e4, e5⟩ := hrow i hi
      obtain ⟨z, rfl, _, hw⟩ := DataW.trod_int Try.underlying3 e4
      refine ⟨z, fun _ => ⟨?_, b, off, e1, ?_⟩⟩
      · exact wf_in hw
      · have := e3 0 (by omega)
        simpa using this
    · exact ⟨0, fun h => absurd h hi⟩
  obtain ⟨f, hf⟩ := Classical.axiomOfChoice hz
  have hlen : ((List.range n).map f).length = n := by simp
  refine ⟨_, (List.range n).map f, rfl, ⟨by omega, fun z hz => ?_, va, cap, by rw [hlen], fun i hi => ?_⟩⟩
  · obtain ⟨i, hi, rfl⟩ := List.mem_map.1 hz
    exact (hf i (List.mem_range.1 hi)).1
  · obtain ⟨b, off, e1, e2⟩ := (hf i (by omega)).2
    refine ⟨b, off, e1, ?_⟩
    rw [e2]
    simp
end Go.Proofs.Ytklflallbhajkaa.C
