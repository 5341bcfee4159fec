import Derived.Test.YteioennfpkoagabGreatDoorH04
import Derived.Test.YteioennfpkoagabGreatDoorH20
namespace Go.Proofs.YteioennfpkoagabGreatDoor.C
open Go.ChangeShapes Go.WideShapes Go.ChangeAt Go.RowKit

theorem cIntP : Tryz.prog.cellsOf 3 = 1 := by kernel_rfl
theorem wf_in {z : Int} (h : (Lit.int .i64 z).wf = true) : inI z := bounds_i64 h
theorem rows_max {H : Type} {enc : TypeId × Value → H} {P : Program} {w : World} {base : Nat} {spare : Nat → Bool} {held : Bool} {t e : TypeId} {fuel n cap : Nat} {va : Option Addr} {x : DataW H × List MemPlace} (ht : P.underlying t = some (.slice e)) (h : DataW.trod enc P w base spare held fuel t [.slice va n cap] = some x) : n ≤ 9223372036854775807 := by
  rcases DataW.trod_slice ht h with ⟨e1, _⟩ | ⟨a, len, cp, elems, rest, k, _, e1, _, _, hl, hm, _⟩
  · have : n = 0 := by simpa using (show va = none ∧ n = 0 ∧ cap = 0 by simpa using e1).2.1
    omega
  · have e2 : va = some a ∧ n = len ∧ cap = cp := by simpa using e1
    have hmm : maxLen = 9223372036854775807 := rfl
    omega
theorem open_intsV {H : Type} {enc : TypeId × Value → H} {w : World} {base : Nat} {spare : Nat → Bool} {held : Bool} {fuel : Nat} {cs : List Value} {x : DataW H × List MemPlace} (h : DataW.trod enc Tryz.prog w base spare held fuel 22 cs = some x) :
    ∃ v L, cs = [v] ∧ IntsV w v L := by
  obtain ⟨va, n, cap, rfl, _, hrow⟩ := open_rows Tryz.underlying22 cIntP (by omega) h
  have hbk := rows_max Tryz.underlying22 h
  have hz : ∀ i : Nat, ∃ z : Int, i < n → inI z ∧ ∃ b off, va = some ⟨b, off, none⟩ ∧ w.cell? ⟨b, off + i, none⟩ = some (.int .i64 z) := fun i => by
    by_cases hi : i < n
    · obtain ⟨b, off, row, y, k, e1, e2, e3, e4, e5⟩ := hrow i hi
      obtain ⟨z, rfl, _, hw⟩ := DataW.trod_int Tryz.underlying3 e4
      refine ⟨z, fun _ => ⟨?_, b, off, e1, ?_⟩⟩
      · exact wf_in hw
      · have := e3 0 (by omega)
        simpa using this
    · exact ⟨0, fun h => absurd h hi⟩
  obtain ⟨f, hf⟩ := Classical.axiomOfChoice hz
  have hlen : ((List.range n).map f).length = n := by simp
  refine ⟨_, (List.range n).map f, rfl, ⟨by omega, fun z hz => ?_, va, cap, by rw [hlen], fun i hi => ?_⟩⟩
  · obtain ⟨i, hi, rfl⟩ := List.mem_map.1 hz
    exact (hf i (List.mem_range.1 hi)).1
  · obtain ⟨b, off, e1, e2⟩ := (hf i (by omega)).2
    refine ⟨b, off, e1, ?_⟩
    rw [e2]
    simp
end Go.Proofs.YteioennfpkoagabGreatDoor.C
