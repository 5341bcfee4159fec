import Derived.Test.YteioennfpkoagaaPlnA
import Derived.Test.YteioennfpkoagaaCdfE
import Derived.Test.YteioennfpkoagaaChkY
namespace Go.Proofs.Yteioennfpkoagaa.C
open Go.RowKit

theorem parts_int {e s b : Nat} {z : Value} (h : (Try.prog.info? e).map (fun i => (i.zero, i.size, i.bytes)) = some (some z, s, b)) : ∃ i, Try.prog.info? e = some i ∧ i.zero = some z ∧ i.size = s ∧ i.bytes = b := by
  rcases hi : Try.prog.info? e with _ | i
  · rw [hi] at h; cases h
  · rw [hi] at h
    simp only [Option.map_some, Option.some.injEq, Prod.mk.injEq] at h
    exact ⟨i, rfl, h.1, h.2.1, h.2.2⟩
theorem intInfo : (Try.prog.info? 3).map (fun i => (i.zero, i.size, i.bytes)) = some (some (.int .i64 0), 1, 8) := by kernel_rfl
theorem make_ints (w : World) (c : Nat) (hc : c ≤ 2000000) :
    (Instr.makeSlice 38 (.int .i64 (c : Int)) (.int .i64 (c : Int))).run Try.prog w = .ok (.slice (some ⟨w.heap.size, 0, none⟩) c c) (w.alloc (.cells (intsC (List.replicate c 0)).toArray 3)) := by
  obtain ⟨i, hi, hz, hs, hby⟩ := parts_int intInfo
  have hbi : (i.bytes : Int) * (c : Int) ≤ 281474976710656 := by rw [hby]; omega
  have hr := run_make (P := Try.prog) w 38 3 i (.int .i64 0) Try.underlying38 hi hz .i64 .i64 c c (by omega) (by omega) hbi (by omega)
  simp only [Int.toNat_natCast, hs, Nat.mul_one] at hr
  rw [show (Value.int IntKind.i64 0).cells = #[Value.int .i64 0] from rfl, made_ints] at hr
  exact hr
def PlanC : Prop := ∀ (f : Int) (ps : List PartD) (cs : List ChanD) (pv cv : Value) (w : World), PartsV w pv ps → PartsC w pv ps.length → ChansV w cv cs → capV cv → ps.length ≤ 1048576 → cs.length ≤ 1048576 → (∀ i (hi : i < ps.length), ps[i].regs.length ≤ 1048576) →
    Calls Try.prog 9 #[.agg #[.int .i64 f, pv, cv]] w fun e w' => (¬ checkF ⟨f, ps, cs⟩ = 0 ∧ e = .returned (.tuple #[.slice none 0 0, .int .i64 (checkF ⟨f, ps, cs⟩)]) ∧ Below w.heap.size w w') ∨ (checkF ⟨f, ps, cs⟩ = 0 ∧ Below w.heap.size w w' ∧ ∃ v, e = .returned (.tuple #[v, .int .i64 0]) ∧ w'.ownsRow w.heap.size 3 1 v (planF ⟨f, ps, cs⟩).length (intsC (planF ⟨f, ps, cs⟩)))
theorem keepN {w w' : World} {k : Nat} {o : Obj} (h : w.heap[k]? = some o) (hb : Below w.heap.size w w') : w'.heap[k]? = some o := (hb.block _ (lt_of_blk h)).trans h
theorem newB (w : World) (o : Obj) : Below w.heap.size w (w.alloc o) := (Below.refl _ w).alloc (Nat.le_refl _) _
end Go.Proofs.Yteioennfpkoagaa.C
