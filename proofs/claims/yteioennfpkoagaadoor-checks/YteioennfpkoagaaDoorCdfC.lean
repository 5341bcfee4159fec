import Derived.Test.YteioennfpkoagaaDoorCdfB
namespace Go.Proofs.YteioennfpkoagaaDoor.C
open Go.RowKit
attribute [local go_sem ↓] Go.wp_at_zero Go.wp_at_succ

def PartsV (w : World) (v : Value) (ps : List PartD) : Prop :=
  ∃ va cap, v = .slice va ps.length cap ∧ ∀ i (h : i < ps.length), ∃ b off rv, va = some ⟨b, off, none⟩ ∧
    w.cell? ⟨b, off + i * 5, none⟩ = some (.string ps[i].name) ∧ w.cell? ⟨b, off + i * 5 + 1, none⟩ = some (.int .i64 ps[i].period) ∧ w.cell? ⟨b, off + i * 5 + 2, none⟩ = some (.int .i64 ps[i].duration) ∧
    w.cell? ⟨b, off + i * 5 + 3, none⟩ = some (.int .i64 ps[i].action) ∧ w.cell? ⟨b, off + i * 5 + 4, none⟩ = some rv ∧ RegsV w rv ps[i].regs
theorem PartsV.below {w w' : World} {v : Value} {ps : List PartD} (h : PartsV w v ps) (hb : Below w.heap.size w w') : PartsV w' v ps := by
  obtain ⟨va, cap, e, hc⟩ := h
  refine ⟨va, cap, e, fun i hi => ?_⟩
  obtain ⟨b, off, rv, e1, h1, h2, h3, h4, h5, h6⟩ := hc i hi
  have hlt := World.block_lt_of_cell? w _ h1
  exact ⟨b, off, rv, e1, (hb.cell (by exact hlt)).trans h1, (hb.cell (by exact hlt)).trans h2, (hb.cell (by exact hlt)).trans h3, (hb.cell (by exact hlt)).trans h4, (hb.cell (by exact hlt)).trans h5, h6.below hb⟩
def ChansV (w : World) (v : Value) (cs : List ChanD) : Prop :=
  ∃ va cap, v = .slice va cs.length cap ∧ ∀ i (h : i < cs.length), ∃ b off, va = some ⟨b, off, none⟩ ∧
    w.cell? ⟨b, off + i * 6, none⟩ = some (.string cs[i].name) ∧ w.cell? ⟨b, off + i * 6 + 1, none⟩ = some (.int .i64 cs[i].source) ∧ w.cell? ⟨b, off + i * 6 + 2, none⟩ = some (.int .i64 cs[i].target) ∧
    w.cell? ⟨b, off + i * 6 + 3, none⟩ = some (.int .i64 cs[i].kind) ∧ w.cell? ⟨b, off + i * 6 + 4, none⟩ = some (.int .i64 cs[i].size) ∧ w.cell? ⟨b, off + i * 6 + 5, none⟩ = some (.int .i64 cs[i].depth)
theorem ChansV.below {w w' : World} {v : Value} {cs : List ChanD} (h : ChansV w v cs) (hb : Below w.heap.size w w') : ChansV w' v cs := by
  obtain ⟨va, cap, e, hc⟩ := h
  refine ⟨va, cap, e, fun i hi => ?_⟩
  obtain ⟨b, off, e1, h1, h2, h3, h4, h5, h6⟩ := hc i hi
  have hlt := World.block_lt_of_cell? w _ h1
  exact ⟨b, off, e1, (hb.cell (by exact hlt)).trans h1, (hb.cell (by exact hlt)).trans h2, (hb.cell (by exact hlt)).trans h3, (hb.cell (by exact hlt)).trans h4, (hb.cell (by exact hlt)).trans h5, (hb.cell (by exact hlt)).trans h6⟩

/- what is wrong with a partition: those ahead of it are given -/
def freshP (bef : List PartD) (x : PartD) : Bool := bef.all fun p => p.name.toList != x.name.toList
def partErr (frame : Int) (bef : List PartD) (x : PartD) : Int :=
  if (nameF x.name.data.toList && freshP bef x) = false then 7
  else if x.period < 1 ∨ frame < x.period ∨ frame % x.period ≠ 0 then 8
  else if x.duration < 1 ∨ x.period < x.duration then 9
  else if x.action < 1 ∨ 3 < x.action then 10
  else if regsF x.regs = false then 11 else 0
theorem freshP_step {ps : List PartD} {k : Nat} (hk : k < ps.length) (x : PartD) : freshP (ps.take (k + 1)) x = (freshP (ps.take k) x && (ps[k].name.toList != x.name.toList)) := by
  unfold freshP
  rw [take_snocD ps k hk, List.all_append]; simp

theorem below_drewN {B : Nat} {a w : World} (h : Below B a w) (n : Nat) : Below B a (w.drewN n) := ⟨h.os, h.tape, h.output, h.size, h.block⟩
end Go.Proofs.YteioennfpkoagaaDoor.C
