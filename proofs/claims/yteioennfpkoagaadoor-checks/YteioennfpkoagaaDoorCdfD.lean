import Derived.Test.YteioennfpkoagaaDoorCdfC
namespace Go.Proofs.YteioennfpkoagaaDoor.C
open Go.RowKit
attribute [local go_sem ↓] Go.wp_at_zero Go.wp_at_succ

/- what is wrong with a channel: those ahead of it, and how many partitions there are, are given -/
def freshC (bef : List ChanD) (x : ChanD) : Bool := bef.all fun p => p.name.toList != x.name.toList
def chanErr (frame : Int) (n : Nat) (bef : List ChanD) (c : ChanD) : Int :=
  if (nameF c.name.data.toList && freshC bef c) = false then 7
  else if c.source < 0 ∨ (n : Int) ≤ c.source ∨ c.target < 0 ∨ (n : Int) ≤ c.target ∨ c.source = c.target then 12
  else if ¬ c.kind = 1 ∧ ¬ c.kind = 2 then 13
  else if c.size < 1 ∨ 32 < c.size then 14
  else if c.depth < 1 ∨ (if c.kind = 1 then 8 else frame) < c.depth then 15 else 0
theorem freshC_step {cs : List ChanD} {k : Nat} (hk : k < cs.length) (x : ChanD) : freshC (cs.take (k + 1)) x = (freshC (cs.take k) x && (cs[k].name.toList != x.name.toList)) := by
  unfold freshC
  rw [take_snocD cs k hk, List.all_append]; simp
end Go.Proofs.YteioennfpkoagaaDoor.C
