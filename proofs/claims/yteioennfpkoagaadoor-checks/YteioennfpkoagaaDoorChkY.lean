import Derived.Test.YteioennfpkoagaaDoorCdfC
namespace Go.Proofs.YteioennfpkoagaaDoor.C
open Go.RowKit

/- a slice whose length is not above its capacity -/
def capV (v : Value) : Prop := ∃ a l c, v = .slice a l c ∧ l ≤ c
theorem capV.le {a : Option Addr} {l c : Nat} (h : capV (.slice a l c)) : l ≤ c := by
  obtain ⟨_, _, _, e, h⟩ := h
  cases e; exact h
/- the lists of a manifest: none is longer than its room -/
def PartsC (w : World) (v : Value) (n : Nat) : Prop := capV v ∧ ∀ i, i < n → ∀ b off l c, v = .slice (some ⟨b, off, none⟩) l c → ∀ rv, w.cell? ⟨b, off + i * 5 + 4, none⟩ = some rv → capV rv
theorem PartsC.below {w w' : World} {v : Value} {ps : List PartD} (hp : PartsV w v ps) (h : PartsC w v ps.length) (hb : Below w.heap.size w w') : PartsC w' v ps.length := by
  refine ⟨h.1, fun i hi b off l c e rv hc => ?_⟩
  obtain ⟨va, cap, e1, hq⟩ := hp
  subst e
  cases e1
  obtain ⟨b2, off2, rv2, e2, h1, _⟩ := hq i hi
  cases e2
  have hlt := World.block_lt_of_cell? w _ h1
  exact h.2 i hi b off _ _ rfl rv ((hb.cell (by exact hlt)).symm.trans hc)
theorem keepC {w1 w2 : World} {a : Addr} {v : Value} (h : w1.cell? a = some v) (hb : Below w1.heap.size w1 w2) : w2.cell? a = some v := (hb.cell (World.block_lt_of_cell? w1 _ h)).trans h
end Go.Proofs.YteioennfpkoagaaDoor.C
