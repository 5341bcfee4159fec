import Derived.Test.YteioennfpkoagaaDoorRows
import Derived.Test.YteioennfpkoagaaDoorPure
import Derived.WalkKit
import Derived.WalkSpells
import Derived.WalkLawsBesides
import Derived.Deep.RegionHeld3
import Derived.Deep.AppendLies
import Derived.Deep.DrawnRows
import Derived.Deep.QuietTactic
import Derived.BigQuiet
namespace Go.Proofs.YteioennfpkoagaaDoor.C
open Go.RowKit
attribute [local go_sem ↓] Go.wp_at_zero Go.wp_at_succ

/- blocks and cells -/
theorem lt_of_blk {w : World} {b : Nat} {o : Obj} (h : w.heap[b]? = some o) : b < w.heap.size := by
  rcases Nat.lt_or_ge b w.heap.size with h' | h'
  · exact h'
  · rw [Array.getElem?_eq_none h'] at h; cases h
theorem cell_of_blk {w : World} {b i : Nat} {cs : Array Value} {t : TypeId} {fr : Nat × Nat} (h : w.heap[b]? = some (.cells cs t fr)) : w.cell? ⟨b, i, none⟩ = cs[i]? := by
  simp [World.cell?, h]
theorem frozen_of_blk {w : World} {b i : Nat} {cs : Array Value} {t : TypeId} (h : w.heap[b]? = some (.cells cs t (0, 0))) : w.frozen? ⟨b, i, none⟩ = false := by
  simp [World.frozen?, h]
theorem heap_new (w : World) (o : Obj) : (w.alloc o).heap[w.heap.size]? = some o := by
  show (w.heap.push o)[w.heap.size]? = _; simp
theorem heap_old (w : World) (o : Obj) {k : Nat} {x : Obj} (h : w.heap[k]? = some x) : (w.alloc o).heap[k]? = some x := by
  rw [Below.heap_alloc _ _ _ (lt_of_blk h)]; exact h
theorem blk_set {w : World} {b : Nat} {cs : Array Value} {t : TypeId} {fr : Nat × Nat} (i : Nat) (v : Value) (h : w.heap[b]? = some (.cells cs t fr)) :
    (w.setCell ⟨b, i, none⟩ v).heap[b]? = some (.cells (cs.setIfInBounds i v) t fr) := by
  simp [World.setCell, Array.getElem?_modify, h]
theorem blk_far {w : World} {b c : Nat} (i : Nat) (v : Value) (h : c ≠ b) : (w.setCell ⟨b, i, none⟩ v).heap[c]? = w.heap[c]? := Below.heap_setCell _ _ _ _ h

/- a manifest's data -/
structure RegD where
  page : Int
  pages : Int
  rights : Int
structure PartD where
  name : ByteArray
  period : Int
  duration : Int
  action : Int
  regs : List RegD
structure ChanD where
  name : ByteArray
  source : Int
  target : Int
  kind : Int
  size : Int
  depth : Int
structure ManD where
  frame : Int
  parts : List PartD
  chans : List ChanD

/- a list read from memory: wherever it lies, whatever room it has -/
def RegsV (w : World) (v : Value) (rs : List RegD) : Prop :=
  ∃ va cap, v = .slice va rs.length cap ∧ ∀ i (h : i < rs.length), ∃ b off, va = some ⟨b, off, none⟩ ∧
    w.cell? ⟨b, off + i * 3, none⟩ = some (.int .i64 rs[i].page) ∧ w.cell? ⟨b, off + i * 3 + 1, none⟩ = some (.int .i64 rs[i].pages) ∧ w.cell? ⟨b, off + i * 3 + 2, none⟩ = some (.int .i64 rs[i].rights)
theorem RegsV.below {w w' : World} {v : Value} {rs : List RegD} (h : RegsV w v rs) (hb : Below w.heap.size w w') : RegsV w' v rs := by
  obtain ⟨va, cap, e, hc⟩ := h
  refine ⟨va, cap, e, fun i hi => ?_⟩
  obtain ⟨b, off, e1, h1, h2, h3⟩ := hc i hi
  have hlt := World.block_lt_of_cell? w _ h1
  exact ⟨b, off, e1, (hb.cell (by exact hlt)).trans h1, (hb.cell (by exact hlt)).trans h2, (hb.cell (by exact hlt)).trans h3⟩

def nameF (l : List UInt8) : Bool := decide (1 ≤ l.length) && decide (l.length ≤ 16) && (l.head?.map fun b => smallB b.toNat).getD false && l.all fun b => insideB b.toNat

theorem nameF_end {s : ByteArray} (h0 : 1 ≤ s.size) (h1 : s.size ≤ 16) (ha : (s.data.toList.take s.size).all (fun b => insideB b.toNat) = true) : nameF s.data.toList = smallB s[0].toNat := by
  have e : s.data.toList.take s.size = s.data.toList := List.take_of_length_le (by simp)
  rw [e] at ha
  have hd := drop_cons s 0 (by omega)
  simp only [List.drop_zero] at hd
  have hh : s.data.toList.head? = some s[0] := by rw [hd]; rfl
  unfold nameF
  rw [ha, hh]
  simp
  omega
theorem nameF_bad {s : ByteArray} {k : Nat} (hk : k < s.size) (hb : insideB s[k].toNat = false) : nameF s.data.toList = false := by
  have : (s.data.toList.all fun b => insideB b.toNat) = false := by
    rw [List.all_eq_false]
    exact ⟨s.data.toList[k]'(by simpa using hk), List.getElem_mem _, by show ¬ insideB s[k].toNat = true; simp [hb]⟩
  unfold nameF
  rw [this]; simp
end Go.Proofs.YteioennfpkoagaaDoor.C
