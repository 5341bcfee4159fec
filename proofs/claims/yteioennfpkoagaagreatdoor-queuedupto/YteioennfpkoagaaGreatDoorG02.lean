import Derived.Test.YteioennfpkoagaaGreatDoorRows
import Derived.Test.YteioennfpkoagaaGreatDoorG01
import Derived.WalkKit
import Derived.WalkSpells
import Derived.WalkLawsBesides
import Derived.Deep.RegionHeld3
import Derived.Deep.AppendLies
import Derived.Deep.DrawnRows
import Derived.Deep.QuietTactic
import Derived.BigQuiet
namespace Go.Proofs.YteioennfpkoagaaGreatDoor.C
open Go.RowKit
attribute [local go_sem ↓] Go.wp_at_zero Go.wp_at_succ

/- blocks and cells -/
theorem lt_of_blk {w : World} {b : Nat} {o : Obj} (h : w.heap[b]? = some o) : b < w.heap.size := by
  rcases Nat.lt_or_ge b w.heap.size with h' | h'
  · exact h'
  · rw [Array.getElem?_eq_none h'] at h; cases h
theorem cell_of_blk {w : World} {b i : Nat} {cs : Array Value} {t : TypeId} {fr : Nat × Nat} (h : w.heap[b]? = some (.cells cs t fr)) : w.cell? ⟨b, i, none⟩ = cs[i]? := by
  simp [World.cell?, h]
theorem frozen_of_blk {w : World} {b i : Nat} {cs : Array Value} {t : TypeId} (h : w.heap[b]? = some (.cells cs t (0, 0))) : w.frozen? ⟨b, i, none⟩ = false := by
  simp [World.frozen?, h]
theorem heap_new (w : World) (o : Obj) : (w.alloc o).heap[w.heap.size]? = some o := by
  show (w.heap.push o)[w.heap.size]? = _; simp
theorem heap_old (w : World) (o : Obj) {k : Nat} {x : Obj} (h : w.heap[k]? = some x) : (w.alloc o).heap[k]? = some x := by
  rw [Below.heap_alloc _ _ _ (lt_of_blk h)]; exact h
theorem blk_set {w : World} {b : Nat} {cs : Array Value} {t : TypeId} {fr : Nat × Nat} (i : Nat) (v : Value) (h : w.heap[b]? = some (.cells cs t fr)) :
    (w.setCell ⟨b, i, none⟩ v).heap[b]? = some (.cells (cs.setIfInBounds i v) t fr) := by
  simp [World.setCell, Array.getElem?_modify, h]
theorem blk_far {w : World} {b c : Nat} (i : Nat) (v : Value) (h : c ≠ b) : (w.setCell ⟨b, i, none⟩ v).heap[c]? = w.heap[c]? := Below.heap_setCell _ _ _ _ h

/- a manifest's data -/
structure RegD where
  page : Int
  pages : Int
  rights : Int
structure PartD where
  name : ByteArray
  period : Int
  duration : Int
  action : Int
  regs : List RegD
structure ChanD where
  name : ByteArray
  source : Int
  target : Int
  kind : Int
  size : Int
  depth : Int
structure ManD where
  frame : Int
  parts : List PartD
  chans : List ChanD

/- a list read from memory: wherever it lies, whatever room it has -/
def RegsV (w : World) (v : Value) (rs : List RegD) : Prop :=
  ∃ va cap, v = .slice va rs.length cap ∧ ∀ i (h : i < rs.length), ∃ b off, va = some ⟨b, off, none⟩ ∧
    w.cell? ⟨b, off + i * 3, none⟩ = some (.int .i64 rs[i].page) ∧ w.cell? ⟨b, off + i * 3 + 1, none⟩ = some (.int .i64 rs[i].pages) ∧ w.cell? ⟨b, off + i * 3 + 2, none⟩ = some (.int .i64 rs[i].rights)
theorem RegsV.below {w w' : World} {v : Value} {rs : List RegD} (h : RegsV w v rs) (hb : Below w.heap.size w w') : RegsV w' v rs := by
  obtain ⟨va, cap, e, hc⟩ := h
  refine ⟨va, cap, e, fun i hi => ?_⟩
  obtain ⟨b, off, e1, h1, h2, h3⟩ := hc i hi
  have hlt := World.block_lt_of_cell? w _ h1
  exact ⟨b, off, e1, (hb.cell (by exact hlt)).trans h1, (hb.cell (by exact hlt)).trans h2, (hb.cell (by exact hlt)).trans h3⟩

def nameF (l : List UInt8) : Bool := decide (1 ≤ l.length) && decide (l.length ≤ 16) && (l.head?.map fun b => smallB b.toNat).getD false && l.all fun b => insideB b.toNat

theorem nameF_end {s : ByteArray} (h0 : 1 ≤ s.size) (h1 : s.size ≤ 16) (ha : (s.data.toList.take s.size).all (fun b => insideB b.toNat) = true) : nameF s.data.toList = smallB s[0].toNat := by
  have e : s.data.toList.take s.size = s.data.toList := List.take_of_length_le (by simp)
  rw [e] at ha
  have hd := drop_cons s 0 (by omega)
  simp only [List.drop_zero] at hd
  have hh : s.data.toList.head? = some s[0] := by rw [hd]; rfl
  unfold nameF
  rw [ha, hh]
  simp
  omega
theorem nameF_bad {s : ByteArray} {k : Nat} (hk : k < s.size) (hb : insideB s[k].toNat = false) : nameF s.data.toList = false := by
  have : (s.data.toList.all fun b => insideB b.toNat) = false := by
    rw [List.all_eq_false]
    exact ⟨s.data.toList[k]'(by simpa using hk), List.getElem_mem _, by show ¬ insideB s[k].toNat = true; simp [hb]⟩
  unfold nameF
  rw [this]; simp
end Go.Proofs.YteioennfpkoagaaGreatDoor.C
namespace Go.Proofs.YteioennfpkoagaaGreatDoor.C
open Go.RowKit
attribute [local go_sem ↓] Go.wp_at_zero Go.wp_at_succ

/- a partition's regions: each in itself, and no page twice -/
def regB (r : RegD) : Bool := decide (0 ≤ r.page ∧ r.page ≤ 63 ∧ 1 ≤ r.pages ∧ r.pages ≤ 64 ∧ r.page + r.pages ≤ 64 ∧ (r.rights = 1 ∨ r.rights = 2))
def apartB (a b : RegD) : Bool := decide (a.page + a.pages ≤ b.page ∨ b.page + b.pages ≤ a.page)
def hit (r : RegD) (k : Int) : Prop := r.page ≤ k ∧ k < r.page + r.pages
def RegsOK (rs : List RegD) : Prop := (∀ r ∈ rs, regB r = true) ∧ rs.Pairwise (fun a b => apartB a b = true)
def regsF (rs : List RegD) : Bool := rs.all regB && decide (rs.Pairwise (fun a b => apartB a b = true))
theorem regsF_iff (rs : List RegD) : regsF rs = true ↔ RegsOK rs := by simp [regsF, RegsOK]
theorem regsF_not {rs : List RegD} (h : ¬ RegsOK rs) : regsF rs = false := by rw [← regsF_iff] at h; simpa using h
theorem RegsOK.take {rs : List RegD} (h : RegsOK rs) (k : Nat) : RegsOK (rs.take k) :=
  ⟨fun r hr => h.1 r (List.mem_of_mem_take hr), h.2.sublist (List.take_sublist _ _)⟩
theorem RegsOK.snoc {rs : List RegD} {r : RegD} : RegsOK (rs ++ [r]) ↔ RegsOK rs ∧ regB r = true ∧ ∀ a ∈ rs, apartB a r = true := by
  unfold RegsOK
  rw [List.pairwise_append]
  constructor
  · rintro ⟨h1, h2, _, h4⟩
    exact ⟨⟨fun a ha => h1 a (by simp [ha]), h2⟩, h1 r (by simp), fun a ha => h4 a ha r (by simp)⟩
  · rintro ⟨⟨h1, h2⟩, h3, h4⟩
    refine ⟨fun a ha => ?_, h2, by simp, fun a ha b hb => ?_⟩
    · rcases List.mem_append.1 ha with h | h
      · exact h1 a h
      · rw [List.mem_singleton.1 h]; exact h3
    · rw [List.mem_singleton.1 hb]; exact h4 a ha
theorem take_snocD {α : Type} (l : List α) (k : Nat) (h : k < l.length) : l.take (k + 1) = l.take k ++ [l[k]] := by
  rw [List.take_succ_eq_append_getElem h]
/- the used pages, as the array has them -/
def usedV (u : Nat → Bool) : Array Value := ((List.range 64).map fun j => Value.bool (u j)).toArray
theorem usedV_at (u : Nat → Bool) (j : Nat) (h : j < 64) : (usedV u)[j]? = some (.bool (u j)) := by
  simp [usedV, h]
theorem usedV_set (u : Nat → Bool) (j : Nat) : (usedV u).setIfInBounds j (.bool true) = usedV (fun k => if k = j then true else u k) := by
  apply Array.ext_getElem?
  intro i
  rw [Array.getElem?_setIfInBounds]
  by_cases h : i < 64
  · rw [usedV_at u i h, usedV_at _ i h]
    by_cases e : j = i
    · subst e; simp [usedV, h]
    · rw [if_neg e, if_neg (fun x => e x.symm)]
  · have h1 : (usedV u)[i]? = none := by rw [Array.getElem?_eq_none]; simp [usedV]; omega
    have h2 : (usedV fun k => if k = j then true else u k)[i]? = none := by rw [Array.getElem?_eq_none]; simp [usedV]; omega
    rw [h1, h2]
    split
    · simp [usedV]; omega
    · rfl
theorem used_lit : usedV (fun _ => false) = #[.bool false, .bool false, .bool false, .bool false, .bool false, .bool false, .bool false, .bool false, .bool false, .bool false, .bool false, .bool false, .bool false, .bool false, .bool false, .bool false, .bool false, .bool false, .bool false, .bool false, .bool false, .bool false, .bool false, .bool false, .bool false, .bool false, .bool false, .bool false, .bool false, .bool false, .bool false, .bool false, .bool false, .bool false, .bool false, .bool false, .bool false, .bool false, .bool false, .bool false, .bool false, .bool false, .bool false, .bool false, .bool false, .bool false, .bool false, .bool false, .bool false, .bool false, .bool false, .bool false, .bool false, .bool false, .bool false, .bool false, .bool false, .bool false, .bool false, .bool false, .bool false, .bool false, .bool false, .bool false] := by kernel_rfl

theorem regs_bad {rs : List RegD} {k : Nat} (hk : k < rs.length) (h : regB rs[k] = false) : regsF rs = false := by
  apply regsF_not
  intro ho
  have := ho.1 rs[k] (List.getElem_mem _)
  rw [h] at this; cases this
theorem regs_hit {rs : List RegD} {k : Nat} {q : Int} (hk : k < rs.length) (h1 : hit rs[k] q) (h2 : ∃ a ∈ rs.take k, hit a q) : regsF rs = false := by
  apply regsF_not
  intro ho
  have := ho.take (k + 1)
  rw [take_snocD rs k hk, RegsOK.snoc] at this
  obtain ⟨a, ha, hq⟩ := h2
  have := this.2.2 a ha
  unfold apartB at this
  unfold hit at h1 hq
  simp at this
  omega
theorem regs_step {rs : List RegD} {k : Nat} (hk : k < rs.length) (h0 : RegsOK (rs.take k)) (hb : regB rs[k] = true) (h : ∀ q : Nat, q < 64 → hit rs[k] q → ¬ ∃ a ∈ rs.take k, hit a q) : RegsOK (rs.take (k + 1)) := by
  rw [take_snocD rs k hk, RegsOK.snoc]
  refine ⟨h0, hb, fun a ha => ?_⟩
  have ha' := h0.1 a ha
  unfold regB at hb ha'
  unfold apartB
  simp only [decide_eq_true_eq] at *
  rcases Int.lt_or_le a.page rs[k].page with hlt | hle
  · rcases Int.lt_or_le rs[k].page (a.page + a.pages) with h1 | h1
    · exfalso
      refine h rs[k].page.toNat (by omega) ?_ ⟨a, ha, ?_⟩ <;> unfold hit <;> omega
    · omega
  · rcases Int.lt_or_le a.page (rs[k].page + rs[k].pages) with h1 | h1
    · exfalso
      refine h a.page.toNat (by omega) ?_ ⟨a, ha, ?_⟩ <;> unfold hit <;> omega
    · omega
theorem hit_step {rs : List RegD} {k : Nat} (hk : k < rs.length) (q : Nat) : (∃ a ∈ rs.take (k + 1), hit a q) ↔ (∃ a ∈ rs.take k, hit a q) ∨ hit rs[k] q := by
  rw [take_snocD rs k hk]
  constructor
  · rintro ⟨a, ha, h⟩
    rcases List.mem_append.1 ha with h1 | h1
    · exact .inl ⟨a, h1, h⟩
    · rw [List.mem_singleton.1 h1] at h; exact .inr h
  · rintro (⟨a, ha, h⟩ | h)
    · exact ⟨a, List.mem_append.2 (.inl ha), h⟩
    · exact ⟨rs[k], List.mem_append.2 (.inr (List.mem_singleton.2 rfl)), h⟩
theorem wrap_small (n : Int) (h1 : -4611686018427387904 ≤ n) (h2 : n ≤ 4611686018427387904) : IntKind.i64.wrap n = n := by
  simp [IntKind.wrap, IntKind.bits, IntKind.signed]
  omega
end Go.Proofs.YteioennfpkoagaaGreatDoor.C
namespace Go.Proofs.YteioennfpkoagaaGreatDoor.C
open Go.RowKit
attribute [local go_sem ↓] Go.wp_at_zero Go.wp_at_succ

def PartsV (w : World) (v : Value) (ps : List PartD) : Prop :=
  ∃ va cap, v = .slice va ps.length cap ∧ ∀ i (h : i < ps.length), ∃ b off rv, va = some ⟨b, off, none⟩ ∧
    w.cell? ⟨b, off + i * 5, none⟩ = some (.string ps[i].name) ∧ w.cell? ⟨b, off + i * 5 + 1, none⟩ = some (.int .i64 ps[i].period) ∧ w.cell? ⟨b, off + i * 5 + 2, none⟩ = some (.int .i64 ps[i].duration) ∧
    w.cell? ⟨b, off + i * 5 + 3, none⟩ = some (.int .i64 ps[i].action) ∧ w.cell? ⟨b, off + i * 5 + 4, none⟩ = some rv ∧ RegsV w rv ps[i].regs
theorem PartsV.below {w w' : World} {v : Value} {ps : List PartD} (h : PartsV w v ps) (hb : Below w.heap.size w w') : PartsV w' v ps := by
  obtain ⟨va, cap, e, hc⟩ := h
  refine ⟨va, cap, e, fun i hi => ?_⟩
  obtain ⟨b, off, rv, e1, h1, h2, h3, h4, h5, h6⟩ := hc i hi
  have hlt := World.block_lt_of_cell? w _ h1
  exact ⟨b, off, rv, e1, (hb.cell (by exact hlt)).trans h1, (hb.cell (by exact hlt)).trans h2, (hb.cell (by exact hlt)).trans h3, (hb.cell (by exact hlt)).trans h4, (hb.cell (by exact hlt)).trans h5, h6.below hb⟩
def ChansV (w : World) (v : Value) (cs : List ChanD) : Prop :=
  ∃ va cap, v = .slice va cs.length cap ∧ ∀ i (h : i < cs.length), ∃ b off, va = some ⟨b, off, none⟩ ∧
    w.cell? ⟨b, off + i * 6, none⟩ = some (.string cs[i].name) ∧ w.cell? ⟨b, off + i * 6 + 1, none⟩ = some (.int .i64 cs[i].source) ∧ w.cell? ⟨b, off + i * 6 + 2, none⟩ = some (.int .i64 cs[i].target) ∧
    w.cell? ⟨b, off + i * 6 + 3, none⟩ = some (.int .i64 cs[i].kind) ∧ w.cell? ⟨b, off + i * 6 + 4, none⟩ = some (.int .i64 cs[i].size) ∧ w.cell? ⟨b, off + i * 6 + 5, none⟩ = some (.int .i64 cs[i].depth)
theorem ChansV.below {w w' : World} {v : Value} {cs : List ChanD} (h : ChansV w v cs) (hb : Below w.heap.size w w') : ChansV w' v cs := by
  obtain ⟨va, cap, e, hc⟩ := h
  refine ⟨va, cap, e, fun i hi => ?_⟩
  obtain ⟨b, off, e1, h1, h2, h3, h4, h5, h6⟩ := hc i hi
  have hlt := World.block_lt_of_cell? w _ h1
  exact ⟨b, off, e1, (hb.cell (by exact hlt)).trans h1, (hb.cell (by exact hlt)).trans h2, (hb.cell (by exact hlt)).trans h3, (hb.cell (by exact hlt)).trans h4, (hb.cell (by exact hlt)).trans h5, (hb.cell (by exact hlt)).trans h6⟩

/- what is wrong with a partition: those ahead of it are given -/
def freshP (bef : List PartD) (x : PartD) : Bool := bef.all fun p => p.name.toList != x.name.toList
def partErr (frame : Int) (bef : List PartD) (x : PartD) : Int :=
  if (nameF x.name.data.toList && freshP bef x) = false then 7
  else if x.period < 1 ∨ frame < x.period ∨ frame % x.period ≠ 0 then 8
  else if x.duration < 1 ∨ x.period < x.duration then 9
  else if x.action < 1 ∨ 3 < x.action then 10
  else if regsF x.regs = false then 11 else 0
theorem freshP_step {ps : List PartD} {k : Nat} (hk : k < ps.length) (x : PartD) : freshP (ps.take (k + 1)) x = (freshP (ps.take k) x && (ps[k].name.toList != x.name.toList)) := by
  unfold freshP
  rw [take_snocD ps k hk, List.all_append]; simp

theorem below_drewN {B : Nat} {a w : World} (h : Below B a w) (n : Nat) : Below B a (w.drewN n) := ⟨h.os, h.tape, h.output, h.size, h.block⟩
end Go.Proofs.YteioennfpkoagaaGreatDoor.C
namespace Go.Proofs.YteioennfpkoagaaGreatDoor.C
open Go.RowKit
attribute [local go_sem ↓] Go.wp_at_zero Go.wp_at_succ

/- what is wrong with a channel: those ahead of it, and how many partitions there are, are given -/
def freshC (bef : List ChanD) (x : ChanD) : Bool := bef.all fun p => p.name.toList != x.name.toList
def chanErr (frame : Int) (n : Nat) (bef : List ChanD) (c : ChanD) : Int :=
  if (nameF c.name.data.toList && freshC bef c) = false then 7
  else if c.source < 0 ∨ (n : Int) ≤ c.source ∨ c.target < 0 ∨ (n : Int) ≤ c.target ∨ c.source = c.target then 12
  else if ¬ c.kind = 1 ∧ ¬ c.kind = 2 then 13
  else if c.size < 1 ∨ 32 < c.size then 14
  else if c.depth < 1 ∨ (if c.kind = 1 then 8 else frame) < c.depth then 15 else 0
theorem freshC_step {cs : List ChanD} {k : Nat} (hk : k < cs.length) (x : ChanD) : freshC (cs.take (k + 1)) x = (freshC (cs.take k) x && (cs[k].name.toList != x.name.toList)) := by
  unfold freshC
  rw [take_snocD cs k hk, List.all_append]; simp
end Go.Proofs.YteioennfpkoagaaGreatDoor.C
namespace Go.Proofs.YteioennfpkoagaaGreatDoor.C
open Go.RowKit
attribute [local go_sem ↓] Go.wp_at_zero Go.wp_at_succ

def firstNZ (f : Nat → Int) : Nat → Int
  | 0 => 0
  | n + 1 => if firstNZ f n = 0 then f n else firstNZ f n
theorem firstNZ_stop {f : Nat → Int} {i n : Nat} (h0 : firstNZ f i = 0) (h1 : ¬ f i = 0) (hi : i < n) : firstNZ f n = f i := by
  induction n with
  | zero => omega
  | succ n ih =>
    rcases Nat.lt_or_ge i n with h | h
    · have := ih h
      show (if firstNZ f n = 0 then f n else firstNZ f n) = f i
      rw [this, if_neg h1]
    · have : i = n := by omega
      subst this
      show (if firstNZ f i = 0 then f i else firstNZ f i) = f i
      rw [if_pos h0]
theorem firstNZ_step {f : Nat → Int} {i : Nat} (h0 : firstNZ f i = 0) (h1 : f i = 0) : firstNZ f (i + 1) = 0 := by
  show (if firstNZ f i = 0 then f i else firstNZ f i) = 0
  rw [if_pos h0, h1]
theorem firstNZ_all {f : Nat → Int} {n i : Nat} (h : firstNZ f n = 0) (hi : i < n) : f i = 0 := by
  rcases Decidable.em (f i = 0) with e | e
  · exact e
  · exfalso
    have h0 : ∀ m, m ≤ n → firstNZ f m = 0 := by
      intro m hm
      induction n with
      | zero => have : m = 0 := by omega
                subst this; rfl
      | succ n ih =>
        have hn : firstNZ f n = 0 := by
          rcases Decidable.em (firstNZ f n = 0) with e | e
          · exact e
          · have : (if firstNZ f n = 0 then f n else firstNZ f n) = 0 := h
            rw [if_neg e] at this; exact absurd this e
        rcases Nat.lt_or_ge n m with h' | h'
        · have : m = n + 1 := by omega
          subst this; exact h
        · rcases Nat.lt_or_ge i n with h2 | h2
          · exact ih hn h2 h'
          · have : i = n := by omega
            subst this
            exfalso
            have : (if firstNZ f i = 0 then f i else firstNZ f i) = 0 := h
            rw [if_pos hn] at this; exact e this
    rw [firstNZ_stop (h0 i (by omega)) e hi] at h
    exact e h
def partAt (M : ManD) (i : Nat) : Int := if h : i < M.parts.length then partErr M.frame (M.parts.take i) M.parts[i] else 0
def chanAt (M : ManD) (i : Nat) : Int := if h : i < M.chans.length then chanErr M.frame M.parts.length (M.chans.take i) M.chans[i] else 0
def wideB (ps : List PartD) : Bool := ps.any fun p => decide ((4 : Int) < (p.regs.length : Int))
def manyB (M : ManD) : Bool := decide (M.parts.length < 1) || decide (8 < M.parts.length) || decide (8 < M.chans.length) || wideB M.parts
def ticksF (f : Int) (ps : List PartD) : Int := (ps.map fun p => f / p.period * p.duration).sum
def regPages (rs : List RegD) : Int := (rs.map RegD.pages).sum
def pagesF (ps : List PartD) : Int := (ps.map fun p => regPages p.regs).sum
def checkF (M : ManD) : Int :=
  if M.frame < 1 ∨ 240 < M.frame then 5
  else if manyB M = true then 6
  else if ¬ firstNZ (partAt M) M.parts.length = 0 then firstNZ (partAt M) M.parts.length
  else if ¬ firstNZ (chanAt M) M.chans.length = 0 then firstNZ (chanAt M) M.chans.length
  else if M.frame < ticksF M.frame M.parts then 16
  else if 64 < pagesF M.parts then 17 else 0
theorem wideB_step {ps : List PartD} {k : Nat} (hk : k < ps.length) : wideB (ps.take (k + 1)) = (wideB (ps.take k) || decide ((4 : Int) < (ps[k].regs.length : Int))) := by
  unfold wideB
  rw [take_snocD ps k hk, List.any_append]; simp
theorem ticksF_step (f : Int) {ps : List PartD} {k : Nat} (hk : k < ps.length) : ticksF f (ps.take (k + 1)) = ticksF f (ps.take k) + f / ps[k].period * ps[k].duration := by
  unfold ticksF
  rw [take_snocD ps k hk, List.map_append, List.sum_append]; simp
theorem pagesF_step {ps : List PartD} {k : Nat} (hk : k < ps.length) : pagesF (ps.take (k + 1)) = pagesF (ps.take k) + regPages ps[k].regs := by
  unfold pagesF
  rw [take_snocD ps k hk, List.map_append, List.sum_append]; simp
theorem regPages_step {rs : List RegD} {k : Nat} (hk : k < rs.length) : regPages (rs.take (k + 1)) = regPages (rs.take k) + rs[k].pages := by
  unfold regPages
  rw [take_snocD rs k hk, List.map_append, List.sum_append]; simp
/- what a right partition gives -/
theorem partErr_ok {f : Int} {bef : List PartD} {x : PartD} (h : partErr f bef x = 0) : 1 ≤ x.period ∧ x.period ≤ f ∧ 1 ≤ x.duration ∧ x.duration ≤ x.period ∧ 1 ≤ x.action ∧ x.action ≤ 3 ∧ RegsOK x.regs := by
  unfold partErr at h
  split at h
  · cases h
  split at h
  · cases h
  split at h
  · cases h
  split at h
  · cases h
  split at h
  · cases h
  rename_i h1 h2 h3 h4
  refine ⟨by omega, by omega, by omega, by omega, by omega, by omega, ?_⟩
  rw [← regsF_iff]; simpa using h4
theorem regPages_bd {rs : List RegD} (h : RegsOK rs) (k : Nat) : 0 ≤ regPages (rs.take k) ∧ regPages (rs.take k) ≤ 64 * k := by
  induction k with
  | zero => simp [regPages]
  | succ k ih =>
    rcases Nat.lt_or_ge k rs.length with hk | hk
    · rw [regPages_step hk]
      have := h.1 rs[k] (List.getElem_mem _)
      unfold regB at this
      simp at this
      omega
    · rw [List.take_of_length_le (by omega)] at *
      omega
end Go.Proofs.YteioennfpkoagaaGreatDoor.C
namespace Go.Proofs.YteioennfpkoagaaGreatDoor.C
open Go.RowKit
attribute [local go_sem ↓] Go.wp_at_zero Go.wp_at_succ

theorem many_true {M : ManD} (h : M.parts.length < 1 ∨ 8 < M.parts.length ∨ 8 < M.chans.length) : manyB M = true := by
  unfold manyB
  rcases h with h | h | h <;> simp [h]
theorem many_wide {M : ManD} (h : ¬ (M.parts.length < 1 ∨ 8 < M.parts.length ∨ 8 < M.chans.length)) : manyB M = wideB M.parts := by
  unfold manyB
  have h1 : decide (M.parts.length < 1) = false := by rw [decide_eq_false_iff_not]; omega
  have h2 : decide (8 < M.parts.length) = false := by rw [decide_eq_false_iff_not]; omega
  have h3 : decide (8 < M.chans.length) = false := by rw [decide_eq_false_iff_not]; omega
  rw [h1, h2, h3]; rfl
theorem wide_len {ps : List PartD} (h : wideB ps = false) (k : Nat) (hk : k < ps.length) : ps[k].regs.length ≤ 4 := by
  unfold wideB at h
  rw [List.any_eq_false] at h
  have := h ps[k] (List.getElem_mem _)
  simp at this
  omega
theorem ticks_one {f p d : Int} (h1 : 1 ≤ p) (h2 : p ≤ f) (h3 : 1 ≤ d) (h4 : d ≤ p) (h5 : f ≤ 240) : 0 ≤ f / p ∧ f / p ≤ 240 ∧ 0 ≤ f / p * d ∧ f / p * d ≤ 240 := by
  have a1 : 0 ≤ f / p := Int.ediv_nonneg (by omega) (by omega)
  have a2 : f / p * p ≤ f := Int.ediv_mul_le f (by omega)
  have a3 : f / p * d ≤ f / p * p := Int.mul_le_mul_of_nonneg_left h4 a1
  have a4 : f / p * 1 ≤ f / p * p := Int.mul_le_mul_of_nonneg_left h1 a1
  have a5 : 0 ≤ f / p * d := Int.mul_nonneg a1 (by omega)
  exact ⟨a1, by omega, a5, by omega⟩
end Go.Proofs.YteioennfpkoagaaGreatDoor.C
namespace Go.Proofs.YteioennfpkoagaaGreatDoor
open Go.RowKit

/- texts made of gaps and tokens -/
def notIn (rest : List UInt8) : Prop := ∀ b, rest.head? = some b → insideB b.toNat = false
theorem runF_full {r : List UInt8} (h : runF r = r.length) (rest : List UInt8) (hn : notIn rest) : runF (r ++ rest) = r.length := by
  induction r with
  | nil =>
    cases rest with
    | nil => rfl
    | cons b l => simp only [List.nil_append, runF]; rw [if_neg (by rw [hn b rfl]; simp)]; rfl
  | cons b r ih =>
    have hle := runF_le r
    simp only [runF, List.length_cons] at h
    split at h
    · rename_i hb
      simp only [List.cons_append, runF, List.length_cons]
      rw [if_pos hb, ih (by omega)]
    · omega
def isTok (t : List UInt8) : Prop := t ≠ [] ∧ (tokF t).1 = t.length ∧ (tokF t).2 ≠ 4
theorem tok_app {t : List UInt8} (h : isTok t) (rest : List UInt8) (hn : (tokF t).2 = 1 ∨ (tokF t).2 = 2 → notIn rest) : tokF (t ++ rest) = tokF t := by
  obtain ⟨h0, h1, h2⟩ := h
  cases t with
  | nil => exact absurd rfl h0
  | cons b r =>
    cases hs : smallB b.toNat
    · cases hd : digitB b.toNat
      · rw [tok_none hs hd] at h1 h2
        rw [List.cons_append, tok_none hs hd, tok_none hs hd]
        by_cases h3 : b.toNat = 123 ∨ b.toNat = 125 ∨ b.toNat = 59
        · rw [if_pos h3, if_pos h3]
        · rw [if_neg h3, if_neg h3]
          rw [if_neg h3] at h1 h2
          by_cases h4 : b.toNat = 45 ∧ r.head?.map UInt8.toNat = some 62
          · rw [if_pos h4]
            cases r with
            | nil => simp at h4
            | cons c r => rw [if_pos (by simpa using h4)]
          · rw [if_neg h4] at h2; exact absurd rfl h2
      · rw [tok_number hs hd] at h1 hn
        rw [List.cons_append, tok_number hs hd, tok_number hs hd]
        simp only [List.length_cons] at h1
        rw [runF_full (by omega) rest (hn (.inr rfl))]
        simp; omega
    · rw [tok_word hs] at h1 hn
      rw [List.cons_append, tok_word hs, tok_word hs]
      simp only [List.length_cons] at h1
      rw [runF_full (by omega) rest (hn (.inl rfl))]
      simp; omega
/- what a gap leaves behind: false: outside a remark -/
def gapS : Bool → List UInt8 → Option Bool
  | r, [] => some r
  | r, b :: l => if b.toNat = 10 then gapS false l else if b.toNat = 35 then gapS true l else if b.toNat = 32 ∨ r = true then gapS r l else none
theorem gapS_app {r r' : Bool} {g : List UInt8} (h : gapS r g = some r') (rest : List UInt8) : gapF r (g ++ rest) = g.length + gapF r' rest := by
  induction g generalizing r with
  | nil => simp only [gapS, Option.some.injEq] at h; subst h; simp
  | cons b l ih =>
    simp only [gapS] at h
    simp only [List.cons_append, gapF, List.length_cons]
    by_cases h1 : b.toNat = 10
    · rw [if_pos h1] at h ⊢; rw [ih h]; omega
    rw [if_neg h1] at h ⊢
    by_cases h2 : b.toNat = 35
    · rw [if_pos h2] at h ⊢; rw [ih h]; omega
    rw [if_neg h2] at h ⊢
    by_cases h3 : b.toNat = 32 ∨ r = true
    · rw [if_pos h3] at h ⊢; rw [ih h]; omega
    · rw [if_neg h3] at h; cases h
theorem gapS_cat {r r' r'' : Bool} {g g' : List UInt8} (h : gapS r g = some r') (h' : gapS r' g' = some r'') : gapS r (g ++ g') = some r'' := by
  induction g generalizing r with
  | nil => simp only [gapS, Option.some.injEq] at h; subst h; exact h'
  | cons b l ih =>
    simp only [gapS] at h
    simp only [List.cons_append, gapS]
    by_cases h1 : b.toNat = 10
    · rw [if_pos h1] at h ⊢; exact ih h
    rw [if_neg h1] at h ⊢
    by_cases h2 : b.toNat = 35
    · rw [if_pos h2] at h ⊢; exact ih h
    rw [if_neg h2] at h ⊢
    by_cases h3 : b.toNat = 32 ∨ r = true
    · rw [if_pos h3] at h ⊢; exact ih h
    · rw [if_neg h3] at h; cases h
theorem tok_gap0 {t : List UInt8} (h : isTok t) (rest : List UInt8) : gapF false (t ++ rest) = 0 := by
  obtain ⟨h0, _, h2⟩ := h
  cases t with
  | nil => exact absurd rfl h0
  | cons b r =>
    simp only [List.cons_append, gapF]
    have hb : ¬ b.toNat = 10 ∧ ¬ b.toNat = 35 ∧ ¬ b.toNat = 32 := by
      cases hs : smallB b.toNat
      · cases hd : digitB b.toNat
        · rw [tok_none hs hd] at h2
          by_cases h3 : b.toNat = 123 ∨ b.toNat = 125 ∨ b.toNat = 59
          · omega
          · rw [if_neg h3] at h2
            by_cases h4 : b.toNat = 45 ∧ r.head?.map UInt8.toNat = some 62
            · omega
            · rw [if_neg h4] at h2; exact absurd rfl h2
        · simp [digitB] at hd; omega
      · simp [smallB] at hs; omega
    rw [if_neg hb.1, if_neg hb.2.1, if_neg (by simp [hb.2.2])]
/- a text, and its tokens -/
inductive Txt : List UInt8 → List (List UInt8) → Prop
  | nil {g : List UInt8} (h : gapS false g = some false ∨ gapS false g = some true) : Txt g []
  | cons {g t rest : List UInt8} {ts : List (List UInt8)} (hg : gapS false g = some false) (ht : isTok t) (hn : (tokF t).2 = 1 ∨ (tokF t).2 = 2 → notIn rest) (h : Txt rest ts) : Txt (g ++ (t ++ rest)) (t :: ts)
theorem pos_nil {g : List UInt8} {r : Bool} (h : gapS false g = some r) (k : Nat) : pos g k = g.length := by
  have h0 : pos g 0 = g.length := by
    show gapF false g = _
    have := gapS_app h []
    rw [List.append_nil] at this
    rw [this]
    simp [gapF]
  exact pos_after g 0 k h0 (by omega)
theorem pos_cons0 {g t rest : List UInt8} (hg : gapS false g = some false) (ht : isTok t) : pos (g ++ (t ++ rest)) 0 = g.length := by
  show gapF false _ = _
  rw [gapS_app hg, tok_gap0 ht]; simp
theorem pos_cons {g t rest : List UInt8} (hg : gapS false g = some false) (ht : isTok t) (hn : (tokF t).2 = 1 ∨ (tokF t).2 = 2 → notIn rest) (k : Nat) : pos (g ++ (t ++ rest)) (k + 1) = g.length + t.length + pos rest k := by
  have d0 : (g ++ (t ++ rest)).drop g.length = t ++ rest := by simp
  have dd : ∀ m, (g ++ (t ++ rest)).drop (g.length + t.length + m) = rest.drop m := fun m => by
    rw [← List.append_assoc, show g.length + t.length + m = (g ++ t).length + m by simp, List.drop_append]
    simp
  induction k with
  | zero =>
    simp only [pos]
    rw [show gapF false (g ++ (t ++ rest)) = g.length from pos_cons0 hg ht, d0, tok_app ht rest hn, ht.2.1]
    have := dd 0
    rw [Nat.add_zero, List.drop_zero] at this
    rw [this]
  | succ k ih =>
    conv => lhs; unfold pos
    conv => rhs; rhs; unfold pos
    rw [ih, dd]
    have := dd (pos rest k + (tokF (rest.drop (pos rest k))).1)
    rw [← Nat.add_assoc] at this
    rw [this]
    omega
theorem tk_cons0 {g t rest : List UInt8} (hg : gapS false g = some false) (ht : isTok t) (hn : (tokF t).2 = 1 ∨ (tokF t).2 = 2 → notIn rest) : (tk (g ++ (t ++ rest)) 0).text = t ∧ (tk (g ++ (t ++ rest)) 0).sort = (tokF t).2 := by
  have d0 : (g ++ (t ++ rest)).drop g.length = t ++ rest := by simp
  unfold tk tokAt
  simp only []
  rw [pos_cons0 hg ht, d0, tok_app ht rest hn, ht.2.1]
  simp
theorem tk_cons {g t rest : List UInt8} (hg : gapS false g = some false) (ht : isTok t) (hn : (tokF t).2 = 1 ∨ (tokF t).2 = 2 → notIn rest) (k : Nat) : (tk (g ++ (t ++ rest)) (k + 1)).text = (tk rest k).text ∧ (tk (g ++ (t ++ rest)) (k + 1)).sort = (tk rest k).sort := by
  have dd : ∀ m, (g ++ (t ++ rest)).drop (g.length + t.length + m) = rest.drop m := fun m => by
    rw [← List.append_assoc, show g.length + t.length + m = (g ++ t).length + m by simp, List.drop_append]
    simp
  unfold tk tokAt
  simp only []
  rw [pos_cons hg ht hn, dd]
  exact ⟨rfl, rfl⟩
/- what its tokens are -/
theorem Txt.tk {l : List UInt8} {ts : List (List UInt8)} (h : Txt l ts) : ∀ k (hk : k < ts.length), (tk l k).text = ts[k] ∧ (tk l k).sort = (tokF ts[k]).2 ∧ isTok ts[k] := by
  induction h with
  | nil _ => intro k hk; simp at hk
  | cons hg ht hn _ ih =>
    intro k hk
    cases k with
    | zero => exact ⟨(tk_cons0 hg ht hn).1, (tk_cons0 hg ht hn).2, ht⟩
    | succ k =>
      have h1 := tk_cons hg ht hn k
      have h2 := ih k (by simpa using hk)
      simp only [List.getElem_cons_succ]
      rw [h1.1, h1.2]
      exact h2
theorem Txt.pos_end {l : List UInt8} {ts : List (List UInt8)} (h : Txt l ts) : pos l ts.length = l.length ∧ ∀ j, j < ts.length → pos l j < l.length := by
  induction h with
  | nil h =>
    rcases h with h | h
    · exact ⟨pos_nil h 0, fun j hj => absurd hj (by simp)⟩
    · exact ⟨pos_nil h 0, fun j hj => absurd hj (by simp)⟩
  | @cons g t rest ts hg ht hn _ ih =>
    have h0 : 0 < t.length := List.length_pos_iff.2 ht.1
    refine ⟨?_, fun j hj => ?_⟩
    · rw [List.length_cons, pos_cons hg ht hn, ih.1]; simp; omega
    · cases j with
      | zero => rw [pos_cons0 hg ht]; simp; omega
      | succ j =>
        rw [pos_cons hg ht hn]
        have := ih.2 j (by simpa using hj)
        simp; omega
theorem Txt.tokN {l : List UInt8} {ts : List (List UInt8)} (h : Txt l ts) : TokN l (ts.length + 1) := ⟨by omega, by simpa using h.pos_end.1, by simpa using h.pos_end.2⟩
theorem Txt.end_sort {l : List UInt8} {ts : List (List UInt8)} (h : Txt l ts) : (Go.Proofs.YteioennfpkoagaaGreatDoor.tk l ts.length).sort = 0 := by
  unfold Go.Proofs.YteioennfpkoagaaGreatDoor.tk tokAt
  simp only []
  rw [h.pos_end.1]
  simp [tokF]
end Go.Proofs.YteioennfpkoagaaGreatDoor
namespace Go.Proofs.YteioennfpkoagaaGreatDoor.C
open Go.RowKit

theorem nameF_len {l : List UInt8} (h : nameF l = true) : l.length ≤ 16 := by
  unfold nameF at h; simp at h; omega
theorem partErr_name {f : Int} {bef : List PartD} {x : PartD} (h : partErr f bef x = 0) : x.name.size ≤ 16 := by
  unfold partErr at h
  split at h
  · cases h
  rename_i h1
  have : nameF x.name.data.toList = true := by
    cases hn : nameF x.name.data.toList
    · rw [hn] at h1; simp at h1
    · rfl
  have := nameF_len this
  simpa using this
theorem chanErr_ok {f : Int} {n : Nat} {bef : List ChanD} {c : ChanD} (h : chanErr f n bef c = 0) (hf : 8 ≤ 240 ∧ f ≤ 240) : c.name.size ≤ 16 ∧ 0 ≤ c.source ∧ c.source < n ∧ 0 ≤ c.target ∧ c.target < n ∧ 1 ≤ c.kind ∧ c.kind ≤ 2 ∧ 1 ≤ c.size ∧ c.size ≤ 32 ∧ 1 ≤ c.depth ∧ c.depth ≤ 240 := by
  unfold chanErr at h
  split at h
  · cases h
  split at h
  · cases h
  split at h
  · cases h
  split at h
  · cases h
  rename_i h1 h2 h3 h4
  have hn : nameF c.name.data.toList = true := by
    cases hn : nameF c.name.data.toList
    · rw [hn] at h1; simp at h1
    · rfl
  have := nameF_len hn
  have hd : 1 ≤ c.depth ∧ c.depth ≤ 240 := by
    by_cases hk : c.kind = 1
    · rw [if_pos hk] at h
      split at h
      · cases h
      · omega
    · rw [if_neg hk] at h
      split at h
      · cases h
      · omega
  refine ⟨by simpa using this, ?_⟩
  omega
theorem check_ok {M : ManD} (h : checkF M = 0) : 1 ≤ M.frame ∧ M.frame ≤ 240 ∧ M.parts.length ≤ 8 ∧ M.chans.length ≤ 8 ∧ (∀ k (hk : k < M.parts.length), M.parts[k].regs.length ≤ 4 ∧ partErr M.frame (M.parts.take k) M.parts[k] = 0) ∧ (∀ k (hk : k < M.chans.length), chanErr M.frame M.parts.length (M.chans.take k) M.chans[k] = 0) := by
  unfold checkF at h
  split at h
  · cases h
  split at h
  · cases h
  rename_i h1 h2
  have hm : manyB M = false := by simpa using h2
  have hmany : ¬ (M.parts.length < 1 ∨ 8 < M.parts.length ∨ 8 < M.chans.length) := by
    intro hx; rw [many_true hx] at hm; cases hm
  have hw : wideB M.parts = false := by rw [← many_wide hmany]; exact hm
  split at h
  · rename_i h3; exact absurd h h3
  split at h
  · rename_i h3; exact absurd h h3
  rename_i h3 h4
  have e3 : firstNZ (partAt M) M.parts.length = 0 := by omega
  have e4 : firstNZ (chanAt M) M.chans.length = 0 := by omega
  refine ⟨by omega, by omega, by omega, by omega, fun k hk => ⟨wide_len hw k hk, ?_⟩, fun k hk => ?_⟩
  · have := firstNZ_all e3 hk
    unfold partAt at this; rw [dif_pos hk] at this; exact this
  · have := firstNZ_all e4 hk
    unfold chanAt at this; rw [dif_pos hk] at this; exact this
end Go.Proofs.YteioennfpkoagaaGreatDoor.C
