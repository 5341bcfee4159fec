import Derived.Test.YteioennfpkoagaaGreatDoorRows
import Derived.Test.YteioennfpkoagaaGreatDoorB01
import Derived.WalkKit
import Derived.WalkSpells
import Derived.WalkLawsBesides
import Derived.Deep.RegionHeld3
import Derived.Deep.AppendLies
import Derived.Deep.DrawnRows
import Derived.Deep.QuietTactic
import Derived.BigQuiet
namespace Go.Proofs.YteioennfpkoagaaGreatDoor.C
open Go.RowKit
attribute [local go_sem ↓] Go.wp_at_zero Go.wp_at_succ

/- blocks and cells -/
theorem lt_of_blk {w : World} {b : Nat} {o : Obj} (h : w.heap[b]? = some o) : b < w.heap.size := by
  rcases Nat.lt_or_ge b w.heap.size with h' | h'
  · exact h'
  · rw [Array.getElem?_eq_none h'] at h; cases h
theorem cell_of_blk {w : World} {b i : Nat} {cs : Array Value} {t : TypeId} {fr : Nat × Nat} (h : w.heap[b]? = some (.cells cs t fr)) : w.cell? ⟨b, i, none⟩ = cs[i]? := by
  simp [World.cell?, h]
theorem frozen_of_blk {w : World} {b i : Nat} {cs : Array Value} {t : TypeId} (h : w.heap[b]? = some (.cells cs t (0, 0))) : w.frozen? ⟨b, i, none⟩ = false := by
  simp [World.frozen?, h]
theorem heap_new (w : World) (o : Obj) : (w.alloc o).heap[w.heap.size]? = some o := by
  show (w.heap.push o)[w.heap.size]? = _; simp
theorem heap_old (w : World) (o : Obj) {k : Nat} {x : Obj} (h : w.heap[k]? = some x) : (w.alloc o).heap[k]? = some x := by
  rw [Below.heap_alloc _ _ _ (lt_of_blk h)]; exact h
theorem blk_set {w : World} {b : Nat} {cs : Array Value} {t : TypeId} {fr : Nat × Nat} (i : Nat) (v : Value) (h : w.heap[b]? = some (.cells cs t fr)) :
    (w.setCell ⟨b, i, none⟩ v).heap[b]? = some (.cells (cs.setIfInBounds i v) t fr) := by
  simp [World.setCell, Array.getElem?_modify, h]
theorem blk_far {w : World} {b c : Nat} (i : Nat) (v : Value) (h : c ≠ b) : (w.setCell ⟨b, i, none⟩ v).heap[c]? = w.heap[c]? := Below.heap_setCell _ _ _ _ h

/- a manifest's data -/
structure RegD where
  page : Int
  pages : Int
  rights : Int
structure PartD where
  name : ByteArray
  period : Int
  duration : Int
  action : Int
  regs : List RegD
structure ChanD where
  name : ByteArray
  source : Int
  target : Int
  kind : Int
  size : Int
  depth : Int
structure ManD where
  frame : Int
  parts : List PartD
  chans : List ChanD

/- a list read from memory: wherever it lies, whatever room it has -/
def RegsV (w : World) (v : Value) (rs : List RegD) : Prop :=
  ∃ va cap, v = .slice va rs.length cap ∧ ∀ i (h : i < rs.length), ∃ b off, va = some ⟨b, off, none⟩ ∧
    w.cell? ⟨b, off + i * 3, none⟩ = some (.int .i64 rs[i].page) ∧ w.cell? ⟨b, off + i * 3 + 1, none⟩ = some (.int .i64 rs[i].pages) ∧ w.cell? ⟨b, off + i * 3 + 2, none⟩ = some (.int .i64 rs[i].rights)
theorem RegsV.below {w w' : World} {v : Value} {rs : List RegD} (h : RegsV w v rs) (hb : Below w.heap.size w w') : RegsV w' v rs := by
  obtain ⟨va, cap, e, hc⟩ := h
  refine ⟨va, cap, e, fun i hi => ?_⟩
  obtain ⟨b, off, e1, h1, h2, h3⟩ := hc i hi
  have hlt := World.block_lt_of_cell? w _ h1
  exact ⟨b, off, e1, (hb.cell (by exact hlt)).trans h1, (hb.cell (by exact hlt)).trans h2, (hb.cell (by exact hlt)).trans h3⟩

def nameF (l : List UInt8) : Bool := decide (1 ≤ l.length) && decide (l.length ≤ 16) && (l.head?.map fun b => smallB b.toNat).getD false && l.all fun b => insideB b.toNat

theorem nameF_end {s : ByteArray} (h0 : 1 ≤ s.size) (h1 : s.size ≤ 16) (ha : (s.data.toList.take s.size).all (fun b => insideB b.toNat) = true) : nameF s.data.toList = smallB s[0].toNat := by
  have e : s.data.toList.take s.size = s.data.toList := List.take_of_length_le (by simp)
  rw [e] at ha
  have hd := drop_cons s 0 (by omega)
  simp only [List.drop_zero] at hd
  have hh : s.data.toList.head? = some s[0] := by rw [hd]; rfl
  unfold nameF
  rw [ha, hh]
  simp
  omega
theorem nameF_bad {s : ByteArray} {k : Nat} (hk : k < s.size) (hb : insideB s[k].toNat = false) : nameF s.data.toList = false := by
  have : (s.data.toList.all fun b => insideB b.toNat) = false := by
    rw [List.all_eq_false]
    exact ⟨s.data.toList[k]'(by simpa using hk), List.getElem_mem _, by show ¬ insideB s[k].toNat = true; simp [hb]⟩
  unfold nameF
  rw [this]; simp
end Go.Proofs.YteioennfpkoagaaGreatDoor.C
namespace Go.Proofs.YteioennfpkoagaaGreatDoor.C
open Go.RowKit
attribute [local go_sem ↓] Go.wp_at_zero Go.wp_at_succ

/- a partition's regions: each in itself, and no page twice -/
def regB (r : RegD) : Bool := decide (0 ≤ r.page ∧ r.page ≤ 63 ∧ 1 ≤ r.pages ∧ r.pages ≤ 64 ∧ r.page + r.pages ≤ 64 ∧ (r.rights = 1 ∨ r.rights = 2))
def apartB (a b : RegD) : Bool := decide (a.page + a.pages ≤ b.page ∨ b.page + b.pages ≤ a.page)
def hit (r : RegD) (k : Int) : Prop := r.page ≤ k ∧ k < r.page + r.pages
def RegsOK (rs : List RegD) : Prop := (∀ r ∈ rs, regB r = true) ∧ rs.Pairwise (fun a b => apartB a b = true)
def regsF (rs : List RegD) : Bool := rs.all regB && decide (rs.Pairwise (fun a b => apartB a b = true))
theorem regsF_iff (rs : List RegD) : regsF rs = true ↔ RegsOK rs := by simp [regsF, RegsOK]
theorem regsF_not {rs : List RegD} (h : ¬ RegsOK rs) : regsF rs = false := by rw [← regsF_iff] at h; simpa using h
theorem RegsOK.take {rs : List RegD} (h : RegsOK rs) (k : Nat) : RegsOK (rs.take k) :=
  ⟨fun r hr => h.1 r (List.mem_of_mem_take hr), h.2.sublist (List.take_sublist _ _)⟩
theorem RegsOK.snoc {rs : List RegD} {r : RegD} : RegsOK (rs ++ [r]) ↔ RegsOK rs ∧ regB r = true ∧ ∀ a ∈ rs, apartB a r = true := by
  unfold RegsOK
  rw [List.pairwise_append]
  constructor
  · rintro ⟨h1, h2, _, h4⟩
    exact ⟨⟨fun a ha => h1 a (by simp [ha]), h2⟩, h1 r (by simp), fun a ha => h4 a ha r (by simp)⟩
  · rintro ⟨⟨h1, h2⟩, h3, h4⟩
    refine ⟨fun a ha => ?_, h2, by simp, fun a ha b hb => ?_⟩
    · rcases List.mem_append.1 ha with h | h
      · exact h1 a h
      · rw [List.mem_singleton.1 h]; exact h3
    · rw [List.mem_singleton.1 hb]; exact h4 a ha
theorem take_snocD {α : Type} (l : List α) (k : Nat) (h : k < l.length) : l.take (k + 1) = l.take k ++ [l[k]] := by
  rw [List.take_succ_eq_append_getElem h]
/- the used pages, as the array has them -/
def usedV (u : Nat → Bool) : Array Value := ((List.range 64).map fun j => Value.bool (u j)).toArray
theorem usedV_at (u : Nat → Bool) (j : Nat) (h : j < 64) : (usedV u)[j]? = some (.bool (u j)) := by
  simp [usedV, h]
theorem usedV_set (u : Nat → Bool) (j : Nat) : (usedV u).setIfInBounds j (.bool true) = usedV (fun k => if k = j then true else u k) := by
  apply Array.ext_getElem?
  intro i
  rw [Array.getElem?_setIfInBounds]
  by_cases h : i < 64
  · rw [usedV_at u i h, usedV_at _ i h]
    by_cases e : j = i
    · subst e; simp [usedV, h]
    · rw [if_neg e, if_neg (fun x => e x.symm)]
  · have h1 : (usedV u)[i]? = none := by rw [Array.getElem?_eq_none]; simp [usedV]; omega
    have h2 : (usedV fun k => if k = j then true else u k)[i]? = none := by rw [Array.getElem?_eq_none]; simp [usedV]; omega
    rw [h1, h2]
    split
    · simp [usedV]; omega
    · rfl
theorem used_lit : usedV (fun _ => false) = #[.bool false, .bool false, .bool false, .bool false, .bool false, .bool false, .bool false, .bool false, .bool false, .bool false, .bool false, .bool false, .bool false, .bool false, .bool false, .bool false, .bool false, .bool false, .bool false, .bool false, .bool false, .bool false, .bool false, .bool false, .bool false, .bool false, .bool false, .bool false, .bool false, .bool false, .bool false, .bool false, .bool false, .bool false, .bool false, .bool false, .bool false, .bool false, .bool false, .bool false, .bool false, .bool false, .bool false, .bool false, .bool false, .bool false, .bool false, .bool false, .bool false, .bool false, .bool false, .bool false, .bool false, .bool false, .bool false, .bool false, .bool false, .bool false, .bool false, .bool false, .bool false, .bool false, .bool false, .bool false] := by kernel_rfl

theorem regs_bad {rs : List RegD} {k : Nat} (hk : k < rs.length) (h : regB rs[k] = false) : regsF rs = false := by
  apply regsF_not
  intro ho
  have := ho.1 rs[k] (List.getElem_mem _)
  rw [h] at this; cases this
theorem regs_hit {rs : List RegD} {k : Nat} {q : Int} (hk : k < rs.length) (h1 : hit rs[k] q) (h2 : ∃ a ∈ rs.take k, hit a q) : regsF rs = false := by
  apply regsF_not
  intro ho
  have := ho.take (k + 1)
  rw [take_snocD rs k hk, RegsOK.snoc] at this
  obtain ⟨a, ha, hq⟩ := h2
  have := this.2.2 a ha
  unfold apartB at this
  unfold hit at h1 hq
  simp at this
  omega
theorem regs_step {rs : List RegD} {k : Nat} (hk : k < rs.length) (h0 : RegsOK (rs.take k)) (hb : regB rs[k] = true) (h : ∀ q : Nat, q < 64 → hit rs[k] q → ¬ ∃ a ∈ rs.take k, hit a q) : RegsOK (rs.take (k + 1)) := by
  rw [take_snocD rs k hk, RegsOK.snoc]
  refine ⟨h0, hb, fun a ha => ?_⟩
  have ha' := h0.1 a ha
  unfold regB at hb ha'
  unfold apartB
  simp only [decide_eq_true_eq] at *
  rcases Int.lt_or_le a.page rs[k].page with hlt | hle
  · rcases Int.lt_or_le rs[k].page (a.page + a.pages) with h1 | h1
    · exfalso
      refine h rs[k].page.toNat (by omega) ?_ ⟨a, ha, ?_⟩ <;> unfold hit <;> omega
    · omega
  · rcases Int.lt_or_le a.page (rs[k].page + rs[k].pages) with h1 | h1
    · exfalso
      refine h a.page.toNat (by omega) ?_ ⟨a, ha, ?_⟩ <;> unfold hit <;> omega
    · omega
theorem hit_step {rs : List RegD} {k : Nat} (hk : k < rs.length) (q : Nat) : (∃ a ∈ rs.take (k + 1), hit a q) ↔ (∃ a ∈ rs.take k, hit a q) ∨ hit rs[k] q := by
  rw [take_snocD rs k hk]
  constructor
  · rintro ⟨a, ha, h⟩
    rcases List.mem_append.1 ha with h1 | h1
    · exact .inl ⟨a, h1, h⟩
    · rw [List.mem_singleton.1 h1] at h; exact .inr h
  · rintro (⟨a, ha, h⟩ | h)
    · exact ⟨a, List.mem_append.2 (.inl ha), h⟩
    · exact ⟨rs[k], List.mem_append.2 (.inr (List.mem_singleton.2 rfl)), h⟩
theorem wrap_small (n : Int) (h1 : -4611686018427387904 ≤ n) (h2 : n ≤ 4611686018427387904) : IntKind.i64.wrap n = n := by
  simp [IntKind.wrap, IntKind.bits, IntKind.signed]
  omega
end Go.Proofs.YteioennfpkoagaaGreatDoor.C
namespace Go.Proofs.YteioennfpkoagaaGreatDoor.C
open Go.RowKit
attribute [local go_sem ↓] Go.wp_at_zero Go.wp_at_succ

def PartsV (w : World) (v : Value) (ps : List PartD) : Prop :=
  ∃ va cap, v = .slice va ps.length cap ∧ ∀ i (h : i < ps.length), ∃ b off rv, va = some ⟨b, off, none⟩ ∧
    w.cell? ⟨b, off + i * 5, none⟩ = some (.string ps[i].name) ∧ w.cell? ⟨b, off + i * 5 + 1, none⟩ = some (.int .i64 ps[i].period) ∧ w.cell? ⟨b, off + i * 5 + 2, none⟩ = some (.int .i64 ps[i].duration) ∧
    w.cell? ⟨b, off + i * 5 + 3, none⟩ = some (.int .i64 ps[i].action) ∧ w.cell? ⟨b, off + i * 5 + 4, none⟩ = some rv ∧ RegsV w rv ps[i].regs
theorem PartsV.below {w w' : World} {v : Value} {ps : List PartD} (h : PartsV w v ps) (hb : Below w.heap.size w w') : PartsV w' v ps := by
  obtain ⟨va, cap, e, hc⟩ := h
  refine ⟨va, cap, e, fun i hi => ?_⟩
  obtain ⟨b, off, rv, e1, h1, h2, h3, h4, h5, h6⟩ := hc i hi
  have hlt := World.block_lt_of_cell? w _ h1
  exact ⟨b, off, rv, e1, (hb.cell (by exact hlt)).trans h1, (hb.cell (by exact hlt)).trans h2, (hb.cell (by exact hlt)).trans h3, (hb.cell (by exact hlt)).trans h4, (hb.cell (by exact hlt)).trans h5, h6.below hb⟩
def ChansV (w : World) (v : Value) (cs : List ChanD) : Prop :=
  ∃ va cap, v = .slice va cs.length cap ∧ ∀ i (h : i < cs.length), ∃ b off, va = some ⟨b, off, none⟩ ∧
    w.cell? ⟨b, off + i * 6, none⟩ = some (.string cs[i].name) ∧ w.cell? ⟨b, off + i * 6 + 1, none⟩ = some (.int .i64 cs[i].source) ∧ w.cell? ⟨b, off + i * 6 + 2, none⟩ = some (.int .i64 cs[i].target) ∧
    w.cell? ⟨b, off + i * 6 + 3, none⟩ = some (.int .i64 cs[i].kind) ∧ w.cell? ⟨b, off + i * 6 + 4, none⟩ = some (.int .i64 cs[i].size) ∧ w.cell? ⟨b, off + i * 6 + 5, none⟩ = some (.int .i64 cs[i].depth)
theorem ChansV.below {w w' : World} {v : Value} {cs : List ChanD} (h : ChansV w v cs) (hb : Below w.heap.size w w') : ChansV w' v cs := by
  obtain ⟨va, cap, e, hc⟩ := h
  refine ⟨va, cap, e, fun i hi => ?_⟩
  obtain ⟨b, off, e1, h1, h2, h3, h4, h5, h6⟩ := hc i hi
  have hlt := World.block_lt_of_cell? w _ h1
  exact ⟨b, off, e1, (hb.cell (by exact hlt)).trans h1, (hb.cell (by exact hlt)).trans h2, (hb.cell (by exact hlt)).trans h3, (hb.cell (by exact hlt)).trans h4, (hb.cell (by exact hlt)).trans h5, (hb.cell (by exact hlt)).trans h6⟩

/- what is wrong with a partition: those ahead of it are given -/
def freshP (bef : List PartD) (x : PartD) : Bool := bef.all fun p => p.name.toList != x.name.toList
def partErr (frame : Int) (bef : List PartD) (x : PartD) : Int :=
  if (nameF x.name.data.toList && freshP bef x) = false then 7
  else if x.period < 1 ∨ frame < x.period ∨ frame % x.period ≠ 0 then 8
  else if x.duration < 1 ∨ x.period < x.duration then 9
  else if x.action < 1 ∨ 3 < x.action then 10
  else if regsF x.regs = false then 11 else 0
theorem freshP_step {ps : List PartD} {k : Nat} (hk : k < ps.length) (x : PartD) : freshP (ps.take (k + 1)) x = (freshP (ps.take k) x && (ps[k].name.toList != x.name.toList)) := by
  unfold freshP
  rw [take_snocD ps k hk, List.all_append]; simp

theorem below_drewN {B : Nat} {a w : World} (h : Below B a w) (n : Nat) : Below B a (w.drewN n) := ⟨h.os, h.tape, h.output, h.size, h.block⟩
end Go.Proofs.YteioennfpkoagaaGreatDoor.C
namespace Go.Proofs.YteioennfpkoagaaGreatDoor.C
open Go.RowKit
attribute [local go_sem ↓] Go.wp_at_zero Go.wp_at_succ

/- what is wrong with a channel: those ahead of it, and how many partitions there are, are given -/
def freshC (bef : List ChanD) (x : ChanD) : Bool := bef.all fun p => p.name.toList != x.name.toList
def chanErr (frame : Int) (n : Nat) (bef : List ChanD) (c : ChanD) : Int :=
  if (nameF c.name.data.toList && freshC bef c) = false then 7
  else if c.source < 0 ∨ (n : Int) ≤ c.source ∨ c.target < 0 ∨ (n : Int) ≤ c.target ∨ c.source = c.target then 12
  else if ¬ c.kind = 1 ∧ ¬ c.kind = 2 then 13
  else if c.size < 1 ∨ 32 < c.size then 14
  else if c.depth < 1 ∨ (if c.kind = 1 then 8 else frame) < c.depth then 15 else 0
theorem freshC_step {cs : List ChanD} {k : Nat} (hk : k < cs.length) (x : ChanD) : freshC (cs.take (k + 1)) x = (freshC (cs.take k) x && (cs[k].name.toList != x.name.toList)) := by
  unfold freshC
  rw [take_snocD cs k hk, List.all_append]; simp
end Go.Proofs.YteioennfpkoagaaGreatDoor.C
namespace Go.Proofs.YteioennfpkoagaaGreatDoor.C
open Go.RowKit
attribute [local go_sem ↓] Go.wp_at_zero Go.wp_at_succ

def firstNZ (f : Nat → Int) : Nat → Int
  | 0 => 0
  | n + 1 => if firstNZ f n = 0 then f n else firstNZ f n
theorem firstNZ_stop {f : Nat → Int} {i n : Nat} (h0 : firstNZ f i = 0) (h1 : ¬ f i = 0) (hi : i < n) : firstNZ f n = f i := by
  induction n with
  | zero => omega
  | succ n ih =>
    rcases Nat.lt_or_ge i n with h | h
    · have := ih h
      show (if firstNZ f n = 0 then f n else firstNZ f n) = f i
      rw [this, if_neg h1]
    · have : i = n := by omega
      subst this
      show (if firstNZ f i = 0 then f i else firstNZ f i) = f i
      rw [if_pos h0]
theorem firstNZ_step {f : Nat → Int} {i : Nat} (h0 : firstNZ f i = 0) (h1 : f i = 0) : firstNZ f (i + 1) = 0 := by
  show (if firstNZ f i = 0 then f i else firstNZ f i) = 0
  rw [if_pos h0, h1]
theorem firstNZ_all {f : Nat → Int} {n i : Nat} (h : firstNZ f n = 0) (hi : i < n) : f i = 0 := by
  rcases Decidable.em (f i = 0) with e | e
  · exact e
  · exfalso
    have h0 : ∀ m, m ≤ n → firstNZ f m = 0 := by
      intro m hm
      induction n with
      | zero => have : m = 0 := by omega
                subst this; rfl
      | succ n ih =>
        have hn : firstNZ f n = 0 := by
          rcases Decidable.em (firstNZ f n = 0) with e | e
          · exact e
          · have : (if firstNZ f n = 0 then f n else firstNZ f n) = 0 := h
            rw [if_neg e] at this; exact absurd this e
        rcases Nat.lt_or_ge n m with h' | h'
        · have : m = n + 1 := by omega
          subst this; exact h
        · rcases Nat.lt_or_ge i n with h2 | h2
          · exact ih hn h2 h'
          · have : i = n := by omega
            subst this
            exfalso
            have : (if firstNZ f i = 0 then f i else firstNZ f i) = 0 := h
            rw [if_pos hn] at this; exact e this
    rw [firstNZ_stop (h0 i (by omega)) e hi] at h
    exact e h
def partAt (M : ManD) (i : Nat) : Int := if h : i < M.parts.length then partErr M.frame (M.parts.take i) M.parts[i] else 0
def chanAt (M : ManD) (i : Nat) : Int := if h : i < M.chans.length then chanErr M.frame M.parts.length (M.chans.take i) M.chans[i] else 0
def wideB (ps : List PartD) : Bool := ps.any fun p => decide ((4 : Int) < (p.regs.length : Int))
def manyB (M : ManD) : Bool := decide (M.parts.length < 1) || decide (8 < M.parts.length) || decide (8 < M.chans.length) || wideB M.parts
def ticksF (f : Int) (ps : List PartD) : Int := (ps.map fun p => f / p.period * p.duration).sum
def regPages (rs : List RegD) : Int := (rs.map RegD.pages).sum
def pagesF (ps : List PartD) : Int := (ps.map fun p => regPages p.regs).sum
def checkF (M : ManD) : Int :=
  if M.frame < 1 ∨ 240 < M.frame then 5
  else if manyB M = true then 6
  else if ¬ firstNZ (partAt M) M.parts.length = 0 then firstNZ (partAt M) M.parts.length
  else if ¬ firstNZ (chanAt M) M.chans.length = 0 then firstNZ (chanAt M) M.chans.length
  else if M.frame < ticksF M.frame M.parts then 16
  else if 64 < pagesF M.parts then 17 else 0
theorem wideB_step {ps : List PartD} {k : Nat} (hk : k < ps.length) : wideB (ps.take (k + 1)) = (wideB (ps.take k) || decide ((4 : Int) < (ps[k].regs.length : Int))) := by
  unfold wideB
  rw [take_snocD ps k hk, List.any_append]; simp
theorem ticksF_step (f : Int) {ps : List PartD} {k : Nat} (hk : k < ps.length) : ticksF f (ps.take (k + 1)) = ticksF f (ps.take k) + f / ps[k].period * ps[k].duration := by
  unfold ticksF
  rw [take_snocD ps k hk, List.map_append, List.sum_append]; simp
theorem pagesF_step {ps : List PartD} {k : Nat} (hk : k < ps.length) : pagesF (ps.take (k + 1)) = pagesF (ps.take k) + regPages ps[k].regs := by
  unfold pagesF
  rw [take_snocD ps k hk, List.map_append, List.sum_append]; simp
theorem regPages_step {rs : List RegD} {k : Nat} (hk : k < rs.length) : regPages (rs.take (k + 1)) = regPages (rs.take k) + rs[k].pages := by
  unfold regPages
  rw [take_snocD rs k hk, List.map_append, List.sum_append]; simp
/- what a right partition gives -/
theorem partErr_ok {f : Int} {bef : List PartD} {x : PartD} (h : partErr f bef x = 0) : 1 ≤ x.period ∧ x.period ≤ f ∧ 1 ≤ x.duration ∧ x.duration ≤ x.period ∧ 1 ≤ x.action ∧ x.action ≤ 3 ∧ RegsOK x.regs := by
  unfold partErr at h
  split at h
  · cases h
  split at h
  · cases h
  split at h
  · cases h
  split at h
  · cases h
  split at h
  · cases h
  rename_i h1 h2 h3 h4
  refine ⟨by omega, by omega, by omega, by omega, by omega, by omega, ?_⟩
  rw [← regsF_iff]; simpa using h4
theorem regPages_bd {rs : List RegD} (h : RegsOK rs) (k : Nat) : 0 ≤ regPages (rs.take k) ∧ regPages (rs.take k) ≤ 64 * k := by
  induction k with
  | zero => simp [regPages]
  | succ k ih =>
    rcases Nat.lt_or_ge k rs.length with hk | hk
    · rw [regPages_step hk]
      have := h.1 rs[k] (List.getElem_mem _)
      unfold regB at this
      simp at this
      omega
    · rw [List.take_of_length_le (by omega)] at *
      omega
end Go.Proofs.YteioennfpkoagaaGreatDoor.C
namespace Go.Proofs.YteioennfpkoagaaGreatDoor.C
open Go.RowKit
attribute [local go_sem ↓] Go.wp_at_zero Go.wp_at_succ

theorem many_true {M : ManD} (h : M.parts.length < 1 ∨ 8 < M.parts.length ∨ 8 < M.chans.length) : manyB M = true := by
  unfold manyB
  rcases h with h | h | h <;> simp [h]
theorem many_wide {M : ManD} (h : ¬ (M.parts.length < 1 ∨ 8 < M.parts.length ∨ 8 < M.chans.length)) : manyB M = wideB M.parts := by
  unfold manyB
  have h1 : decide (M.parts.length < 1) = false := by rw [decide_eq_false_iff_not]; omega
  have h2 : decide (8 < M.parts.length) = false := by rw [decide_eq_false_iff_not]; omega
  have h3 : decide (8 < M.chans.length) = false := by rw [decide_eq_false_iff_not]; omega
  rw [h1, h2, h3]; rfl
theorem wide_len {ps : List PartD} (h : wideB ps = false) (k : Nat) (hk : k < ps.length) : ps[k].regs.length ≤ 4 := by
  unfold wideB at h
  rw [List.any_eq_false] at h
  have := h ps[k] (List.getElem_mem _)
  simp at this
  omega
theorem ticks_one {f p d : Int} (h1 : 1 ≤ p) (h2 : p ≤ f) (h3 : 1 ≤ d) (h4 : d ≤ p) (h5 : f ≤ 240) : 0 ≤ f / p ∧ f / p ≤ 240 ∧ 0 ≤ f / p * d ∧ f / p * d ≤ 240 := by
  have a1 : 0 ≤ f / p := Int.ediv_nonneg (by omega) (by omega)
  have a2 : f / p * p ≤ f := Int.ediv_mul_le f (by omega)
  have a3 : f / p * d ≤ f / p * p := Int.mul_le_mul_of_nonneg_left h4 a1
  have a4 : f / p * 1 ≤ f / p * p := Int.mul_le_mul_of_nonneg_left h1 a1
  have a5 : 0 ≤ f / p * d := Int.mul_nonneg a1 (by omega)
  exact ⟨a1, by omega, a5, by omega⟩
end Go.Proofs.YteioennfpkoagaaGreatDoor.C
namespace Go.Proofs.YteioennfpkoagaaGreatDoor.C
open Go.RowKit

/- a slice whose length is not above its capacity -/
def capV (v : Value) : Prop := ∃ a l c, v = .slice a l c ∧ l ≤ c
theorem capV.le {a : Option Addr} {l c : Nat} (h : capV (.slice a l c)) : l ≤ c := by
  obtain ⟨_, _, _, e, h⟩ := h
  cases e; exact h
/- the lists of a manifest: none is longer than its room -/
def PartsC (w : World) (v : Value) (n : Nat) : Prop := capV v ∧ ∀ i, i < n → ∀ b off l c, v = .slice (some ⟨b, off, none⟩) l c → ∀ rv, w.cell? ⟨b, off + i * 5 + 4, none⟩ = some rv → capV rv
theorem PartsC.below {w w' : World} {v : Value} {ps : List PartD} (hp : PartsV w v ps) (h : PartsC w v ps.length) (hb : Below w.heap.size w w') : PartsC w' v ps.length := by
  refine ⟨h.1, fun i hi b off l c e rv hc => ?_⟩
  obtain ⟨va, cap, e1, hq⟩ := hp
  subst e
  cases e1
  obtain ⟨b2, off2, rv2, e2, h1, _⟩ := hq i hi
  cases e2
  have hlt := World.block_lt_of_cell? w _ h1
  exact h.2 i hi b off _ _ rfl rv ((hb.cell (by exact hlt)).symm.trans hc)
theorem keepC {w1 w2 : World} {a : Addr} {v : Value} (h : w1.cell? a = some v) (hb : Below w1.heap.size w1 w2) : w2.cell? a = some v := (hb.cell (World.block_lt_of_cell? w1 _ h)).trans h
end Go.Proofs.YteioennfpkoagaaGreatDoor.C
namespace Go.Proofs.YteioennfpkoagaaGreatDoor.C
open Go.RowKit
attribute [local go_sem ↓] Go.wp_at_zero Go.wp_at_succ

/- the program's options (a word and its number), as a list in memory -/
def OptsV (w : World) (v : Value) (os : List (ByteArray × Int)) : Prop :=
  ∃ va cap, v = .slice va os.length cap ∧ ∀ i (h : i < os.length), ∃ b off, va = some ⟨b, off, none⟩ ∧
    w.cell? ⟨b, off + i * 2, none⟩ = some (.string os[i].1) ∧ w.cell? ⟨b, off + i * 2 + 1, none⟩ = some (.int .i64 os[i].2)
theorem OptsV.below {w w' : World} {v : Value} {os : List (ByteArray × Int)} (h : OptsV w v os) (hb : Below w.heap.size w w') : OptsV w' v os := by
  obtain ⟨va, cap, e, hc⟩ := h
  refine ⟨va, cap, e, fun i hi => ?_⟩
  obtain ⟨b, off, e1, h1, h2⟩ := hc i hi
  have hlt := World.block_lt_of_cell? w _ h1
  exact ⟨b, off, e1, (hb.cell (by exact hlt)).trans h1, (hb.cell (by exact hlt)).trans h2⟩

def wideP (p : PartD) : Bool := decide ((4 : Int) < (p.regs.length : Int))
def sameP (x : ByteArray) (p : PartD) : Bool := p.name.toList == x.toList
def sameC (x : ByteArray) (p : ChanD) : Bool := p.name.toList == x.toList
def sameO (v : Int) (o : ByteArray × Int) : Bool := o.2 == v
def meetR (x r : RegD) : Bool := decide (x.page < r.page + r.pages) && decide (r.page < x.page + x.pages)
theorem drawn {w w' : World} {n : Nat} (h : Below w.heap.size w w') : Below w.heap.size w (w'.drewN n) := ⟨h.os, h.tape, h.output, h.size, h.block⟩

set_option maxRecDepth 100000 in
set_option maxHeartbeats 1000000 in
theorem within_any (n lo hi : Int) (w : World) :
    Calls Tryz.prog 57 #[.int .i64 n, .int .i64 lo, .int .i64 hi] w fun e w' => e = .returned (.bool (decide (lo ≤ n) && decide (n ≤ hi))) ∧ w' = w := by
  go_enter Tryz.func57, Tryz.ntmps57
  cases h1 : decide (lo ≤ n)
  · go_wp2_with fail
    go_ret
    exact ⟨rfl, rfl⟩
  · cases h2 : decide (n ≤ hi)
    · go_wp2_with fail
      go_ret
      exact ⟨rfl, rfl⟩
    · go_wp2_with fail
      go_ret
      exact ⟨rfl, rfl⟩

set_option maxRecDepth 100000 in
set_option maxHeartbeats 1000000 in
theorem clo_wide (w : World) (nm : ByteArray) (a b d : Int) (x : Option Addr) (y z : Nat) :
    Calls Tryz.prog 110 #[.agg #[.string nm, .int .i64 a, .int .i64 b, .int .i64 d, .slice x y z]] w fun e w' => e = .returned (.bool (decide ((4 : Int) < (y : Int)))) ∧ Below w.heap.size w w' := by
  go_enter Tryz.func110, Tryz.ntmps110
  go_wp2_with fail
  go_ret
  exact ⟨rfl, (Below.refl _ w).alloc (Nat.le_refl _) _⟩

set_option maxRecDepth 100000 in
set_option maxHeartbeats 1000000 in
theorem clo_name (w : World) (bx : Nat) (one nm : ByteArray) (a b d : Int) (x : Option Addr) (y z : Nat) (hbx : w.cell? ⟨bx, 0, none⟩ = some (.string one)) :
    Calls Tryz.prog 111 #[.agg #[.string nm, .int .i64 a, .int .i64 b, .int .i64 d, .slice x y z], .pointer (some ⟨bx, 0, none⟩)] w fun e w' => e = .returned (.bool (nm.toList == one.toList)) ∧ Below w.heap.size w w' := by
  have h1 := World.block_lt_of_cell? w _ hbx
  simp only [] at h1
  go_enter Tryz.func111, Tryz.ntmps111
  go_wp2_with fail
  go_ret
  exact ⟨rfl, (Below.refl _ w).alloc (Nat.le_refl _) _⟩

set_option maxRecDepth 100000 in
set_option maxHeartbeats 1000000 in
theorem clo_cname (w : World) (bx : Nat) (one nm : ByteArray) (a b c d e : Int) (hbx : w.cell? ⟨bx, 0, none⟩ = some (.string one)) :
    Calls Tryz.prog 114 #[.agg #[.string nm, .int .i64 a, .int .i64 b, .int .i64 c, .int .i64 d, .int .i64 e], .pointer (some ⟨bx, 0, none⟩)] w fun e w' => e = .returned (.bool (nm.toList == one.toList)) ∧ Below w.heap.size w w' := by
  have h1 := World.block_lt_of_cell? w _ hbx
  simp only [] at h1
  go_enter Tryz.func114, Tryz.ntmps114
  go_wp2_with fail
  go_ret
  exact ⟨rfl, (Below.refl _ w).alloc (Nat.le_refl _) _⟩

set_option maxRecDepth 100000 in
set_option maxHeartbeats 1000000 in
theorem clo_opt (w : World) (bx : Nat) (nm : ByteArray) (a v : Int) (hbx : w.cell? ⟨bx, 0, none⟩ = some (.int .i64 v)) :
    Calls Tryz.prog 221 #[.agg #[.string nm, .int .i64 a], .pointer (some ⟨bx, 0, none⟩)] w fun e w' => e = .returned (.bool (a == v)) ∧ Below w.heap.size w w' := by
  have h1 := World.block_lt_of_cell? w _ hbx
  simp only [] at h1
  go_enter Tryz.func221, Tryz.ntmps221
  go_wp2_with fail
  go_ret
  exact ⟨rfl, (Below.refl _ w).alloc (Nat.le_refl _) _⟩

set_option maxRecDepth 100000 in
set_option maxHeartbeats 1000000 in
theorem index_wide  (qs : List PartD) (v : Value) (w : World) (hv : PartsV w v qs) (hl : qs.length ≤ 4611686018427387903)  :
    Calls Tryz.prog 175 #[v, .func (Fn.func 110) #[] #[]] w fun e w' => ∃ r : Int, e = .returned (.int .i64 r) ∧ Hid (decide (0 ≤ r) = qs.any wideP) ∧ Below w.heap.size w w' := by
  obtain ⟨va, cap, rfl, hc⟩ := hv
  have HC : Hid _ := hc
  clear hc

  go_enter Tryz.func175, Tryz.ntmps175
  go_wp2_with fail
  go_loopw [8] (fun i wr => ∃ (k : Nat), i = .int .i64 k ∧ k ≤ qs.length ∧ Hid ((qs.take k).any wideP = false) ∧ Below w.heap.size w wr) (fun i _ => qs.length - (intOf i).toNat)
  case atStart => exact ⟨0, rfl, by omega, by simp [Hid], Below.refl _ _⟩
  case round =>
    obtain ⟨k, rfl, hk, HK, hbel⟩ := hrel
    by_cases hlt : k < qs.length
    · have hlt' : (k : Int) < (qs.length : Int) := by omega
      have hk0 : (0 : Int) ≤ (k : Int) := by omega
      obtain ⟨b, off, rv, rfl, c0, c1, c2, c3, c4, hrv⟩ := HC.out k hlt
      obtain ⟨ra, rcap, rfl, hrx⟩ := hrv
      clear hrx
      have hbl := World.block_lt_of_cell? w _ c0
      have d0 := (hbel.cell (by exact hbl)).trans c0
      have d1 := (hbel.cell (by exact hbl)).trans c1
      have d2 := (hbel.cell (by exact hbl)).trans c2
      have d3 := (hbel.cell (by exact hbl)).trans c3
      have d4 := (hbel.cell (by exact hbl)).trans c4
      clear c0 c1 c2 c3 c4
      have HST : Hid ((qs.take (k + 1)).any wideP = ((qs.take k).any wideP || wideP qs[k])) := by show _ = _; rw [take_snocD qs k hlt, List.any_append]; simp
      have HMEM : Hid (qs.any wideP = false → wideP qs[k] = false) := fun h => by rw [List.any_eq_false] at h; simpa using h qs[k] (List.getElem_mem _)

      generalize qs[k] = q at *
      have hclo := clo_wide wr q.name q.period q.duration q.action ra q.regs.length rcap
      change Calls _ _ _ _ (fun e w2 => e = .returned (.bool (wideP q)) ∧ Below wr.heap.size wr w2) at hclo
      go_wp2_with fail
      refine hclo.mono ?_
      rintro e w2 ⟨rfl, hb2⟩
      cases hh : wideP q
      · have HX : Hid ((qs.take (k + 1)).any wideP = false) := by show _ = _; rw [HST.out, HK.out, hh]; rfl
        clear hh HST
        go_wp2_with fail
        go_roundw
        case rel => exact ⟨k + 1, by go_num, by omega, HX, hbel.trans (hb2.mono hbel.size)⟩
        case measure => simp [intOf]; omega
      · have HX : Hid (decide (0 ≤ (k : Int)) = qs.any wideP) := by
          show _ = _
          cases hq : qs.any wideP
          · have := HMEM.out hq; rw [hh] at this; cases this
          · simp
        clear hh HST
        go_wp2_with fail
        go_ret
        exact ⟨_, rfl, HX, hbel.trans (hb2.mono hbel.size)⟩
    · have hlt' : ¬ (k : Int) < (qs.length : Int) := by omega
      have HX : Hid (decide (0 ≤ (-1 : Int)) = qs.any wideP) := by have := HK.out; rw [List.take_of_length_le (by omega)] at this; show _ = _; rw [this]; rfl
      go_wp2_with fail
      go_ret
      exact ⟨_, rfl, HX, hbel⟩
set_option maxRecDepth 100000 in
set_option maxHeartbeats 1000000 in
theorem contains_wide  (qs : List PartD) (v : Value) (w : World) (hv : PartsV w v qs) (hl : qs.length ≤ 4611686018427387903)  :
    Calls Tryz.prog 109 #[v, .func (Fn.func 110) #[] #[]] w fun e w' => e = .returned (.bool (qs.any wideP)) ∧ Below w.heap.size w w' := by
  have hi := index_wide  qs v w hv hl 
  go_enter Tryz.func109, Tryz.ntmps109
  go_wp2_with fail
  refine hi.mono ?_
  rintro e w1 ⟨r, rfl, HR, hb⟩
  have hy := HR.out
  clear HR
  cases hq : qs.any wideP
  · rw [hq] at hy
    have HQ : Hid _ := hq
    clear hq
    go_wp2_with fail
    go_ret
    exact ⟨by rw [HQ.out]; rfl, hb⟩
  · rw [hq] at hy
    have HQ : Hid _ := hq
    clear hq
    go_wp2_with fail
    go_ret
    exact ⟨by rw [HQ.out]; rfl, hb⟩

set_option maxRecDepth 100000 in
set_option maxHeartbeats 1000000 in
theorem index_name (bx : Nat) (one : ByteArray) (qs : List PartD) (v : Value) (w : World) (hv : PartsV w v qs) (hl : qs.length ≤ 4611686018427387903) (hbx : w.cell? ⟨bx, 0, none⟩ = some (.string one)) :
    Calls Tryz.prog 175 #[v, .func (Fn.func 111) #[] #[.pointer (some ⟨bx, 0, none⟩)]] w fun e w' => ∃ r : Int, e = .returned (.int .i64 r) ∧ Hid (decide (0 ≤ r) = qs.any (sameP one)) ∧ Below w.heap.size w w' := by
  obtain ⟨va, cap, rfl, hc⟩ := hv
  have HC : Hid _ := hc
  clear hc
  have l1 := World.block_lt_of_cell? w _ hbx
  simp only [] at l1
  go_enter Tryz.func175, Tryz.ntmps175
  go_wp2_with fail
  go_loopw [8] (fun i wr => ∃ (k : Nat), i = .int .i64 k ∧ k ≤ qs.length ∧ Hid ((qs.take k).any (sameP one) = false) ∧ Below w.heap.size w wr) (fun i _ => qs.length - (intOf i).toNat)
  case atStart => exact ⟨0, rfl, by omega, by simp [Hid], Below.refl _ _⟩
  case round =>
    obtain ⟨k, rfl, hk, HK, hbel⟩ := hrel
    by_cases hlt : k < qs.length
    · have hlt' : (k : Int) < (qs.length : Int) := by omega
      have hk0 : (0 : Int) ≤ (k : Int) := by omega
      obtain ⟨b, off, rv, rfl, c0, c1, c2, c3, c4, hrv⟩ := HC.out k hlt
      obtain ⟨ra, rcap, rfl, hrx⟩ := hrv
      clear hrx
      have hbl := World.block_lt_of_cell? w _ c0
      have d0 := (hbel.cell (by exact hbl)).trans c0
      have d1 := (hbel.cell (by exact hbl)).trans c1
      have d2 := (hbel.cell (by exact hbl)).trans c2
      have d3 := (hbel.cell (by exact hbl)).trans c3
      have d4 := (hbel.cell (by exact hbl)).trans c4
      clear c0 c1 c2 c3 c4
      have HST : Hid ((qs.take (k + 1)).any (sameP one) = ((qs.take k).any (sameP one) || (sameP one) qs[k])) := by show _ = _; rw [take_snocD qs k hlt, List.any_append]; simp
      have HMEM : Hid (qs.any (sameP one) = false → (sameP one) qs[k] = false) := fun h => by rw [List.any_eq_false] at h; simpa using h qs[k] (List.getElem_mem _)

      generalize qs[k] = q at *
      have hclo := clo_name wr bx one q.name q.period q.duration q.action ra q.regs.length rcap (by rw [hbel.cell (by exact l1)]; exact hbx)
      change Calls _ _ _ _ (fun e w2 => e = .returned (.bool (sameP one q)) ∧ Below wr.heap.size wr w2) at hclo
      go_wp2_with fail
      refine hclo.mono ?_
      rintro e w2 ⟨rfl, hb2⟩
      cases hh : (sameP one) q
      · have HX : Hid ((qs.take (k + 1)).any (sameP one) = false) := by show _ = _; rw [HST.out, HK.out, hh]; rfl
        clear hh HST
        go_wp2_with fail
        go_roundw
        case rel => exact ⟨k + 1, by go_num, by omega, HX, hbel.trans (hb2.mono hbel.size)⟩
        case measure => simp [intOf]; omega
      · have HX : Hid (decide (0 ≤ (k : Int)) = qs.any (sameP one)) := by
          show _ = _
          cases hq : qs.any (sameP one)
          · have := HMEM.out hq; rw [hh] at this; cases this
          · simp
        clear hh HST
        go_wp2_with fail
        go_ret
        exact ⟨_, rfl, HX, hbel.trans (hb2.mono hbel.size)⟩
    · have hlt' : ¬ (k : Int) < (qs.length : Int) := by omega
      have HX : Hid (decide (0 ≤ (-1 : Int)) = qs.any (sameP one)) := by have := HK.out; rw [List.take_of_length_le (by omega)] at this; show _ = _; rw [this]; rfl
      go_wp2_with fail
      go_ret
      exact ⟨_, rfl, HX, hbel⟩
set_option maxRecDepth 100000 in
set_option maxHeartbeats 1000000 in
theorem contains_name (bx : Nat) (one : ByteArray) (qs : List PartD) (v : Value) (w : World) (hv : PartsV w v qs) (hl : qs.length ≤ 4611686018427387903) (hbx : w.cell? ⟨bx, 0, none⟩ = some (.string one)) :
    Calls Tryz.prog 109 #[v, .func (Fn.func 111) #[] #[.pointer (some ⟨bx, 0, none⟩)]] w fun e w' => e = .returned (.bool (qs.any (sameP one))) ∧ Below w.heap.size w w' := by
  have hi := index_name bx one qs v w hv hl hbx
  go_enter Tryz.func109, Tryz.ntmps109
  go_wp2_with fail
  refine hi.mono ?_
  rintro e w1 ⟨r, rfl, HR, hb⟩
  have hy := HR.out
  clear HR
  cases hq : qs.any (sameP one)
  · rw [hq] at hy
    have HQ : Hid _ := hq
    clear hq
    go_wp2_with fail
    go_ret
    exact ⟨by rw [HQ.out]; rfl, hb⟩
  · rw [hq] at hy
    have HQ : Hid _ := hq
    clear hq
    go_wp2_with fail
    go_ret
    exact ⟨by rw [HQ.out]; rfl, hb⟩

set_option maxRecDepth 100000 in
set_option maxHeartbeats 1000000 in
theorem index_cname (bx : Nat) (one : ByteArray) (qs : List ChanD) (v : Value) (w : World) (hv : ChansV w v qs) (hl : qs.length ≤ 4611686018427387903) (hbx : w.cell? ⟨bx, 0, none⟩ = some (.string one)) :
    Calls Tryz.prog 180 #[v, .func (Fn.func 114) #[] #[.pointer (some ⟨bx, 0, none⟩)]] w fun e w' => ∃ r : Int, e = .returned (.int .i64 r) ∧ Hid (decide (0 ≤ r) = qs.any (sameC one)) ∧ Below w.heap.size w w' := by
  obtain ⟨va, cap, rfl, hc⟩ := hv
  have HC : Hid _ := hc
  clear hc
  have l1 := World.block_lt_of_cell? w _ hbx
  simp only [] at l1
  go_enter Tryz.func180, Tryz.ntmps180
  go_wp2_with fail
  go_loopw [8] (fun i wr => ∃ (k : Nat), i = .int .i64 k ∧ k ≤ qs.length ∧ Hid ((qs.take k).any (sameC one) = false) ∧ Below w.heap.size w wr) (fun i _ => qs.length - (intOf i).toNat)
  case atStart => exact ⟨0, rfl, by omega, by simp [Hid], Below.refl _ _⟩
  case round =>
    obtain ⟨k, rfl, hk, HK, hbel⟩ := hrel
    by_cases hlt : k < qs.length
    · have hlt' : (k : Int) < (qs.length : Int) := by omega
      have hk0 : (0 : Int) ≤ (k : Int) := by omega
      obtain ⟨b, off, rfl, c0, c1, c2, c3, c4, c5⟩ := HC.out k hlt
      have hbl := World.block_lt_of_cell? w _ c0
      have d0 := (hbel.cell (by exact hbl)).trans c0
      have d1 := (hbel.cell (by exact hbl)).trans c1
      have d2 := (hbel.cell (by exact hbl)).trans c2
      have d3 := (hbel.cell (by exact hbl)).trans c3
      have d4 := (hbel.cell (by exact hbl)).trans c4
      have d5 := (hbel.cell (by exact hbl)).trans c5
      clear c0 c1 c2 c3 c4 c5
      have HST : Hid ((qs.take (k + 1)).any (sameC one) = ((qs.take k).any (sameC one) || (sameC one) qs[k])) := by show _ = _; rw [take_snocD qs k hlt, List.any_append]; simp
      have HMEM : Hid (qs.any (sameC one) = false → (sameC one) qs[k] = false) := fun h => by rw [List.any_eq_false] at h; simpa using h qs[k] (List.getElem_mem _)

      generalize qs[k] = q at *
      have hclo := clo_cname wr bx one q.name q.source q.target q.kind q.size q.depth (by rw [hbel.cell (by exact l1)]; exact hbx)
      change Calls _ _ _ _ (fun e w2 => e = .returned (.bool (sameC one q)) ∧ Below wr.heap.size wr w2) at hclo
      go_wp2_with fail
      refine hclo.mono ?_
      rintro e w2 ⟨rfl, hb2⟩
      cases hh : (sameC one) q
      · have HX : Hid ((qs.take (k + 1)).any (sameC one) = false) := by show _ = _; rw [HST.out, HK.out, hh]; rfl
        clear hh HST
        go_wp2_with fail
        go_roundw
        case rel => exact ⟨k + 1, by go_num, by omega, HX, hbel.trans (hb2.mono hbel.size)⟩
        case measure => simp [intOf]; omega
      · have HX : Hid (decide (0 ≤ (k : Int)) = qs.any (sameC one)) := by
          show _ = _
          cases hq : qs.any (sameC one)
          · have := HMEM.out hq; rw [hh] at this; cases this
          · simp
        clear hh HST
        go_wp2_with fail
        go_ret
        exact ⟨_, rfl, HX, hbel.trans (hb2.mono hbel.size)⟩
    · have hlt' : ¬ (k : Int) < (qs.length : Int) := by omega
      have HX : Hid (decide (0 ≤ (-1 : Int)) = qs.any (sameC one)) := by have := HK.out; rw [List.take_of_length_le (by omega)] at this; show _ = _; rw [this]; rfl
      go_wp2_with fail
      go_ret
      exact ⟨_, rfl, HX, hbel⟩
set_option maxRecDepth 100000 in
set_option maxHeartbeats 1000000 in
theorem contains_cname (bx : Nat) (one : ByteArray) (qs : List ChanD) (v : Value) (w : World) (hv : ChansV w v qs) (hl : qs.length ≤ 4611686018427387903) (hbx : w.cell? ⟨bx, 0, none⟩ = some (.string one)) :
    Calls Tryz.prog 115 #[v, .func (Fn.func 114) #[] #[.pointer (some ⟨bx, 0, none⟩)]] w fun e w' => e = .returned (.bool (qs.any (sameC one))) ∧ Below w.heap.size w w' := by
  have hi := index_cname bx one qs v w hv hl hbx
  go_enter Tryz.func115, Tryz.ntmps115
  go_wp2_with fail
  refine hi.mono ?_
  rintro e w1 ⟨r, rfl, HR, hb⟩
  have hy := HR.out
  clear HR
  cases hq : qs.any (sameC one)
  · rw [hq] at hy
    have HQ : Hid _ := hq
    clear hq
    go_wp2_with fail
    go_ret
    exact ⟨by rw [HQ.out]; rfl, hb⟩
  · rw [hq] at hy
    have HQ : Hid _ := hq
    clear hq
    go_wp2_with fail
    go_ret
    exact ⟨by rw [HQ.out]; rfl, hb⟩

set_option maxRecDepth 100000 in
set_option maxHeartbeats 1000000 in
theorem index_opt (bx : Nat) (one : Int) (qs : List (ByteArray × Int)) (v : Value) (w : World) (hv : OptsV w v qs) (hl : qs.length ≤ 4611686018427387903) (hbx : w.cell? ⟨bx, 0, none⟩ = some (.int .i64 one)) :
    Calls Tryz.prog 249 #[v, .func (Fn.func 221) #[] #[.pointer (some ⟨bx, 0, none⟩)]] w fun e w' => ∃ r : Int, e = .returned (.int .i64 r) ∧ Hid (decide (0 ≤ r) = qs.any (sameO one)) ∧ Below w.heap.size w w' := by
  obtain ⟨va, cap, rfl, hc⟩ := hv
  have HC : Hid _ := hc
  clear hc
  have l1 := World.block_lt_of_cell? w _ hbx
  simp only [] at l1
  go_enter Tryz.func249, Tryz.ntmps249
  go_wp2_with fail
  go_loopw [8] (fun i wr => ∃ (k : Nat), i = .int .i64 k ∧ k ≤ qs.length ∧ Hid ((qs.take k).any (sameO one) = false) ∧ Below w.heap.size w wr) (fun i _ => qs.length - (intOf i).toNat)
  case atStart => exact ⟨0, rfl, by omega, by simp [Hid], Below.refl _ _⟩
  case round =>
    obtain ⟨k, rfl, hk, HK, hbel⟩ := hrel
    by_cases hlt : k < qs.length
    · have hlt' : (k : Int) < (qs.length : Int) := by omega
      have hk0 : (0 : Int) ≤ (k : Int) := by omega
      obtain ⟨b, off, rfl, c0, c1⟩ := HC.out k hlt
      have hbl := World.block_lt_of_cell? w _ c0
      have d0 := (hbel.cell (by exact hbl)).trans c0
      have d1 := (hbel.cell (by exact hbl)).trans c1
      clear c0 c1
      have HST : Hid ((qs.take (k + 1)).any (sameO one) = ((qs.take k).any (sameO one) || (sameO one) qs[k])) := by show _ = _; rw [take_snocD qs k hlt, List.any_append]; simp
      have HMEM : Hid (qs.any (sameO one) = false → (sameO one) qs[k] = false) := fun h => by rw [List.any_eq_false] at h; simpa using h qs[k] (List.getElem_mem _)

      generalize qs[k] = q at *
      have hclo := clo_opt wr bx q.1 q.2 one (by rw [hbel.cell (by exact l1)]; exact hbx)
      change Calls _ _ _ _ (fun e w2 => e = .returned (.bool (sameO one q)) ∧ Below wr.heap.size wr w2) at hclo
      go_wp2_with fail
      refine hclo.mono ?_
      rintro e w2 ⟨rfl, hb2⟩
      cases hh : (sameO one) q
      · have HX : Hid ((qs.take (k + 1)).any (sameO one) = false) := by show _ = _; rw [HST.out, HK.out, hh]; rfl
        clear hh HST
        go_wp2_with fail
        go_roundw
        case rel => exact ⟨k + 1, by go_num, by omega, HX, hbel.trans (hb2.mono hbel.size)⟩
        case measure => simp [intOf]; omega
      · have HX : Hid (decide (0 ≤ (k : Int)) = qs.any (sameO one)) := by
          show _ = _
          cases hq : qs.any (sameO one)
          · have := HMEM.out hq; rw [hh] at this; cases this
          · simp
        clear hh HST
        go_wp2_with fail
        go_ret
        exact ⟨_, rfl, HX, hbel.trans (hb2.mono hbel.size)⟩
    · have hlt' : ¬ (k : Int) < (qs.length : Int) := by omega
      have HX : Hid (decide (0 ≤ (-1 : Int)) = qs.any (sameO one)) := by have := HK.out; rw [List.take_of_length_le (by omega)] at this; show _ = _; rw [this]; rfl
      go_wp2_with fail
      go_ret
      exact ⟨_, rfl, HX, hbel⟩
set_option maxRecDepth 100000 in
set_option maxHeartbeats 1000000 in
theorem contains_opt (bx : Nat) (one : Int) (qs : List (ByteArray × Int)) (v : Value) (w : World) (hv : OptsV w v qs) (hl : qs.length ≤ 4611686018427387903) (hbx : w.cell? ⟨bx, 0, none⟩ = some (.int .i64 one)) :
    Calls Tryz.prog 220 #[v, .func (Fn.func 221) #[] #[.pointer (some ⟨bx, 0, none⟩)]] w fun e w' => e = .returned (.bool (qs.any (sameO one))) ∧ Below w.heap.size w w' := by
  have hi := index_opt bx one qs v w hv hl hbx
  go_enter Tryz.func220, Tryz.ntmps220
  go_wp2_with fail
  refine hi.mono ?_
  rintro e w1 ⟨r, rfl, HR, hb⟩
  have hy := HR.out
  clear HR
  cases hq : qs.any (sameO one)
  · rw [hq] at hy
    have HQ : Hid _ := hq
    clear hq
    go_wp2_with fail
    go_ret
    exact ⟨by rw [HQ.out]; rfl, hb⟩
  · rw [hq] at hy
    have HQ : Hid _ := hq
    clear hq
    go_wp2_with fail
    go_ret
    exact ⟨by rw [HQ.out]; rfl, hb⟩

set_option maxRecDepth 100000 in
set_option maxHeartbeats 1000000 in
theorem meet_any (w : World) (x r : RegD) (hx : regB x = true) (hr : regB r = true) :
    Calls Tryz.prog 223 #[.agg #[.int .i64 x.page, .int .i64 x.pages, .int .i64 x.rights], .agg #[.int .i64 r.page, .int .i64 r.pages, .int .i64 r.rights]] w fun e w' => e = .returned (.bool (meetR x r)) ∧ Below w.heap.size w w' := by
  unfold regB at hx hr
  simp only [decide_eq_true_eq] at hx hr
  have w1 : IntKind.i64.wrap (r.page + r.pages) = r.page + r.pages := wrap_small _ (by omega) (by omega)
  have w2 : IntKind.i64.wrap (x.page + x.pages) = x.page + x.pages := wrap_small _ (by omega) (by omega)
  clear hx hr
  unfold meetR
  cases h1 : decide (x.page < r.page + r.pages)
  all_goals cases h2 : decide (r.page < x.page + x.pages)
  all_goals go_enter Tryz.func223, Tryz.ntmps223
  all_goals go_wp2_with fail
  all_goals try (go_quiet (fail))
  all_goals try (go_wp2_with fail)
  all_goals try (go_quiet (fail))
  all_goals try (go_wp2_with fail)
  all_goals go_ret
  all_goals first
    | exact ⟨rfl, drawn (drawn (((Below.refl _ w).alloc (Nat.le_refl _) _).alloc (by simp) _))⟩
    | exact ⟨rfl, drawn (((Below.refl _ w).alloc (Nat.le_refl _) _).alloc (by simp) _)⟩
    | exact ⟨rfl, ((Below.refl _ w).alloc (Nat.le_refl _) _).alloc (by simp) _⟩

set_option maxRecDepth 100000 in
set_option maxHeartbeats 1000000 in
theorem clo_meet (w : World) (bx : Nat) (x r : RegD) (hx : regB x = true) (hr : regB r = true) (h0 : w.cell? ⟨bx, 0, none⟩ = some (.int .i64 x.page)) (h1 : w.cell? ⟨bx, 1, none⟩ = some (.int .i64 x.pages)) (h2 : w.cell? ⟨bx, 2, none⟩ = some (.int .i64 x.rights)) :
    Calls Tryz.prog 222 #[.agg #[.int .i64 r.page, .int .i64 r.pages, .int .i64 r.rights], .pointer (some ⟨bx, 0, none⟩)] w fun e w' => e = .returned (.bool (meetR x r)) ∧ Below w.heap.size w w' := by
  have l1 := World.block_lt_of_cell? w _ h0
  simp only [] at l1
  go_enter Tryz.func222, Tryz.ntmps222
  go_wp2_with fail
  refine (meet_any _ x r hx hr).mono ?_
  rintro e w1 ⟨rfl, hb⟩
  have b0 : Below w.heap.size w (w.alloc (.cells #[.int .i64 r.page, .int .i64 r.pages, .int .i64 r.rights] 90)) := (Below.refl _ w).alloc (Nat.le_refl _) _
  go_wp2_with fail
  go_ret
  exact ⟨rfl, b0.trans (hb.mono b0.size)⟩

set_option maxRecDepth 100000 in
set_option maxHeartbeats 1000000 in
theorem index_meet (bx : Nat) (one : RegD) (qs : List RegD) (v : Value) (w : World) (hv : RegsV w v qs) (hl : qs.length ≤ 4611686018427387903) (h0 : w.cell? ⟨bx, 0, none⟩ = some (.int .i64 one.page)) (h1 : w.cell? ⟨bx, 1, none⟩ = some (.int .i64 one.pages)) (h2 : w.cell? ⟨bx, 2, none⟩ = some (.int .i64 one.rights)) (hx : regB one = true) (hq : ∀ r ∈ qs, regB r = true) :
    Calls Tryz.prog 250 #[v, .func (Fn.func 222) #[] #[.pointer (some ⟨bx, 0, none⟩)]] w fun e w' => ∃ r : Int, e = .returned (.int .i64 r) ∧ Hid (decide (0 ≤ r) = qs.any (meetR one)) ∧ Below w.heap.size w w' := by
  obtain ⟨va, cap, rfl, hc⟩ := hv
  have HC : Hid _ := hc
  clear hc
  have l1 := World.block_lt_of_cell? w _ h0
  simp only [] at l1
  have HX : Hid _ := hx
  have HQ : Hid _ := hq
  clear hx hq
  go_enter Tryz.func250, Tryz.ntmps250
  go_wp2_with fail
  go_loopw [8] (fun i wr => ∃ (k : Nat), i = .int .i64 k ∧ k ≤ qs.length ∧ Hid ((qs.take k).any (meetR one) = false) ∧ Below w.heap.size w wr) (fun i _ => qs.length - (intOf i).toNat)
  case atStart => exact ⟨0, rfl, by omega, by simp [Hid], Below.refl _ _⟩
  case round =>
    obtain ⟨k, rfl, hk, HK, hbel⟩ := hrel
    by_cases hlt : k < qs.length
    · have hlt' : (k : Int) < (qs.length : Int) := by omega
      have hk0 : (0 : Int) ≤ (k : Int) := by omega
      obtain ⟨b, off, rfl, c0, c1, c2⟩ := HC.out k hlt
      have hbl := World.block_lt_of_cell? w _ c0
      have d0 := (hbel.cell (by exact hbl)).trans c0
      have d1 := (hbel.cell (by exact hbl)).trans c1
      have d2 := (hbel.cell (by exact hbl)).trans c2
      clear c0 c1 c2
      have HST : Hid ((qs.take (k + 1)).any (meetR one) = ((qs.take k).any (meetR one) || (meetR one) qs[k])) := by show _ = _; rw [take_snocD qs k hlt, List.any_append]; simp
      have HMEM : Hid (qs.any (meetR one) = false → (meetR one) qs[k] = false) := fun h => by rw [List.any_eq_false] at h; simpa using h qs[k] (List.getElem_mem _)
      have HRB : Hid _ := HQ.out qs[k] (List.getElem_mem _)
      generalize qs[k] = q at *
      have hclo := clo_meet wr bx one q HX.out HRB.out (by rw [hbel.cell (by exact l1)]; exact h0) (by rw [hbel.cell (by exact l1)]; exact h1) (by rw [hbel.cell (by exact l1)]; exact h2)
      go_wp2_with fail
      refine hclo.mono ?_
      rintro e w2 ⟨rfl, hb2⟩
      cases hh : (meetR one) q
      · have HX : Hid ((qs.take (k + 1)).any (meetR one) = false) := by show _ = _; rw [HST.out, HK.out, hh]; rfl
        clear hh HST
        go_wp2_with fail
        go_roundw
        case rel => exact ⟨k + 1, by go_num, by omega, HX, hbel.trans (hb2.mono hbel.size)⟩
        case measure => simp [intOf]; omega
      · have HX : Hid (decide (0 ≤ (k : Int)) = qs.any (meetR one)) := by
          show _ = _
          cases hq : qs.any (meetR one)
          · have := HMEM.out hq; rw [hh] at this; cases this
          · simp
        clear hh HST
        go_wp2_with fail
        go_ret
        exact ⟨_, rfl, HX, hbel.trans (hb2.mono hbel.size)⟩
    · have hlt' : ¬ (k : Int) < (qs.length : Int) := by omega
      have HX : Hid (decide (0 ≤ (-1 : Int)) = qs.any (meetR one)) := by have := HK.out; rw [List.take_of_length_le (by omega)] at this; show _ = _; rw [this]; rfl
      go_wp2_with fail
      go_ret
      exact ⟨_, rfl, HX, hbel⟩
set_option maxRecDepth 100000 in
set_option maxHeartbeats 1000000 in
theorem contains_meet (bx : Nat) (one : RegD) (qs : List RegD) (v : Value) (w : World) (hv : RegsV w v qs) (hl : qs.length ≤ 4611686018427387903) (h0 : w.cell? ⟨bx, 0, none⟩ = some (.int .i64 one.page)) (h1 : w.cell? ⟨bx, 1, none⟩ = some (.int .i64 one.pages)) (h2 : w.cell? ⟨bx, 2, none⟩ = some (.int .i64 one.rights)) (hx : regB one = true) (hq : ∀ r ∈ qs, regB r = true) :
    Calls Tryz.prog 225 #[v, .func (Fn.func 222) #[] #[.pointer (some ⟨bx, 0, none⟩)]] w fun e w' => e = .returned (.bool (qs.any (meetR one))) ∧ Below w.heap.size w w' := by
  have hi := index_meet bx one qs v w hv hl h0 h1 h2 hx hq
  go_enter Tryz.func225, Tryz.ntmps225
  go_wp2_with fail
  refine hi.mono ?_
  rintro e w1 ⟨r, rfl, HR, hb⟩
  have hy := HR.out
  clear HR
  cases hq : qs.any (meetR one)
  · rw [hq] at hy
    have HQ : Hid _ := hq
    clear hq
    go_wp2_with fail
    go_ret
    exact ⟨by rw [HQ.out]; rfl, hb⟩
  · rw [hq] at hy
    have HQ : Hid _ := hq
    clear hq
    go_wp2_with fail
    go_ret
    exact ⟨by rw [HQ.out]; rfl, hb⟩
end Go.Proofs.YteioennfpkoagaaGreatDoor.C
