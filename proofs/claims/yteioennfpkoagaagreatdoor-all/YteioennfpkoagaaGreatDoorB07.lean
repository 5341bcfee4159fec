import Derived.Test.YteioennfpkoagaaGreatDoorB04
import Derived.Test.YteioennfpkoagaaGreatDoorB02
import Derived.Laws.OwnMore
import Derived.Deep.AppendLies
import Derived.Test.YteioennfpkoagaaGreatDoorB06
namespace Go.Proofs.YteioennfpkoagaaGreatDoor.C
open Go.RowKit

/- rows in memory -/
theorem flat_at {α : Type} (f : α → List Value) (s : Nat) (hf : ∀ x, (f x).length = s) (l : List α) (i j : Nat) (hi : i < l.length) (hj : j < s) : (l.flatMap f)[i * s + j]? = (f l[i])[j]? := by
  induction l generalizing i with
  | nil => simp at hi
  | cons x l ih =>
    cases i with
    | zero =>
      rw [List.flatMap_cons, Nat.zero_mul, Nat.zero_add, List.getElem?_append_left (by rw [hf]; exact hj)]
      rfl
    | succ i =>
      have h := ih i (by simpa using hi)
      rw [List.flatMap_cons, List.getElem?_append_right (by rw [hf, Nat.succ_mul]; omega), hf, Nat.succ_mul, show i * s + s + j - s = i * s + j by omega, h]
      rfl
theorem rows_len {α : Type} (f : α → List Value) (s : Nat) (hf : ∀ x, (f x).length = s) (l : List α) : (l.flatMap f).length = l.length * s := by
  induction l with
  | nil => simp
  | cons x l ih => rw [List.flatMap_cons, List.length_append, ih, hf, List.length_cons, Nat.succ_mul]; omega
def rC1 (r : RegD) : List Value := [.int .i64 r.page, .int .i64 r.pages, .int .i64 r.rights]
def rC (rs : List RegD) : List Value := rs.flatMap rC1
def pC1 (y : PartD × Value) : List Value := [.string y.1.name, .int .i64 y.1.period, .int .i64 y.1.duration, .int .i64 y.1.action, y.2]
def pC (ys : List (PartD × Value)) : List Value := ys.flatMap pC1
def cC1 (c : ChanD) : List Value := [.string c.name, .int .i64 c.source, .int .i64 c.target, .int .i64 c.kind, .int .i64 c.size, .int .i64 c.depth]
def cC (cs : List ChanD) : List Value := cs.flatMap cC1
theorem own_form {w : World} {B e s n : Nat} {v : Value} {xs : List Value} (h : w.ownsRow B e s v n xs) : (n = 0 ∧ v = .slice none 0 0) ∨ ∃ g cap, v = .slice (some ⟨g, 0, none⟩) n cap ∧ n ≤ cap := by
  rcases h.2 with ⟨rfl, h0⟩ | ⟨g, cap, cur, rfl, hB, hg, hle, rest⟩
  · exact .inl ⟨h0, rfl⟩
  · exact .inr ⟨g, cap, rfl, hle⟩
theorem own_cap {w : World} {B e s n : Nat} {v : Value} {xs : List Value} (h : w.ownsRow B e s v n xs) : capV v := by
  rcases own_form h with ⟨rfl, rfl⟩ | ⟨g, cap, rfl, hle⟩
  · exact ⟨_, _, _, rfl, Nat.le_refl _⟩
  · exact ⟨_, _, _, rfl, hle⟩
theorem regs_see {w : World} {B : Nat} {v : Value} {rs : List RegD} (h : w.ownsRow B 90 3 v rs.length (rC rs)) : RegsV w v rs := by
  rcases own_form h with ⟨h0, rfl⟩ | ⟨g, cap, rfl, _⟩
  · have : rs = [] := List.eq_nil_of_length_eq_zero h0
    subst this
    exact ⟨_, _, rfl, fun i hi => absurd hi (by simp)⟩
  · refine ⟨some ⟨g, 0, none⟩, cap, rfl, fun i hi => ⟨g, 0, rfl, ?_⟩⟩
    have hr : ∀ j, j < 3 → w.cell? ⟨g, 0 + i * 3 + j, none⟩ = (rC1 rs[i])[j]? := fun j hj => by
      rw [Nat.zero_add, World.ownsRow.cellAt h _ (by omega)]
      exact flat_at rC1 3 (fun _ => rfl) rs i j hi hj
    exact ⟨hr 0 (by omega), hr 1 (by omega), hr 2 (by omega)⟩
theorem chans_see {w : World} {B : Nat} {v : Value} {cs : List ChanD} (h : w.ownsRow B 92 6 v cs.length (cC cs)) : ChansV w v cs := by
  rcases own_form h with ⟨h0, rfl⟩ | ⟨g, cap, rfl, _⟩
  · have : cs = [] := List.eq_nil_of_length_eq_zero h0
    subst this
    exact ⟨_, _, rfl, fun i hi => absurd hi (by simp)⟩
  · refine ⟨some ⟨g, 0, none⟩, cap, rfl, fun i hi => ⟨g, 0, rfl, ?_⟩⟩
    have hr : ∀ j, j < 6 → w.cell? ⟨g, 0 + i * 6 + j, none⟩ = (cC1 cs[i])[j]? := fun j hj => by
      rw [Nat.zero_add, World.ownsRow.cellAt h _ (by omega)]
      exact flat_at cC1 6 (fun _ => rfl) cs i j hi hj
    exact ⟨hr 0 (by omega), hr 1 (by omega), hr 2 (by omega), hr 3 (by omega), hr 4 (by omega), hr 5 (by omega)⟩
/- partitions, each with the list of its regions -/
structure PA (w : World) (B : Nat) (v : Value) (ys : List (PartD × Value)) : Prop where
  own : w.ownsRow B 42 5 v ys.length (pC ys)
  reg : ∀ y ∈ ys, w.ownsRow B 90 3 y.2 y.1.regs.length (rC y.1.regs)
theorem own_stays {w w' : World} {B e s n : Nat} {v : Value} {xs : List Value} (h : w.ownsRow B e s v n xs) (hb : Below w.heap.size w w') : w'.ownsRow B e s v n xs := by
  refine ⟨h.1, ?_⟩
  rcases h.2 with hn | ⟨g, cap, cur, hv, hB, hg, rest⟩
  · exact .inl hn
  · exact .inr ⟨g, cap, cur, hv, hB, (hb.block _ (lt_of_blk hg)).trans hg, rest⟩
theorem PA.below {w w' : World} {B : Nat} {v : Value} {ys : List (PartD × Value)} (h : PA w B v ys) (hb : Below w.heap.size w w') : PA w' B v ys :=
  ⟨own_stays h.own hb, fun y hy => own_stays (h.reg y hy) hb⟩
theorem PA.see {w : World} {B : Nat} {v : Value} {ys : List (PartD × Value)} (h : PA w B v ys) : PartsV w v (ys.map Prod.fst) ∧ PartsC w v (ys.map Prod.fst).length := by
  have hlen : (ys.map Prod.fst).length = ys.length := by simp
  rcases own_form h.own with ⟨h0, rfl⟩ | ⟨g, cap, rfl, hle⟩
  · have : ys = [] := List.eq_nil_of_length_eq_zero h0
    subst this
    exact ⟨⟨_, _, rfl, fun i hi => absurd hi (by simp)⟩, ⟨_, _, _, rfl, Nat.le_refl _⟩, fun i hi => absurd hi (by simp)⟩
  · have hr : ∀ i (hi : i < ys.length) j, j < 5 → w.cell? ⟨g, i * 5 + j, none⟩ = (pC1 ys[i])[j]? := fun i hi j hj => by
      rw [World.ownsRow.cellAt h.own _ (by omega)]
      exact flat_at pC1 5 (fun _ => rfl) ys i j hi hj
    constructor
    · refine ⟨some ⟨g, 0, none⟩, cap, by rw [hlen], fun i hi => ⟨g, 0, (ys[i]'(by omega)).2, rfl, ?_⟩⟩
      have hi' : i < ys.length := by omega
      rw [List.getElem_map, Nat.zero_add]
      exact ⟨hr i hi' 0 (by omega), hr i hi' 1 (by omega), hr i hi' 2 (by omega), hr i hi' 3 (by omega), hr i hi' 4 (by omega), regs_see (h.reg _ (List.getElem_mem hi'))⟩
    · refine ⟨⟨_, _, _, rfl, by omega⟩, fun i hi b off l c e rv hc => ?_⟩
      have hi' : i < ys.length := by omega
      simp only [Value.slice.injEq, Option.some.injEq, Addr.mk.injEq, and_true] at e
      obtain ⟨⟨rfl, rfl⟩, _, _⟩ := e
      rw [Nat.zero_add, hr i hi' 4 (by omega)] at hc
      have : (ys[i]'hi').2 = rv := by simpa [pC1] using hc
      rw [← this]
      exact own_cap (h.reg _ (List.getElem_mem hi'))
theorem own_else {w w' : World} {B B' e e' s s' n n' : Nat} {v v' : Value} {xs xs' : List Value} (h : w.ownsRow B e s v n xs) (h' : w.ownsRow B' e' s' v' n' xs') (hne : e ≠ e') (hg : w.grownBy w' v'.ownBlock) : w'.ownsRow B e s v n xs := by
  apply h.kept hg
  rcases h.2 with ⟨rfl, _⟩ | ⟨g, cap, cur, rfl, _, hgg, _⟩
  · exact .inl rfl
  · right
    intro e1
    rcases h'.2 with ⟨rfl, _⟩ | ⟨g', cap', cur', rfl, _, hgg', _⟩
    · cases e1
    · have : g = g' := by simpa [Value.ownBlock] using e1
      subst this
      rw [hgg] at hgg'
      simp at hgg'
      exact hne hgg'.2
theorem PA.snoc {w w' : World} {B g c : Nat} {v u : Value} {ys : List (PartD × Value)} {x : PartD} (h : PA w B v ys) (hu : w.ownsRow B 90 3 u x.regs.length (rC x.regs)) (hg : w.grownBy w' v.ownBlock)
    (ho : w'.ownsRow B 42 5 (.slice (some ⟨g, 0, none⟩) (ys.length + 1) c) (ys.length + 1) (pC ys ++ pC1 (x, u))) : PA w' B (.slice (some ⟨g, 0, none⟩) (ys.length + 1) c) (ys ++ [(x, u)]) := by
  refine ⟨?_, fun y hy => ?_⟩
  · rw [List.length_append]
    have e : pC (ys ++ [(x, u)]) = pC ys ++ pC1 (x, u) := by simp [pC]
    rw [e]; exact ho
  · rcases List.mem_append.1 hy with hy | hy
    · exact own_else (h.reg y hy) h.own (by decide) hg
    · rw [List.mem_singleton.1 hy]; exact own_else hu h.own (by decide) hg
/- what made gives -/
def MadeK : Prop := ∀ (w : World) (u : Value) (L : List Int), IntsV w u L →
    Calls Tryz.prog 16 #[u] w fun e w' => ∃ F ps cs pv cv, e = .returned (.agg #[.int .i64 F, pv, cv]) ∧ PartsV w' pv ps ∧ ChansV w' cv cs ∧ PartsC w' pv ps.length ∧ capV cv ∧ (24 ≤ F ∧ F ≤ 240) ∧ (∃ i left, LI F i left ps ∧ i ≤ 6) ∧ ps ≠ [] ∧ CI ps.length F cs ∧ cs.length ≤ 7 ∧ Below w.heap.size w w'
end Go.Proofs.YteioennfpkoagaaGreatDoor.C
namespace Go.Proofs.YteioennfpkoagaaGreatDoor.C
open Go.RowKit

theorem infoRegM : (Tryz.prog.info? 90).map (fun i => (i.zero, i.size, i.bytes)) = some (some (.agg #[.int .i64 0, .int .i64 0, .int .i64 0]), 3, 24) := by kernel_rfl
theorem infoPartM : (Tryz.prog.info? 42).map (fun i => (i.zero, i.size, i.bytes)) = some (some (.agg #[.string ⟨#[]⟩, .int .i64 0, .int .i64 0, .int .i64 0, .slice none 0 0]), 5, 64) := by kernel_rfl
theorem infoChanM : (Tryz.prog.info? 92).map (fun i => (i.zero, i.size, i.bytes)) = some (some (.agg #[.string ⟨#[]⟩, .int .i64 0, .int .i64 0, .int .i64 0, .int .i64 0, .int .i64 0]), 6, 56) := by kernel_rfl
theorem parts_of {e s b : Nat} {z : Value} (h : (Tryz.prog.info? e).map (fun i => (i.zero, i.size, i.bytes)) = some (some z, s, b)) : ∃ i, Tryz.prog.info? e = some i ∧ i.zero = some z ∧ i.size = s ∧ i.bytes = b := by
  rcases hi : Tryz.prog.info? e with _ | i
  · rw [hi] at h; cases h
  · rw [hi] at h
    simp only [Option.map_some, Option.some.injEq, Prod.mk.injEq] at h
    exact ⟨i, rfl, h.1, h.2.1, h.2.2⟩
/- a block of another type is no row of these -/
theorem own_not_blk {w : World} {B e s n b t : Nat} {v : Value} {xs : List Value} {cs : Array Value} {z : Nat × Nat} (h : w.ownsRow B e s v n xs) (hb : w.heap[b]? = some (.cells cs t z)) (hne : t ≠ e) : some b ≠ v.ownBlock := by
  rcases h.2 with ⟨rfl, _⟩ | ⟨g, cap, cur, rfl, _, hg, _⟩
  · intro e1; cases e1
  · intro e1
    have : b = g := by simpa [Value.ownBlock] using e1
    subst this
    rw [hb] at hg
    simp at hg
    exact hne hg.2.1
theorem own_setElse {w : World} {B e s n : Nat} {v : Value} {xs : List Value} (h : w.ownsRow B e s v n xs) {b : Nat} (hb : some b ≠ v.ownBlock) (k : Nat) (u : Value) : (w.setCell ⟨b, k, none⟩ u).ownsRow B e s v n xs := by
  refine ⟨h.1, ?_⟩
  rcases h.2 with hn | ⟨g, cap, cur, rfl, hB, hg, rest⟩
  · exact .inl hn
  · refine .inr ⟨g, cap, cur, rfl, hB, (Below.heap_setCell _ _ _ _ (fun e1 => hb ?_)).trans hg, rest⟩
    have : g = b := e1
    rw [this]; rfl
/- a partition in the making -/
structure XS (w wr V : World) (xb : Nat) (nm : ByteArray) (pd dd ac : Int) (rv : Value) (rs : List RegD) : Prop where
  blk : V.heap[xb]? = some (.cells #[.string nm, .int .i64 pd, .int .i64 dd, .int .i64 ac, rv] 42 (0, 0))
  own : V.ownsRow (w.heap.size + 3) 90 3 rv rs.length (rC rs)
  rlt : ∀ k, rv.ownBlock = some k → wr.heap.size ≤ k
  bel : Below wr.heap.size wr V
  xlo : wr.heap.size ≤ xb
theorem XS.drew {w wr V : World} {xb : Nat} {nm : ByteArray} {pd dd ac : Int} {rv : Value} {rs : List RegD} (h : XS w wr V xb nm pd dd ac rv rs) : XS w wr V.drew xb nm pd dd ac rv rs := ⟨h.blk, h.own, h.rlt, h.bel.drew, h.xlo⟩
theorem XS.grow {w wr V V9 : World} {xb g c : Nat} {nm : ByteArray} {pd dd ac : Int} {rv : Value} {rs : List RegD} (h : XS w wr V xb nm pd dd ac rv rs) (r : RegD)
    (ho : V9.ownsRow (w.heap.size + 3) 90 3 (.slice (some ⟨g, 0, none⟩) (rs.length + 1) c) (rs.length + 1) (rC rs ++ rC1 r)) (hg : (V.alloc (.cells #[.int .i64 r.page, .int .i64 r.pages, .int .i64 r.rights] 90)).grownBy V9 rv.ownBlock) (hat : rv.ownBlock = some g ∨ g = V.heap.size + 1) :
    V9.heap[xb]? = some (.cells #[.string nm, .int .i64 pd, .int .i64 dd, .int .i64 ac, rv] 42 (0, 0)) ∧ XS w wr (V9.setCell ⟨xb, 4, none⟩ (.slice (some ⟨g, 0, none⟩) (rs.length + 1) c)) xb nm pd dd ac (.slice (some ⟨g, 0, none⟩) (rs.length + 1) c) (rs ++ [r]) := by
  have hxl := lt_of_blk h.blk
  have hb9 : V9.heap[xb]? = some (.cells #[.string nm, .int .i64 pd, .int .i64 dd, .int .i64 ac, rv] 42 (0, 0)) := (hg.block xb (by simp; omega) (own_not_blk h.own h.blk (by decide))).trans (heap_old _ _ h.blk)
  refine ⟨hb9, ⟨?_, ?_, ?_, ?_, h.xlo⟩⟩
  · exact heap_setCell_same V9 xb 4 _ _ _ hb9
  · have e : rC (rs ++ [r]) = rC rs ++ rC1 r := by simp [rC]
    rw [List.length_append, e]
    exact own_setElse ho (own_not_blk ho hb9 (by decide)) _ _
  · intro k hk
    have : g = k := by simpa [Value.ownBlock] using hk
    subst this
    have := h.bel.size
    rcases hat with h1 | h1
    · exact h.rlt _ h1
    · omega
  · exact ((h.bel.alloc h.bel.size _).grown hg (by have := h.bel.size; simp; omega) (fun k hk => h.rlt k hk)).setCell (p := ⟨xb, 4, none⟩) h.xlo _
/- what stands while made goes on -/
structure MD (w : World) (u : Value) (L : List Int) (f : Int) (v cv : Value) (ys : List (PartD × Value)) (cs : List ChanD) (V : World) : Prop where
  res : V.heap[w.heap.size]? = some (.cells #[.int .i64 0, .slice none 0 0, .slice none 0 0] 34 (0, 0))
  man : V.heap[w.heap.size + 1]? = some (.cells #[.int .i64 f, v, cv] 34 (0, 0))
  per : V.heap[w.heap.size + 1 + 1]? = some (.cells #[.int .i64 4, .int .i64 6, .int .i64 8, .int .i64 12, .int .i64 24, .int .i64 f] 3 (0, 0))
  ints : IntsV V u L
  bel : Below w.heap.size w V
  pts : PA V (w.heap.size + 3) v ys
  chs : V.ownsRow (w.heap.size + 3) 92 6 cv cs.length (cC cs)
theorem MD.below {w V V' : World} {u : Value} {L : List Int} {f : Int} {v cv : Value} {ys : List (PartD × Value)} {cs : List ChanD} (h : MD w u L f v cv ys cs V) (hb : Below V.heap.size V V') : MD w u L f v cv ys cs V' :=
  ⟨(hb.block _ (lt_of_blk h.res)).trans h.res, (hb.block _ (lt_of_blk h.man)).trans h.man, (hb.block _ (lt_of_blk h.per)).trans h.per, h.ints.below hb, h.bel.trans (hb.mono h.bel.size), h.pts.below hb, own_stays h.chs hb⟩
theorem MD.addPart {w wr V V9 : World} {u : Value} {L : List Int} {f : Int} {v cv : Value} {ys : List (PartD × Value)} {cs : List ChanD} {xb g c : Nat} {x : PartD} {rv : Value} (hL : IntsV w u L) (h : MD w u L f v cv ys cs V) (hx : XS w wr V xb x.name x.period x.duration x.action rv x.regs)
    (ho : V9.ownsRow (w.heap.size + 3) 42 5 (.slice (some ⟨g, 0, none⟩) (ys.length + 1) c) (ys.length + 1) (pC ys ++ pC1 (x, rv))) (hg : (V.alloc (.cells #[.string x.name, .int .i64 x.period, .int .i64 x.duration, .int .i64 x.action, rv] 42)).grownBy V9 v.ownBlock) :
    V9.heap[w.heap.size + 1]? = some (.cells #[.int .i64 f, v, cv] 34 (0, 0)) ∧ MD w u L f (.slice (some ⟨g, 0, none⟩) (ys.length + 1) c) cv (ys ++ [(x, rv)]) cs (V9.setCell ⟨w.heap.size + 1, 1, none⟩ (.slice (some ⟨g, 0, none⟩) (ys.length + 1) c)) := by
  have hal : Below V.heap.size V (V.alloc (.cells #[.string x.name, .int .i64 x.period, .int .i64 x.duration, .int .i64 x.action, rv] 42)) := (Below.refl _ _).alloc (Nat.le_refl _) _
  have hA := h.below hal
  have xA := own_stays hx.own hal
  have keep : ∀ {b : Nat} {o : Obj}, b < w.heap.size + 3 → (V.alloc (.cells #[.string x.name, .int .i64 x.period, .int .i64 x.duration, .int .i64 x.action, rv] 42)).heap[b]? = some o → V9.heap[b]? = some o := fun {b o} hb hbo => (hg.block b (lt_of_blk hbo) (fun e => absurd (hA.pts.own.lt b e.symm).1 (by omega))).trans hbo
  have hm9 := keep (by omega) hA.man
  have hbl : Below w.heap.size w V9 := hA.bel.grown hg hA.bel.size (fun k hk => by have := (hA.pts.own.lt k hk).1; omega)
  have hbs : Below w.heap.size w (V9.setCell ⟨w.heap.size + 1, 1, none⟩ (.slice (some ⟨g, 0, none⟩) (ys.length + 1) c)) := hbl.setCell (p := ⟨w.heap.size + 1, 1, none⟩) (show w.heap.size ≤ w.heap.size + 1 by omega) _
  have hpa := PA.snoc hA.pts xA hg ho
  refine ⟨hm9, ⟨(Below.heap_setCell _ _ _ _ (show w.heap.size ≠ w.heap.size + 1 by omega)).trans (keep (by omega) hA.res), heap_setCell_same V9 _ 1 _ _ _ hm9, (Below.heap_setCell _ _ _ _ (show w.heap.size + 1 + 1 ≠ w.heap.size + 1 by omega)).trans (keep (by omega) hA.per), hL.below hbs, hbs, ⟨?_, fun y hy => ?_⟩, ?_⟩⟩
  · exact own_setElse hpa.own (own_not_blk hpa.own hm9 (by decide)) _ _
  · exact own_setElse (hpa.reg y hy) (own_not_blk (hpa.reg y hy) hm9 (by decide)) _ _
  · have := own_else hA.chs hA.pts.own (by decide) hg
    exact own_setElse this (own_not_blk this hm9 (by decide)) _ _
theorem MD.addChan {w V V9 : World} {u : Value} {L : List Int} {f : Int} {v cv : Value} {ys : List (PartD × Value)} {cs : List ChanD} {g c : Nat} {x : ChanD} (hL : IntsV w u L) (h : MD w u L f v cv ys cs V)
    (ho : V9.ownsRow (w.heap.size + 3) 92 6 (.slice (some ⟨g, 0, none⟩) (cs.length + 1) c) (cs.length + 1) (cC cs ++ cC1 x)) (hg : (V.alloc (.cells #[.string x.name, .int .i64 x.source, .int .i64 x.target, .int .i64 x.kind, .int .i64 x.size, .int .i64 x.depth] 92)).grownBy V9 cv.ownBlock) :
    V9.heap[w.heap.size + 1]? = some (.cells #[.int .i64 f, v, cv] 34 (0, 0)) ∧ MD w u L f v (.slice (some ⟨g, 0, none⟩) (cs.length + 1) c) ys (cs ++ [x]) (V9.setCell ⟨w.heap.size + 1, 2, none⟩ (.slice (some ⟨g, 0, none⟩) (cs.length + 1) c)) := by
  have hal : Below V.heap.size V (V.alloc (.cells #[.string x.name, .int .i64 x.source, .int .i64 x.target, .int .i64 x.kind, .int .i64 x.size, .int .i64 x.depth] 92)) := (Below.refl _ _).alloc (Nat.le_refl _) _
  have hA := h.below hal
  have keep : ∀ {b : Nat} {o : Obj}, b < w.heap.size + 3 → (V.alloc (.cells #[.string x.name, .int .i64 x.source, .int .i64 x.target, .int .i64 x.kind, .int .i64 x.size, .int .i64 x.depth] 92)).heap[b]? = some o → V9.heap[b]? = some o := fun {b o} hb hbo => (hg.block b (lt_of_blk hbo) (fun e => absurd (hA.chs.lt b e.symm).1 (by omega))).trans hbo
  have hm9 := keep (by omega) hA.man
  have hbl : Below w.heap.size w V9 := hA.bel.grown hg hA.bel.size (fun k hk => by have := (hA.chs.lt k hk).1; omega)
  have hbs : Below w.heap.size w (V9.setCell ⟨w.heap.size + 1, 2, none⟩ (.slice (some ⟨g, 0, none⟩) (cs.length + 1) c)) := hbl.setCell (p := ⟨w.heap.size + 1, 2, none⟩) (show w.heap.size ≤ w.heap.size + 1 by omega) _
  refine ⟨hm9, ⟨(Below.heap_setCell _ _ _ _ (show w.heap.size ≠ w.heap.size + 1 by omega)).trans (keep (by omega) hA.res), heap_setCell_same V9 _ 2 _ _ _ hm9, (Below.heap_setCell _ _ _ _ (show w.heap.size + 1 + 1 ≠ w.heap.size + 1 by omega)).trans (keep (by omega) hA.per), hL.below hbs, hbs, ⟨?_, fun y hy => ?_⟩, ?_⟩⟩
  · have := own_else hA.pts.own hA.chs (by decide) hg
    exact own_setElse this (own_not_blk this hm9 (by decide)) _ _
  · have := own_else (hA.pts.reg y hy) hA.chs (by decide) hg
    exact own_setElse this (own_not_blk this hm9 (by decide)) _ _
  · have e : cC (cs ++ [x]) = cC cs ++ cC1 x := by simp [cC]
    rw [List.length_append, e]
    exact own_setElse ho (own_not_blk ho hm9 (by decide)) _ _
end Go.Proofs.YteioennfpkoagaaGreatDoor.C
namespace Go.Proofs.YteioennfpkoagaaGreatDoor.C
open Go.RowKit
attribute [local go_sem ↓] Go.wp_at_zero Go.wp_at_succ

set_option maxRecDepth 100000 in
set_option maxHeartbeats 4000000 in
theorem partWrong_any (f : Int) (ps : List PartD) (i : Nat) (pv cv : Value) (w : World) (hp : PartsV w pv ps) (hf : 1 ≤ f ∧ f ≤ 240) (hi : i < ps.length) (hl : ps.length ≤ 4611686018427387903) (hrl : ps[i].regs.length ≤ 4611686018427387903) :
    Calls Tryz.prog 154 #[.agg #[.int .i64 f, pv, cv], .int .i64 i] w fun e w' => e = .returned (.int .i64 (partErr f (ps.take i) ps[i])) ∧ Below w.heap.size w w' := by

  obtain ⟨va, cap, rfl, hc⟩ := hp
  obtain ⟨b, off, rv, rfl, c0, c1, c2, c3, c4, hrv⟩ := hc i hi
  have HC : Hid _ := hc
  have HRV : Hid _ := hrv
  obtain ⟨ra, rcap, rfl, hrx⟩ := hrv
  clear hrx
  clear hc
  have hbl := World.block_lt_of_cell? w _ c0
  have hb0 : Below w.heap.size w (w.alloc (.cells #[.int .i64 f, .slice (some ⟨b, off, none⟩) ps.length cap, cv] 34)) := (Below.refl _ _).alloc (Nat.le_refl _) _
  have d0 := (hb0.cell (by exact hbl)).trans c0
  have d1 := (hb0.cell (by exact hbl)).trans c1
  have d2 := (hb0.cell (by exact hbl)).trans c2
  have d3 := (hb0.cell (by exact hbl)).trans c3
  have d4 := (hb0.cell (by exact hbl)).trans c4
  have hi' : (i : Int) < (ps.length : Int) := by omega
  have hi0 : (0 : Int) ≤ (i : Int) := by omega
  have HX : Hid (ps[i] = ps[i]) := rfl
  generalize hx : ps[i] = x at *
  have HXE : Hid _ := hx
  clear hx HX
  go_enter Tryz.func154, Tryz.ntmps154
  go_wp2_with fail
  refine (nameOK_any _ _).mono ?_
  rintro e w1 ⟨rfl, rfl⟩
  have hm2 := heap_old _ (.cells #[.string x.name, .int .i64 x.period, .int .i64 x.duration, .int .i64 x.action, .slice ra x.regs.length rcap] 42) (heap_new w (.cells #[.int .i64 f, .slice (some ⟨b, off, none⟩) ps.length cap, cv] 34))
  have hx2 := heap_new (w.alloc (.cells #[.int .i64 f, .slice (some ⟨b, off, none⟩) ps.length cap, cv] 34)) (.cells #[.string x.name, .int .i64 x.period, .int .i64 x.duration, .int .i64 x.action, .slice ra x.regs.length rcap] 42)
  have hb2 := hb0.alloc (o := .cells #[.string x.name, .int .i64 x.period, .int .i64 x.duration, .int .i64 x.action, .slice ra x.regs.length rcap] 42) (by simp)
  simp only [World.size_alloc] at hx2
  clear hb0 d0 d1 d2 d3 d4 c0 c1 c2 c3 c4
  generalize hnm : nameF x.name.data.toList = nm at *
  have HNM : Hid _ := hnm
  clear hnm
  generalize (w.alloc (.cells #[.int .i64 f, .slice (some ⟨b, off, none⟩) ps.length cap, cv] 34)).alloc (.cells #[.string x.name, .int .i64 x.period, .int .i64 x.duration, .int .i64 x.action, .slice ra x.regs.length rcap] 42) = W2 at *
  go_wp2_with fail
  go_loopw [6, 7] (fun ok j wr => ∃ (k : Nat) (c : Bool), j = .int .i64 k ∧ ok = .bool c ∧ k ≤ i ∧ Hid (c = (nm && freshP (ps.take k) x)) ∧ Below W2.heap.size W2 wr) (fun _ j _ => i - (intOf j).toNat)
  case atStart => exact ⟨0, nm, rfl, rfl, by omega, by simp [Hid, freshP], Below.refl _ _⟩
  case round =>
    obtain ⟨k, c, rfl, rfl, hk, HCC, hbel⟩ := hrel
    have hm3 := (hbel.block _ (lt_of_blk hm2)).trans hm2
    have hx3 := (hbel.block _ (lt_of_blk hx2)).trans hx2
    by_cases hlt : k < i
    · have hlt' : (k : Int) < (i : Int) := by omega
      have hk0 : (0 : Int) ≤ (k : Int) := by omega
      obtain ⟨b', off', rv', hab, c0, _⟩ := HC.out k (by omega)
      cases hab
      have hkl : (k : Int) < (ps.length : Int) := by omega
      have e0 := (hbel.cell (by exact (Nat.lt_of_lt_of_le (World.block_lt_of_cell? w _ c0) hb2.size))).trans ((hb2.cell (by exact World.block_lt_of_cell? w _ c0)).trans c0)
      have e1 : wr.cell? ⟨w.heap.size, 1, none⟩ = some (.slice (some ⟨b, off, none⟩) ps.length cap) := by rw [cell_of_blk hm3]; rfl
      have e2 : wr.cell? ⟨w.heap.size + 1, 0, none⟩ = some (.string x.name) := by rw [cell_of_blk hx3]; rfl
      generalize hy : ps[k].name = y at *
      have HY : Hid _ := hy
      clear hy
      cases c
      · go_wp2_with fail
        go_quiet (fail)
        go_wp2_with fail
        go_roundw
        case rel => exact ⟨k + 1, false, by go_num, rfl, by omega, by show _ = _; rw [freshP_step (by omega) x, ← Bool.and_assoc, ← HCC.out]; rfl, below_drewN hbel _⟩
        case measure => simp [intOf]; omega
      · go_wp2_with fail
        go_quiet (fail)
        go_wp2_with fail
        go_roundw
        case rel => exact ⟨k + 1, (y.toList != x.name.toList), by go_num, rfl, by omega, by show _ = _; rw [freshP_step (by omega) x, ← Bool.and_assoc, ← HCC.out, HY.out]; simp, below_drewN hbel _⟩
        case measure => simp [intOf]; omega
    · have hke : k = i := by omega
      subst hke
      have e4 : wr.cell? ⟨w.heap.size + 1, 4, none⟩ = some (.slice ra x.regs.length rcap) := by rw [cell_of_blk hx3]; rfl
      have b3 : Below w.heap.size w wr := hb2.trans (hbel.mono hb2.size)
      go_wp2_with fail
      refine (regionsOK_any x.regs _ wr (RegsV.below HRV.out b3) hrl).mono ?_
      rintro e V ⟨rfl, hbv⟩
      have hm4 := (hbv.block _ (lt_of_blk hm3)).trans hm3
      have hx4 := (hbv.block _ (lt_of_blk hx3)).trans hx3
      have b4 := b3.trans (hbv.mono b3.size)
      have f0 : V.cell? ⟨w.heap.size, 0, none⟩ = some (.int .i64 f) := by rw [cell_of_blk hm4]; rfl
      have g1 : V.cell? ⟨w.heap.size + 1, 1, none⟩ = some (.int .i64 x.period) := by rw [cell_of_blk hx4]; rfl
      have g2 : V.cell? ⟨w.heap.size + 1, 2, none⟩ = some (.int .i64 x.duration) := by rw [cell_of_blk hx4]; rfl
      have g3 : V.cell? ⟨w.heap.size + 1, 3, none⟩ = some (.int .i64 x.action) := by rw [cell_of_blk hx4]; rfl
      clear e4 hm2 hm3 hx2 hx3 hbel hb2 b3 hbv hm4 hx4
      have hpe : partErr f (ps.take k) x = partErr f (ps.take k) x := rfl
      conv at hpe => rhs; unfold partErr; rw [HNM.out, ← HCC.out]
      have HPE : Hid _ := hpe
      clear hpe HC HRV HXE HCC HNM
      generalize regsF x.regs = rg at *
      cases c
      · go_wp2_with fail
        go_ret
        exact ⟨by rw [HPE.out]; rfl, b4⟩
      have hwr : 1 ≤ x.period → x.period ≤ f → IntKind.i64.wrap (f % x.period) = f % x.period := fun h h' => by
        have h1 := Int.emod_lt_of_pos f (show 0 < x.period by omega)
        have h2 := Int.emod_nonneg f (show x.period ≠ 0 by omega)
        exact wrap_small _ (by omega) (by omega)
      have hcase : (decide (x.period < 1) = true ∧ Hid (partErr f (ps.take k) x = 8)) ∨ (decide (x.period < 1) = false ∧ decide (f < x.period) = true ∧ Hid (partErr f (ps.take k) x = 8)) ∨ (decide (x.period < 1) = false ∧ decide (f < x.period) = false ∧ (f % x.period != 0) = true ∧ Hid (partErr f (ps.take k) x = 8)) ∨ ((decide (x.period < 1) = false ∧ decide (f < x.period) = false ∧ (f % x.period != 0) = false) ∧ ((decide (x.duration < 1) = true ∧ Hid (partErr f (ps.take k) x = 9)) ∨ (decide (x.duration < 1) = false ∧ decide (x.period < x.duration) = true ∧ Hid (partErr f (ps.take k) x = 9)) ∨ (decide (x.duration < 1) = false ∧ decide (x.period < x.duration) = false ∧ ((decide (x.action < 1) = true ∧ Hid (partErr f (ps.take k) x = 10)) ∨ (decide (x.action < 1) = false ∧ decide (3 < x.action) = true ∧ Hid (partErr f (ps.take k) x = 10)) ∨ (decide (x.action < 1) = false ∧ decide (3 < x.action) = false ∧ ((rg = false ∧ Hid (partErr f (ps.take k) x = 11)) ∨ (rg = true ∧ Hid (partErr f (ps.take k) x = 0)))))))) := by
        by_cases h1 : x.period < 1
        · exact .inl ⟨by simp [h1], by show _ = _; rw [HPE.out]; simp [h1]⟩
        by_cases h2 : f < x.period
        · exact .inr (.inl ⟨by simp [h1], by simp [h2], by show _ = _; rw [HPE.out]; simp [h2]⟩)
        by_cases h3 : f % x.period = 0
        · refine .inr (.inr (.inr ⟨⟨by simp [h1], by simp [h2], by simp [h3]⟩, ?_⟩))
          by_cases h4 : x.duration < 1
          · exact .inl ⟨by simp [h4], by show _ = _; rw [HPE.out]; simp [h1, h2, h3, h4]⟩
          by_cases h5 : x.period < x.duration
          · exact .inr (.inl ⟨by simp [h4], by simp [h5], by show _ = _; rw [HPE.out]; simp [h1, h2, h3, h5]⟩)
          refine .inr (.inr ⟨by simp [h4], by simp [h5], ?_⟩)
          by_cases h6 : x.action < 1
          · exact .inl ⟨by simp [h6], by show _ = _; rw [HPE.out]; simp [h1, h2, h3, h4, h5, h6]⟩
          by_cases h7 : 3 < x.action
          · exact .inr (.inl ⟨by simp [h6], by simp [h7], by show _ = _; rw [HPE.out]; simp [h1, h2, h3, h4, h5, h7]⟩)
          refine .inr (.inr ⟨by simp [h6], by simp [h7], ?_⟩)
          cases rg
          · exact .inl ⟨rfl, by show _ = _; rw [HPE.out]; simp [h1, h2, h3, h4, h5, h6, h7]⟩
          · exact .inr ⟨rfl, by show _ = _; rw [HPE.out]; simp [h1, h2, h3, h4, h5, h6, h7]⟩
        · exact .inr (.inr (.inl ⟨by simp [h1], by simp [h2], by simp [h3], by show _ = _; rw [HPE.out]; simp [h3]⟩))
      clear HPE
      rcases hcase with ⟨h1, HE⟩ | ⟨h1, h2, HE⟩ | ⟨h1, h2, h3, HE⟩ | ⟨⟨h1, h2, h3⟩, ⟨h4, HE⟩ | ⟨h4, h5, HE⟩ | ⟨h4, h5, ⟨h6, HE⟩ | ⟨h6, h7, HE⟩ | ⟨h6, h7, ⟨rfl, HE⟩ | ⟨rfl, HE⟩⟩⟩⟩
      all_goals (try have hw := hwr (by simp only [decide_eq_false_iff_not] at h1; omega) (by simp only [decide_eq_false_iff_not] at h2; omega))
      all_goals clear hwr
      all_goals (try have hpz : ¬ x.period = 0 := by (simp only [decide_eq_false_iff_not] at h1; omega))
      all_goals go_wp2_with fail
      all_goals go_ret
      all_goals exact ⟨by rw [HE.out]; rfl, b4⟩
end Go.Proofs.YteioennfpkoagaaGreatDoor.C
namespace Go.Proofs.YteioennfpkoagaaGreatDoor.C
open Go.RowKit
attribute [local go_sem ↓] Go.wp_at_zero Go.wp_at_succ

set_option maxRecDepth 100000 in
set_option maxHeartbeats 4000000 in
theorem chanWrong_any (f : Int) (cs : List ChanD) (i n pcap : Nat) (pa : Option Addr) (cv : Value) (w : World) (hp : ChansV w cv cs) (hi : i < cs.length) (hl : cs.length ≤ 4611686018427387903) :
    Calls Tryz.prog 155 #[.agg #[.int .i64 f, .slice pa n pcap, cv], .int .i64 i] w fun e w' => e = .returned (.int .i64 (chanErr f n (cs.take i) cs[i])) ∧ Below w.heap.size w w' := by
  obtain ⟨va, cap, rfl, hc⟩ := hp
  obtain ⟨b, off, rfl, c0, c1, c2, c3, c4, c5⟩ := hc i hi
  have HC : Hid _ := hc
  clear hc
  have hbl := World.block_lt_of_cell? w _ c0
  have hb0 : Below w.heap.size w (w.alloc (.cells #[.int .i64 f, .slice pa n pcap, .slice (some ⟨b, off, none⟩) cs.length cap] 34)) := (Below.refl _ _).alloc (Nat.le_refl _) _
  have d0 := (hb0.cell (by exact hbl)).trans c0
  have d1 := (hb0.cell (by exact hbl)).trans c1
  have d2 := (hb0.cell (by exact hbl)).trans c2
  have d3 := (hb0.cell (by exact hbl)).trans c3
  have d4 := (hb0.cell (by exact hbl)).trans c4
  have d5 := (hb0.cell (by exact hbl)).trans c5
  have hi' : (i : Int) < (cs.length : Int) := by omega
  have hi0 : (0 : Int) ≤ (i : Int) := by omega
  generalize hx : cs[i] = c at *
  have HXE : Hid _ := hx
  clear hx
  go_enter Tryz.func155, Tryz.ntmps155
  go_wp2_with fail
  refine (nameOK_any _ _).mono ?_
  rintro e w1 ⟨rfl, rfl⟩
  have hm2 := heap_old _ (.cells #[.string c.name, .int .i64 c.source, .int .i64 c.target, .int .i64 c.kind, .int .i64 c.size, .int .i64 c.depth] 92) (heap_new w (.cells #[.int .i64 f, .slice pa n pcap, .slice (some ⟨b, off, none⟩) cs.length cap] 34))
  have hx2 := heap_new (w.alloc (.cells #[.int .i64 f, .slice pa n pcap, .slice (some ⟨b, off, none⟩) cs.length cap] 34)) (.cells #[.string c.name, .int .i64 c.source, .int .i64 c.target, .int .i64 c.kind, .int .i64 c.size, .int .i64 c.depth] 92)
  have hb2 := hb0.alloc (o := .cells #[.string c.name, .int .i64 c.source, .int .i64 c.target, .int .i64 c.kind, .int .i64 c.size, .int .i64 c.depth] 92) (by simp)
  simp only [World.size_alloc] at hx2
  clear hb0 d0 d1 d2 d3 d4 d5 c0 c1 c2 c3 c4 c5
  generalize hnm : nameF c.name.data.toList = nm at *
  have HNM : Hid _ := hnm
  clear hnm
  generalize (w.alloc (.cells #[.int .i64 f, .slice pa n pcap, .slice (some ⟨b, off, none⟩) cs.length cap] 34)).alloc (.cells #[.string c.name, .int .i64 c.source, .int .i64 c.target, .int .i64 c.kind, .int .i64 c.size, .int .i64 c.depth] 92) = W2 at *
  go_wp2_with fail
  go_loopw [7, 8] (fun ok j wr => ∃ (k : Nat) (o : Bool), j = .int .i64 k ∧ ok = .bool o ∧ k ≤ i ∧ Hid (o = (nm && freshC (cs.take k) c)) ∧ Below W2.heap.size W2 wr) (fun _ j _ => i - (intOf j).toNat)
  case atStart => exact ⟨0, nm, rfl, rfl, by omega, by simp [Hid, freshC], Below.refl _ _⟩
  case round =>
    obtain ⟨k, o, rfl, rfl, hk, HCC, hbel⟩ := hrel
    have hm3 := (hbel.block _ (lt_of_blk hm2)).trans hm2
    have hx3 := (hbel.block _ (lt_of_blk hx2)).trans hx2
    by_cases hlt : k < i
    · have hlt' : (k : Int) < (i : Int) := by omega
      have hk0 : (0 : Int) ≤ (k : Int) := by omega
      obtain ⟨b', off', hab, c0, _⟩ := HC.out k (by omega)
      cases hab
      have hkl : (k : Int) < (cs.length : Int) := by omega
      have e0 := (hbel.cell (by exact (Nat.lt_of_lt_of_le (World.block_lt_of_cell? w _ c0) hb2.size))).trans ((hb2.cell (by exact World.block_lt_of_cell? w _ c0)).trans c0)
      have e1 : wr.cell? ⟨w.heap.size, 2, none⟩ = some (.slice (some ⟨b, off, none⟩) cs.length cap) := by rw [cell_of_blk hm3]; rfl
      have e2 : wr.cell? ⟨w.heap.size + 1, 0, none⟩ = some (.string c.name) := by rw [cell_of_blk hx3]; rfl
      generalize hy : cs[k].name = y at *
      have HY : Hid _ := hy
      clear hy
      cases o
      · go_wp2_with fail
        go_quiet (fail)
        go_wp2_with fail
        go_roundw
        case rel => exact ⟨k + 1, false, by go_num, rfl, by omega, by show _ = _; rw [freshC_step (by omega) c, ← Bool.and_assoc, ← HCC.out]; rfl, below_drewN hbel _⟩
        case measure => simp [intOf]; omega
      · go_wp2_with fail
        go_quiet (fail)
        go_wp2_with fail
        go_roundw
        case rel => exact ⟨k + 1, (y.toList != c.name.toList), by go_num, rfl, by omega, by show _ = _; rw [freshC_step (by omega) c, ← Bool.and_assoc, ← HCC.out, HY.out]; simp, below_drewN hbel _⟩
        case measure => simp [intOf]; omega
    · have hke : k = i := by omega
      subst hke
      have b4 : Below w.heap.size w wr := hb2.trans (hbel.mono hb2.size)
      have f0 : wr.cell? ⟨w.heap.size, 0, none⟩ = some (.int .i64 f) := by rw [cell_of_blk hm3]; rfl
      have g1 : wr.cell? ⟨w.heap.size + 1, 1, none⟩ = some (.int .i64 c.source) := by rw [cell_of_blk hx3]; rfl
      have g2 : wr.cell? ⟨w.heap.size + 1, 2, none⟩ = some (.int .i64 c.target) := by rw [cell_of_blk hx3]; rfl
      have g3 : wr.cell? ⟨w.heap.size + 1, 3, none⟩ = some (.int .i64 c.kind) := by rw [cell_of_blk hx3]; rfl
      have g4 : wr.cell? ⟨w.heap.size + 1, 4, none⟩ = some (.int .i64 c.size) := by rw [cell_of_blk hx3]; rfl
      have g5 : wr.cell? ⟨w.heap.size + 1, 5, none⟩ = some (.int .i64 c.depth) := by rw [cell_of_blk hx3]; rfl
      clear hm2 hm3 hx2 hx3 hbel hb2
      have hpe : chanErr f n (cs.take k) c = chanErr f n (cs.take k) c := rfl
      conv at hpe => rhs; unfold chanErr; rw [HNM.out, ← HCC.out]
      have HPE : Hid _ := hpe
      clear hpe HC HXE HCC HNM
      cases o
      · have HE : Hid (chanErr f n (cs.take k) c = 7) := by show _ = _; rw [HPE.out]; rfl
        clear HPE
        rcases (show (c.kind == 1) = true ∨ (c.kind == 1) = false by cases (c.kind == 1) <;> simp) with q1 | q1
        all_goals go_wp2_with fail
        all_goals go_ret
        all_goals exact ⟨by rw [HE.out]; rfl, b4⟩
      have hcase : ((c.kind == 1) = true ∧ (c.kind != 1) = false ∧ decide (c.source < 0) = true ∧ Hid (chanErr f n (cs.take k) c = 12)) ∨ ((c.kind == 1) = true ∧ (c.kind != 1) = false ∧ decide (c.source < 0) = false ∧ decide ((n : Int) ≤ c.source) = true ∧ Hid (chanErr f n (cs.take k) c = 12)) ∨ ((c.kind == 1) = true ∧ (c.kind != 1) = false ∧ decide (c.source < 0) = false ∧ decide ((n : Int) ≤ c.source) = false ∧ decide (c.target < 0) = true ∧ Hid (chanErr f n (cs.take k) c = 12)) ∨ ((c.kind == 1) = true ∧ (c.kind != 1) = false ∧ decide (c.source < 0) = false ∧ decide ((n : Int) ≤ c.source) = false ∧ decide (c.target < 0) = false ∧ decide ((n : Int) ≤ c.target) = true ∧ Hid (chanErr f n (cs.take k) c = 12)) ∨ ((c.kind == 1) = true ∧ (c.kind != 1) = false ∧ decide (c.source < 0) = false ∧ decide ((n : Int) ≤ c.source) = false ∧ decide (c.target < 0) = false ∧ decide ((n : Int) ≤ c.target) = false ∧ (c.source == c.target) = true ∧ Hid (chanErr f n (cs.take k) c = 12)) ∨ ((c.kind == 1) = true ∧ (c.kind != 1) = false ∧ decide (c.source < 0) = false ∧ decide ((n : Int) ≤ c.source) = false ∧ decide (c.target < 0) = false ∧ decide ((n : Int) ≤ c.target) = false ∧ (c.source == c.target) = false ∧ decide (c.size < 1) = true ∧ Hid (chanErr f n (cs.take k) c = 14)) ∨ ((c.kind == 1) = true ∧ (c.kind != 1) = false ∧ decide (c.source < 0) = false ∧ decide ((n : Int) ≤ c.source) = false ∧ decide (c.target < 0) = false ∧ decide ((n : Int) ≤ c.target) = false ∧ (c.source == c.target) = false ∧ decide (c.size < 1) = false ∧ decide (32 < c.size) = true ∧ Hid (chanErr f n (cs.take k) c = 14)) ∨ ((c.kind == 1) = true ∧ (c.kind != 1) = false ∧ decide (c.source < 0) = false ∧ decide ((n : Int) ≤ c.source) = false ∧ decide (c.target < 0) = false ∧ decide ((n : Int) ≤ c.target) = false ∧ (c.source == c.target) = false ∧ decide (c.size < 1) = false ∧ decide (32 < c.size) = false ∧ decide (c.depth < 1) = true ∧ Hid (chanErr f n (cs.take k) c = 15)) ∨ ((c.kind == 1) = true ∧ (c.kind != 1) = false ∧ decide (c.source < 0) = false ∧ decide ((n : Int) ≤ c.source) = false ∧ decide (c.target < 0) = false ∧ decide ((n : Int) ≤ c.target) = false ∧ (c.source == c.target) = false ∧ decide (c.size < 1) = false ∧ decide (32 < c.size) = false ∧ decide (c.depth < 1) = false ∧ decide (8 < c.depth) = true ∧ Hid (chanErr f n (cs.take k) c = 15)) ∨ ((c.kind == 1) = true ∧ (c.kind != 1) = false ∧ decide (c.source < 0) = false ∧ decide ((n : Int) ≤ c.source) = false ∧ decide (c.target < 0) = false ∧ decide ((n : Int) ≤ c.target) = false ∧ (c.source == c.target) = false ∧ decide (c.size < 1) = false ∧ decide (32 < c.size) = false ∧ decide (c.depth < 1) = false ∧ decide (8 < c.depth) = false ∧ Hid (chanErr f n (cs.take k) c = 0)) ∨ ((c.kind == 1) = false ∧ (c.kind != 1) = true ∧ (c.kind != 2) = false ∧ decide (c.source < 0) = true ∧ Hid (chanErr f n (cs.take k) c = 12)) ∨ ((c.kind == 1) = false ∧ (c.kind != 1) = true ∧ (c.kind != 2) = false ∧ decide (c.source < 0) = false ∧ decide ((n : Int) ≤ c.source) = true ∧ Hid (chanErr f n (cs.take k) c = 12)) ∨ ((c.kind == 1) = false ∧ (c.kind != 1) = true ∧ (c.kind != 2) = false ∧ decide (c.source < 0) = false ∧ decide ((n : Int) ≤ c.source) = false ∧ decide (c.target < 0) = true ∧ Hid (chanErr f n (cs.take k) c = 12)) ∨ ((c.kind == 1) = false ∧ (c.kind != 1) = true ∧ (c.kind != 2) = false ∧ decide (c.source < 0) = false ∧ decide ((n : Int) ≤ c.source) = false ∧ decide (c.target < 0) = false ∧ decide ((n : Int) ≤ c.target) = true ∧ Hid (chanErr f n (cs.take k) c = 12)) ∨ ((c.kind == 1) = false ∧ (c.kind != 1) = true ∧ (c.kind != 2) = false ∧ decide (c.source < 0) = false ∧ decide ((n : Int) ≤ c.source) = false ∧ decide (c.target < 0) = false ∧ decide ((n : Int) ≤ c.target) = false ∧ (c.source == c.target) = true ∧ Hid (chanErr f n (cs.take k) c = 12)) ∨ ((c.kind == 1) = false ∧ (c.kind != 1) = true ∧ (c.kind != 2) = false ∧ decide (c.source < 0) = false ∧ decide ((n : Int) ≤ c.source) = false ∧ decide (c.target < 0) = false ∧ decide ((n : Int) ≤ c.target) = false ∧ (c.source == c.target) = false ∧ decide (c.size < 1) = true ∧ Hid (chanErr f n (cs.take k) c = 14)) ∨ ((c.kind == 1) = false ∧ (c.kind != 1) = true ∧ (c.kind != 2) = false ∧ decide (c.source < 0) = false ∧ decide ((n : Int) ≤ c.source) = false ∧ decide (c.target < 0) = false ∧ decide ((n : Int) ≤ c.target) = false ∧ (c.source == c.target) = false ∧ decide (c.size < 1) = false ∧ decide (32 < c.size) = true ∧ Hid (chanErr f n (cs.take k) c = 14)) ∨ ((c.kind == 1) = false ∧ (c.kind != 1) = true ∧ (c.kind != 2) = false ∧ decide (c.source < 0) = false ∧ decide ((n : Int) ≤ c.source) = false ∧ decide (c.target < 0) = false ∧ decide ((n : Int) ≤ c.target) = false ∧ (c.source == c.target) = false ∧ decide (c.size < 1) = false ∧ decide (32 < c.size) = false ∧ decide (c.depth < 1) = true ∧ Hid (chanErr f n (cs.take k) c = 15)) ∨ ((c.kind == 1) = false ∧ (c.kind != 1) = true ∧ (c.kind != 2) = false ∧ decide (c.source < 0) = false ∧ decide ((n : Int) ≤ c.source) = false ∧ decide (c.target < 0) = false ∧ decide ((n : Int) ≤ c.target) = false ∧ (c.source == c.target) = false ∧ decide (c.size < 1) = false ∧ decide (32 < c.size) = false ∧ decide (c.depth < 1) = false ∧ decide (f < c.depth) = true ∧ Hid (chanErr f n (cs.take k) c = 15)) ∨ ((c.kind == 1) = false ∧ (c.kind != 1) = true ∧ (c.kind != 2) = false ∧ decide (c.source < 0) = false ∧ decide ((n : Int) ≤ c.source) = false ∧ decide (c.target < 0) = false ∧ decide ((n : Int) ≤ c.target) = false ∧ (c.source == c.target) = false ∧ decide (c.size < 1) = false ∧ decide (32 < c.size) = false ∧ decide (c.depth < 1) = false ∧ decide (f < c.depth) = false ∧ Hid (chanErr f n (cs.take k) c = 0)) ∨ ((c.kind == 1) = false ∧ (c.kind != 1) = true ∧ (c.kind != 2) = true ∧ decide (c.source < 0) = true ∧ Hid (chanErr f n (cs.take k) c = 12)) ∨ ((c.kind == 1) = false ∧ (c.kind != 1) = true ∧ (c.kind != 2) = true ∧ decide (c.source < 0) = false ∧ decide ((n : Int) ≤ c.source) = true ∧ Hid (chanErr f n (cs.take k) c = 12)) ∨ ((c.kind == 1) = false ∧ (c.kind != 1) = true ∧ (c.kind != 2) = true ∧ decide (c.source < 0) = false ∧ decide ((n : Int) ≤ c.source) = false ∧ decide (c.target < 0) = true ∧ Hid (chanErr f n (cs.take k) c = 12)) ∨ ((c.kind == 1) = false ∧ (c.kind != 1) = true ∧ (c.kind != 2) = true ∧ decide (c.source < 0) = false ∧ decide ((n : Int) ≤ c.source) = false ∧ decide (c.target < 0) = false ∧ decide ((n : Int) ≤ c.target) = true ∧ Hid (chanErr f n (cs.take k) c = 12)) ∨ ((c.kind == 1) = false ∧ (c.kind != 1) = true ∧ (c.kind != 2) = true ∧ decide (c.source < 0) = false ∧ decide ((n : Int) ≤ c.source) = false ∧ decide (c.target < 0) = false ∧ decide ((n : Int) ≤ c.target) = false ∧ (c.source == c.target) = true ∧ Hid (chanErr f n (cs.take k) c = 12)) ∨ ((c.kind == 1) = false ∧ (c.kind != 1) = true ∧ (c.kind != 2) = true ∧ decide (c.source < 0) = false ∧ decide ((n : Int) ≤ c.source) = false ∧ decide (c.target < 0) = false ∧ decide ((n : Int) ≤ c.target) = false ∧ (c.source == c.target) = false ∧ Hid (chanErr f n (cs.take k) c = 13)) := by
        by_cases q0 : c.kind = 1
        · skip
          by_cases q1 : c.source < 0
          · skip
            exact .inl ⟨by simp [q0], by simp [q0], by simp [q1], by show _ = _; rw [HPE.out]; simp [q1]⟩
          by_cases q2 : (n : Int) ≤ c.source
          · skip
            exact .inr (.inl ⟨by simp [q0], by simp [q0], by simp [q1], by simp [q2], by show _ = _; rw [HPE.out]; simp [q1, q2]⟩)
          by_cases q3 : c.target < 0
          · skip
            exact .inr (.inr (.inl ⟨by simp [q0], by simp [q0], by simp [q1], by simp [q2], by simp [q3], by show _ = _; rw [HPE.out]; simp [q1, q2, q3]⟩))
          by_cases q4 : (n : Int) ≤ c.target
          · skip
            exact .inr (.inr (.inr (.inl ⟨by simp [q0], by simp [q0], by simp [q1], by simp [q2], by simp [q3], by simp [q4], by show _ = _; rw [HPE.out]; simp [q1, q2, q3, q4]⟩)))
          by_cases q5 : c.source = c.target
          · skip
            exact .inr (.inr (.inr (.inr (.inl ⟨by simp [q0], by simp [q0], by simp [q3, q5], by simp [q4, q5], by simp [q3], by simp [q4], by simp [q5], by show _ = _; rw [HPE.out]; simp [q3, q4, q5]⟩))))
          by_cases q6 : c.size < 1
          · skip
            exact .inr (.inr (.inr (.inr (.inr (.inl ⟨by simp [q0], by simp [q0], by simp [q1], by simp [q2], by simp [q3], by simp [q4], by simp [q5], by simp [q6], by show _ = _; rw [HPE.out]; simp [q0, q1, q2, q3, q4, q5, q6]⟩)))))
          by_cases q7 : 32 < c.size
          · skip
            exact .inr (.inr (.inr (.inr (.inr (.inr (.inl ⟨by simp [q0], by simp [q0], by simp [q1], by simp [q2], by simp [q3], by simp [q4], by simp [q5], by simp [q6], by simp [q7], by show _ = _; rw [HPE.out]; simp [q0, q1, q2, q3, q4, q5, q6, q7]⟩))))))
          by_cases q8 : c.depth < 1
          · skip
            exact .inr (.inr (.inr (.inr (.inr (.inr (.inr (.inl ⟨by simp [q0], by simp [q0], by simp [q1], by simp [q2], by simp [q3], by simp [q4], by simp [q5], by simp [q6], by simp [q7], by simp [q8], by show _ = _; rw [HPE.out]; simp [q0, q1, q2, q3, q4, q5, q6, q7, q8]⟩)))))))
          by_cases q9 : 8 < c.depth
          · skip
            exact .inr (.inr (.inr (.inr (.inr (.inr (.inr (.inr (.inl ⟨by simp [q0], by simp [q0], by simp [q1], by simp [q2], by simp [q3], by simp [q4], by simp [q5], by simp [q6], by simp [q7], by simp [q8], by simp [q9], by show _ = _; rw [HPE.out]; simp [q0, q1, q2, q3, q4, q5, q6, q7, q8, q9]⟩))))))))
          exact .inr (.inr (.inr (.inr (.inr (.inr (.inr (.inr (.inr (.inl ⟨by simp [q0], by simp [q0], by simp [q1], by simp [q2], by simp [q3], by simp [q4], by simp [q5], by simp [q6], by simp [q7], by simp [q8], by simp [q9], by show _ = _; rw [HPE.out]; simp [q0, q1, q2, q3, q4, q5, q6, q7, q8, q9]⟩)))))))))
        by_cases q1 : c.kind = 2
        · skip
          by_cases q2 : c.source < 0
          · skip
            exact .inr (.inr (.inr (.inr (.inr (.inr (.inr (.inr (.inr (.inr (.inl ⟨by simp [*], by simp [*], by simp [*], by simp [*], by show _ = _; rw [HPE.out]; simp [*]⟩))))))))))
          by_cases q3 : (n : Int) ≤ c.source
          · skip
            exact .inr (.inr (.inr (.inr (.inr (.inr (.inr (.inr (.inr (.inr (.inr (.inl ⟨by simp [*], by simp [*], by simp [*], by simp [*], by simp [*], by show _ = _; rw [HPE.out]; simp [*]⟩)))))))))))
          by_cases q4 : c.target < 0
          · skip
            exact .inr (.inr (.inr (.inr (.inr (.inr (.inr (.inr (.inr (.inr (.inr (.inr (.inl ⟨by simp [*], by simp [*], by simp [*], by simp [*], by simp [*], by simp [*], by show _ = _; rw [HPE.out]; simp [*]⟩))))))))))))
          by_cases q5 : (n : Int) ≤ c.target
          · skip
            exact .inr (.inr (.inr (.inr (.inr (.inr (.inr (.inr (.inr (.inr (.inr (.inr (.inr (.inl ⟨by simp [*], by simp [*], by simp [*], by simp [*], by simp [*], by simp [*], by simp [*], by show _ = _; rw [HPE.out]; simp [*]⟩)))))))))))))
          by_cases q6 : c.source = c.target
          · skip
            exact .inr (.inr (.inr (.inr (.inr (.inr (.inr (.inr (.inr (.inr (.inr (.inr (.inr (.inr (.inl ⟨by simp [*], by simp [*], by simp [*], by simp [*], by simp [*], by simp [*], by simp [*], by simp [*], by show _ = _; rw [HPE.out]; simp [*]⟩))))))))))))))
          by_cases q7 : c.size < 1
          · skip
            exact .inr (.inr (.inr (.inr (.inr (.inr (.inr (.inr (.inr (.inr (.inr (.inr (.inr (.inr (.inr (.inl ⟨by simp [*], by simp [*], by simp [*], by simp [*], by simp [*], by simp [*], by simp [*], by simp [*], by simp [*], by show _ = _; rw [HPE.out]; simp [*]⟩)))))))))))))))
          by_cases q8 : 32 < c.size
          · skip
            exact .inr (.inr (.inr (.inr (.inr (.inr (.inr (.inr (.inr (.inr (.inr (.inr (.inr (.inr (.inr (.inr (.inl ⟨by simp [*], by simp [*], by simp [*], by simp [*], by simp [*], by simp [*], by simp [*], by simp [*], by simp [*], by simp [*], by show _ = _; rw [HPE.out]; simp [*]⟩))))))))))))))))
          by_cases q9 : c.depth < 1
          · skip
            exact .inr (.inr (.inr (.inr (.inr (.inr (.inr (.inr (.inr (.inr (.inr (.inr (.inr (.inr (.inr (.inr (.inr (.inl ⟨by simp [*], by simp [*], by simp [*], by simp [*], by simp [*], by simp [*], by simp [*], by simp [*], by simp [*], by simp [*], by simp [*], by show _ = _; rw [HPE.out]; simp [*]⟩)))))))))))))))))
          by_cases q10 : f < c.depth
          · skip
            exact .inr (.inr (.inr (.inr (.inr (.inr (.inr (.inr (.inr (.inr (.inr (.inr (.inr (.inr (.inr (.inr (.inr (.inr (.inl ⟨by simp [*], by simp [*], by simp [*], by simp [*], by simp [*], by simp [*], by simp [*], by simp [*], by simp [*], by simp [*], by simp [*], by simp [*], by show _ = _; rw [HPE.out]; simp [*]⟩))))))))))))))))))
          exact .inr (.inr (.inr (.inr (.inr (.inr (.inr (.inr (.inr (.inr (.inr (.inr (.inr (.inr (.inr (.inr (.inr (.inr (.inr (.inl ⟨by simp [*], by simp [*], by simp [*], by simp [*], by simp [*], by simp [*], by simp [*], by simp [*], by simp [*], by simp [*], by simp [*], by simp [*], by show _ = _; rw [HPE.out]; simp [*]⟩)))))))))))))))))))
        by_cases q2 : c.source < 0
        · skip
          exact .inr (.inr (.inr (.inr (.inr (.inr (.inr (.inr (.inr (.inr (.inr (.inr (.inr (.inr (.inr (.inr (.inr (.inr (.inr (.inr (.inl ⟨by simp [*], by simp [*], by simp [*], by simp [*], by show _ = _; rw [HPE.out]; simp [*]⟩))))))))))))))))))))
        by_cases q3 : (n : Int) ≤ c.source
        · skip
          exact .inr (.inr (.inr (.inr (.inr (.inr (.inr (.inr (.inr (.inr (.inr (.inr (.inr (.inr (.inr (.inr (.inr (.inr (.inr (.inr (.inr (.inl ⟨by simp [*], by simp [*], by simp [*], by simp [*], by simp [*], by show _ = _; rw [HPE.out]; simp [*]⟩)))))))))))))))))))))
        by_cases q4 : c.target < 0
        · skip
          exact .inr (.inr (.inr (.inr (.inr (.inr (.inr (.inr (.inr (.inr (.inr (.inr (.inr (.inr (.inr (.inr (.inr (.inr (.inr (.inr (.inr (.inr (.inl ⟨by simp [*], by simp [*], by simp [*], by simp [*], by simp [*], by simp [*], by show _ = _; rw [HPE.out]; simp [*]⟩))))))))))))))))))))))
        by_cases q5 : (n : Int) ≤ c.target
        · skip
          exact .inr (.inr (.inr (.inr (.inr (.inr (.inr (.inr (.inr (.inr (.inr (.inr (.inr (.inr (.inr (.inr (.inr (.inr (.inr (.inr (.inr (.inr (.inr (.inl ⟨by simp [*], by simp [*], by simp [*], by simp [*], by simp [*], by simp [*], by simp [*], by show _ = _; rw [HPE.out]; simp [*]⟩)))))))))))))))))))))))
        by_cases q6 : c.source = c.target
        · skip
          exact .inr (.inr (.inr (.inr (.inr (.inr (.inr (.inr (.inr (.inr (.inr (.inr (.inr (.inr (.inr (.inr (.inr (.inr (.inr (.inr (.inr (.inr (.inr (.inr (.inl ⟨by simp [*], by simp [*], by simp [*], by simp [*], by simp [*], by simp [*], by simp [*], by simp [*], by show _ = _; rw [HPE.out]; simp [*]⟩))))))))))))))))))))))))
        exact .inr (.inr (.inr (.inr (.inr (.inr (.inr (.inr (.inr (.inr (.inr (.inr (.inr (.inr (.inr (.inr (.inr (.inr (.inr (.inr (.inr (.inr (.inr (.inr (.inr (⟨by simp [*], by simp [*], by simp [*], by simp [*], by simp [*], by simp [*], by simp [*], by simp [*], by show _ = _; rw [HPE.out]; simp [*]⟩)))))))))))))))))))))))))
      rcases hcase with ⟨f0, f1, f2, HE⟩ | ⟨f0, f1, f2, f3, HE⟩ | ⟨f0, f1, f2, f3, f4, HE⟩ | ⟨f0, f1, f2, f3, f4, f5, HE⟩ | ⟨f0, f1, f2, f3, f4, f5, f6, HE⟩ | ⟨f0, f1, f2, f3, f4, f5, f6, f7, HE⟩ | ⟨f0, f1, f2, f3, f4, f5, f6, f7, f8, HE⟩ | ⟨f0, f1, f2, f3, f4, f5, f6, f7, f8, f9, HE⟩ | ⟨f0, f1, f2, f3, f4, f5, f6, f7, f8, f9, f10, HE⟩ | ⟨f0, f1, f2, f3, f4, f5, f6, f7, f8, f9, f10, HE⟩ | ⟨f0, f1, f2, f3, HE⟩ | ⟨f0, f1, f2, f3, f4, HE⟩ | ⟨f0, f1, f2, f3, f4, f5, HE⟩ | ⟨f0, f1, f2, f3, f4, f5, f6, HE⟩ | ⟨f0, f1, f2, f3, f4, f5, f6, f7, HE⟩ | ⟨f0, f1, f2, f3, f4, f5, f6, f7, f8, HE⟩ | ⟨f0, f1, f2, f3, f4, f5, f6, f7, f8, f9, HE⟩ | ⟨f0, f1, f2, f3, f4, f5, f6, f7, f8, f9, f10, HE⟩ | ⟨f0, f1, f2, f3, f4, f5, f6, f7, f8, f9, f10, f11, HE⟩ | ⟨f0, f1, f2, f3, f4, f5, f6, f7, f8, f9, f10, f11, HE⟩ | ⟨f0, f1, f2, f3, HE⟩ | ⟨f0, f1, f2, f3, f4, HE⟩ | ⟨f0, f1, f2, f3, f4, f5, HE⟩ | ⟨f0, f1, f2, f3, f4, f5, f6, HE⟩ | ⟨f0, f1, f2, f3, f4, f5, f6, f7, HE⟩ | ⟨f0, f1, f2, f3, f4, f5, f6, f7, HE⟩
      all_goals clear HPE
      all_goals go_wp2_with fail
      all_goals go_ret
      all_goals exact ⟨by rw [HE.out]; rfl, b4⟩
end Go.Proofs.YteioennfpkoagaaGreatDoor.C
