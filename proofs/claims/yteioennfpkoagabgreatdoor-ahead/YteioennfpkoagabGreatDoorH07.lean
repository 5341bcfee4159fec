import Derived.Test.YteioennfpkoagabGreatDoorH04
import Derived.Test.YteioennfpkoagabGreatDoorH02
import Derived.Laws.OwnMore
import Derived.Deep.AppendLies
namespace Go.Proofs.YteioennfpkoagabGreatDoor.C
open Go.RowKit

/- rows in memory -/
theorem flat_at {α : Type} (f : α → List Value) (s : Nat) (hf : ∀ x, (f x).length = s) (l : List α) (i j : Nat) (hi : i < l.length) (hj : j < s) : (l.flatMap f)[i * s + j]? = (f l[i])[j]? := by
  induction l generalizing i with
  | nil => simp at hi
  | cons x l ih =>
    cases i with
    | zero =>
      rw [List.flatMap_cons, Nat.zero_mul, Nat.zero_add, List.getElem?_append_left (by rw [hf]; exact hj)]
      rfl
    | succ i =>
      have h := ih i (by simpa using hi)
      rw [List.flatMap_cons, List.getElem?_append_right (by rw [hf, Nat.succ_mul]; omega), hf, Nat.succ_mul, show i * s + s + j - s = i * s + j by omega, h]
      rfl
theorem rows_len {α : Type} (f : α → List Value) (s : Nat) (hf : ∀ x, (f x).length = s) (l : List α) : (l.flatMap f).length = l.length * s := by
  induction l with
  | nil => simp
  | cons x l ih => rw [List.flatMap_cons, List.length_append, ih, hf, List.length_cons, Nat.succ_mul]; omega
def rC1 (r : RegD) : List Value := [.int .i64 r.page, .int .i64 r.pages, .int .i64 r.rights]
def rC (rs : List RegD) : List Value := rs.flatMap rC1
def pC1 (y : PartD × Value) : List Value := [.string y.1.name, .int .i64 y.1.period, .int .i64 y.1.duration, .int .i64 y.1.action, y.2]
def pC (ys : List (PartD × Value)) : List Value := ys.flatMap pC1
def cC1 (c : ChanD) : List Value := [.string c.name, .int .i64 c.source, .int .i64 c.target, .int .i64 c.kind, .int .i64 c.size, .int .i64 c.depth]
def cC (cs : List ChanD) : List Value := cs.flatMap cC1
theorem own_form {w : World} {B e s n : Nat} {v : Value} {xs : List Value} (h : w.ownsRow B e s v n xs) : (n = 0 ∧ v = .slice none 0 0) ∨ ∃ g cap, v = .slice (some ⟨g, 0, none⟩) n cap ∧ n ≤ cap := by
  rcases h.2 with ⟨rfl, h0⟩ | ⟨g, cap, cur, rfl, hB, hg, hle, rest⟩
  · exact .inl ⟨h0, rfl⟩
  · exact .inr ⟨g, cap, rfl, hle⟩
theorem own_cap {w : World} {B e s n : Nat} {v : Value} {xs : List Value} (h : w.ownsRow B e s v n xs) : capV v := by
  rcases own_form h with ⟨rfl, rfl⟩ | ⟨g, cap, rfl, hle⟩
  · exact ⟨_, _, _, rfl, Nat.le_refl _⟩
  · exact ⟨_, _, _, rfl, hle⟩
theorem regs_see {w : World} {B : Nat} {v : Value} {rs : List RegD} (h : w.ownsRow B 56 3 v rs.length (rC rs)) : RegsV w v rs := by
  rcases own_form h with ⟨h0, rfl⟩ | ⟨g, cap, rfl, _⟩
  · have : rs = [] := List.eq_nil_of_length_eq_zero h0
    subst this
    exact ⟨_, _, rfl, fun i hi => absurd hi (by simp)⟩
  · refine ⟨some ⟨g, 0, none⟩, cap, rfl, fun i hi => ⟨g, 0, rfl, ?_⟩⟩
    have hr : ∀ j, j < 3 → w.cell? ⟨g, 0 + i * 3 + j, none⟩ = (rC1 rs[i])[j]? := fun j hj => by
      rw [Nat.zero_add, World.ownsRow.cellAt h _ (by omega)]
      exact flat_at rC1 3 (fun _ => rfl) rs i j hi hj
    exact ⟨hr 0 (by omega), hr 1 (by omega), hr 2 (by omega)⟩
theorem chans_see {w : World} {B : Nat} {v : Value} {cs : List ChanD} (h : w.ownsRow B 58 6 v cs.length (cC cs)) : ChansV w v cs := by
  rcases own_form h with ⟨h0, rfl⟩ | ⟨g, cap, rfl, _⟩
  · have : cs = [] := List.eq_nil_of_length_eq_zero h0
    subst this
    exact ⟨_, _, rfl, fun i hi => absurd hi (by simp)⟩
  · refine ⟨some ⟨g, 0, none⟩, cap, rfl, fun i hi => ⟨g, 0, rfl, ?_⟩⟩
    have hr : ∀ j, j < 6 → w.cell? ⟨g, 0 + i * 6 + j, none⟩ = (cC1 cs[i])[j]? := fun j hj => by
      rw [Nat.zero_add, World.ownsRow.cellAt h _ (by omega)]
      exact flat_at cC1 6 (fun _ => rfl) cs i j hi hj
    exact ⟨hr 0 (by omega), hr 1 (by omega), hr 2 (by omega), hr 3 (by omega), hr 4 (by omega), hr 5 (by omega)⟩
/- partitions, each with the list of its regions -/
structure PA (w : World) (B : Nat) (v : Value) (ys : List (PartD × Value)) : Prop where
  own : w.ownsRow B 54 5 v ys.length (pC ys)
  reg : ∀ y ∈ ys, w.ownsRow B 56 3 y.2 y.1.regs.length (rC y.1.regs)
theorem own_stays {w w' : World} {B e s n : Nat} {v : Value} {xs : List Value} (h : w.ownsRow B e s v n xs) (hb : Below w.heap.size w w') : w'.ownsRow B e s v n xs := by
  refine ⟨h.1, ?_⟩
  rcases h.2 with hn | ⟨g, cap, cur, hv, hB, hg, rest⟩
  · exact .inl hn
  · exact .inr ⟨g, cap, cur, hv, hB, (hb.block _ (lt_of_blk hg)).trans hg, rest⟩
theorem PA.below {w w' : World} {B : Nat} {v : Value} {ys : List (PartD × Value)} (h : PA w B v ys) (hb : Below w.heap.size w w') : PA w' B v ys :=
  ⟨own_stays h.own hb, fun y hy => own_stays (h.reg y hy) hb⟩
theorem PA.see {w : World} {B : Nat} {v : Value} {ys : List (PartD × Value)} (h : PA w B v ys) : PartsV w v (ys.map Prod.fst) ∧ PartsC w v (ys.map Prod.fst).length := by
  have hlen : (ys.map Prod.fst).length = ys.length := by simp
  rcases own_form h.own with ⟨h0, rfl⟩ | ⟨g, cap, rfl, hle⟩
  · have : ys = [] := List.eq_nil_of_length_eq_zero h0
    subst this
    exact ⟨⟨_, _, rfl, fun i hi => absurd hi (by simp)⟩, ⟨_, _, _, rfl, Nat.le_refl _⟩, fun i hi => absurd hi (by simp)⟩
  · have hr : ∀ i (hi : i < ys.length) j, j < 5 → w.cell? ⟨g, i * 5 + j, none⟩ = (pC1 ys[i])[j]? := fun i hi j hj => by
      rw [World.ownsRow.cellAt h.own _ (by omega)]
      exact flat_at pC1 5 (fun _ => rfl) ys i j hi hj
    constructor
    · refine ⟨some ⟨g, 0, none⟩, cap, by rw [hlen], fun i hi => ⟨g, 0, (ys[i]'(by omega)).2, rfl, ?_⟩⟩
      have hi' : i < ys.length := by omega
      rw [List.getElem_map, Nat.zero_add]
      exact ⟨hr i hi' 0 (by omega), hr i hi' 1 (by omega), hr i hi' 2 (by omega), hr i hi' 3 (by omega), hr i hi' 4 (by omega), regs_see (h.reg _ (List.getElem_mem hi'))⟩
    · refine ⟨⟨_, _, _, rfl, by omega⟩, fun i hi b off l c e rv hc => ?_⟩
      have hi' : i < ys.length := by omega
      simp only [Value.slice.injEq, Option.some.injEq, Addr.mk.injEq, and_true] at e
      obtain ⟨⟨rfl, rfl⟩, _, _⟩ := e
      rw [Nat.zero_add, hr i hi' 4 (by omega)] at hc
      have : (ys[i]'hi').2 = rv := by simpa [pC1] using hc
      rw [← this]
      exact own_cap (h.reg _ (List.getElem_mem hi'))
theorem own_else {w w' : World} {B B' e e' s s' n n' : Nat} {v v' : Value} {xs xs' : List Value} (h : w.ownsRow B e s v n xs) (h' : w.ownsRow B' e' s' v' n' xs') (hne : e ≠ e') (hg : w.grownBy w' v'.ownBlock) : w'.ownsRow B e s v n xs := by
  apply h.kept hg
  rcases h.2 with ⟨rfl, _⟩ | ⟨g, cap, cur, rfl, _, hgg, _⟩
  · exact .inl rfl
  · right
    intro e1
    rcases h'.2 with ⟨rfl, _⟩ | ⟨g', cap', cur', rfl, _, hgg', _⟩
    · cases e1
    · have : g = g' := by simpa [Value.ownBlock] using e1
      subst this
      rw [hgg] at hgg'
      simp at hgg'
      exact hne hgg'.2
theorem PA.snoc {w w' : World} {B g c : Nat} {v u : Value} {ys : List (PartD × Value)} {x : PartD} (h : PA w B v ys) (hu : w.ownsRow B 56 3 u x.regs.length (rC x.regs)) (hg : w.grownBy w' v.ownBlock)
    (ho : w'.ownsRow B 54 5 (.slice (some ⟨g, 0, none⟩) (ys.length + 1) c) (ys.length + 1) (pC ys ++ pC1 (x, u))) : PA w' B (.slice (some ⟨g, 0, none⟩) (ys.length + 1) c) (ys ++ [(x, u)]) := by
  refine ⟨?_, fun y hy => ?_⟩
  · rw [List.length_append]
    have e : pC (ys ++ [(x, u)]) = pC ys ++ pC1 (x, u) := by simp [pC]
    rw [e]; exact ho
  · rcases List.mem_append.1 hy with hy | hy
    · exact own_else (h.reg y hy) h.own (by decide) hg
    · rw [List.mem_singleton.1 hy]; exact own_else hu h.own (by decide) hg
/- what made gives -/
def MadeK : Prop := ∀ (w : World) (u : Value) (L : List Int), IntsV w u L →
    Calls Tryz.prog 5 #[u] w fun e w' => ∃ F ps cs pv cv, e = .returned (.agg #[.int .i64 F, pv, cv]) ∧ PartsV w' pv ps ∧ ChansV w' cv cs ∧ PartsC w' pv ps.length ∧ capV cv ∧ (24 ≤ F ∧ F ≤ 240) ∧ (∃ i left, LI F i left ps ∧ i ≤ 6) ∧ ps ≠ [] ∧ CI ps.length F cs ∧ cs.length ≤ 7 ∧ Below w.heap.size w w'
end Go.Proofs.YteioennfpkoagabGreatDoor.C
namespace Go.Proofs.YteioennfpkoagabGreatDoor.C
open Go.RowKit

theorem infoRegM : (Tryz.prog.info? 56).map (fun i => (i.zero, i.size, i.bytes)) = some (some (.agg #[.int .i64 0, .int .i64 0, .int .i64 0]), 3, 24) := by kernel_rfl
theorem infoPartM : (Tryz.prog.info? 54).map (fun i => (i.zero, i.size, i.bytes)) = some (some (.agg #[.string ⟨#[]⟩, .int .i64 0, .int .i64 0, .int .i64 0, .slice none 0 0]), 5, 64) := by kernel_rfl
theorem infoChanM : (Tryz.prog.info? 58).map (fun i => (i.zero, i.size, i.bytes)) = some (some (.agg #[.string ⟨#[]⟩, .int .i64 0, .int .i64 0, .int .i64 0, .int .i64 0, .int .i64 0]), 6, 56) := by kernel_rfl
theorem parts_of {e s b : Nat} {z : Value} (h : (Tryz.prog.info? e).map (fun i => (i.zero, i.size, i.bytes)) = some (some z, s, b)) : ∃ i, Tryz.prog.info? e = some i ∧ i.zero = some z ∧ i.size = s ∧ i.bytes = b := by
  rcases hi : Tryz.prog.info? e with _ | i
  · rw [hi] at h; cases h
  · rw [hi] at h
    simp only [Option.map_some, Option.some.injEq, Prod.mk.injEq] at h
    exact ⟨i, rfl, h.1, h.2.1, h.2.2⟩
/- a block of another type is no row of these -/
theorem own_not_blk {w : World} {B e s n b t : Nat} {v : Value} {xs : List Value} {cs : Array Value} {z : Nat × Nat} (h : w.ownsRow B e s v n xs) (hb : w.heap[b]? = some (.cells cs t z)) (hne : t ≠ e) : some b ≠ v.ownBlock := by
  rcases h.2 with ⟨rfl, _⟩ | ⟨g, cap, cur, rfl, _, hg, _⟩
  · intro e1; cases e1
  · intro e1
    have : b = g := by simpa [Value.ownBlock] using e1
    subst this
    rw [hb] at hg
    simp at hg
    exact hne hg.2.1
theorem own_setElse {w : World} {B e s n : Nat} {v : Value} {xs : List Value} (h : w.ownsRow B e s v n xs) {b : Nat} (hb : some b ≠ v.ownBlock) (k : Nat) (u : Value) : (w.setCell ⟨b, k, none⟩ u).ownsRow B e s v n xs := by
  refine ⟨h.1, ?_⟩
  rcases h.2 with hn | ⟨g, cap, cur, rfl, hB, hg, rest⟩
  · exact .inl hn
  · refine .inr ⟨g, cap, cur, rfl, hB, (Below.heap_setCell _ _ _ _ (fun e1 => hb ?_)).trans hg, rest⟩
    have : g = b := e1
    rw [this]; rfl
/- a partition in the making -/
structure XS (w wr V : World) (xb : Nat) (nm : ByteArray) (pd dd ac : Int) (rv : Value) (rs : List RegD) : Prop where
  blk : V.heap[xb]? = some (.cells #[.string nm, .int .i64 pd, .int .i64 dd, .int .i64 ac, rv] 54 (0, 0))
  own : V.ownsRow (w.heap.size + 3) 56 3 rv rs.length (rC rs)
  rlt : ∀ k, rv.ownBlock = some k → wr.heap.size ≤ k
  bel : Below wr.heap.size wr V
  xlo : wr.heap.size ≤ xb
theorem XS.drew {w wr V : World} {xb : Nat} {nm : ByteArray} {pd dd ac : Int} {rv : Value} {rs : List RegD} (h : XS w wr V xb nm pd dd ac rv rs) : XS w wr V.drew xb nm pd dd ac rv rs := ⟨h.blk, h.own, h.rlt, h.bel.drew, h.xlo⟩
theorem XS.grow {w wr V V9 : World} {xb g c : Nat} {nm : ByteArray} {pd dd ac : Int} {rv : Value} {rs : List RegD} (h : XS w wr V xb nm pd dd ac rv rs) (r : RegD)
    (ho : V9.ownsRow (w.heap.size + 3) 56 3 (.slice (some ⟨g, 0, none⟩) (rs.length + 1) c) (rs.length + 1) (rC rs ++ rC1 r)) (hg : (V.alloc (.cells #[.int .i64 r.page, .int .i64 r.pages, .int .i64 r.rights] 56)).grownBy V9 rv.ownBlock) (hat : rv.ownBlock = some g ∨ g = V.heap.size + 1) :
    V9.heap[xb]? = some (.cells #[.string nm, .int .i64 pd, .int .i64 dd, .int .i64 ac, rv] 54 (0, 0)) ∧ XS w wr (V9.setCell ⟨xb, 4, none⟩ (.slice (some ⟨g, 0, none⟩) (rs.length + 1) c)) xb nm pd dd ac (.slice (some ⟨g, 0, none⟩) (rs.length + 1) c) (rs ++ [r]) := by
  have hxl := lt_of_blk h.blk
  have hb9 : V9.heap[xb]? = some (.cells #[.string nm, .int .i64 pd, .int .i64 dd, .int .i64 ac, rv] 54 (0, 0)) := (hg.block xb (by simp; omega) (own_not_blk h.own h.blk (by decide))).trans (heap_old _ _ h.blk)
  refine ⟨hb9, ⟨?_, ?_, ?_, ?_, h.xlo⟩⟩
  · exact heap_setCell_same V9 xb 4 _ _ _ hb9
  · have e : rC (rs ++ [r]) = rC rs ++ rC1 r := by simp [rC]
    rw [List.length_append, e]
    exact own_setElse ho (own_not_blk ho hb9 (by decide)) _ _
  · intro k hk
    have : g = k := by simpa [Value.ownBlock] using hk
    subst this
    have := h.bel.size
    rcases hat with h1 | h1
    · exact h.rlt _ h1
    · omega
  · exact ((h.bel.alloc h.bel.size _).grown hg (by have := h.bel.size; simp; omega) (fun k hk => h.rlt k hk)).setCell (p := ⟨xb, 4, none⟩) h.xlo _
/- what stands while made goes on -/
structure MD (w : World) (u : Value) (L : List Int) (f : Int) (v cv : Value) (ys : List (PartD × Value)) (cs : List ChanD) (V : World) : Prop where
  res : V.heap[w.heap.size]? = some (.cells #[.int .i64 0, .slice none 0 0, .slice none 0 0] 31 (0, 0))
  man : V.heap[w.heap.size + 1]? = some (.cells #[.int .i64 f, v, cv] 31 (0, 0))
  per : V.heap[w.heap.size + 1 + 1]? = some (.cells #[.int .i64 4, .int .i64 6, .int .i64 8, .int .i64 12, .int .i64 24, .int .i64 f] 3 (0, 0))
  ints : IntsV V u L
  bel : Below w.heap.size w V
  pts : PA V (w.heap.size + 3) v ys
  chs : V.ownsRow (w.heap.size + 3) 58 6 cv cs.length (cC cs)
theorem MD.below {w V V' : World} {u : Value} {L : List Int} {f : Int} {v cv : Value} {ys : List (PartD × Value)} {cs : List ChanD} (h : MD w u L f v cv ys cs V) (hb : Below V.heap.size V V') : MD w u L f v cv ys cs V' :=
  ⟨(hb.block _ (lt_of_blk h.res)).trans h.res, (hb.block _ (lt_of_blk h.man)).trans h.man, (hb.block _ (lt_of_blk h.per)).trans h.per, h.ints.below hb, h.bel.trans (hb.mono h.bel.size), h.pts.below hb, own_stays h.chs hb⟩
theorem MD.addPart {w wr V V9 : World} {u : Value} {L : List Int} {f : Int} {v cv : Value} {ys : List (PartD × Value)} {cs : List ChanD} {xb g c : Nat} {x : PartD} {rv : Value} (hL : IntsV w u L) (h : MD w u L f v cv ys cs V) (hx : XS w wr V xb x.name x.period x.duration x.action rv x.regs)
    (ho : V9.ownsRow (w.heap.size + 3) 54 5 (.slice (some ⟨g, 0, none⟩) (ys.length + 1) c) (ys.length + 1) (pC ys ++ pC1 (x, rv))) (hg : (V.alloc (.cells #[.string x.name, .int .i64 x.period, .int .i64 x.duration, .int .i64 x.action, rv] 54)).grownBy V9 v.ownBlock) :
    V9.heap[w.heap.size + 1]? = some (.cells #[.int .i64 f, v, cv] 31 (0, 0)) ∧ MD w u L f (.slice (some ⟨g, 0, none⟩) (ys.length + 1) c) cv (ys ++ [(x, rv)]) cs (V9.setCell ⟨w.heap.size + 1, 1, none⟩ (.slice (some ⟨g, 0, none⟩) (ys.length + 1) c)) := by
  have hal : Below V.heap.size V (V.alloc (.cells #[.string x.name, .int .i64 x.period, .int .i64 x.duration, .int .i64 x.action, rv] 54)) := (Below.refl _ _).alloc (Nat.le_refl _) _
  have hA := h.below hal
  have xA := own_stays hx.own hal
  have keep : ∀ {b : Nat} {o : Obj}, b < w.heap.size + 3 → (V.alloc (.cells #[.string x.name, .int .i64 x.period, .int .i64 x.duration, .int .i64 x.action, rv] 54)).heap[b]? = some o → V9.heap[b]? = some o := fun {b o} hb hbo => (hg.block b (lt_of_blk hbo) (fun e => absurd (hA.pts.own.lt b e.symm).1 (by omega))).trans hbo
  have hm9 := keep (by omega) hA.man
  have hbl : Below w.heap.size w V9 := hA.bel.grown hg hA.bel.size (fun k hk => by have := (hA.pts.own.lt k hk).1; omega)
  have hbs : Below w.heap.size w (V9.setCell ⟨w.heap.size + 1, 1, none⟩ (.slice (some ⟨g, 0, none⟩) (ys.length + 1) c)) := hbl.setCell (p := ⟨w.heap.size + 1, 1, none⟩) (show w.heap.size ≤ w.heap.size + 1 by omega) _
  have hpa := PA.snoc hA.pts xA hg ho
  refine ⟨hm9, ⟨(Below.heap_setCell _ _ _ _ (show w.heap.size ≠ w.heap.size + 1 by omega)).trans (keep (by omega) hA.res), heap_setCell_same V9 _ 1 _ _ _ hm9, (Below.heap_setCell _ _ _ _ (show w.heap.size + 1 + 1 ≠ w.heap.size + 1 by omega)).trans (keep (by omega) hA.per), hL.below hbs, hbs, ⟨?_, fun y hy => ?_⟩, ?_⟩⟩
  · exact own_setElse hpa.own (own_not_blk hpa.own hm9 (by decide)) _ _
  · exact own_setElse (hpa.reg y hy) (own_not_blk (hpa.reg y hy) hm9 (by decide)) _ _
  · have := own_else hA.chs hA.pts.own (by decide) hg
    exact own_setElse this (own_not_blk this hm9 (by decide)) _ _
theorem MD.addChan {w V V9 : World} {u : Value} {L : List Int} {f : Int} {v cv : Value} {ys : List (PartD × Value)} {cs : List ChanD} {g c : Nat} {x : ChanD} (hL : IntsV w u L) (h : MD w u L f v cv ys cs V)
    (ho : V9.ownsRow (w.heap.size + 3) 58 6 (.slice (some ⟨g, 0, none⟩) (cs.length + 1) c) (cs.length + 1) (cC cs ++ cC1 x)) (hg : (V.alloc (.cells #[.string x.name, .int .i64 x.source, .int .i64 x.target, .int .i64 x.kind, .int .i64 x.size, .int .i64 x.depth] 58)).grownBy V9 cv.ownBlock) :
    V9.heap[w.heap.size + 1]? = some (.cells #[.int .i64 f, v, cv] 31 (0, 0)) ∧ MD w u L f v (.slice (some ⟨g, 0, none⟩) (cs.length + 1) c) ys (cs ++ [x]) (V9.setCell ⟨w.heap.size + 1, 2, none⟩ (.slice (some ⟨g, 0, none⟩) (cs.length + 1) c)) := by
  have hal : Below V.heap.size V (V.alloc (.cells #[.string x.name, .int .i64 x.source, .int .i64 x.target, .int .i64 x.kind, .int .i64 x.size, .int .i64 x.depth] 58)) := (Below.refl _ _).alloc (Nat.le_refl _) _
  have hA := h.below hal
  have keep : ∀ {b : Nat} {o : Obj}, b < w.heap.size + 3 → (V.alloc (.cells #[.string x.name, .int .i64 x.source, .int .i64 x.target, .int .i64 x.kind, .int .i64 x.size, .int .i64 x.depth] 58)).heap[b]? = some o → V9.heap[b]? = some o := fun {b o} hb hbo => (hg.block b (lt_of_blk hbo) (fun e => absurd (hA.chs.lt b e.symm).1 (by omega))).trans hbo
  have hm9 := keep (by omega) hA.man
  have hbl : Below w.heap.size w V9 := hA.bel.grown hg hA.bel.size (fun k hk => by have := (hA.chs.lt k hk).1; omega)
  have hbs : Below w.heap.size w (V9.setCell ⟨w.heap.size + 1, 2, none⟩ (.slice (some ⟨g, 0, none⟩) (cs.length + 1) c)) := hbl.setCell (p := ⟨w.heap.size + 1, 2, none⟩) (show w.heap.size ≤ w.heap.size + 1 by omega) _
  refine ⟨hm9, ⟨(Below.heap_setCell _ _ _ _ (show w.heap.size ≠ w.heap.size + 1 by omega)).trans (keep (by omega) hA.res), heap_setCell_same V9 _ 2 _ _ _ hm9, (Below.heap_setCell _ _ _ _ (show w.heap.size + 1 + 1 ≠ w.heap.size + 1 by omega)).trans (keep (by omega) hA.per), hL.below hbs, hbs, ⟨?_, fun y hy => ?_⟩, ?_⟩⟩
  · have := own_else hA.pts.own hA.chs (by decide) hg
    exact own_setElse this (own_not_blk this hm9 (by decide)) _ _
  · have := own_else (hA.pts.reg y hy) hA.chs (by decide) hg
    exact own_setElse this (own_not_blk this hm9 (by decide)) _ _
  · have e : cC (cs ++ [x]) = cC cs ++ cC1 x := by simp [cC]
    rw [List.length_append, e]
    exact own_setElse ho (own_not_blk ho hm9 (by decide)) _ _
end Go.Proofs.YteioennfpkoagabGreatDoor.C
