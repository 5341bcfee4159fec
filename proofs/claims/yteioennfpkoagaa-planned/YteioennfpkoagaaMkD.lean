import Derived.Test.YteioennfpkoagaaMkB
namespace Go.Proofs.Yteioennfpkoagaa.C
open Go.RowKit

theorem infoRegM : (Try.prog.info? 54).map (fun i => (i.zero, i.size, i.bytes)) = some (some (.agg #[.int .i64 0, .int .i64 0, .int .i64 0]), 3, 24) := by kernel_rfl
theorem infoPartM : (Try.prog.info? 45).map (fun i => (i.zero, i.size, i.bytes)) = some (some (.agg #[.string ⟨#[]⟩, .int .i64 0, .int .i64 0, .int .i64 0, .slice none 0 0]), 5, 64) := by kernel_rfl
theorem infoChanM : (Try.prog.info? 56).map (fun i => (i.zero, i.size, i.bytes)) = some (some (.agg #[.string ⟨#[]⟩, .int .i64 0, .int .i64 0, .int .i64 0, .int .i64 0, .int .i64 0]), 6, 56) := by kernel_rfl
theorem parts_of {e s b : Nat} {z : Value} (h : (Try.prog.info? e).map (fun i => (i.zero, i.size, i.bytes)) = some (some z, s, b)) : ∃ i, Try.prog.info? e = some i ∧ i.zero = some z ∧ i.size = s ∧ i.bytes = b := by
  rcases hi : Try.prog.info? e with _ | i
  · rw [hi] at h; cases h
  · rw [hi] at h
    simp only [Option.map_some, Option.some.injEq, Prod.mk.injEq] at h
    exact ⟨i, rfl, h.1, h.2.1, h.2.2⟩
/- a block of another type is no row of these -/
theorem own_not_blk {w : World} {B e s n b t : Nat} {v : Value} {xs : List Value} {cs : Array Value} {z : Nat × Nat} (h : w.ownsRow B e s v n xs) (hb : w.heap[b]? = some (.cells cs t z)) (hne : t ≠ e) : some b ≠ v.ownBlock := by
  rcases h.2 with ⟨rfl, _⟩ | ⟨g, cap, cur, rfl, _, hg, _⟩
  · intro e1; cases e1
  · intro e1
    have : b = g := by simpa [Value.ownBlock] using e1
    subst this
    rw [hb] at hg
    simp at hg
    exact hne hg.2.1
theorem own_setElse {w : World} {B e s n : Nat} {v : Value} {xs : List Value} (h : w.ownsRow B e s v n xs) {b : Nat} (hb : some b ≠ v.ownBlock) (k : Nat) (u : Value) : (w.setCell ⟨b, k, none⟩ u).ownsRow B e s v n xs := by
  refine ⟨h.1, ?_⟩
  rcases h.2 with hn | ⟨g, cap, cur, rfl, hB, hg, rest⟩
  · exact .inl hn
  · refine .inr ⟨g, cap, cur, rfl, hB, (Below.heap_setCell _ _ _ _ (fun e1 => hb ?_)).trans hg, rest⟩
    have : g = b := e1
    rw [this]; rfl
/- a partition in the making -/
structure XS (w wr V : World) (xb : Nat) (nm : ByteArray) (pd dd ac : Int) (rv : Value) (rs : List RegD) : Prop where
  blk : V.heap[xb]? = some (.cells #[.string nm, .int .i64 pd, .int .i64 dd, .int .i64 ac, rv] 45 (0, 0))
  own : V.ownsRow (w.heap.size + 3) 54 3 rv rs.length (rC rs)
  rlt : ∀ k, rv.ownBlock = some k → wr.heap.size ≤ k
  bel : Below wr.heap.size wr V
  xlo : wr.heap.size ≤ xb
theorem XS.drew {w wr V : World} {xb : Nat} {nm : ByteArray} {pd dd ac : Int} {rv : Value} {rs : List RegD} (h : XS w wr V xb nm pd dd ac rv rs) : XS w wr V.drew xb nm pd dd ac rv rs := ⟨h.blk, h.own, h.rlt, h.bel.drew, h.xlo⟩
theorem XS.grow {w wr V V9 : World} {xb g c : Nat} {nm : ByteArray} {pd dd ac : Int} {rv : Value} {rs : List RegD} (h : XS w wr V xb nm pd dd ac rv rs) (r : RegD)
    (ho : V9.ownsRow (w.heap.size + 3) 54 3 (.slice (some ⟨g, 0, none⟩) (rs.length + 1) c) (rs.length + 1) (rC rs ++ rC1 r)) (hg : (V.alloc (.cells #[.int .i64 r.page, .int .i64 r.pages, .int .i64 r.rights] 54)).grownBy V9 rv.ownBlock) (hat : rv.ownBlock = some g ∨ g = V.heap.size + 1) :
    V9.heap[xb]? = some (.cells #[.string nm, .int .i64 pd, .int .i64 dd, .int .i64 ac, rv] 45 (0, 0)) ∧ XS w wr (V9.setCell ⟨xb, 4, none⟩ (.slice (some ⟨g, 0, none⟩) (rs.length + 1) c)) xb nm pd dd ac (.slice (some ⟨g, 0, none⟩) (rs.length + 1) c) (rs ++ [r]) := by
  have hxl := lt_of_blk h.blk
  have hb9 : V9.heap[xb]? = some (.cells #[.string nm, .int .i64 pd, .int .i64 dd, .int .i64 ac, rv] 45 (0, 0)) := (hg.block xb (by simp; omega) (own_not_blk h.own h.blk (by decide))).trans (heap_old _ _ h.blk)
  refine ⟨hb9, ⟨?_, ?_, ?_, ?_, h.xlo⟩⟩
  · exact heap_setCell_same V9 xb 4 _ _ _ hb9
  · have e : rC (rs ++ [r]) = rC rs ++ rC1 r := by simp [rC]
    rw [List.length_append, e]
    exact own_setElse ho (own_not_blk ho hb9 (by decide)) _ _
  · intro k hk
    have : g = k := by simpa [Value.ownBlock] using hk
    subst this
    have := h.bel.size
    rcases hat with h1 | h1
    · exact h.rlt _ h1
    · omega
  · exact ((h.bel.alloc h.bel.size _).grown hg (by have := h.bel.size; simp; omega) (fun k hk => h.rlt k hk)).setCell (p := ⟨xb, 4, none⟩) h.xlo _
/- what stands while made goes on -/
structure MD (w : World) (u : Value) (L : List Int) (f : Int) (v cv : Value) (ys : List (PartD × Value)) (cs : List ChanD) (V : World) : Prop where
  res : V.heap[w.heap.size]? = some (.cells #[.int .i64 0, .slice none 0 0, .slice none 0 0] 34 (0, 0))
  man : V.heap[w.heap.size + 1]? = some (.cells #[.int .i64 f, v, cv] 34 (0, 0))
  per : V.heap[w.heap.size + 1 + 1]? = some (.cells #[.int .i64 4, .int .i64 6, .int .i64 8, .int .i64 12, .int .i64 24, .int .i64 f] 3 (0, 0))
  ints : IntsV V u L
  bel : Below w.heap.size w V
  pts : PA V (w.heap.size + 3) v ys
  chs : V.ownsRow (w.heap.size + 3) 56 6 cv cs.length (cC cs)
theorem MD.below {w V V' : World} {u : Value} {L : List Int} {f : Int} {v cv : Value} {ys : List (PartD × Value)} {cs : List ChanD} (h : MD w u L f v cv ys cs V) (hb : Below V.heap.size V V') : MD w u L f v cv ys cs V' :=
  ⟨(hb.block _ (lt_of_blk h.res)).trans h.res, (hb.block _ (lt_of_blk h.man)).trans h.man, (hb.block _ (lt_of_blk h.per)).trans h.per, h.ints.below hb, h.bel.trans (hb.mono h.bel.size), h.pts.below hb, own_stays h.chs hb⟩
theorem MD.addPart {w wr V V9 : World} {u : Value} {L : List Int} {f : Int} {v cv : Value} {ys : List (PartD × Value)} {cs : List ChanD} {xb g c : Nat} {x : PartD} {rv : Value} (hL : IntsV w u L) (h : MD w u L f v cv ys cs V) (hx : XS w wr V xb x.name x.period x.duration x.action rv x.regs)
    (ho : V9.ownsRow (w.heap.size + 3) 45 5 (.slice (some ⟨g, 0, none⟩) (ys.length + 1) c) (ys.length + 1) (pC ys ++ pC1 (x, rv))) (hg : (V.alloc (.cells #[.string x.name, .int .i64 x.period, .int .i64 x.duration, .int .i64 x.action, rv] 45)).grownBy V9 v.ownBlock) :
    V9.heap[w.heap.size + 1]? = some (.cells #[.int .i64 f, v, cv] 34 (0, 0)) ∧ MD w u L f (.slice (some ⟨g, 0, none⟩) (ys.length + 1) c) cv (ys ++ [(x, rv)]) cs (V9.setCell ⟨w.heap.size + 1, 1, none⟩ (.slice (some ⟨g, 0, none⟩) (ys.length + 1) c)) := by
  have hal : Below V.heap.size V (V.alloc (.cells #[.string x.name, .int .i64 x.period, .int .i64 x.duration, .int .i64 x.action, rv] 45)) := (Below.refl _ _).alloc (Nat.le_refl _) _
  have hA := h.below hal
  have xA := own_stays hx.own hal
  have keep : ∀ {b : Nat} {o : Obj}, b < w.heap.size + 3 → (V.alloc (.cells #[.string x.name, .int .i64 x.period, .int .i64 x.duration, .int .i64 x.action, rv] 45)).heap[b]? = some o → V9.heap[b]? = some o := fun {b o} hb hbo => (hg.block b (lt_of_blk hbo) (fun e => absurd (hA.pts.own.lt b e.symm).1 (by omega))).trans hbo
  have hm9 := keep (by omega) hA.man
  have hbl : Below w.heap.size w V9 := hA.bel.grown hg hA.bel.size (fun k hk => by have := (hA.pts.own.lt k hk).1; omega)
  have hbs : Below w.heap.size w (V9.setCell ⟨w.heap.size + 1, 1, none⟩ (.slice (some ⟨g, 0, none⟩) (ys.length + 1) c)) := hbl.setCell (p := ⟨w.heap.size + 1, 1, none⟩) (show w.heap.size ≤ w.heap.size + 1 by omega) _
  have hpa := PA.snoc hA.pts xA hg ho
  refine ⟨hm9, ⟨(Below.heap_setCell _ _ _ _ (show w.heap.size ≠ w.heap.size + 1 by omega)).trans (keep (by omega) hA.res), heap_setCell_same V9 _ 1 _ _ _ hm9, (Below.heap_setCell _ _ _ _ (show w.heap.size + 1 + 1 ≠ w.heap.size + 1 by omega)).trans (keep (by omega) hA.per), hL.below hbs, hbs, ⟨?_, fun y hy => ?_⟩, ?_⟩⟩
  · exact own_setElse hpa.own (own_not_blk hpa.own hm9 (by decide)) _ _
  · exact own_setElse (hpa.reg y hy) (own_not_blk (hpa.reg y hy) hm9 (by decide)) _ _
  · have := own_else hA.chs hA.pts.own (by decide) hg
    exact own_setElse this (own_not_blk this hm9 (by decide)) _ _
theorem MD.addChan {w V V9 : World} {u : Value} {L : List Int} {f : Int} {v cv : Value} {ys : List (PartD × Value)} {cs : List ChanD} {g c : Nat} {x : ChanD} (hL : IntsV w u L) (h : MD w u L f v cv ys cs V)
    (ho : V9.ownsRow (w.heap.size + 3) 56 6 (.slice (some ⟨g, 0, none⟩) (cs.length + 1) c) (cs.length + 1) (cC cs ++ cC1 x)) (hg : (V.alloc (.cells #[.string x.name, .int .i64 x.source, .int .i64 x.target, .int .i64 x.kind, .int .i64 x.size, .int .i64 x.depth] 56)).grownBy V9 cv.ownBlock) :
    V9.heap[w.heap.size + 1]? = some (.cells #[.int .i64 f, v, cv] 34 (0, 0)) ∧ MD w u L f v (.slice (some ⟨g, 0, none⟩) (cs.length + 1) c) ys (cs ++ [x]) (V9.setCell ⟨w.heap.size + 1, 2, none⟩ (.slice (some ⟨g, 0, none⟩) (cs.length + 1) c)) := by
  have hal : Below V.heap.size V (V.alloc (.cells #[.string x.name, .int .i64 x.source, .int .i64 x.target, .int .i64 x.kind, .int .i64 x.size, .int .i64 x.depth] 56)) := (Below.refl _ _).alloc (Nat.le_refl _) _
  have hA := h.below hal
  have keep : ∀ {b : Nat} {o : Obj}, b < w.heap.size + 3 → (V.alloc (.cells #[.string x.name, .int .i64 x.source, .int .i64 x.target, .int .i64 x.kind, .int .i64 x.size, .int .i64 x.depth] 56)).heap[b]? = some o → V9.heap[b]? = some o := fun {b o} hb hbo => (hg.block b (lt_of_blk hbo) (fun e => absurd (hA.chs.lt b e.symm).1 (by omega))).trans hbo
  have hm9 := keep (by omega) hA.man
  have hbl : Below w.heap.size w V9 := hA.bel.grown hg hA.bel.size (fun k hk => by have := (hA.chs.lt k hk).1; omega)
  have hbs : Below w.heap.size w (V9.setCell ⟨w.heap.size + 1, 2, none⟩ (.slice (some ⟨g, 0, none⟩) (cs.length + 1) c)) := hbl.setCell (p := ⟨w.heap.size + 1, 2, none⟩) (show w.heap.size ≤ w.heap.size + 1 by omega) _
  refine ⟨hm9, ⟨(Below.heap_setCell _ _ _ _ (show w.heap.size ≠ w.heap.size + 1 by omega)).trans (keep (by omega) hA.res), heap_setCell_same V9 _ 2 _ _ _ hm9, (Below.heap_setCell _ _ _ _ (show w.heap.size + 1 + 1 ≠ w.heap.size + 1 by omega)).trans (keep (by omega) hA.per), hL.below hbs, hbs, ⟨?_, fun y hy => ?_⟩, ?_⟩⟩
  · have := own_else hA.pts.own hA.chs (by decide) hg
    exact own_setElse this (own_not_blk this hm9 (by decide)) _ _
  · have := own_else (hA.pts.reg y hy) hA.chs (by decide) hg
    exact own_setElse this (own_not_blk this hm9 (by decide)) _ _
  · have e : cC (cs ++ [x]) = cC cs ++ cC1 x := by simp [cC]
    rw [List.length_append, e]
    exact own_setElse ho (own_not_blk ho hm9 (by decide)) _ _
end Go.Proofs.Yteioennfpkoagaa.C
