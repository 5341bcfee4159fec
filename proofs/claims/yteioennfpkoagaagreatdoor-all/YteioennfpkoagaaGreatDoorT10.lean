import Derived.Test.YteioennfpkoagaaGreatDoorT04
import Derived.Test.YteioennfpkoagaaGreatDoorB28
namespace Go.Proofs.YteioennfpkoagaaGreatDoor.C
open Go.RowKit K

/- no two numbers lie side by side in a block: it holds nothing of a manifest -/
def NoII (w : World) (z : Nat) : Prop := ∀ k x y, w.cell? ⟨z, k, none⟩ = some (.int .i64 x) → ¬ w.cell? ⟨z, k + 1, none⟩ = some (.int .i64 y)
theorem RegsV.far {w w' : World} {v : Value} {rs : List RegD} {z : Nat} (h : RegsV w v rs) (hn : NoII w z) (hk : ∀ b, b ≠ z → b < w.heap.size → w'.heap[b]? = w.heap[b]?) : RegsV w' v rs := by
  obtain ⟨va, cap, e, hc⟩ := h
  refine ⟨va, cap, e, fun i hi => ?_⟩
  obtain ⟨b, off, e1, h1, h2, h3⟩ := hc i hi
  have hlt := World.block_lt_of_cell? w _ h1
  have hne : b ≠ z := fun e => by subst e; exact hn _ _ _ h1 h2
  exact ⟨b, off, e1, (cell_same (hk b hne hlt)).trans h1, (cell_same (hk b hne hlt)).trans h2, (cell_same (hk b hne hlt)).trans h3⟩
theorem PartsV.far {w w' : World} {v : Value} {ps : List PartD} {z : Nat} (h : PartsV w v ps) (hn : NoII w z) (hk : ∀ b, b ≠ z → b < w.heap.size → w'.heap[b]? = w.heap[b]?) : PartsV w' v ps := by
  obtain ⟨va, cap, e, hc⟩ := h
  refine ⟨va, cap, e, fun i hi => ?_⟩
  obtain ⟨b, off, rv, e1, h1, h2, h3, h4, h5, h6⟩ := hc i hi
  have hlt := World.block_lt_of_cell? w _ h1
  have hne : b ≠ z := fun e => by subst e; exact hn _ _ _ h2 h3
  have hs : ∀ j, w'.cell? ⟨b, j, none⟩ = w.cell? ⟨b, j, none⟩ := fun j => cell_same (hk b hne hlt)
  exact ⟨b, off, rv, e1, (hs _).trans h1, (hs _).trans h2, (hs _).trans h3, (hs _).trans h4, (hs _).trans h5, h6.far hn hk⟩
theorem ChansV.far {w w' : World} {v : Value} {cs : List ChanD} {z : Nat} (h : ChansV w v cs) (hn : NoII w z) (hk : ∀ b, b ≠ z → b < w.heap.size → w'.heap[b]? = w.heap[b]?) : ChansV w' v cs := by
  obtain ⟨va, cap, e, hc⟩ := h
  refine ⟨va, cap, e, fun i hi => ?_⟩
  obtain ⟨b, off, e1, h1, h2, h3, h4, h5, h6⟩ := hc i hi
  have hlt := World.block_lt_of_cell? w _ h1
  have hne : b ≠ z := fun e => by subst e; exact hn _ _ _ h2 h3
  have hs : ∀ j, w'.cell? ⟨b, j, none⟩ = w.cell? ⟨b, j, none⟩ := fun j => cell_same (hk b hne hlt)
  exact ⟨b, off, e1, (hs _).trans h1, (hs _).trans h2, (hs _).trans h3, (hs _).trans h4, (hs _).trans h5, (hs _).trans h6⟩
theorem noII_of {w : World} {z t : Nat} {fr : Nat × Nat} {f0 f1 : Int} {s0 s1 s2 s3 s4 : Value} {i0 i1 : ByteArray} (h : w.heap[z]? = some (.cells #[.int .i64 f0, s0, s1, .int .i64 f1, s2, s3, .string i0, .string i1, s4] t fr))
    (h0 : ∀ x, s0 ≠ .int .i64 x) (h1 : ∀ x, s1 ≠ .int .i64 x) (h2 : ∀ x, s2 ≠ .int .i64 x) (h3 : ∀ x, s3 ≠ .int .i64 x) (h4 : ∀ x, s4 ≠ .int .i64 x) : NoII w z := by
  intro k x y hx hy
  rw [cell_of_blk h] at hx hy
  match k, hx, hy with
  | 0, _, hy => exact h0 y (by injection hy)
  | 1, hx, _ => exact h0 x (by injection hx)
  | 2, hx, _ => exact h1 x (by injection hx)
  | 3, _, hy => exact h2 y (by injection hy)
  | 4, hx, _ => exact h2 x (by injection hx)
  | 5, hx, _ => exact h3 x (by injection hx)
  | 6, hx, _ => injection hx with hx; cases hx
  | 7, hx, _ => injection hx with hx; cases hx
  | 8, hx, _ => exact h4 x (by injection hx)
  | k + 9, hx, _ =>
    have : (#[Value.int .i64 f0, s0, s1, .int .i64 f1, s2, s3, .string i0, .string i1, s4] : Array Value)[k + 9]? = none := Array.getElem?_eq_none (by simp)
    rw [this] at hx
    cases hx

/- a pair: where it lies, the two kernels, which manifest's, how far each is -/
structure PRc where
  pb : Nat
  x : Addr
  y : Nat
  j : Nat
  S : KS
  T : KS
def setS (f : Nat → PRc) (i : Nat) (S : KS) (q : Nat) : PRc := if q = i then { f q with S := S } else f q
def setT (f : Nat → PRc) (i : Nat) (T : KS) (q : Nat) : PRc := if q = i then { f q with T := T } else f q
section
variable (f : Nat → PRc) (i : Nat) (S : KS) (q : Nat)
theorem setS_pb : (setS f i S q).pb = (f q).pb := by unfold setS; split <;> rfl
theorem setS_x : (setS f i S q).x = (f q).x := by unfold setS; split <;> rfl
theorem setS_y : (setS f i S q).y = (f q).y := by unfold setS; split <;> rfl
theorem setS_j : (setS f i S q).j = (f q).j := by unfold setS; split <;> rfl
theorem setS_T : (setS f i S q).T = (f q).T := by unfold setS; split <;> rfl
theorem setS_S : (setS f i S i).S = S := by unfold setS; rw [if_pos rfl]
theorem setS_ne (h : q ≠ i) : setS f i S q = f q := if_neg h
theorem setT_pb : (setT f i S q).pb = (f q).pb := by unfold setT; split <;> rfl
theorem setT_x : (setT f i S q).x = (f q).x := by unfold setT; split <;> rfl
theorem setT_y : (setT f i S q).y = (f q).y := by unfold setT; split <;> rfl
theorem setT_j : (setT f i S q).j = (f q).j := by unfold setT; split <;> rfl
theorem setT_S : (setT f i S q).S = (f q).S := by unfold setT; split <;> rfl
theorem setT_T : (setT f i S i).T = S := by unfold setT; rw [if_pos rfl]
theorem setT_ne (h : q ≠ i) : setT f i S q = f q := if_neg h
end
/- the two manifests -/
structure MnS where
  pv : Nat → Value
  cv : Nat → Value
  D : Nat → ManD
def lwC (M : MnS) (rv : Value) : Array Value := #[.int .i64 (M.D 0).frame, M.pv 0, M.cv 0, .int .i64 (M.D 1).frame, M.pv 1, M.cv 1, .string (ba (imgF (M.D 0))), .string (ba (imgF (M.D 1))), rv]
structure PrOK (I : KerI) (M : MnS) (W w : World) (tag : Nat → Nat) (n q i : Nat) (r : PRc) (ox oy : Nat → Prop) : Prop where
  blk : w.heap[r.pb]? = some (.cells #[.pointer (some r.x), ptrV r.y] 192)
  lo : W.heap.size ≤ r.pb
  tp : tag r.pb = 0
  jlt : r.j < 2
  kv : I.KV w (.pointer (some r.x)) (M.D r.j) r.S ox
  rk : RKd W w r.y (M.pv r.j) (M.cv r.j) (M.D r.j) r.T q oy
  tx : ∀ b, ox b → tag b = 2 * i + 1 ∧ W.heap.size ≤ b
  ty : ∀ b, oy b → tag b = 2 * i + 2
  ss : SmallK n r.S
  st : SmallK n r.T
structure WPi (I : KerI) (M : MnS) (w0 : World) (wb n q k : Nat) (f : Nat → PRc) (W : World) (tag : Nat → Nat) (rv : Value) (ox oy : Nat → Nat → Prop) (L : List Nat) (w : World) : Prop where
  b0 : Below w0.heap.size w0 W
  lo : w0.heap.size ≤ wb
  bel : Below W.heap.size W w
  man : ∀ j, j < 2 → PartsV W (M.pv j) (M.D j).parts ∧ ChansV W (M.cv j) (M.D j).chans ∧ checkF (M.D j) = 0
  blk : W.heap[wb]? = some (.cells (lwC M rv) 110)
  row : w.ownsRow W.heap.size 188 1 rv k ((List.range k).map fun i => ptrV (f i).pb)
  tr : ∀ b, rv.ownBlock = some b → tag b = 0
  prs : ∀ i, i < k → PrOK I M W w tag n q i (f i) (ox i) (oy i)
  lst : ∀ c ∈ L, tag c = 0 ∧ c < w.heap.size
/- blocks that stay -/
def stayB (L : List Nat) (w w' : World) : Prop := ∀ c ∈ L, w'.heap[c]? = w.heap[c]?
structure WP (I : KerI) (M : MnS) (w0 : World) (wb n q k : Nat) (f : Nat → PRc) (L : List Nat) (w : World) : Prop where
  ex : ∃ W tag rv ox oy, WPi I M w0 wb n q k f W tag rv ox oy L w
section
variable {I : KerI} {M : MnS} {w0 W w w' : World} {wb n m q q' k i : Nat} {f : Nat → PRc} {tag : Nat → Nat} {rv : Value} {ox oy : Nat → Nat → Prop} {L L' : List Nat}
/- what turns at most the blocks of one of them -/
theorem WPi.turn (h : WPi I M w0 wb n q k f W tag rv ox oy L w) {o : Nat → Prop} (hf : Frm o w w') (hlo : ∀ b, o b → W.heap.size ≤ b) (h0 : ∀ b, o b → tag b ≠ 0) (hm : n ≤ m) (hqq : q ≤ q') (i : Nat)
    (g : Nat → PRc) (hg : ∀ q, q ≠ i → g q = f q) (hpb : ∀ q, (g q).pb = (f q).pb) (tag' : Nat → Nat) (ht : ∀ b, b < w.heap.size → tag' b = tag b) (ox' oy' : Nat → Nat → Prop) (ho : ∀ q, q ≠ i → ox' q = ox q ∧ oy' q = oy q)
    (hot : ∀ b, o b → tag b = 2 * i + 1 ∨ tag b = 2 * i + 2) (hi : i < k → PrOK I M W w' tag' m q' i (g i) (ox' i) (oy' i)) (hL : ∀ c ∈ L', tag' c = 0 ∧ c < w'.heap.size) : WPi I M w0 wb m q' k g W tag' rv ox' oy' L' w' := by
  have hb : Below W.heap.size W w' := h.bel.trans (hf.below h.bel.size hlo)
  have hkeep : ∀ b, b < w.heap.size → tag b = 0 → w'.heap[b]? = w.heap[b]? := fun b hb ht => hf.block b hb fun e => h0 b e ht
  refine ⟨h.b0, h.lo, hb, h.man, h.blk, ?_, fun b hb => ?_, fun q hq => ?_, hL⟩
  · have e : (List.range k).map (fun i => ptrV (g i).pb) = (List.range k).map fun i => ptrV (f i).pb := List.map_congr_left fun q _ => by rw [hpb]
    rw [e]
    exact owns_keep h.row fun b hb => hkeep b (h.row.lt b hb).2 (h.tr b hb)
  · rw [ht b (h.row.lt b hb).2]; exact h.tr b hb
  · by_cases e : q = i
    · subst e; exact hi hq
    · have hp := h.prs q hq
      rw [hg q e, (ho q e).1, (ho q e).2]
      have hx : ∀ b, ox q b → b < w.heap.size := I.low hp.kv
      have hy : ∀ b, oy q b → b < w.heap.size := fun b hb => (hp.rk.low b hb).2
      refine ⟨(hkeep _ (lt_of_blk hp.blk) hp.tp).trans hp.blk, hp.lo, (ht _ (lt_of_blk hp.blk)).trans hp.tp, hp.jlt, I.keep hp.kv fun b hb => hf.block b (hx b hb) fun e2 => ?_, (hp.rk.keep rfl hb (h.man _ hp.jlt).1 (h.man _ hp.jlt).2.1 fun b hb => hf.block b (hy b hb) fun e2 => ?_).mono hqq, fun b hb => ?_, fun b hb => ?_, hp.ss.mono hm, hp.st.mono hm⟩
      · have h1 := (hp.tx b hb).1
        rcases hot b e2 with h2 | h2 <;> omega
      · have h1 := hp.ty b hb
        rcases hot b e2 with h2 | h2 <;> omega
      · rw [ht b (hx b hb)]; exact hp.tx b hb
      · rw [ht b (hy b hb)]; exact hp.ty b hb
/- a call of the kernel -/
theorem WPi.callX (h : WPi I M w0 wb n q k f W tag rv ox oy L w) (hi : i < k) {S' : KS} (ha : Aft I.KV (.pointer (some (f i).x)) (M.D (f i).j) S' (ox i) w w') (hs : SmallK m S') (hm : n ≤ m) : WP I M w0 wb m q k (setS f i S') L w' ∧ stayB L w w' := by
  obtain ⟨⟨o', h1, h2⟩, hf⟩ := ha
  have hp := h.prs i hi
  have hsz := h.bel.size
  refine ⟨⟨W, fun b => if b < w.heap.size then tag b else 2 * i + 1, rv, fun q => if q = i then o' else ox q, oy, h.turn hf (fun b hb => (hp.tx b hb).2) (fun b hb => by have := (hp.tx b hb).1; omega) hm (Nat.le_refl _) i _ (fun q hq => setS_ne f i S' q hq) (fun q => setS_pb f i S' q) _ (fun b hb => if_pos hb) _ _ (fun q hq => ⟨if_neg hq, rfl⟩) (fun b hb => .inl (hp.tx b hb).1) (fun _ => ?_) (fun c hc => ⟨(if_pos (h.lst c hc).2).trans (h.lst c hc).1, Nat.lt_of_lt_of_le (h.lst c hc).2 hf.size⟩)⟩, fun c hc => hf.block c (h.lst c hc).2 fun e => by have := (hp.tx c e).1; have := (h.lst c hc).1; omega⟩
  have hb : Below W.heap.size W w' := h.bel.trans (hf.below h.bel.size fun b hb => (hp.tx b hb).2)
  have hne : ∀ b, ox i b → ∀ c, tag c ≠ 2 * i + 1 → c ≠ b := fun b hb c hc e => hc (by rw [e]; exact (hp.tx b hb).1)
  have hy : ∀ b, oy i b → b < w.heap.size := fun b hb => (hp.rk.low b hb).2
  have e1 : setS f i S' i = { f i with S := S' } := if_pos rfl
  rw [e1]
  refine ⟨(hf.block _ (lt_of_blk hp.blk) fun e => by have := (hp.tx _ e).1; have := hp.tp; omega).trans hp.blk, hp.lo, ?_, hp.jlt, ?_, hp.rk.keep rfl hb (h.man _ hp.jlt).1 (h.man _ hp.jlt).2.1 fun b hb => hf.block b (hy b hb) fun e2 => ?_, fun b hb => ?_, fun b hb => ?_, hs, hp.st.mono hm⟩
  · show (if (f i).pb < w.heap.size then tag (f i).pb else 2 * i + 1) = 0
    rw [if_pos (lt_of_blk hp.blk)]; exact hp.tp
  · show I.KV w' _ _ S' (if i = i then o' else ox i)
    rw [if_pos rfl]; exact h1
  · have h3 := (hp.tx b e2).1
    have h4 := hp.ty b hb
    omega
  · have hb2 : o' b := by simpa using hb
    show (if b < w.heap.size then tag b else 2 * i + 1) = 2 * i + 1 ∧ _
    rcases h2 b hb2 with h3 | h3
    · rw [if_pos (I.low hp.kv b h3)]; exact hp.tx b h3
    · rw [if_neg (by omega)]; exact ⟨rfl, by omega⟩
  · show (if b < w.heap.size then tag b else 2 * i + 1) = _
    rw [if_pos (hy b hb)]; exact hp.ty b hb
/- a call of the document's -/
theorem WPi.callY (h : WPi I M w0 wb n q k f W tag rv ox oy L w) (hi : i < k) {T' : KS} (ha : RAft W (f i).y (M.pv (f i).j) (M.cv (f i).j) (M.D (f i).j) T' q' (oy i) w w') (hs : SmallK m T') (hm : n ≤ m) (hqq : q ≤ q') : WP I M w0 wb m q' k (setT f i T') L w' ∧ stayB L w w' := by
  obtain ⟨⟨o', h1, h2⟩, hf⟩ := ha
  have hp := h.prs i hi
  have hsz := h.bel.size
  refine ⟨⟨W, fun b => if b < w.heap.size then tag b else 2 * i + 2, rv, ox, fun q => if q = i then o' else oy q, h.turn hf (fun b hb => (hp.rk.low b hb).1) (fun b hb => by have := hp.ty b hb; omega) hm hqq i _ (fun q hq => setT_ne f i T' q hq) (fun q => setT_pb f i T' q) _ (fun b hb => if_pos hb) _ _ (fun q hq => ⟨rfl, if_neg hq⟩) (fun b hb => .inr (hp.ty b hb)) (fun _ => ?_) (fun c hc => ⟨(if_pos (h.lst c hc).2).trans (h.lst c hc).1, Nat.lt_of_lt_of_le (h.lst c hc).2 hf.size⟩)⟩, fun c hc => hf.block c (h.lst c hc).2 fun e => by have := hp.ty c e; have := (h.lst c hc).1; omega⟩
  have hx : ∀ b, ox i b → b < w.heap.size := I.low hp.kv
  have e1 : setT f i T' i = { f i with T := T' } := if_pos rfl
  rw [e1]
  refine ⟨(hf.block _ (lt_of_blk hp.blk) fun e => by have := hp.ty _ e; have := hp.tp; omega).trans hp.blk, hp.lo, ?_, hp.jlt, I.keep hp.kv fun b hb => hf.block b (hx b hb) fun e2 => ?_, ?_, fun b hb => ?_, fun b hb => ?_, hp.ss.mono hm, hs⟩
  · show (if (f i).pb < w.heap.size then tag (f i).pb else 2 * i + 2) = 0
    rw [if_pos (lt_of_blk hp.blk)]; exact hp.tp
  · have h3 := (hp.tx b hb).1
    have h4 := hp.ty b e2
    omega
  · show RKd W w' (f i).y _ _ _ T' q' (if i = i then o' else oy i)
    rw [if_pos rfl]; exact h1
  · show (if b < w.heap.size then tag b else 2 * i + 2) = 2 * i + 1 ∧ _
    rw [if_pos (hx b hb)]; exact hp.tx b hb
  · have hb2 : o' b := by simpa using hb
    show (if b < w.heap.size then tag b else 2 * i + 2) = 2 * i + 2
    rcases h2 b hb2 with h3 | h3
    · rw [if_pos (hp.rk.low b h3).2]; exact hp.ty b h3
    · rw [if_neg (by omega)]
theorem WP.below (h : WP I M w0 wb n q k f L w) (hb : Below w.heap.size w w') : WP I M w0 wb n q k f L w' := by
  obtain ⟨W, tag, rv, ox, oy, h⟩ := h
  refine ⟨W, tag, rv, ox, oy, h.turn (o := fun _ => False) (Frm.all _ hb) (fun _ h => h.elim) (fun _ h => h.elim) (Nat.le_refl _) (Nat.le_refl _) k f (fun _ _ => rfl) (fun _ => rfl) tag (fun _ _ => rfl) ox oy (fun _ _ => ⟨rfl, rfl⟩) (fun _ h => h.elim) (fun h => absurd h (Nat.lt_irrefl _)) fun c hc => ⟨(h.lst c hc).1, Nat.lt_of_lt_of_le (h.lst c hc).2 hb.size⟩⟩
theorem WP.bel (h : WP I M w0 wb n q k f L w) : Below w0.heap.size w0 w := by
  obtain ⟨W, tag, rv, ox, oy, h⟩ := h
  exact h.b0.trans (h.bel.mono h.b0.size)
theorem WP.pair (h : WP I M w0 wb n q k f L w) (hi : i < k) : w.heap[(f i).pb]? = some (.cells #[.pointer (some (f i).x), ptrV (f i).y] 192) := by
  obtain ⟨W, tag, rv, ox, oy, h⟩ := h
  exact (h.prs i hi).blk
theorem WP.mono (h : WP I M w0 wb n q k f L w) (hm : n ≤ m) (hqq : q ≤ q') : WP I M w0 wb m q' k f L w := by
  obtain ⟨W, tag, rv, ox, oy, h⟩ := h
  refine ⟨W, tag, rv, ox, oy, h.turn (o := fun _ => False) (Frm.refl _ _) (fun _ h => h.elim) (fun _ h => h.elim) hm hqq k f (fun _ _ => rfl) (fun _ => rfl) tag (fun _ _ => rfl) ox oy (fun _ _ => ⟨rfl, rfl⟩) (fun _ h => h.elim) (fun h => absurd h (Nat.lt_irrefl _)) h.lst⟩
theorem WP.less (h : WP I M w0 wb n q k f L w) (hl : ∀ c ∈ L', c ∈ L) : WP I M w0 wb n q k f L' w := by
  obtain ⟨W, tag, rv, ox, oy, h⟩ := h
  exact ⟨W, tag, rv, ox, oy, h.b0, h.lo, h.bel, h.man, h.blk, h.row, h.tr, h.prs, fun c hc => h.lst c (hl c hc)⟩
theorem WP.add (h : WP I M w0 wb n q k f L w) (x : Obj) : WP I M w0 wb n q k f (w.heap.size :: L) (w.alloc x) := by
  obtain ⟨W, tag, rv, ox, oy, h⟩ := h
  refine ⟨W, fun b => if b < w.heap.size then tag b else 0, rv, ox, oy, h.turn (o := fun _ => False) (Frm.all _ (newB w x)) (fun _ h => h.elim) (fun _ h => h.elim) (Nat.le_refl _) (Nat.le_refl _) k f (fun _ _ => rfl) (fun _ => rfl) _ (fun _ hb => if_pos hb) ox oy (fun _ _ => ⟨rfl, rfl⟩) (fun _ h => h.elim) (fun h => absurd h (Nat.lt_irrefl _)) fun c hc => ?_⟩
  rcases List.mem_cons.1 hc with rfl | hc
  · exact ⟨if_neg (Nat.lt_irrefl _), by simp⟩
  · exact ⟨(if_pos (h.lst c hc).2).trans (h.lst c hc).1, by have := (h.lst c hc).2; simp; omega⟩
/- the list of pairs -/
theorem WP.world (h : WP I M w0 wb n q k f L w) : ∃ rv, w.heap[wb]? = some (.cells (lwC M rv) 110) ∧ ∃ va cap, rv = .slice va k cap ∧ ∀ i, i < k → ∃ g, va = some ⟨g, 0, none⟩ ∧ w.cell? ⟨g, i, none⟩ = some (ptrV (f i).pb) := by
  obtain ⟨W, tag, rv, ox, oy, h⟩ := h
  refine ⟨rv, (h.bel.block _ (lt_of_blk h.blk)).trans h.blk, ?_⟩
  rcases own_form h.row with ⟨h0, rfl⟩ | ⟨g, cap, rfl, _⟩
  · exact ⟨none, 0, by rw [h0], fun i hi => absurd hi (by omega)⟩
  · refine ⟨some ⟨g, 0, none⟩, cap, rfl, fun i hi => ⟨g, rfl, ?_⟩⟩
    rw [World.ownsRow.cellAt h.row i (by omega)]
    simp [List.getElem?_map, List.getElem?_range hi]
end
end Go.Proofs.YteioennfpkoagaaGreatDoor.C
