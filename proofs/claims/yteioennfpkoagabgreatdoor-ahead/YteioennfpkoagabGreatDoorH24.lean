import Derived.Test.YteioennfpkoagabGreatDoorH22
namespace Go.Proofs.YteioennfpkoagabGreatDoor.C
open Go.RowKit K
attribute [local go_sem ↓] Go.wp_at_zero Go.wp_at_succ

/- a list in the making in a struct, beside one element and a box -/
structure IS (w : World) (bx wb ob : Nat) (bc wc oc : Array Value) (t : TypeId) (e sz : Nat) (row : Value) (n : Nat) (xs : List Value) (V : World) : Prop where
  bel : Below w.heap.size w V
  box : V.heap[bx]? = some (.cells bc 31 (0, 0))
  who : V.heap[wb]? = some (.cells wc 31 (0, 0))
  one : V.heap[ob]? = some (.cells oc t (0, 0))
  own : V.ownsRow (wb + 1) e sz row n xs
  far : row.ownBlock ≠ some ob
  ord : w.heap.size ≤ bx ∧ bx < wb ∧ wb < ob
section
variable {w V V' V9 : World} {bx wb ob : Nat} {bc wc oc : Array Value} {t : TypeId} {e sz : Nat} {row : Value} {n : Nat} {xs : List Value}
theorem IS.start (hbel : Below w.heap.size w V) (hbox : V.heap[bx]? = some (.cells bc 31 (0, 0))) (hwho : V.heap[wb]? = some (.cells wc 31 (0, 0))) (hown : V.ownsRow (wb + 1) e sz row n xs) (hord : w.heap.size ≤ bx ∧ bx < wb) (oc : Array Value) (t : TypeId) : IS w bx wb V.heap.size bc wc oc t e sz row n xs (V.alloc (.cells oc t)) :=
  ⟨hbel.trans ((newB V _).mono hbel.size), heap_old V _ hbox, heap_old V _ hwho, heap_new V _, hown.alloc _, fun h => by have := (hown.lt _ h).2; omega, by have := lt_of_blk hwho; omega⟩
theorem IS.below (h : IS w bx wb ob bc wc oc t e sz row n xs V) (hb : Below V.heap.size V V') : IS w bx wb ob bc wc oc t e sz row n xs V' :=
  ⟨h.bel.trans (hb.mono h.bel.size), keepN h.box hb, keepN h.who hb, keepN h.one hb, own_stays h.own hb, h.far, h.ord⟩
theorem IS.set (h : IS w bx wb ob bc wc oc t e sz row n xs V) (i : Nat) (u : Value) : IS w bx wb ob bc wc (oc.setIfInBounds i u) t e sz row n xs (V.setCell ⟨ob, i, none⟩ u) := by
  obtain ⟨o1, o2, o3⟩ := h.ord
  exact ⟨h.bel.setCell (p := ⟨ob, i, none⟩) (by show w.heap.size ≤ ob; omega) _, (blk_far i u (by omega)).trans h.box, (blk_far i u (by omega)).trans h.who, blk_set i u h.one, owns_keep h.own fun k hk => blk_far i u (fun e => h.far (e ▸ hk)), h.far, h.ord⟩
theorem IS.cellO (h : IS w bx wb ob bc wc oc t e sz row n xs V) (i : Nat) : V.cell? ⟨ob, i, none⟩ = oc[i]? := cell_of_blk h.one
theorem IS.freeO (h : IS w bx wb ob bc wc oc t e sz row n xs V) (i : Nat) : V.frozen? ⟨ob, i, none⟩ = false := frozen_of_blk h.one
theorem IS.cellW (h : IS w bx wb ob bc wc oc t e sz row n xs V) (i : Nat) : V.cell? ⟨wb, i, none⟩ = wc[i]? := cell_of_blk h.who
theorem IS.cellB (h : IS w bx wb ob bc wc oc t e sz row n xs V) (i : Nat) : V.cell? ⟨bx, i, none⟩ = bc[i]? := cell_of_blk h.box
theorem IS.grown (h : IS w bx wb ob bc wc oc t e sz row n xs V) (o : Obj) (hg : (V.alloc o).grownBy V9 row.ownBlock) (hne : 31 ≠ e) : Below w.heap.size w V9 ∧ V9.heap[bx]? = some (.cells bc 31 (0, 0)) ∧ V9.heap[wb]? = some (.cells wc 31 (0, 0)) := by
  have hF := Frm.grown hg
  have hb := newB V o
  obtain ⟨o1, o2, o3⟩ := h.ord
  have ha := h.own.alloc o
  refine ⟨(h.bel.trans (hb.mono h.bel.size)).grown hg (Nat.le_trans h.bel.size hb.size) (fun k hk => by have := (h.own.lt k hk).1; omega), ?_, ?_⟩
  · rw [hF.block bx (by have := lt_of_blk h.box; have := hb.size; omega) (fun e => own_not_blk h.own h.box hne e.symm), hb.block bx (lt_of_blk h.box)]
    exact h.box
  · rw [hF.block wb (by have := lt_of_blk h.who; have := hb.size; omega) (fun e => own_not_blk h.own h.who hne e.symm), hb.block wb (lt_of_blk h.who)]
    exact h.who
theorem IS.app (h : IS w bx wb ob bc wc oc t e sz row n xs V) (o : Obj) (hg : (V.alloc o).grownBy V9 row.ownBlock) (hne : 31 ≠ e) {m g9 c9 : Nat} {xs' : List Value} (hown9 : V9.ownsRow (wb + 1) e sz (.slice (some ⟨g9, 0, none⟩) m c9) m xs') (i : Nat) (u : Value) :
    Below w.heap.size w (V9.setCell ⟨wb, i, none⟩ u) ∧ (V9.setCell ⟨wb, i, none⟩ u).heap[bx]? = some (.cells bc 31 (0, 0)) ∧ (V9.setCell ⟨wb, i, none⟩ u).heap[wb]? = some (.cells (wc.setIfInBounds i u) 31 (0, 0)) ∧ (V9.setCell ⟨wb, i, none⟩ u).ownsRow (wb + 1) e sz (.slice (some ⟨g9, 0, none⟩) m c9) m xs' := by
  obtain ⟨h1, h2, h3⟩ := h.grown o hg hne
  obtain ⟨o1, o2, o3⟩ := h.ord
  refine ⟨h1.setCell (p := ⟨wb, i, none⟩) (by show w.heap.size ≤ wb; omega) _, (blk_far i u (by omega)).trans h2, blk_set i u h3, owns_keep hown9 fun k hk => blk_far i u (fun e => ?_)⟩
  have := (hown9.lt k hk).1
  omega
end
theorem parts_see {w : World} {B : Nat} {v : Value} {ys : List (PartD × Value)} (h : w.ownsRow B 54 5 v ys.length (pC ys)) (hr : ∀ y ∈ ys, RegsV w y.2 y.1.regs ∧ capV y.2) : PartsV w v (ys.map Prod.fst) ∧ PartsC w v (ys.map Prod.fst).length := by
  have hlen : (ys.map Prod.fst).length = ys.length := by simp
  rcases own_form h with ⟨h0, rfl⟩ | ⟨g, cap, rfl, hle⟩
  · have : ys = [] := List.eq_nil_of_length_eq_zero h0
    subst this
    exact ⟨⟨_, _, rfl, fun i hi => absurd hi (by simp)⟩, ⟨_, _, _, rfl, Nat.le_refl _⟩, fun i hi => absurd hi (by simp)⟩
  · have hc : ∀ i (hi : i < ys.length) j, j < 5 → w.cell? ⟨g, i * 5 + j, none⟩ = (pC1 ys[i])[j]? := fun i hi j hj => by
      rw [World.ownsRow.cellAt h _ (by omega)]
      exact flat_at pC1 5 (fun _ => rfl) ys i j hi hj
    constructor
    · refine ⟨some ⟨g, 0, none⟩, cap, by rw [hlen], fun i hi => ⟨g, 0, (ys[i]'(by omega)).2, rfl, ?_⟩⟩
      have hi' : i < ys.length := by omega
      rw [List.getElem_map, Nat.zero_add]
      exact ⟨hc i hi' 0 (by omega), hc i hi' 1 (by omega), hc i hi' 2 (by omega), hc i hi' 3 (by omega), hc i hi' 4 (by omega), (hr _ (List.getElem_mem hi')).1⟩
    · refine ⟨⟨_, _, _, rfl, by omega⟩, fun i hi b off l c e rv hcc => ?_⟩
      have hi' : i < ys.length := by omega
      simp only [Value.slice.injEq, Option.some.injEq, Addr.mk.injEq, and_true] at e
      obtain ⟨⟨rfl, rfl⟩, _, _⟩ := e
      rw [Nat.zero_add, hc i hi' 4 (by omega)] at hcc
      have : (ys[i]'hi').2 = rv := by simpa [pC1] using hcc
      rw [← this]
      exact (hr _ (List.getElem_mem hi')).2
/- what has been made of the partitions so far -/
structure YS (w : World) (pl : List Int) (ps : List PartD) (k : Nat) (ys : List (PartD × Value)) : Prop where
  len : ys.length = k
  all : ∀ j (h : j < ys.length) (h2 : j < ps.length), ys[j].1 = wholeP pl.length pl j ps[j]
  reg : ∀ y ∈ ys, RegsV w y.2 y.1.regs ∧ capV y.2
theorem YS.snoc {w : World} {pl : List Int} {ps : List PartD} {k : Nat} {ys : List (PartD × Value)} (h : YS w pl ps k ys) (hk : k < ps.length) (rv : Value) (hr : RegsV w rv ps[k].regs) (hc : capV rv) : YS w pl ps (k + 1) (ys ++ [(wholeP pl.length pl k ps[k], rv)]) := by
  refine ⟨by rw [List.length_append, h.len]; rfl, fun j hj h2 => ?_, fun y hy => ?_⟩
  · by_cases e : j < ys.length
    · rw [List.getElem_append_left e]; exact h.all j e h2
    · have hj2 : j = ys.length := by simp at hj; omega
      have hk2 := h.len
      subst hj2
      subst hk2
      simp
  · rcases List.mem_append.1 hy with hy | hy
    · exact h.reg y hy
    · simp at hy
      subst hy
      exact ⟨hr, hc⟩
theorem YS.fin {w : World} {pl : List Int} {ps : List PartD} {k : Nat} {ys : List (PartD × Value)} (h : YS w pl ps k ys) (hk : k = ps.length) : ys.map Prod.fst = ps.mapIdx (wholeP pl.length pl) := by
  apply List.ext_getElem
  · simp [h.len, hk]
  · intro j h1 h2
    rw [List.getElem_map, List.getElem_mapIdx]
    have hl := h.len
    exact h.all j (by simpa using h1) (by simp at h1; omega)
set_option maxRecDepth 100000 in
set_option maxHeartbeats 8000000 in
theorem isRight_any (w : World) (pl : List Int) (ps : List PartD) (cs : List ChanD) (pv cv qv : Value) (hp : PartsV w pv ps) (hpc : PartsC w pv ps.length) (hc : ChansV w cv cs) (hcc : capV cv) (hq : PlanV w qv pl) (hn : ps.length ≤ 255) (hm : cs.length ≤ 255) (hl : pl.length ≤ 255) (hrl : ∀ x ∈ ps, x.regs.length ≤ 255) (htb : TB w) :
    Calls Tryz.prog 59 #[.agg #[.int .i64 (pl.length : Int), pv, cv], qv] w fun e w' => e = .returned (.bool (rightB pl ps cs)) ∧ Below w.heap.size w w' := by
  have HP : Hid (PartsV w pv ps) := hp
  have HPC : Hid (PartsC w pv ps.length) := hpc
  have HC : Hid (ChansV w cv cs) := hc
  have HCC : Hid (capV cv) := hcc
  have HQ : Hid (PlanV w qv pl) := hq
  have HTB : Hid (TB w) := htb
  have HRL : Hid (∀ x ∈ ps, x.regs.length ≤ 255) := hrl
  obtain ⟨va, cap, rfl, _⟩ := hp
  obtain ⟨ca, ck, rfl, _⟩ := hc
  obtain ⟨qa, qk, rfl, _⟩ := hq
  clear hpc hcc htb hrl
  obtain ⟨i0, hi0, hz0, hz1, hz2⟩ := parts_of infoPartI
  obtain ⟨j0, hj0, hy0, hy1, hy2⟩ := parts_of infoChanI
  go_enter Tryz.func59, Tryz.ntmps59
  go_wp2_with fail
  have b0 := newB w (.cells #[.int .i64 (pl.length : Int), .slice va ps.length cap, .slice ca cs.length ck] 31)
  have h0 := heap_new w (.cells #[.int .i64 (pl.length : Int), .slice va ps.length cap, .slice ca cs.length ck] 31)
  have HB0 : Hid (Below w.heap.size w (w.alloc (.cells #[.int .i64 (pl.length : Int), .slice va ps.length cap, .slice ca cs.length ck] 31))) := b0
  have HH0 : Hid ((w.alloc (.cells #[.int .i64 (pl.length : Int), .slice va ps.length cap, .slice ca cs.length ck] 31)).heap[w.heap.size]? = some (.cells #[.int .i64 (pl.length : Int), .slice va ps.length cap, .slice ca cs.length ck] 31 (0, 0))) := h0
  clear b0 h0
  generalize w.alloc (.cells #[.int .i64 (pl.length : Int), .slice va ps.length cap, .slice ca cs.length ck] 31) = W0 at *
  refine Calls.mono (contains_strange w.heap.size ps.length cap va pl _ W0 (HQ.out.below HB0.out) hl hn (by rw [cell_of_blk HH0.out]; rfl)) ?_
  rintro e w1 ⟨rfl, hb1⟩
  have HB1 : Hid (Below w.heap.size w w1) := HB0.out.trans (hb1.mono HB0.out.size)
  have HH1 : Hid (w1.heap[w.heap.size]? = some (.cells #[.int .i64 (pl.length : Int), .slice va ps.length cap, .slice ca cs.length ck] 31 (0, 0))) := keepN HH0.out hb1
  clear hb1
  cases hst : strange pl ps.length
  · have HST : Hid (rightB pl ps cs = decide (checkF (wholeM pl ps cs) = 0)) := by show _ = _; unfold rightB; rw [hst]; rfl
    have y0 : w1.cell? ⟨w.heap.size, 0, none⟩ = some (.int .i64 (pl.length : Int)) := by rw [cell_of_blk HH1.out]; rfl
    have y1 : w1.cell? ⟨w.heap.size, 1, none⟩ = some (.slice va ps.length cap) := by rw [cell_of_blk HH1.out]; rfl
    clear hst
    have h2 := heap_new w1 (.cells #[.int .i64 (pl.length : Int), .slice none 0 0, .slice none 0 0] 31)
    have HB2 : Hid (Below w.heap.size w (w1.alloc (.cells #[.int .i64 (pl.length : Int), .slice none 0 0, .slice none 0 0] 31))) := HB1.out.trans ((newB w1 _).mono HB1.out.size)
    have HH2 : Hid ((w1.alloc (.cells #[.int .i64 (pl.length : Int), .slice none 0 0, .slice none 0 0] 31)).heap[w.heap.size]? = some (.cells #[.int .i64 (pl.length : Int), .slice va ps.length cap, .slice ca cs.length ck] 31 (0, 0))) := keepN HH1.out (newB w1 _)
    have HW2 : Hid ((w1.alloc (.cells #[.int .i64 (pl.length : Int), .slice none 0 0, .slice none 0 0] 31)).heap[w1.heap.size]? = some (.cells #[.int .i64 (pl.length : Int), .slice none 0 0, .slice none 0 0] 31 (0, 0))) := h2
    have hw1 : w.heap.size < w1.heap.size := lt_of_blk HH1.out
    clear h2
    have y1' : (w1.alloc (.cells #[.int .i64 (pl.length : Int), .slice none 0 0, .slice none 0 0] 31)).cell? ⟨w.heap.size, 1, none⟩ = some (.slice va ps.length cap) := by rw [cell_of_blk HH2.out]; rfl
    go_wp2_with fail
    generalize w1.alloc (.cells #[.int .i64 (pl.length : Int), .slice none 0 0, .slice none 0 0] 31) = W2 at *
    generalize w1.heap.size = wb at *
    go_loopw [21] (fun v wr => ∃ (k : Nat) (ra : Option Addr) (rc : Nat) (ys : List (PartD × Value)), v = .int .i64 k ∧ k ≤ ps.length ∧ Hid (YS w pl ps k ys) ∧ Hid (wr.ownsRow (wb + 1) 54 5 (.slice ra k rc) k (pC ys)) ∧ Hid (Below w.heap.size w wr) ∧ Hid (wr.heap[w.heap.size]? = some (.cells #[.int .i64 (pl.length : Int), .slice va ps.length cap, .slice ca cs.length ck] 31 (0, 0))) ∧ Hid (wr.heap[wb]? = some (.cells #[.int .i64 (pl.length : Int), .slice ra k rc, .slice none 0 0] 31 (0, 0)))) (fun v _ => ps.length - (intOf v).toNat)
    case atStart => exact ⟨0, none, 0, [], rfl, by omega, ⟨rfl, fun j h => absurd h (by simp), fun y hy => by cases hy⟩, World.ownsRow_nil _ _ _ _, HB2, HH2, HW2⟩
    case round =>
      obtain ⟨k, ra, rc, ys, rfl, hk, HYS, HOW, HBR, HBX, HWB⟩ := hrel
      clear HB2 HH2 HW2
      by_cases hlt : k < ps.length
      · have hlt' : (k : Int) < (ps.length : Int) := by omega
        have hk0 : (0 : Int) ≤ (k : Int) := by omega
        obtain ⟨va9, cap9, e9, hx9⟩ := HP.out
        obtain ⟨rfl, rfl⟩ : va = va9 ∧ cap = cap9 := by cases e9; exact ⟨rfl, rfl⟩
        obtain ⟨b, off, rv, rfl, x0, x1, x2, x3, x4, xr⟩ := hx9 k hlt
        have HCV : Hid (capV rv) := HPC.out.2 k hlt b off _ _ rfl rv x4
        have hbl := World.block_lt_of_cell? w _ x0
        have s0 := (HBR.out.cell (by exact hbl)).trans x0
        have s1 := (HBR.out.cell (by exact hbl)).trans x1
        have s2 := (HBR.out.cell (by exact hbl)).trans x2
        have s3 := (HBR.out.cell (by exact hbl)).trans x3
        have s4 := (HBR.out.cell (by exact hbl)).trans x4
        have HXR : Hid (RegsV w rv ps[k].regs) := xr
        obtain ⟨rra, rrc, rfl, _⟩ := xr
        have HYS2 : Hid (YS w pl ps (k + 1) (ys ++ [(wholeP pl.length pl k ps[k], .slice rra ps[k].regs.length rrc)])) := HYS.out.snoc hlt _ HXR.out HCV.out
        have HIS0 : Hid (IS w w.heap.size wb wr.heap.size #[.int .i64 (pl.length : Int), .slice (some ⟨b, off, none⟩) ps.length cap, .slice ca cs.length ck] #[.int .i64 (pl.length : Int), .slice ra k rc, .slice none 0 0] #[.string ps[k].name, .int .i64 ps[k].period, .int .i64 ps[k].duration, .int .i64 ps[k].action, .slice rra ps[k].regs.length rrc] 54 54 5 (.slice ra k rc) k (pC ys) (wr.alloc (.cells #[.string ps[k].name, .int .i64 ps[k].period, .int .i64 ps[k].duration, .int .i64 ps[k].action, .slice rra ps[k].regs.length rrc] 54))) := IS.start HBR.out HBX.out HWB.out HOW.out ⟨Nat.le_refl _, hw1⟩ _ _
        have HYL : Hid (ys.length = k) := HYS.out.len
        clear x0 x1 x2 x3 x4 hx9 e9 HOW HBX HWB HYS
        generalize ps[k] = q at *
        go_wp2_with fail
        clear s0 s1 s2 s3 s4
        generalize wr.alloc (.cells #[.string q.name, .int .i64 q.period, .int .i64 q.duration, .int .i64 q.action, .slice rra q.regs.length rrc] 54) = V1 at *
        generalize wr.heap.size = ob at *
        refine Calls.mono (someName_any V1 k (by omega) (HTB.out.below HIS0.out.bel)) ?_
        rintro e V2 ⟨rfl, hb2⟩
        have HIS1 : Hid _ := HIS0.out.below hb2
        have c0 : V2.cell? ⟨ob, 0, none⟩ = some (.string q.name) := HIS1.out.cellO 0
        have g0 : V2.frozen? ⟨ob, 0, none⟩ = false := HIS1.out.freeO 0
        have HIS2 : Hid _ := HIS1.out.set 0 (.string (someN k))
        have c1 : (V2.setCell ⟨ob, 0, none⟩ (.string (someN k))).cell? ⟨ob, 1, none⟩ = some (.int .i64 q.period) := HIS2.out.cellO 1
        have g1 : (V2.setCell ⟨ob, 0, none⟩ (.string (someN k))).frozen? ⟨ob, 1, none⟩ = false := HIS2.out.freeO 1
        have cb : (V2.setCell ⟨ob, 0, none⟩ (.string (someN k))).cell? ⟨w.heap.size, 0, none⟩ = some (.int .i64 (pl.length : Int)) := HIS2.out.cellB 0
        have HIS3 : Hid _ := HIS2.out.set 1 (.int .i64 (pl.length : Int))
        obtain ⟨sn, hsn⟩ : ∃ sn, someN k = sn := ⟨_, rfl⟩
        have HSN : Hid (someN k = sn) := hsn
        rw [hsn] at HIS2 HIS3 c1 g1 cb ⊢
        clear hsn
        clear hb2
        go_wp2_with fail
        clear c0 g0 c1 g1 cb
        generalize (V2.setCell ⟨ob, 0, none⟩ (.string sn)).setCell ⟨ob, 1, none⟩ (.int .i64 (pl.length : Int)) = V3 at *
        refine Calls.mono (ticksOf_any V3 _ pl k (HQ.out.below HIS3.out.bel) hl) ?_
        rintro e V4 ⟨rfl, hV⟩
        have hV2 := hV.symm
        clear hV
        subst hV2
        have c2 : V3.cell? ⟨ob, 2, none⟩ = some (.int .i64 q.duration) := HIS3.out.cellO 2
        have g2 : V3.frozen? ⟨ob, 2, none⟩ = false := HIS3.out.freeO 2
        obtain ⟨cn, hcn⟩ : ∃ cn, countP pl k = cn := ⟨_, rfl⟩
        have HQN : Hid (wholeP pl.length pl k q = ⟨sn, pl.length, cn, q.action, q.regs⟩) := by
          show _ = _
          unfold wholeP
          rw [hcn, HSN.out]
        rw [hcn]
        clear hcn
        have HIS4 : Hid (IS w w.heap.size wb ob #[.int .i64 (pl.length : Int), .slice (some ⟨b, off, none⟩) ps.length cap, .slice ca cs.length ck] #[.int .i64 (pl.length : Int), .slice ra k rc, .slice none 0 0] #[.string sn, .int .i64 (pl.length : Int), .int .i64 cn, .int .i64 q.action, .slice rra q.regs.length rrc] 54 54 5 (.slice ra k rc) k (pC ys) (V3.setCell ⟨ob, 2, none⟩ (.int .i64 cn))) := HIS3.out.set 2 (.int .i64 cn)
        have d0 : (V3.setCell ⟨ob, 2, none⟩ (.int .i64 cn)).cell? ⟨ob, 0, none⟩ = some (.string sn) := HIS4.out.cellO 0
        have d1 : (V3.setCell ⟨ob, 2, none⟩ (.int .i64 cn)).cell? ⟨ob, 1, none⟩ = some (.int .i64 (pl.length : Int)) := HIS4.out.cellO 1
        have d2 : (V3.setCell ⟨ob, 2, none⟩ (.int .i64 cn)).cell? ⟨ob, 2, none⟩ = some (.int .i64 cn) := HIS4.out.cellO 2
        have d3 : (V3.setCell ⟨ob, 2, none⟩ (.int .i64 cn)).cell? ⟨ob, 3, none⟩ = some (.int .i64 q.action) := HIS4.out.cellO 3
        have d4 : (V3.setCell ⟨ob, 2, none⟩ (.int .i64 cn)).cell? ⟨ob, 4, none⟩ = some (.slice rra q.regs.length rrc) := HIS4.out.cellO 4
        have d5 : (V3.setCell ⟨ob, 2, none⟩ (.int .i64 cn)).cell? ⟨wb, 1, none⟩ = some (.slice ra k rc) := HIS4.out.cellW 1
        clear HIS0 HIS1 HIS2 HIS3
        go_upto_region 11 with fail
        clear c2 g2
        generalize V3.setCell ⟨ob, 2, none⟩ (.int .i64 cn) = V5 at *
        go_wp2_with (first
          | (at_builtin; refine wpList_append_lies _ rfl _ _ _ rfl (wb + 1) 54 i0 _ 5 64 Tryz.underlying28 hi0 hz0 hz1 hz2 rfl (by omega) (.slice ra k rc) k (pC ys) rfl (HIS4.out.own.alloc _) ⟨V5.heap.size, 0, none⟩ 1 1 [.string sn, .int .i64 (pl.length : Int), .int .i64 cn, .int .i64 q.action, .slice rra q.regs.length rrc] rfl rfl (World.news_of_block (cs := #[.string sn, .int .i64 (pl.length : Int), .int .i64 cn, .int .i64 q.action, .slice rra q.regs.length rrc]) (t := 54) (fr := (0, 0)) (heap_new V5 _)) (by simp [Value.oneCell']) (by omega) (by unfold maxLen; omega) (by omega) (by have := lt_of_blk HIS4.out.who; simp; omega) (V5.heap.size + 1) (by simp) ?_; intro g9 c9 V9 hown9 hgrow9 hat9 hlt9
             have hw9 := (HIS4.out.grown _ hgrow9 (by decide)).2.2
             have c91 : V9.cell? ⟨wb, 1, none⟩ = some (.slice ra k rc) := by rw [cell_of_blk hw9]; rfl
             have f91 : V9.frozen? ⟨wb, 1, none⟩ = false := frozen_of_blk hw9
             clear hw9)
          | fail)
        obtain ⟨k1, k2, k3, k4⟩ := HIS4.out.app _ hgrow9 (by decide) hown9 1 (.slice (some ⟨g9, 0, none⟩) (k + 1) c9)
        refine ⟨⟨k + 1, _, c9, _, by go_num, by omega, HYS2, ?_, k1, k2, k3⟩, by simp [intOf]; omega⟩
        have e : pC (ys ++ [(wholeP pl.length pl k q, .slice rra q.regs.length rrc)]) = pC ys ++ [.string sn, .int .i64 (pl.length : Int), .int .i64 cn, .int .i64 q.action, .slice rra q.regs.length rrc] := by rw [HQN.out]; simp [pC, pC1]
        rw [e]
        exact k4
      · have hlt' : ¬ (k : Int) < (ps.length : Int) := by omega
        have hke : k = ps.length := by omega
        subst hke
        have y2 : wr.cell? ⟨w.heap.size, 2, none⟩ = some (.slice ca cs.length ck) := by rw [cell_of_blk HBX.out]; rfl
        have HPL : Hid (ys.map Prod.fst = ps.mapIdx (wholeP pl.length pl)) := HYS.out.fin rfl
        have HRG : Hid (∀ y ∈ ys, RegsV w y.2 y.1.regs ∧ capV y.2) := HYS.out.reg
        have HYL : Hid (ys.length = ps.length) := HYS.out.len
        clear HYS hlt hk
        go_wp2_with fail
        clear y2 hlt'
        generalize wr = X1 at *
        go_loopw [46] (fun v wr => ∃ (j : Nat) (ra2 : Option Addr) (rc2 : Nat) (X : List ChanD), v = .int .i64 j ∧ j ≤ cs.length ∧ Hid (X.length = j ∧ ∀ i (h : i < X.length) (h2 : i < cs.length), X[i] = wholeC i cs[i]) ∧ Hid (wr.ownsRow (wb + 1) 58 6 (.slice ra2 j rc2) j (cC X)) ∧ Hid (wr.ownsRow (wb + 1) 54 5 (.slice ra ps.length rc) ps.length (pC ys)) ∧ Hid (Below w.heap.size w wr) ∧ Hid (wr.heap[w.heap.size]? = some (.cells #[.int .i64 (pl.length : Int), .slice va ps.length cap, .slice ca cs.length ck] 31 (0, 0))) ∧ Hid (wr.heap[wb]? = some (.cells #[.int .i64 (pl.length : Int), .slice ra ps.length rc, .slice ra2 j rc2] 31 (0, 0)))) (fun v _ => cs.length - (intOf v).toNat)
        case atStart => exact ⟨0, none, 0, [], rfl, by omega, ⟨rfl, fun i h => absurd h (by simp)⟩, World.ownsRow_nil _ _ _ _, HOW, HBR, HBX, HWB⟩
        case round =>
          obtain ⟨j, ra2, rc2, X, rfl, hj, HXS, HO2, HO1, HBR2, HBX2, HWB2⟩ := hrel
          clear HOW HBR HBX HWB
          by_cases hlt : j < cs.length
          · have hlt' : (j : Int) < (cs.length : Int) := by omega
            have hj0' : (0 : Int) ≤ (j : Int) := by omega
            obtain ⟨ca9, ck9, e9, hx9⟩ := HC.out
            obtain ⟨rfl, rfl⟩ : ca = ca9 ∧ ck = ck9 := by cases e9; exact ⟨rfl, rfl⟩
            obtain ⟨b, off, rfl, x0, x1, x2, x3, x4, x5⟩ := hx9 j hlt
            have hbl := World.block_lt_of_cell? w _ x0
            have s0 := (HBR2.out.cell (by exact hbl)).trans x0
            have s1 := (HBR2.out.cell (by exact hbl)).trans x1
            have s2 := (HBR2.out.cell (by exact hbl)).trans x2
            have s3 := (HBR2.out.cell (by exact hbl)).trans x3
            have s4 := (HBR2.out.cell (by exact hbl)).trans x4
            have s5 := (HBR2.out.cell (by exact hbl)).trans x5
            have HXS2 : Hid ((X ++ [wholeC j cs[j]]).length = j + 1 ∧ ∀ i (h : i < (X ++ [wholeC j cs[j]]).length) (h2 : i < cs.length), (X ++ [wholeC j cs[j]])[i] = wholeC i cs[i]) := by
              obtain ⟨h1, h2⟩ := HXS.out
              refine ⟨by rw [List.length_append, h1]; rfl, fun i hi hi2 => ?_⟩
              by_cases e : i < X.length
              · rw [List.getElem_append_left e]; exact h2 i e hi2
              · have hi3 : i = j := by simp at hi; omega
                subst hi3
                rw [List.getElem_append_right (by omega)]
                simp
            have HIS0 : Hid (IS w w.heap.size wb wr.heap.size #[.int .i64 (pl.length : Int), .slice va ps.length cap, .slice (some ⟨b, off, none⟩) cs.length ck] #[.int .i64 (pl.length : Int), .slice ra ps.length rc, .slice ra2 j rc2] #[.string cs[j].name, .int .i64 cs[j].source, .int .i64 cs[j].target, .int .i64 cs[j].kind, .int .i64 cs[j].size, .int .i64 cs[j].depth] 58 58 6 (.slice ra2 j rc2) j (cC X) (wr.alloc (.cells #[.string cs[j].name, .int .i64 cs[j].source, .int .i64 cs[j].target, .int .i64 cs[j].kind, .int .i64 cs[j].size, .int .i64 cs[j].depth] 58))) := IS.start HBR2.out HBX2.out HWB2.out HO2.out ⟨Nat.le_refl _, hw1⟩ _ _
            have HP0 : Hid ((wr.alloc (.cells #[.string cs[j].name, .int .i64 cs[j].source, .int .i64 cs[j].target, .int .i64 cs[j].kind, .int .i64 cs[j].size, .int .i64 cs[j].depth] 58)).ownsRow (wb + 1) 54 5 (.slice ra ps.length rc) ps.length (pC ys)) := HO1.out.alloc _
            clear x0 x1 x2 x3 x4 x5 hx9 e9 HO2 HO1 HBX2 HWB2 HXS
            generalize cs[j] = q at *
            go_wp2_with fail
            clear s0 s1 s2 s3 s4 s5
            generalize wr.alloc (.cells #[.string q.name, .int .i64 q.source, .int .i64 q.target, .int .i64 q.kind, .int .i64 q.size, .int .i64 q.depth] 58) = V1 at *
            generalize wr.heap.size = ob at *
            refine Calls.mono (someName_any V1 j (by omega) (HTB.out.below HIS0.out.bel)) ?_
            rintro e V2 ⟨rfl, hb2⟩
            have HIS1 : Hid _ := HIS0.out.below hb2
            have HP1 : Hid (V2.ownsRow (wb + 1) 54 5 (.slice ra ps.length rc) ps.length (pC ys)) := own_stays HP0.out hb2
            have c0 : V2.cell? ⟨ob, 0, none⟩ = some (.string q.name) := HIS1.out.cellO 0
            have g0 : V2.frozen? ⟨ob, 0, none⟩ = false := HIS1.out.freeO 0
            obtain ⟨sn, hsn⟩ : ∃ sn, someN j = sn := ⟨_, rfl⟩
            have HSN : Hid (wholeC j q = ⟨sn, q.source, q.target, q.kind, q.size, q.depth⟩) := by
              show _ = _
              unfold wholeC
              rw [hsn]
            rw [hsn]
            clear hsn hb2
            have HIS2 : Hid (IS w w.heap.size wb ob #[.int .i64 (pl.length : Int), .slice va ps.length cap, .slice (some ⟨b, off, none⟩) cs.length ck] #[.int .i64 (pl.length : Int), .slice ra ps.length rc, .slice ra2 j rc2] #[.string sn, .int .i64 q.source, .int .i64 q.target, .int .i64 q.kind, .int .i64 q.size, .int .i64 q.depth] 58 58 6 (.slice ra2 j rc2) j (cC X) (V2.setCell ⟨ob, 0, none⟩ (.string sn))) := HIS1.out.set 0 (.string sn)
            have HP2 : Hid ((V2.setCell ⟨ob, 0, none⟩ (.string sn)).ownsRow (wb + 1) 54 5 (.slice ra ps.length rc) ps.length (pC ys)) := owns_keep HP1.out fun k hk => blk_far 0 _ (fun e => own_not_blk HP1.out HIS1.out.one (by decide) (e ▸ hk).symm)
            have d0 : (V2.setCell ⟨ob, 0, none⟩ (.string sn)).cell? ⟨ob, 0, none⟩ = some (.string sn) := HIS2.out.cellO 0
            have d1 : (V2.setCell ⟨ob, 0, none⟩ (.string sn)).cell? ⟨ob, 1, none⟩ = some (.int .i64 q.source) := HIS2.out.cellO 1
            have d2 : (V2.setCell ⟨ob, 0, none⟩ (.string sn)).cell? ⟨ob, 2, none⟩ = some (.int .i64 q.target) := HIS2.out.cellO 2
            have d3 : (V2.setCell ⟨ob, 0, none⟩ (.string sn)).cell? ⟨ob, 3, none⟩ = some (.int .i64 q.kind) := HIS2.out.cellO 3
            have d4 : (V2.setCell ⟨ob, 0, none⟩ (.string sn)).cell? ⟨ob, 4, none⟩ = some (.int .i64 q.size) := HIS2.out.cellO 4
            have d5 : (V2.setCell ⟨ob, 0, none⟩ (.string sn)).cell? ⟨ob, 5, none⟩ = some (.int .i64 q.depth) := HIS2.out.cellO 5
            have d6 : (V2.setCell ⟨ob, 0, none⟩ (.string sn)).cell? ⟨wb, 2, none⟩ = some (.slice ra2 j rc2) := HIS2.out.cellW 2
            clear HIS0 HIS1 HP0 HP1
            go_upto_region 17 with fail
            clear c0 g0
            generalize V2.setCell ⟨ob, 0, none⟩ (.string sn) = V5 at *
            go_wp2_with (first
              | (at_builtin; refine wpList_append_lies _ rfl _ _ _ rfl (wb + 1) 58 j0 _ 6 56 Tryz.underlying29 hj0 hy0 hy1 hy2 rfl (by omega) (.slice ra2 j rc2) j (cC X) rfl (HIS2.out.own.alloc _) ⟨V5.heap.size, 0, none⟩ 1 1 [.string sn, .int .i64 q.source, .int .i64 q.target, .int .i64 q.kind, .int .i64 q.size, .int .i64 q.depth] rfl rfl (World.news_of_block (cs := #[.string sn, .int .i64 q.source, .int .i64 q.target, .int .i64 q.kind, .int .i64 q.size, .int .i64 q.depth]) (t := 58) (fr := (0, 0)) (heap_new V5 _)) (by simp [Value.oneCell']) (by omega) (by unfold maxLen; omega) (by omega) (by have := lt_of_blk HIS2.out.who; simp; omega) (V5.heap.size + 1) (by simp) ?_; intro g9 c9 V9 hown9 hgrow9 hat9 hlt9
                 have hw9 := (HIS2.out.grown _ hgrow9 (by decide)).2.2
                 have c92 : V9.cell? ⟨wb, 2, none⟩ = some (.slice ra2 j rc2) := by rw [cell_of_blk hw9]; rfl
                 have f92 : V9.frozen? ⟨wb, 2, none⟩ = false := frozen_of_blk hw9
                 have HW9 : Hid (V9.heap[wb]? = some (.cells #[.int .i64 (pl.length : Int), .slice ra ps.length rc, .slice ra2 j rc2] 31 (0, 0))) := hw9
                 clear hw9)
              | fail)
            obtain ⟨k1, k2, k3, k4⟩ := HIS2.out.app _ hgrow9 (by decide) hown9 2 (.slice (some ⟨g9, 0, none⟩) (j + 1) c9)
            have hp9 : V9.ownsRow (wb + 1) 54 5 (.slice ra ps.length rc) ps.length (pC ys) := own_else (HP2.out.alloc _) (HIS2.out.own.alloc _) (by decide) hgrow9
            refine ⟨⟨j + 1, _, c9, _, by go_num, by omega, HXS2, ?_, ?_, k1, k2, k3⟩, by simp [intOf]; omega⟩
            · have e : cC (X ++ [wholeC j q]) = cC X ++ [.string sn, .int .i64 q.source, .int .i64 q.target, .int .i64 q.kind, .int .i64 q.size, .int .i64 q.depth] := by rw [HSN.out]; simp [cC, cC1]
              rw [e]
              exact k4
            · exact owns_keep hp9 fun k hk => blk_far 2 _ (fun e => own_not_blk hp9 HW9.out (by decide) (e ▸ hk).symm)
          · have hlt' : ¬ (j : Int) < (cs.length : Int) := by omega
            have hje : j = cs.length := by omega
            subst hje
            have w0 : wr.cell? ⟨wb, 0, none⟩ = some (.int .i64 (pl.length : Int)) := by rw [cell_of_blk HWB2.out]; rfl
            have w1' : wr.cell? ⟨wb, 1, none⟩ = some (.slice ra ps.length rc) := by rw [cell_of_blk HWB2.out]; rfl
            have w2' : wr.cell? ⟨wb, 2, none⟩ = some (.slice ra2 cs.length rc2) := by rw [cell_of_blk HWB2.out]; rfl
            have hXe : X = cs.mapIdx wholeC := by
              apply List.ext_getElem
              · simp [HXS.out.1]
              · intro i h1 h2
                rw [List.getElem_mapIdx]
                exact HXS.out.2 i h1 (by simpa using h2)
            have hpv : PartsV wr (.slice ra ps.length rc) (ps.mapIdx (wholeP pl.length pl)) ∧ PartsC wr (.slice ra ps.length rc) (ps.mapIdx (wholeP pl.length pl)).length := by
              rw [← HPL.out]
              exact parts_see (by rw [HYL.out]; exact HO1.out) fun y hy => ⟨(HRG.out y hy).1.below HBR2.out, (HRG.out y hy).2⟩
            have hcv : ChansV wr (.slice ra2 cs.length rc2) (cs.mapIdx wholeC) := by
              have hO := HO2.out
              rw [hXe] at hO
              exact chans_see (by simpa using hO)
            have HCK : Hid _ := manCheck_any (pl.length : Int) (ps.mapIdx (wholeP pl.length pl)) (cs.mapIdx wholeC) (.slice ra ps.length rc) (.slice ra2 cs.length rc2) wr hpv.1 hpv.2 hcv (own_cap HO2.out) (by simp; omega) (fun k hk => by
              have hk2 : k < ps.length := by simpa using hk
              rw [List.getElem_mapIdx]
              have := HRL.out _ (List.getElem_mem hk2)
              show (ps[k]'hk2).regs.length ≤ _
              omega) (by simp; omega)
            clear hpv hcv hXe
            go_wp2_with fail
            refine Calls.mono HCK.out ?_
            rintro e w9 ⟨rfl, hb9⟩
            have hbf : Below w.heap.size w w9 := HBR2.out.trans (hb9.mono HBR2.out.size)
            have HCW : Hid (checkF ⟨(pl.length : Int), ps.mapIdx (wholeP pl.length pl), cs.mapIdx wholeC⟩ = checkF (wholeM pl ps cs)) := rfl
            by_cases hz : checkF (wholeM pl ps cs) = 0
            · have HF : Hid (rightB pl ps cs = true) := by show _ = _; rw [HST.out, decide_eq_true hz]
              rw [HCW.out, hz]
              go_wp2_with fail
              go_ret
              exact ⟨by rw [HF.out]; rfl, hbf⟩
            · have HF : Hid (rightB pl ps cs = false) := by show _ = _; rw [HST.out, decide_eq_false hz]
              rw [HCW.out]
              generalize checkF (wholeM pl ps cs) = ck0 at *
              go_wp2_with fail
              go_ret
              exact ⟨by rw [HF.out]; simp [hz], hbf⟩
  · have HST : Hid (rightB pl ps cs = false) := by show _ = _; unfold rightB; rw [hst]; rfl
    clear hst
    go_wp2_with fail
    go_ret
    exact ⟨by rw [HST.out]; rfl, HB1.out⟩
end Go.Proofs.YteioennfpkoagabGreatDoor.C
