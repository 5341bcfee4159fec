import Derived.Test.YteioennfpkoagaaGreatDoorB20
import Derived.Test.YteioennfpkoagaaGreatDoorB24
namespace Go.Proofs.YteioennfpkoagaaGreatDoor.C
open Go.RowKit K
attribute [local go_sem ↓] Go.wp_at_zero Go.wp_at_succ

structure AccOK (pl : List Int) (ps : List PartD) (cs : List ChanD) : Prop where
  pln : 1 ≤ pl.length
  pn : ps.length ≤ 8
  cn : cs.length ≤ 8
  prt : ∀ x ∈ ps, RegsOK x.regs ∧ x.regs.length ≤ 4 ∧ 1 ≤ x.action ∧ x.action ≤ 3
  chn : ∀ y ∈ cs, 1 ≤ y.depth
theorem acc_ok {s : ByteArray} (h : accF s = true) : AccOK (r1 s.data.toList).1 (r2 s.data.toList).1 (r3 s.data.toList).1 := by
  unfold accF accL rightB at h
  simp only [Bool.and_eq_true, decide_eq_true_eq] at h
  have hz := h.2.2.2
  generalize (r1 s.data.toList).1 = pl at *
  generalize (r2 s.data.toList).1 = ps at *
  generalize (r3 s.data.toList).1 = cs at *
  obtain ⟨h1, h2, h3, h4, h5, h6⟩ := check_ok hz
  have e1 : (wholeM pl ps cs).parts = ps.mapIdx (wholeP pl.length pl) := rfl
  have e2 : (wholeM pl ps cs).chans = cs.mapIdx wholeC := rfl
  have l1 : (wholeM pl ps cs).parts.length = ps.length := by rw [e1]; simp
  have l2 : (wholeM pl ps cs).chans.length = cs.length := by rw [e2]; simp
  have h1' : (1 : Int) ≤ (pl.length : Int) := h1
  refine ⟨by omega, by omega, by omega, fun x hx => ?_, fun y hy => ?_⟩
  · obtain ⟨k, hk, rfl⟩ := List.getElem_of_mem hx
    have hk2 : k < (wholeM pl ps cs).parts.length := by omega
    obtain ⟨a1, a2, a3, _⟩ := part_good hz hk2
    have e3 : (wholeM pl ps cs).parts[k] = wholeP pl.length pl k ps[k] := by
      have : (wholeM pl ps cs).parts[k] = (ps.mapIdx (wholeP pl.length pl))[k]'(by simpa using hk) := rfl
      rw [this, List.getElem_mapIdx]
    rw [e3] at a1 a2 a3
    exact ⟨a2, a3, a1⟩
  · obtain ⟨k, hk, rfl⟩ := List.getElem_of_mem hy
    have hk2 : k < (wholeM pl ps cs).chans.length := by omega
    have a := chanErr_ok (h6 k hk2) (by omega)
    have e3 : (wholeM pl ps cs).chans[k] = wholeC k cs[k] := by
      have : (wholeM pl ps cs).chans[k] = (cs.mapIdx wholeC)[k]'(by simpa using hk) := rfl
      rw [this, List.getElem_mapIdx]
    rw [e3] at a
    exact a.2.2.2.2.2.2.2.2.2.1
/- only blocks of these types may have turned -/
structure Stb (ts : List Nat) (w w' : World) : Prop where
  size : w.heap.size ≤ w'.heap.size
  same : ∀ (b t : Nat) (cs : Array Value) (fr : Nat × Nat), w.heap[b]? = some (.cells cs t fr) → t ∉ ts → w'.heap[b]? = w.heap[b]?
theorem own_stb {w w' : World} {ts : List Nat} (hs : Stb ts w w') {B e s n : Nat} {v : Value} {xs : List Value} (h : w.ownsRow B e s v n xs) (he : e ∉ ts) : w'.ownsRow B e s v n xs := by
  refine owns_keep h fun b hb => ?_
  rcases h.2 with ⟨hv, _⟩ | ⟨g, cap, cur, hv, _, hg, _⟩
  · rw [hv] at hb; cases hb
  · rw [hv] at hb
    have : some g = some b := hb
    cases this
    exact hs.same _ _ _ _ hg he
theorem PA.stb {w w' : World} {ts : List Nat} (hs : Stb ts w w') {B : Nat} {v : Value} {ys : List (PartD × Value)} (h : PA w B v ys) (h1 : 42 ∉ ts) (h2 : 90 ∉ ts) : PA w' B v ys :=
  ⟨own_stb hs h.own h1, fun y hy => own_stb hs (h.reg y hy) h2⟩
theorem Stb.iter {wr V2 V9 : World} {kb B e n : Nat} {row : Value} {xs : List Value} {kc : Array Value} {fr : Nat × Nat} (hb : Below wr.heap.size wr V2) (o : Obj) (hown : V2.ownsRow B e 1 row n xs) (hg : (V2.alloc o).grownBy V9 row.ownBlock) (hk : V2.heap[kb]? = some (.cells kc 141 fr)) (i : Nat) (u : Value) : Stb [e, 141] wr (V9.setCell ⟨kb, i, none⟩ u) := by
  have hF := Frm.grown hg
  have h2 := newB V2 o
  refine ⟨by have := hb.size; have := h2.size; have := hF.size; simp; omega, fun b t cs fr2 hbk ht => ?_⟩
  have hb1 := keepN hbk hb
  have hb2 := keepN hb1 h2
  have hne : b ≠ kb := fun e2 => by
    subst e2
    rw [hk] at hb1
    injection hb1 with hb1
    injection hb1 with _ hb1 _
    exact ht (by rw [← hb1]; simp)
  rw [blk_far i u hne, hF.block b (lt_of_blk hb2) (fun e2 => own_not_blk (hown.alloc o) hb2 (fun e3 => ht (by rw [e3]; simp)) e2.symm), hb2, hbk]
theorem iter_ker {V2 V9 : World} {kb B e n : Nat} {row : Value} {xs : List Value} {kc : Array Value} {fr : Nat × Nat} (o : Obj) (hown : V2.ownsRow B e 1 row n xs) (hg : (V2.alloc o).grownBy V9 row.ownBlock) (hk : V2.heap[kb]? = some (.cells kc 141 fr)) (hne : 141 ≠ e) : V9.heap[kb]? = some (.cells kc 141 fr) := by
  have hk2 := keepN hk (newB V2 o)
  rw [(Frm.grown hg).block kb (lt_of_blk hk2) (fun e2 => own_not_blk (hown.alloc o) hk2 hne e2.symm)]
  exact hk2
theorem iter_bel {w V2 V9 : World} {kb B e n : Nat} {row : Value} {xs : List Value} (hb : Below w.heap.size w V2) (o : Obj) (hown : V2.ownsRow B e 1 row n xs) (hB : w.heap.size ≤ B) (hg : (V2.alloc o).grownBy V9 row.ownBlock) (hk : w.heap.size ≤ kb) (i : Nat) (u : Value) : Below w.heap.size w (V9.setCell ⟨kb, i, none⟩ u) := by
  have h2 := hb.trans ((newB V2 o).mono hb.size)
  exact (h2.grown hg h2.size (fun q hq => by have := (hown.lt q hq).1; omega)).setCell (p := ⟨kb, i, none⟩) hk _
/- in the midst of loading -/
structure LdS (w wr : World) (mb kb : Nat) (pl : List Int) (ps : List PartD) (cs : List ChanD) (pv cv qv ptv chv : Value) (ys : List (PartD × Value)) : Prop where
  bel : Below w.heap.size w wr
  man : wr.heap[mb]? = some (.cells #[.int .i64 (pl.length : Int), pv, cv] 34 (0, 0))
  ker : wr.heap[kb]? = some (.cells #[qv, .int .i64 0, ptv, chv] 141 (0, 0))
  lo : w.heap.size ≤ kb
  pln : wr.ownsRow w.heap.size 3 1 qv pl.length (intsC pl)
  pa : PA wr w.heap.size pv ys
  ca : wr.ownsRow w.heap.size 92 6 cv cs.length (cC cs)
theorem LdS.step {w wr wr' : World} {mb kb : Nat} {pl : List Int} {ps : List PartD} {cs : List ChanD} {pv cv qv ptv chv ptv' chv' : Value} {ys : List (PartD × Value)} {ts : List Nat} (h : LdS w wr mb kb pl ps cs pv cv qv ptv chv ys) (hs : Stb ts wr wr') (hb : Below w.heap.size w wr') (hk : wr'.heap[kb]? = some (.cells #[qv, .int .i64 0, ptv', chv'] 141 (0, 0))) (h1 : 3 ∉ ts) (h2 : 42 ∉ ts) (h3 : 90 ∉ ts) (h4 : 92 ∉ ts) (h5 : 34 ∉ ts) : LdS w wr' mb kb pl ps cs pv cv qv ptv' chv' ys :=
  ⟨hb, (hs.same _ _ _ _ h.man h5).trans h.man, hk, h.lo, own_stb hs h.pln h1, h.pa.stb hs h2 h3, own_stb hs h.ca h4⟩
theorem LdS.below {w wr wr' : World} {mb kb : Nat} {pl : List Int} {ps : List PartD} {cs : List ChanD} {pv cv qv ptv chv : Value} {ys : List (PartD × Value)} (h : LdS w wr mb kb pl ps cs pv cv qv ptv chv ys) (hb : Below wr.heap.size wr wr') : LdS w wr' mb kb pl ps cs pv cv qv ptv chv ys :=
  ⟨h.bel.trans (hb.mono h.bel.size), keepN h.man hb, keepN h.ker hb, h.lo, own_stays h.pln hb, h.pa.below hb, own_stays h.ca hb⟩
theorem CnS.below {w0 wr wr' : World} {cs : List ChanD} {k : Nat} {cbs : List Nat} (h : CnS w0 wr cs k cbs) (hb : Below wr.heap.size wr wr') : CnS w0 wr' cs k cbs := h.keep hb.size fun b hbm => hb.block b (h.top b hbm)
theorem PtS.below {w0 wr wr' : World} {ps : List PartD} {cs : List ChanD} {cbs : List Nat} {k : Nat} {rs : List PRec} (h : PtS w0 wr ps cs cbs k rs) (hb : Below wr.heap.size wr wr') : PtS w0 wr' ps cs cbs k rs := h.keep hb.size fun r hr b _ hhi => hb.block b (by have := (h.ins r hr).2.2; omega)
theorem CnS.snoc {w0 wr wr' : World} {cs : List ChanD} {k b : Nat} {cbs : List Nat} (h : CnS w0 wr cs k cbs) (hk : k < cs.length) (hle : k ≤ cs.length) (hs : Stb [149, 141] wr wr') (hb : wr'.heap[b]? = some (.cells (chanB cs[k] (.slice none 0 0) 0) 153 (0, 0))) (hlo : wr.heap.size ≤ b) (hw : w0.heap.size ≤ wr.heap.size) : CnS w0 wr' cs (k + 1) (cbs ++ [b]) := by
  have h2 : CnS w0 wr' cs k cbs := h.keep hs.size fun q hq => by
    obtain ⟨c, hc, rfl⟩ := List.getElem_of_mem hq
    exact hs.same _ _ _ _ (h.all c hc (by have := h.len; omega)).1 (by decide)
  refine ⟨by rw [List.length_append, h.len]; rfl, fun c hc hc2 => ?_, ?_, fun q hq => ?_⟩
  · by_cases e : c < cbs.length
    · rw [List.getElem_append_left e]
      exact h2.all c e hc2
    · have hce : c = k := by have := h.len; simp at hc; omega
      subst hce
      have hl := h.len
      simp only [List.getElem_append_right (Nat.le_of_not_lt e), hl, Nat.sub_self, List.getElem_singleton]
      exact ⟨hb, by omega⟩
  · rw [List.pairwise_append]
    exact ⟨h.inc, by simp, fun a ha c hc => by simp at hc; subst hc; have := h.top a ha; omega⟩
  · rcases List.mem_append.1 hq with hq | hq
    · exact h2.top q hq
    · simp at hq
      subst hq
      exact lt_of_blk hb
theorem RgS.inn {w w' : World} {rs : List RegD} {k : Nat} {bs : List (Nat × Nat)} (h : RgS w w' rs k bs) (hk : k = rs.length) : ∀ a ∈ bs, a.1 < w'.heap.size ∧ a.2 < w'.heap.size := fun a ha => by
  obtain ⟨j, hj, rfl⟩ := List.getElem_of_mem ha
  obtain ⟨a1, a2, _⟩ := h.at' j hj (by have := h.len; omega)
  exact ⟨lt_of_blk a1, lt_of_blk a2⟩
/- one more partition -/
theorem PtS.snoc {W0 wr V1 V2 V3 wr' : World} {ps : List PartD} {cs : List ChanD} {cbs : List Nat} {k : Nat} {rs : List PRec} (h : PtS W0 wr ps cs cbs k rs) (hk : k < ps.length) (hle : k ≤ ps.length) (h1 : wr.heap.size ≤ V1.heap.size) (hw0 : W0.heap.size ≤ wr.heap.size) {iv : Value} (hb12 : Below V1.heap.size V1 V2) (hiv : V2.ownsRow V1.heap.size 149 1 iv (toL (tgts cs) k).length (ptrsC ((toL (tgts cs) k).map fun c => cbs.getD c 0)))
    {pb b1 b2 : Nat} {row fv : Value} {bs : List (Nat × Nat)} (hp : PartN V2 V3 ps[k] iv pb row fv bs b1 b2) (hsz : V3.heap.size ≤ wr'.heap.size)
    (hold : ∀ b, b < wr.heap.size → (∃ r ∈ rs, r.lo ≤ b ∧ b < r.hi) → wr'.heap[b]? = wr.heap[b]?) (hnew : ∀ b, V1.heap.size ≤ b → b < V3.heap.size → wr'.heap[b]? = V3.heap[b]?) :
    PtS W0 wr' ps cs cbs (k + 1) (rs ++ [⟨V1.heap.size, V3.heap.size, pb, row, fv, bs, b1, b2, iv⟩]) := by
  have h12 := hb12.size
  have h23 := hp.bel.size
  have hlen : bs.length = ps[k].regs.length := hp.rg.len
  have hin : PRin ⟨V1.heap.size, V3.heap.size, pb, row, fv, bs, b1, b2, iv⟩ := ⟨lt_of_blk hp.blk, fun b hb => (hp.own.lt b hb).2, hp.rg.inn rfl, ⟨lt_of_blk hp.box1, lt_of_blk hp.box2⟩, fun b hb => by have h4 := (hiv.lt b hb).2; show b < V3.heap.size; omega⟩
  have hok : PRok V3 cbs cs k ps[k] ⟨V1.heap.size, V3.heap.size, pb, row, fv, bs, b1, b2, iv⟩ := ⟨hp.blk, own_base hp.own h12, hlen, fun j hj hj2 => by
    obtain ⟨a1, a2, a3, a4⟩ := hp.rg.at' j hj hj2
    exact ⟨a1, a2, Nat.le_trans h12 a3, Nat.le_trans h12 a4⟩, hp.rg.inc, ⟨Nat.le_trans h12 hp.ord.1, Nat.le_trans h12 hp.ord.2.1, Nat.le_trans h12 hp.ord.2.2⟩, hp.box1, hp.box2, hp.fun', own_stays hiv hp.bel⟩
  have hok' := hok.keep (wr' := wr') hin fun b hb1 hb2 => hnew b hb1 hb2
  have h' : PtS W0 wr' ps cs cbs k rs := h.keep (by omega) fun r hr b hb1 hb2 => hold b (by have := (h.ins r hr).2.2; omega) ⟨r, hr, hb1, hb2⟩
  refine ⟨by rw [List.length_append, h.len]; rfl, fun i hi hi2 => ?_, fun r hr => ?_, ?_⟩
  · by_cases e : i < rs.length
    · rw [List.getElem_append_left e]
      exact h'.all i e hi2
    · have hie : i = k := by have := h.len; simp at hi; omega
      subst hie
      have hl := h.len
      simp only [List.getElem_append_right (Nat.le_of_not_lt e), hl, Nat.sub_self, List.getElem_singleton]
      exact hok'
  · rcases List.mem_append.1 hr with hr | hr
    · exact h'.ins r hr
    · simp at hr
      subst hr
      exact ⟨hin, by show W0.heap.size ≤ V1.heap.size; omega, hsz⟩
  · rw [List.pairwise_append]
    refine ⟨h.inc, by simp, fun a ha c hc => ?_⟩
    simp at hc
    subst hc
    have := (h.ins a ha).2.2
    show a.hi ≤ V1.heap.size
    omega
theorem PtS.weak {w W0 wr : World} {ps : List PartD} {cs : List ChanD} {cbs : List Nat} {k : Nat} {rs : List PRec} (h : PtS W0 wr ps cs cbs k rs) (hw : w.heap.size ≤ W0.heap.size) : PtS w wr ps cs cbs k rs :=
  ⟨h.len, h.all, fun r hr => ⟨(h.ins r hr).1, Nat.le_trans hw (h.ins r hr).2.1, (h.ins r hr).2.2⟩, h.inc⟩
set_option maxRecDepth 100000 in
set_option maxHeartbeats 8000000 in
theorem kload_any (w : World) (s : ByteArray) (hs : s.size ≤ 9223372036854775807) (htb : TB w) :
    Calls Tryz.prog 64 #[.string s] w fun e w' => Below w.heap.size w w' ∧ ((accF s = false ∧ e = .returned (.pointer none)) ∨
      (accF s = true ∧ ∃ kb qv ptv chv cbs rs, e = .returned (ptrV kb) ∧ LoadF w w' kb (r1 s.data.toList).1 (r2 s.data.toList).1 (r3 s.data.toList).1 qv ptv chv cbs rs)) := by
  obtain ⟨i0, hi0, hz0, hz1, hz2⟩ := parts_of infoPchan
  obtain ⟨j0, hj0, hy0, hy1, hy2⟩ := parts_of infoPpart
  have HRD : Hid _ := iread_any w s hs htb
  clear htb
  go_enter Tryz.func64, Tryz.ntmps64
  go_wp2_with fail
  refine Calls.mono HRD.out ?_
  rintro e w1 ⟨hb1, hor⟩
  have HB1 : Hid (Below w.heap.size w w1) := hb1
  clear hb1 HRD
  rcases hor with ⟨hac, rfl⟩ | ⟨hac, pv, cv, qv, ys, rfl, hys, hpa, hca, hpl⟩
  · have HAC : Hid (accF s = false) := hac
    clear hac
    go_wp2_with fail
    go_ret
    exact ⟨HB1.out.trans ((newB w1 _).mono HB1.out.size), .inl ⟨HAC.out, rfl⟩⟩
  · have HAC : Hid (accF s = true) := hac
    have HOK : Hid (AccOK (r1 s.data.toList).1 (r2 s.data.toList).1 (r3 s.data.toList).1) := acc_ok hac
    clear hac
    generalize hpe1 : (r1 s.data.toList).1 = pl at *
    generalize hpe2 : (r2 s.data.toList).1 = ps at *
    generalize hpe3 : (r3 s.data.toList).1 = cs at *
    have HPE1 : Hid ((r1 s.data.toList).1 = pl) := hpe1
    have HPE2 : Hid ((r2 s.data.toList).1 = ps) := hpe2
    have HPE3 : Hid ((r3 s.data.toList).1 = cs) := hpe3
    clear hpe1 hpe2 hpe3
    obtain ⟨pa, pk, rfl⟩ := own_slice hpa.own
    obtain ⟨ca, ck, rfl⟩ := own_slice hca
    obtain ⟨qa, qk, rfl⟩ := own_slice hpl
    have HYS : Hid (ys.map Prod.fst = ps) := hys
    have hyl : ys.length = ps.length := by rw [← hys]; simp
    have HYL : Hid (ys.length = ps.length) := hyl
    rw [hyl] at hpa ⊢
    have hpn := HOK.out.pn
    have hcn := HOK.out.cn
    have HLD0 : Hid (LdS w ((w1.alloc (.cells #[.int .i64 (pl.length : Int), .slice pa ps.length pk, .slice ca cs.length ck] 34)).alloc (.cells #[.slice qa pl.length qk, .int .i64 0, .slice none 0 0, .slice none 0 0] 141)) w1.heap.size (w1.heap.size + 1) pl ps cs (.slice pa ps.length pk) (.slice ca cs.length ck) (.slice qa pl.length qk) (.slice none 0 0) (.slice none 0 0) ys) := by
      have hN := NewB.two w1 (.cells #[.int .i64 (pl.length : Int), .slice pa ps.length pk, .slice ca cs.length ck] 34) (.cells #[.slice qa pl.length qk, .int .i64 0, .slice none 0 0, .slice none 0 0] 141)
      exact ⟨HB1.out.trans (hN.bel.mono HB1.out.size), heap_old _ _ (heap_new w1 _), hN.at', by have := HB1.out.size; omega, own_stays hpl hN.bel, hpa.below hN.bel, own_stays hca hN.bel⟩
    have hw1 := HB1.out.size
    clear hys hpa hca hpl hyl
    have m2 : ((w1.alloc (.cells #[.int .i64 (pl.length : Int), .slice pa ps.length pk, .slice ca cs.length ck] 34)).alloc (.cells #[.slice qa pl.length qk, .int .i64 0, .slice none 0 0, .slice none 0 0] 141)).cell? ⟨w1.heap.size, 2, none⟩ = some (.slice ca cs.length ck) := by rw [cell_of_blk HLD0.out.man]; rfl
    go_wp2_with fail
    clear m2
    generalize (w1.alloc (.cells #[.int .i64 (pl.length : Int), .slice pa ps.length pk, .slice ca cs.length ck] 34)).alloc (.cells #[.slice qa pl.length qk, .int .i64 0, .slice none 0 0, .slice none 0 0] 141) = W0 at *
    have hkb : w.heap.size ≤ w1.heap.size + 1 := by omega
    generalize w1.heap.size + 1 = kb at *
    generalize w1.heap.size = mb at *
    go_loopw [25] (fun v wr => ∃ (k : Nat) (ha : Option Addr) (hc : Nat) (cbs : List Nat), v = .int .i64 k ∧ k ≤ cs.length ∧ Hid (LdS w wr mb kb pl ps cs (.slice pa ps.length pk) (.slice ca cs.length ck) (.slice qa pl.length qk) (.slice none 0 0) (.slice ha k hc) ys) ∧ Hid (CnS w wr cs k cbs) ∧ Hid (wr.ownsRow w.heap.size 149 1 (.slice ha k hc) k (ptrsC cbs))) (fun v _ => cs.length - (intOf v).toNat)
    case atStart => exact ⟨0, none, 0, [], rfl, by omega, HLD0, ⟨rfl, fun c h => absurd h (by simp), List.Pairwise.nil, fun b hb => by cases hb⟩, World.ownsRow_nil _ _ _ _⟩
    case round =>
      obtain ⟨k, ha, hc, cbs, rfl, hk, HLD, HCN, HOW⟩ := hrel
      clear HLD0
      by_cases hlt : k < cs.length
      · have hlt' : (k : Int) < (cs.length : Int) := by omega
        have hk0 : (0 : Int) ≤ (k : Int) := by omega
        obtain ⟨ca9, ck9, e9, hx9⟩ := chans_see HLD.out.ca
        obtain ⟨rfl, rfl⟩ : ca = ca9 ∧ ck = ck9 := by cases e9; exact ⟨rfl, rfl⟩
        obtain ⟨b, off, rfl, x0, x1, x2, x3, x4, x5⟩ := hx9 k hlt
        clear hx9 e9
        have h1 := heap_new wr (.cells #[.string cs[k].name, .int .i64 cs[k].source, .int .i64 cs[k].target, .int .i64 cs[k].kind, .int .i64 cs[k].size, .int .i64 cs[k].depth] 92)
        have hb0 := newB wr (.cells #[.string cs[k].name, .int .i64 cs[k].source, .int .i64 cs[k].target, .int .i64 cs[k].kind, .int .i64 cs[k].size, .int .i64 cs[k].depth] 92)
        have HSN : Hid (∀ {b : Nat} {wr' : World}, Stb [149, 141] wr wr' → wr'.heap[b]? = some (.cells (chanB cs[k] (.slice none 0 0) 0) 153 (0, 0)) → wr.heap.size ≤ b → CnS w wr' cs (k + 1) (cbs ++ [b])) := fun a1 a2 a3 => HCN.out.snoc hlt hk a1 a2 a3 HLD.out.bel.size
        have q0 : (wr.alloc (.cells #[.string cs[k].name, .int .i64 cs[k].source, .int .i64 cs[k].target, .int .i64 cs[k].kind, .int .i64 cs[k].size, .int .i64 cs[k].depth] 92)).cell? ⟨wr.heap.size, 0, none⟩ = some (.string cs[k].name) := by rw [cell_of_blk h1]; rfl
        have q1 : (wr.alloc (.cells #[.string cs[k].name, .int .i64 cs[k].source, .int .i64 cs[k].target, .int .i64 cs[k].kind, .int .i64 cs[k].size, .int .i64 cs[k].depth] 92)).cell? ⟨wr.heap.size, 1, none⟩ = some (.int .i64 cs[k].source) := by rw [cell_of_blk h1]; rfl
        have q2 : (wr.alloc (.cells #[.string cs[k].name, .int .i64 cs[k].source, .int .i64 cs[k].target, .int .i64 cs[k].kind, .int .i64 cs[k].size, .int .i64 cs[k].depth] 92)).cell? ⟨wr.heap.size, 2, none⟩ = some (.int .i64 cs[k].target) := by rw [cell_of_blk h1]; rfl
        have q3 : (wr.alloc (.cells #[.string cs[k].name, .int .i64 cs[k].source, .int .i64 cs[k].target, .int .i64 cs[k].kind, .int .i64 cs[k].size, .int .i64 cs[k].depth] 92)).cell? ⟨wr.heap.size, 3, none⟩ = some (.int .i64 cs[k].kind) := by rw [cell_of_blk h1]; rfl
        have q4 : (wr.alloc (.cells #[.string cs[k].name, .int .i64 cs[k].source, .int .i64 cs[k].target, .int .i64 cs[k].kind, .int .i64 cs[k].size, .int .i64 cs[k].depth] 92)).cell? ⟨wr.heap.size, 4, none⟩ = some (.int .i64 cs[k].size) := by rw [cell_of_blk h1]; rfl
        have q5 : (wr.alloc (.cells #[.string cs[k].name, .int .i64 cs[k].source, .int .i64 cs[k].target, .int .i64 cs[k].kind, .int .i64 cs[k].size, .int .i64 cs[k].depth] 92)).cell? ⟨wr.heap.size, 5, none⟩ = some (.int .i64 cs[k].depth) := by rw [cell_of_blk h1]; rfl
        generalize cs[k] = y at *
        go_upto_region 8 with fail
        clear x0 x1 x2 x3 x4 x5 h1
        have HB0 : Hid (Below wr.heap.size wr (wr.alloc (.cells #[.string y.name, .int .i64 y.source, .int .i64 y.target, .int .i64 y.kind, .int .i64 y.size, .int .i64 y.depth] 92))) := hb0
        clear hb0
        generalize wr.alloc (.cells #[.string y.name, .int .i64 y.source, .int .i64 y.target, .int .i64 y.kind, .int .i64 y.size, .int .i64 y.depth] 92) = V1 at *
        have HL1 : Hid _ := HLD.out.below HB0.out
        have p3 : V1.cell? ⟨kb, 3, none⟩ = some (.slice ha k hc) := by rw [cell_of_blk HL1.out.ker]; rfl
        have hsz1 := HB0.out.size
        go_region_law (first
          | (refine step_append_lies _ (by rfl) _ _ _ (by rfl) w.heap.size 149 i0 _ 1 8 Tryz.underlying139 hi0 hz0 hz1 hz2 rfl (by omega) (.slice ha k hc) k (ptrsC cbs) (by rfl) (HO2.out.alloc _) ⟨V2.heap.size, 0, none⟩ 1 1 [.pointer (some ⟨b2, 0, none⟩)] (by rfl) (by rfl) (World.news_of_block (cs := #[.pointer (some ⟨b2, 0, none⟩)]) (t := 149) (fr := (0, 0)) (heap_new V2 _)) (by simp [Value.oneCell']) (by omega) (by unfold maxLen; omega) (by omega) (by have := HL2.out.bel.size; simp; omega) (V2.heap.size + 1) (by simp) ?_; intro g9 c9 V9 hown9 hgrow9 hat9 hlt9
             have hk9 := iter_ker _ HO2.out hgrow9 HL2.out.ker (by decide)
             have x9 : V9.cell? ⟨kb, 3, none⟩ = some (.slice ha k hc) := by rw [cell_of_blk hk9]; rfl
             have f9 : V9.frozen? ⟨kb, 3, none⟩ = false := frozen_of_blk hk9
             have HK9 : Hid (V9.heap[kb]? = some (.cells #[.slice qa pl.length qk, .int .i64 0, .slice none 0 0, .slice ha k hc] 141 (0, 0))) := hk9
             clear hk9)
          | (go_simp; go_at_call 122; refine (newChannel_any V1.drew y).mono ?_; rintro e V2 ⟨b2, rfl, hnb⟩
             have hv12 : Below V1.heap.size V1 V2 := (Below.refl V1.heap.size V1).drew.trans hnb.bel
             have HL2 : Hid _ := HL1.out.below hv12
             have HB2 : Hid (Below wr.heap.size wr V2) := HB0.out.trans (hv12.mono HB0.out.size)
             have HO2 : Hid (V2.ownsRow w.heap.size 149 1 (.slice ha k hc) k (ptrsC cbs)) := own_stays HOW.out HB2.out
             have HNB : Hid (V2.heap[b2]? = some (.cells (chanB y (.slice none 0 0) 0) 153 (0, 0)) ∧ wr.heap.size ≤ b2) := ⟨hnb.at', by have h2 : V1.heap.size ≤ b2 := hnb.lo; omega⟩
             have p32 : V2.cell? ⟨kb, 3, none⟩ = some (.slice ha k hc) := by rw [cell_of_blk HL2.out.ker]; rfl
             have p33 : ∀ o, (V2.alloc o).cell? ⟨kb, 3, none⟩ = some (.slice ha k hc) := fun o => by rw [cell_of_blk (heap_old _ o HL2.out.ker)]; rfl
             clear hv12 hnb
             unfold ptrV))
        all_goals
          have hst := Stb.iter HB2.out _ HO2.out hgrow9 HL2.out.ker 3 (.slice (some ⟨g9, 0, none⟩) (k + 1) c9)
          have hbl := iter_bel HL2.out.bel _ HO2.out (Nat.le_refl _) hgrow9 hkb 3 (.slice (some ⟨g9, 0, none⟩) (k + 1) c9)
          have hld := HLD.out.step (ptv' := .slice none 0 0) (chv' := .slice (some ⟨g9, 0, none⟩) (k + 1) c9) hst hbl (by rw [blk_set 3 _ HK9.out]; rfl) (by decide) (by decide) (by decide) (by decide) (by decide)
          have hnb9 : (V9.setCell ⟨kb, 3, none⟩ (.slice (some ⟨g9, 0, none⟩) (k + 1) c9)).heap[b2]? = some (.cells (chanB y (.slice none 0 0) 0) 153 (0, 0)) := by
            have hst2 := Stb.iter (Below.refl _ V2) _ HO2.out hgrow9 HL2.out.ker 3 (.slice (some ⟨g9, 0, none⟩) (k + 1) c9)
            exact (hst2.same _ _ _ _ HNB.out.1 (by decide)).trans HNB.out.1
          have hcn9 := HSN.out hst hnb9 HNB.out.2
          have how9 : (V9.setCell ⟨kb, 3, none⟩ (.slice (some ⟨g9, 0, none⟩) (k + 1) c9)).ownsRow w.heap.size 149 1 (.slice (some ⟨g9, 0, none⟩) (k + 1) c9) (k + 1) (ptrsC (cbs ++ [b2])) := by
            have e : ptrsC (cbs ++ [b2]) = ptrsC cbs ++ [.pointer (some ⟨b2, 0, none⟩)] := by simp [ptrsC, ptrV]
            rw [e]
            exact owns_keep hown9 fun q hq => blk_far 3 _ (fun e => own_not_blk hown9 HK9.out (by decide) (e ▸ hq).symm)
          go_wp2_with fail
          exact ⟨⟨k + 1, _, c9, _, by go_num, by omega, hld, hcn9, how9⟩, by simp [intOf]; omega⟩
      · have hlt' : ¬ (k : Int) < (cs.length : Int) := by omega
        have hke : k = cs.length := by omega
        subst hke
        have m1 : wr.cell? ⟨mb, 1, none⟩ = some (.slice pa ps.length pk) := by rw [cell_of_blk HLD.out.man]; rfl
        go_wp2_with fail
        clear m1 hlt' hlt hk
        have HX1 : Hid (w.heap.size ≤ wr.heap.size) := HLD.out.bel.size
        generalize wr = X1 at *
        have HC1 : Hid (CnS w X1 cs cs.length cbs) := HCN
        have HO1 : Hid (X1.ownsRow w.heap.size 149 1 (.slice ha cs.length hc) cs.length (ptrsC cbs)) := HOW
        have HL0 : Hid (LdS w X1 mb kb pl ps cs (.slice pa ps.length pk) (.slice ca cs.length ck) (.slice qa pl.length qk) (.slice none 0 0) (.slice ha cs.length hc) ys) := HLD
        clear HLD HCN HOW
        go_loopw [44] (fun v wr => ∃ (k : Nat) (ra : Option Addr) (rc : Nat) (rs : List PRec), v = .int .i64 k ∧ k ≤ ps.length ∧ Hid (LdS w wr mb kb pl ps cs (.slice pa ps.length pk) (.slice ca cs.length ck) (.slice qa pl.length qk) (.slice ra k rc) (.slice ha cs.length hc) ys) ∧ Hid (CnS w wr cs cs.length cbs) ∧ Hid (wr.ownsRow w.heap.size 149 1 (.slice ha cs.length hc) cs.length (ptrsC cbs)) ∧ Hid (PtS X1 wr ps cs cbs k rs) ∧ Hid (wr.ownsRow w.heap.size 137 1 (.slice ra k rc) k (ptrsC (rs.map PRec.pb))) ∧ Hid (∀ b, (Value.slice ra k rc).ownBlock = some b → ∀ r ∈ rs, ¬ (r.lo ≤ b ∧ b < r.hi)) ∧ Hid (X1.heap.size ≤ wr.heap.size)) (fun v _ => ps.length - (intOf v).toNat)
        case atStart => exact ⟨0, none, 0, [], rfl, by omega, HL0, HC1, HO1, ⟨rfl, fun i h => absurd h (by simp), fun r hr => (by cases hr), List.Pairwise.nil⟩, World.ownsRow_nil _ _ _ _, fun b hb => (by cases hb), Nat.le_refl _⟩
        case round =>
          obtain ⟨k, ra, rc, rs, rfl, hk, HLD, HCN, HOC, HPT, HOW, HRW, HXS⟩ := hrel
          have HKX : Hid (kb < X1.heap.size) := lt_of_blk HL0.out.ker
          clear HL0 HC1 HO1
          by_cases hlt : k < ps.length
          · have hlt' : (k : Int) < (ps.length : Int) := by omega
            have hk0 : (0 : Int) ≤ (k : Int) := by omega
            have hsee := HLD.out.pa.see.1
            rw [HYS.out] at hsee
            obtain ⟨va9, cap9, e9, hx9⟩ := hsee
            obtain ⟨rfl, rfl⟩ : pa = va9 ∧ pk = cap9 := by cases e9; exact ⟨rfl, rfl⟩
            obtain ⟨b, off, rv, rfl, x0, x1, x2, x3, x4, xr⟩ := hx9 k hlt
            obtain ⟨rra, rrc, rfl, xr2⟩ := xr
            have HXR : Hid (RegsV wr (.slice rra ps[k].regs.length rrc) ps[k].regs) := ⟨rra, rrc, rfl, xr2⟩
            clear hx9 e9 xr2
            have hpok := HOK.out.prt _ (List.getElem_mem hlt)
            have h1 := heap_new wr (.cells #[.string ps[k].name, .int .i64 ps[k].period, .int .i64 ps[k].duration, .int .i64 ps[k].action, .slice rra ps[k].regs.length rrc] 42)
            have hb0 := newB wr (.cells #[.string ps[k].name, .int .i64 ps[k].period, .int .i64 ps[k].duration, .int .i64 ps[k].action, .slice rra ps[k].regs.length rrc] 42)
            have HSN : Hid (∀ {V1 V2 V3 wr' : World} {iv : Value} {pb b1 b2 : Nat} {row fv : Value} {bs : List (Nat × Nat)}, wr.heap.size ≤ V1.heap.size → Below V1.heap.size V1 V2 → V2.ownsRow V1.heap.size 149 1 iv (toL (tgts cs) k).length (ptrsC ((toL (tgts cs) k).map fun c => cbs.getD c 0)) → PartN V2 V3 ps[k] iv pb row fv bs b1 b2 → V3.heap.size ≤ wr'.heap.size → (∀ b, b < wr.heap.size → (∃ r ∈ rs, r.lo ≤ b ∧ b < r.hi) → wr'.heap[b]? = wr.heap[b]?) → (∀ b, V1.heap.size ≤ b → b < V3.heap.size → wr'.heap[b]? = V3.heap[b]?) → PtS X1 wr' ps cs cbs (k + 1) (rs ++ [⟨V1.heap.size, V3.heap.size, pb, row, fv, bs, b1, b2, iv⟩])) := fun a1 a2 a3 a4 a5 a6 a7 => HPT.out.snoc hlt hk a1 HXS.out a2 a3 a4 a5 a6 a7
            have q0 : (wr.alloc (.cells #[.string ps[k].name, .int .i64 ps[k].period, .int .i64 ps[k].duration, .int .i64 ps[k].action, .slice rra ps[k].regs.length rrc] 42)).cell? ⟨wr.heap.size, 0, none⟩ = some (.string ps[k].name) := by rw [cell_of_blk h1]; rfl
            have q1 : (wr.alloc (.cells #[.string ps[k].name, .int .i64 ps[k].period, .int .i64 ps[k].duration, .int .i64 ps[k].action, .slice rra ps[k].regs.length rrc] 42)).cell? ⟨wr.heap.size, 1, none⟩ = some (.int .i64 ps[k].period) := by rw [cell_of_blk h1]; rfl
            have q2 : (wr.alloc (.cells #[.string ps[k].name, .int .i64 ps[k].period, .int .i64 ps[k].duration, .int .i64 ps[k].action, .slice rra ps[k].regs.length rrc] 42)).cell? ⟨wr.heap.size, 2, none⟩ = some (.int .i64 ps[k].duration) := by rw [cell_of_blk h1]; rfl
            have q3 : (wr.alloc (.cells #[.string ps[k].name, .int .i64 ps[k].period, .int .i64 ps[k].duration, .int .i64 ps[k].action, .slice rra ps[k].regs.length rrc] 42)).cell? ⟨wr.heap.size, 3, none⟩ = some (.int .i64 ps[k].action) := by rw [cell_of_blk h1]; rfl
            have q4 : (wr.alloc (.cells #[.string ps[k].name, .int .i64 ps[k].period, .int .i64 ps[k].duration, .int .i64 ps[k].action, .slice rra ps[k].regs.length rrc] 42)).cell? ⟨wr.heap.size, 4, none⟩ = some (.slice rra ps[k].regs.length rrc) := by rw [cell_of_blk h1]; rfl
            have HH1 : Hid ((wr.alloc (.cells #[.string ps[k].name, .int .i64 ps[k].period, .int .i64 ps[k].duration, .int .i64 ps[k].action, .slice rra ps[k].regs.length rrc] 42)).heap[wr.heap.size]? = some (.cells #[.string ps[k].name, .int .i64 ps[k].period, .int .i64 ps[k].duration, .int .i64 ps[k].action, .slice rra ps[k].regs.length rrc] 42 (0, 0))) := h1
            have HPOK : Hid _ := hpok
            clear hpok h1
            generalize ps[k] = x at *
            go_upto_region 13 with fail
            clear x0 x1 x2 x3 x4
            have HB0 : Hid (Below wr.heap.size wr (wr.alloc (.cells #[.string x.name, .int .i64 x.period, .int .i64 x.duration, .int .i64 x.action, .slice rra x.regs.length rrc] 42))) := hb0
            clear hb0
            generalize wr.alloc (.cells #[.string x.name, .int .i64 x.period, .int .i64 x.duration, .int .i64 x.action, .slice rra x.regs.length rrc] 42) = V1 at *
            have HL1 : Hid _ := HLD.out.below HB0.out
            have HN1 : Hid _ := HCN.out.below HB0.out
            have p2 : V1.cell? ⟨kb, 2, none⟩ = some (.slice ra k rc) := by rw [cell_of_blk HL1.out.ker]; rfl
            have hsz1 := HB0.out.size
            have HCT : Hid _ := channelsTo_any V1.drew kb (.slice qa pl.length qk) (.int .i64 0) (.slice ra k rc) ha hc cbs (tgts cs) k (by rw [HN1.out.len]; simp [tgts]) (by rw [HN1.out.len]; omega) (by rw [HN1.out.len]; exact HL1.out.ker) (by rw [HN1.out.len]; exact own_base (own_stays HOC.out (HB0.out.drew)) (Nat.zero_le _)) (fun c hc2 => by
              have hc3 : c < cs.length := by have := HN1.out.len; omega
              have := (HN1.out.all c hc2 hc3).1
              show V1.cell? _ = _
              rw [cell_of_blk this]
              show some (Value.int .i64 cs[c].target) = _
              simp [tgts, List.getD, List.getElem?_eq_getElem hc3])
            unfold ptrV at HCT
            go_region_law (first
              | (refine step_append_lies _ (by rfl) _ _ _ (by rfl) w.heap.size 137 j0 _ 1 8 Tryz.underlying138 hj0 hy0 hy1 hy2 rfl (by omega) (.slice ra k rc) k (ptrsC (rs.map PRec.pb)) (by rfl) (HO3.out.alloc _) ⟨V3.heap.size, 0, none⟩ 1 1 [.pointer (some ⟨npb, 0, none⟩)] (by rfl) (by rfl) (World.news_of_block (cs := #[.pointer (some ⟨npb, 0, none⟩)]) (t := 137) (fr := (0, 0)) (heap_new V3 _)) (by simp [Value.oneCell']) (by omega) (by unfold maxLen; omega) (by omega) (by have := HL3.out.bel.size; simp; omega) (V3.heap.size + 1) (by simp) ?_; intro g9 c9 V9 hown9 hgrow9 hat9 hlt9
                 have hk9 := iter_ker _ HO3.out hgrow9 HL3.out.ker (by decide)
                 have x9 : V9.cell? ⟨kb, 2, none⟩ = some (.slice ra k rc) := by rw [cell_of_blk hk9]; rfl
                 have f9 : V9.frozen? ⟨kb, 2, none⟩ = false := frozen_of_blk hk9
                 have HK9 : Hid (V9.heap[kb]? = some (.cells #[.slice qa pl.length qk, .int .i64 0, .slice ra k rc, .slice ha cs.length hc] 141 (0, 0))) := hk9
                 clear hk9)
              | (go_simp; go_at_call 123; refine (newPart_any V2 x (.slice rra x.regs.length rrc) ia _ ic HXR2.out HPOK.out.1 (by have := HPOK.out.2.1; omega) HPOK.out.2.2).mono ?_; rintro e V3 ⟨npb, nrow, nfv, nbs, nb1, nb2, rfl, hpn3⟩
                 have HPN : Hid (PartN V2 V3 x (.slice ia (toL (tgts cs) k).length ic) npb nrow nfv nbs nb1 nb2) := hpn3
                 have HL3 : Hid _ := HL2.out.below hpn3.bel
                 have HB3 : Hid (Below wr.heap.size wr V3) := HB2.out.trans (hpn3.bel.mono HB2.out.size)
                 have HO3 : Hid (V3.ownsRow w.heap.size 137 1 (.slice ra k rc) k (ptrsC (rs.map PRec.pb))) := own_stays HOW.out HB3.out
                 have p23 : V3.cell? ⟨kb, 2, none⟩ = some (.slice ra k rc) := by rw [cell_of_blk HL3.out.ker]; rfl
                 have p24 : ∀ o, (V3.alloc o).cell? ⟨kb, 2, none⟩ = some (.slice ra k rc) := fun o => by rw [cell_of_blk (heap_old _ o HL3.out.ker)]; rfl
                 clear hpn3
                 unfold ptrV)
              | (go_simp; go_at_call 124; refine Calls.mono HCT.out ?_; rintro e V2 ⟨iv, rfl, hb2, hiv⟩
                 obtain ⟨ia, ic, rfl⟩ := own_slice hiv
                 have hv12 : Below V1.heap.size V1 V2 := (Below.refl V1.heap.size V1).drew.trans hb2
                 have HV12 : Hid (Below V1.heap.size V1 V2) := hv12
                 have HL2 : Hid _ := HL1.out.below hv12
                 have HB2 : Hid (Below wr.heap.size wr V2) := HB0.out.trans (hv12.mono HB0.out.size)
                 have HIV : Hid (V2.ownsRow V1.heap.size 149 1 (.slice ia (toL (tgts cs) k).length ic) (toL (tgts cs) k).length (ptrsC ((toL (tgts cs) k).map fun c => cbs.getD c 0))) := hiv
                 have HXR2 : Hid (RegsV V2 (.slice rra x.regs.length rrc) x.regs) := HXR.out.below HB2.out
                 have hm2 := keepN HH1.out hv12
                 have u0 : V2.cell? ⟨wr.heap.size, 0, none⟩ = some (.string x.name) := by rw [cell_of_blk hm2]; rfl
                 have u1 : V2.cell? ⟨wr.heap.size, 1, none⟩ = some (.int .i64 x.period) := by rw [cell_of_blk hm2]; rfl
                 have u2 : V2.cell? ⟨wr.heap.size, 2, none⟩ = some (.int .i64 x.duration) := by rw [cell_of_blk hm2]; rfl
                 have u3 : V2.cell? ⟨wr.heap.size, 3, none⟩ = some (.int .i64 x.action) := by rw [cell_of_blk hm2]; rfl
                 have u4 : V2.cell? ⟨wr.heap.size, 4, none⟩ = some (.slice rra x.regs.length rrc) := by rw [cell_of_blk hm2]; rfl
                 have p22 : V2.cell? ⟨kb, 2, none⟩ = some (.slice ra k rc) := by rw [cell_of_blk HL2.out.ker]; rfl
                 clear hv12 hb2 hiv hm2))
            all_goals
              have hst := Stb.iter HB3.out _ HO3.out hgrow9 HL3.out.ker 2 (.slice (some ⟨g9, 0, none⟩) (k + 1) c9)
              have hbl := iter_bel HL3.out.bel _ HO3.out (Nat.le_refl _) hgrow9 hkb 2 (.slice (some ⟨g9, 0, none⟩) (k + 1) c9)
              have hld := HLD.out.step (ptv' := .slice (some ⟨g9, 0, none⟩) (k + 1) c9) (chv' := .slice ha cs.length hc) hst hbl (by rw [blk_set 2 _ HK9.out]; rfl) (by decide) (by decide) (by decide) (by decide) (by decide)
              have hcn9 : CnS w (V9.setCell ⟨kb, 2, none⟩ (.slice (some ⟨g9, 0, none⟩) (k + 1) c9)) cs cs.length cbs := HCN.out.keep hst.size fun q hq => by
                obtain ⟨c, hc1, rfl⟩ := List.getElem_of_mem hq
                exact hst.same _ _ _ _ (HCN.out.all c hc1 (by have := HCN.out.len; omega)).1 (by decide)
              have hoc9 := own_stb hst HOC.out (by decide)
              have how9 : (V9.setCell ⟨kb, 2, none⟩ (.slice (some ⟨g9, 0, none⟩) (k + 1) c9)).ownsRow w.heap.size 137 1 (.slice (some ⟨g9, 0, none⟩) (k + 1) c9) (k + 1) (ptrsC ((rs ++ [PRec.mk V1.heap.size V3.heap.size npb nrow nfv nbs nb1 nb2 (.slice ia (toL (tgts cs) k).length ic)]).map PRec.pb)) := by
                have e : ptrsC ((rs ++ [PRec.mk V1.heap.size V3.heap.size npb nrow nfv nbs nb1 nb2 (.slice ia (toL (tgts cs) k).length ic)]).map PRec.pb) = ptrsC (rs.map PRec.pb) ++ [.pointer (some ⟨npb, 0, none⟩)] := by simp [ptrsC, ptrV]
                rw [e]
                exact owns_keep hown9 fun q hq => blk_far 2 _ (fun e => own_not_blk hown9 HK9.out (by decide) (e ▸ hq).symm)
              have hF9 := Frm.grown hgrow9
              have hkx := HKX.out
              have hxs := HXS.out
              have hs3 := HB3.out.size
              have ha3 := (newB V3 (.cells #[.pointer (some ⟨npb, 0, none⟩)] 137)).size
              have hrow9 : ∀ b, (Value.slice ra k rc).ownBlock = some b → b < wr.heap.size := fun b hb => (HOW.out.lt b hb).2
              have hgo : ∀ b, b < V3.heap.size → b ≠ kb → (Value.slice ra k rc).ownBlock ≠ some b → (V9.setCell ⟨kb, 2, none⟩ (.slice (some ⟨g9, 0, none⟩) (k + 1) c9)).heap[b]? = V3.heap[b]? := fun b h1 h2 h3 => by
                rw [blk_far 2 _ h2, hF9.block b (by omega) h3, (newB V3 _).block b h1]
              have hpt9 := HSN.out hsz1 HV12.out HIV.out HPN.out (wr' := V9.setCell ⟨kb, 2, none⟩ (.slice (some ⟨g9, 0, none⟩) (k + 1) c9)) (by have := hF9.size; simp; omega) (fun b hb1 ⟨r, hr, hr1, hr2⟩ => by
                have hlo := (HPT.out.ins r hr).2.1
                rw [hgo b (by omega) (by omega) (fun e => HRW.out b e r hr ⟨hr1, hr2⟩), HB3.out.block b hb1]) (fun b hb1 hb2 => hgo b hb2 (by omega) (fun e => by have := hrow9 b e; omega))
              have hrw9 : ∀ b, (Value.slice (some ⟨g9, 0, none⟩) (k + 1) c9).ownBlock = some b → ∀ r ∈ rs ++ [PRec.mk V1.heap.size V3.heap.size npb nrow nfv nbs nb1 nb2 (.slice ia (toL (tgts cs) k).length ic)], ¬ (r.lo ≤ b ∧ b < r.hi) := fun b hb r hr => by
                have hbg : some g9 = some b := hb
                cases hbg
                rcases List.mem_append.1 hr with hr | hr
                · rcases hat9 with h9 | h9
                  · exact HRW.out _ h9 r hr
                  · have := (HPT.out.ins r hr).2.2
                    omega
                · simp at hr
                  subst hr
                  rcases hat9 with h9 | h9
                  · have := hrow9 _ h9
                    intro hh
                    have h5 : V1.heap.size ≤ _ := hh.1
                    omega
                  · intro hh
                    have h5 : _ < V3.heap.size := hh.2
                    omega
              go_wp2_with fail
              exact ⟨⟨k + 1, _, c9, _, by go_num, by omega, hld, hcn9, hoc9, hpt9, how9, hrw9, Nat.le_trans hxs hst.size⟩, by simp [intOf]; omega⟩
          · have hlt' : ¬ (k : Int) < (ps.length : Int) := by omega
            have hke : k = ps.length := by omega
            subst hke
            go_wp2_with fail
            go_ret
            rw [HPE1.out, HPE2.out, HPE3.out]
            refine ⟨HLD.out.bel, .inr ⟨HAC.out, kb, rfl, _, _, _, cbs, rs, ⟨HLD.out.ker, HLD.out.lo, HLD.out.pln, HOW.out, HOC.out, HCN.out, HPT.out.weak ?_⟩⟩⟩
            exact HX1.out
end Go.Proofs.YteioennfpkoagaaGreatDoor.C
namespace Go.Proofs.YteioennfpkoagaaGreatDoor.C
open Go.RowKit K

/- one kernel, over what lay there when it was booted -/
def KAt (I : KerI) (W : World) (a : Addr) (D : ManD) (S : KS) (w : World) : Prop :=
  ∃ o, I.KV w (.pointer (some a)) D S o ∧ (∀ b, o b → W.heap.size ≤ b) ∧ Below W.heap.size W w
theorem KAt.bel {I : KerI} {W : World} {a : Addr} {D : ManD} {S : KS} {w : World} (h : KAt I W a D S w) : Below W.heap.size W w := by
  obtain ⟨o, _, _, h3⟩ := h
  exact h3
theorem KAt.below {I : KerI} {W : World} {a : Addr} {D : ManD} {S : KS} {w w' : World} (h : KAt I W a D S w) (hb : Below w.heap.size w w') : KAt I W a D S w' := by
  obtain ⟨o, h1, h2, h3⟩ := h
  exact ⟨o, I.below h1 hb, h2, h3.trans (hb.mono h3.size)⟩
theorem KAt.aft {I : KerI} {W : World} {a : Addr} {D : ManD} {T : KS} {w w' : World} {o : Nat → Prop} (h2 : ∀ b, o b → W.heap.size ≤ b) (h3 : Below W.heap.size W w) (h : Aft I.KV (.pointer (some a)) D T o w w') : KAt I W a D T w' := by
  obtain ⟨⟨o', h4, h5⟩, hf⟩ := h
  refine ⟨o', h4, fun b hb => ?_, h3.trans (hf.below h3.size h2)⟩
  rcases h5 b hb with h6 | h6
  · exact h2 b h6
  · exact Nat.le_trans h3.size h6
theorem KAt.tick {I : KerI} {W : World} {a : Addr} {D : ManD} {S : KS} {w : World} (h : KAt I W a D S w) (hs : SmallK bigK S) :
    Calls Tryz.prog 34 #[.pointer (some a)] w fun e w' => e = .returned (.tuple #[]) ∧ KAt I W a D (tickK S) w' := by
  obtain ⟨o, h1, h2, h3⟩ := h
  exact Calls.mono (I.tick h1 hs) fun _ _ ⟨e1, e2⟩ => ⟨e1, KAt.aft h2 h3 e2⟩
theorem KAt.running {I : KerI} {W : World} {a : Addr} {D : ManD} {S : KS} {w : World} (h : KAt I W a D S w) (hs : SmallK bigK S) :
    Calls Tryz.prog 35 #[.pointer (some a)] w fun e w' => e = .returned (.int .i64 (runF D S)) ∧ KAt I W a D S w' := by
  obtain ⟨o, h1, h2, h3⟩ := h
  exact Calls.mono (I.running h1 hs) fun _ _ ⟨e1, e2⟩ => ⟨e1, KAt.aft h2 h3 e2⟩
theorem KAt.read {I : KerI} {W : World} {a : Addr} {D : ManD} {S : KS} {w : World} (h : KAt I W a D S w) (hs : SmallK bigK S) {p x : Int} (hp : inR p) (hx : inR x) :
    Calls Tryz.prog 29 #[.pointer (some a), .int .i64 p, .int .i64 x] w fun e w' => e = .returned (.tuple #[.int .i64 (readF D S p x).1, .int .i64 (readF D S p x).2.1]) ∧ KAt I W a D (readF D S p x).2.2 w' := by
  obtain ⟨o, h1, h2, h3⟩ := h
  exact Calls.mono (I.read h1 hs hp hx) fun _ _ ⟨e1, e2⟩ => ⟨e1, KAt.aft h2 h3 e2⟩
theorem KAt.write {I : KerI} {W : World} {a : Addr} {D : ManD} {S : KS} {w : World} (h : KAt I W a D S w) (hs : SmallK bigK S) {p x b : Int} (hp : inR p) (hx : inR x) (hb : inR b) :
    Calls Tryz.prog 30 #[.pointer (some a), .int .i64 p, .int .i64 x, .int .i64 b] w fun e w' => e = .returned (.int .i64 (writeF D S p x b).1) ∧ KAt I W a D (writeF D S p x b).2 w' := by
  obtain ⟨o, h1, h2, h3⟩ := h
  exact Calls.mono (I.write h1 hs hp hx hb) fun _ _ ⟨e1, e2⟩ => ⟨e1, KAt.aft h2 h3 e2⟩
theorem KAt.send {I : KerI} {W : World} {a : Addr} {D : ManD} {S : KS} {w : World} (h : KAt I W a D S w) (hs : SmallK bigK S) {p c : Int} {s : ByteArray} (hp : inR p) (hc : inR c) (hz : s.size ≤ 9223372036854775807) :
    Calls Tryz.prog 31 #[.pointer (some a), .int .i64 p, .int .i64 c, .string s] w fun e w' => e = .returned (.int .i64 (sendF D S p c s).1) ∧ KAt I W a D (sendF D S p c s).2 w' := by
  obtain ⟨o, h1, h2, h3⟩ := h
  exact Calls.mono (I.send h1 hs hp hc hz) fun _ _ ⟨e1, e2⟩ => ⟨e1, KAt.aft h2 h3 e2⟩
theorem KAt.recv {I : KerI} {W : World} {a : Addr} {D : ManD} {S : KS} {w : World} (h : KAt I W a D S w) (hs : SmallK bigK S) {p c : Int} (hp : inR p) (hc : inR c) :
    Calls Tryz.prog 32 #[.pointer (some a), .int .i64 p, .int .i64 c] w fun e w' => e = .returned (.tuple #[.string (recvF D S p c).1.1, .bool (recvF D S p c).1.2.1, .int .i64 (recvF D S p c).1.2.2]) ∧ KAt I W a D (recvF D S p c).2 w' := by
  obtain ⟨o, h1, h2, h3⟩ := h
  exact Calls.mono (I.recv h1 hs hp hc) fun _ _ ⟨e1, e2⟩ => ⟨e1, KAt.aft h2 h3 e2⟩
theorem KAt.raise {I : KerI} {W : World} {a : Addr} {D : ManD} {S : KS} {w : World} (h : KAt I W a D S w) (hs : SmallK bigK S) {p : Int} (hp : inR p) :
    Calls Tryz.prog 33 #[.pointer (some a), .int .i64 p] w fun e w' => e = .returned (.int .i64 (raiseF D S p).1) ∧ KAt I W a D (raiseF D S p).2 w' := by
  obtain ⟨o, h1, h2, h3⟩ := h
  exact Calls.mono (I.raise h1 hs hp) fun _ _ ⟨e1, e2⟩ => ⟨e1, KAt.aft h2 h3 e2⟩
theorem KAt.state {I : KerI} {W : World} {a : Addr} {D : ManD} {S : KS} {w : World} (h : KAt I W a D S w) (hs : SmallK bigK S) {p : Int} (hp : inR p) :
    Calls Tryz.prog 28 #[.pointer (some a), .int .i64 p] w fun e w' => e = .returned (.tuple #[stV (stateF D S p).1, .int .i64 (stateF D S p).2]) ∧ KAt I W a D S w' := by
  obtain ⟨o, h1, h2, h3⟩ := h
  exact Calls.mono (I.state h1 hs hp) fun _ _ ⟨e1, e2⟩ => ⟨e1, KAt.aft h2 h3 e2⟩
theorem smallBoot : SmallK bigK bootK := SmallK.boot.mono (Nat.zero_le _)
end Go.Proofs.YteioennfpkoagaaGreatDoor.C
