import Derived.Test.YteioennfpkoagaaGreatDoorB17
import Derived.Test.YteioennfpkoagaaGreatDoorB19
import Derived.Laws.EntriesVeiled
import Derived.Test.YteioennfpkoagaaGreatDoorB16
namespace Go.Proofs.YteioennfpkoagaaGreatDoor.C
open Go.RowKit K
attribute [local go_sem ↓] Go.wp_at_zero Go.wp_at_succ

theorem infoPreg : (Tryz.prog.info? 144).map (fun i => (i.zero, i.size, i.bytes)) = some (some (.pointer none), 1, 8) := by kernel_rfl
theorem infoPchan : (Tryz.prog.info? 149).map (fun i => (i.zero, i.size, i.bytes)) = some (some (.pointer none), 1, 8) := by kernel_rfl
theorem infoPpart : (Tryz.prog.info? 137).map (fun i => (i.zero, i.size, i.bytes)) = some (some (.pointer none), 1, 8) := by kernel_rfl
def ptrsC (l : List Nat) : List Value := l.map ptrV
def regO (r : RegD) (m : Nat) : Obj := .cells #[.int .i64 (64 * r.page), .slice (some ⟨m, 0, none⟩) (64 * r.pages).toNat (64 * r.pages).toNat, .bool (decide (r.rights = 2))] 147
def memO (r : RegD) : Obj := .cells (byC (List.replicate (64 * r.pages).toNat 0)).toArray 5
/- the regions made so far: their blocks and their bytes' blocks -/
structure RgS (w wr : World) (rs : List RegD) (k : Nat) (bs : List (Nat × Nat)) : Prop where
  len : bs.length = k
  at' : ∀ j (h : j < bs.length) (h2 : j < rs.length), wr.heap[bs[j].1]? = some (regO rs[j] bs[j].2) ∧ wr.heap[bs[j].2]? = some (memO rs[j]) ∧ w.heap.size ≤ bs[j].1 ∧ w.heap.size ≤ bs[j].2
  inc : bs.Pairwise fun a b => a.2 < b.2
  top : ∀ a ∈ bs, a.2 < wr.heap.size
theorem RgS.keep {w wr wr' : World} {rs : List RegD} {k : Nat} {bs : List (Nat × Nat)} (h : RgS w wr rs k bs) (hs : wr.heap.size ≤ wr'.heap.size) (hk : ∀ b : Nat, (∃ (r : RegD) (m : Nat), wr.heap[b]? = some (regO r m)) ∨ (∃ r : RegD, wr.heap[b]? = some (memO r)) → wr'.heap[b]? = wr.heap[b]?) : RgS w wr' rs k bs :=
  ⟨h.len, fun j hj h2 => by
    obtain ⟨h3, h4, h5, h6⟩ := h.at' j hj h2
    exact ⟨(hk _ (.inl ⟨_, _, h3⟩)).trans h3, (hk _ (.inr ⟨_, h4⟩)).trans h4, h5, h6⟩, h.inc, fun a ha => by have := h.top a ha; omega⟩
theorem RgS.below {w wr wr' : World} {rs : List RegD} {k : Nat} {bs : List (Nat × Nat)} (h : RgS w wr rs k bs) (hb : Below wr.heap.size wr wr') : RgS w wr' rs k bs :=
  h.keep hb.size fun b e => hb.block b (by rcases e with ⟨_, _, e⟩ | ⟨_, e⟩ <;> exact lt_of_blk e)
/- a partition in the making -/
structure NP (w wr : World) (prm : Array Value) (pb : Nat) (row fv : Value) (rs : List RegD) (k : Nat) (bs : List (Nat × Nat)) : Prop where
  bel : Below w.heap.size w wr
  par : wr.heap[w.heap.size]? = some (.cells prm 42 (0, 0))
  blk : wr.heap[pb]? = some (.cells #[.bool false, .int .i64 0, .int .i64 0, row, fv] 136 (0, 0))
  own : wr.ownsRow (w.heap.size + 2) 144 1 row k (ptrsC (bs.map Prod.fst))
  rg : RgS w wr rs k bs
  ord : w.heap.size < pb
section
variable {w wr wr' V9 : World} {prm : Array Value} {pb : Nat} {row fv : Value} {rs : List RegD} {k : Nat} {bs : List (Nat × Nat)}
theorem NP.below (h : NP w wr prm pb row fv rs k bs) (hb : Below wr.heap.size wr wr') : NP w wr' prm pb row fv rs k bs :=
  ⟨h.bel.trans (hb.mono h.bel.size), keepN h.par hb, keepN h.blk hb, own_stays h.own hb, h.rg.below hb, h.ord⟩
theorem NP.grown (h : NP w wr prm pb row fv rs k bs) (o : Obj) (hg : (wr.alloc o).grownBy V9 row.ownBlock) : V9.heap[pb]? = some (.cells #[.bool false, .int .i64 0, .int .i64 0, row, fv] 136 (0, 0)) := by
  have h2 := h.below (newB wr o)
  rw [(Frm.grown hg).block pb (lt_of_blk h2.blk) (fun e => own_not_blk h2.own h2.blk (by decide) e.symm)]
  exact h2.blk
theorem NP.app (h : NP w wr prm pb row fv rs k bs) (hk : k < rs.length) {b m : Nat} (hb : wr.heap[b]? = some (regO rs[k] m)) (hm : wr.heap[m]? = some (memO rs[k])) (hb0 : w.heap.size ≤ b) (hm0 : w.heap.size ≤ m) (hmt : ∀ a ∈ bs, a.2 < m) (o : Obj) (hg : (wr.alloc o).grownBy V9 row.ownBlock) {g9 c9 : Nat}
    (hown9 : V9.ownsRow (w.heap.size + 2) 144 1 (.slice (some ⟨g9, 0, none⟩) (k + 1) c9) (k + 1) (ptrsC (bs.map Prod.fst) ++ [ptrV b])) :
    NP w (V9.setCell ⟨pb, 3, none⟩ (.slice (some ⟨g9, 0, none⟩) (k + 1) c9)) prm pb (.slice (some ⟨g9, 0, none⟩) (k + 1) c9) fv rs (k + 1) (bs ++ [(b, m)]) := by
  have h2 := h.below (newB wr o)
  have hF := Frm.grown hg
  have hpb := h.grown o hg
  have hbel : Below w.heap.size w V9 := h2.bel.grown hg h2.bel.size (fun q hq => by have := (h.own.lt q hq).1; omega)
  have hfar : ∀ (q t : Nat) (cs : Array Value), wr.heap[q]? = some (Obj.cells cs t (0, 0)) → t ≠ 144 → t ≠ 136 → (V9.setCell ⟨pb, 3, none⟩ (.slice (some ⟨g9, 0, none⟩) (k + 1) c9)).heap[q]? = wr.heap[q]? := fun q t cs hq h3 h4 => by
    have hq2 := heap_old wr o hq
    have hne : q ≠ pb := fun e => by
      subst e
      rw [h.blk] at hq
      injection hq with hq
      injection hq with _ hq _
      exact h4 hq.symm
    rw [blk_far 3 _ hne, hF.block q (lt_of_blk hq2) (fun e => own_not_blk h2.own hq2 h3 e.symm), hq2, hq]
  have hsz : wr.heap.size ≤ (V9.setCell ⟨pb, 3, none⟩ (.slice (some ⟨g9, 0, none⟩) (k + 1) c9)).heap.size := by
    have := hF.size
    have := (newB wr o).size
    simp
    omega
  have hrg : RgS w (V9.setCell ⟨pb, 3, none⟩ (.slice (some ⟨g9, 0, none⟩) (k + 1) c9)) rs k bs := h.rg.keep hsz fun q e => by
    rcases e with ⟨_, _, e⟩ | ⟨_, e⟩
    · exact hfar q _ _ e (by decide) (by decide)
    · exact hfar q _ _ e (by decide) (by decide)
  refine ⟨hbel.setCell (p := ⟨pb, 3, none⟩) (by have := h.ord; show w.heap.size ≤ pb; omega) _, ?_, blk_set 3 _ hpb, ?_, ⟨by rw [List.length_append, h.rg.len]; rfl, fun j hj h3 => ?_, ?_, fun a ha => ?_⟩, h.ord⟩
  · rw [hfar _ _ _ h.par (by decide) (by decide)]
    exact h.par
  · have e : ptrsC ((bs ++ [(b, m)]).map Prod.fst) = ptrsC (bs.map Prod.fst) ++ [ptrV b] := by simp [ptrsC]
    rw [e]
    refine owns_keep hown9 fun q hq => blk_far 3 _ (fun e => own_not_blk hown9 hpb (by decide) (e ▸ hq).symm)
  · by_cases e : j < bs.length
    · rw [List.getElem_append_left e]
      exact hrg.at' j e h3
    · have hj2 : j = k := by have := h.rg.len; simp at hj; omega
      subst hj2
      have hl := h.rg.len
      simp only [List.getElem_append_right (Nat.le_of_not_lt e), hl, Nat.sub_self, List.getElem_singleton]
      exact ⟨(hfar _ _ _ hb (by decide) (by decide)).trans hb, (hfar _ _ _ hm (by decide) (by decide)).trans hm, hb0, hm0⟩
  · rw [List.pairwise_append]
    exact ⟨h.rg.inc, by simp, fun a ha c hc => by simp at hc; subst hc; exact hmt a ha⟩
  · rcases List.mem_append.1 ha with ha | ha
    · exact hrg.top a ha
    · simp at ha
      subst ha
      have := lt_of_blk hm
      show m < _
      omega
end
/- what a new partition leaves -/
structure PartN (w w' : World) (x : PartD) (iv : Value) (pb : Nat) (row fv : Value) (bs : List (Nat × Nat)) (b1 b2 : Nat) : Prop where
  bel : Below w.heap.size w w'
  blk : w'.heap[pb]? = some (.cells #[.bool false, .int .i64 0, .int .i64 0, row, fv] 136 (0, 0))
  own : w'.ownsRow w.heap.size 144 1 row x.regs.length (ptrsC (bs.map Prod.fst))
  rg : RgS w w' x.regs x.regs.length bs
  ord : w.heap.size ≤ pb ∧ w.heap.size ≤ b1 ∧ w.heap.size ≤ b2
  box1 : w'.heap[b1]? = some (.cells #[ptrV pb] 137 (0, 0))
  box2 : w'.heap[b2]? = some (.cells #[iv] 139 (0, 0))
  fun' : fv = if x.action = 2 then .func (Fn.func 231) #[] #[ptrV b1] else if x.action = 3 then .func (Fn.func 232) #[] #[ptrV b1, ptrV b2] else .func (Fn.func 234) #[] #[]
set_option maxRecDepth 100000 in
set_option maxHeartbeats 4000000 in
theorem newPart_any (w : World) (x : PartD) (rv : Value) (va : Option Addr) (n c : Nat) (hrv : RegsV w rv x.regs) (hok : RegsOK x.regs) (hrl : x.regs.length ≤ 255) (ha : 1 ≤ x.action ∧ x.action ≤ 3) :
    Calls Tryz.prog 123 #[.agg #[.string x.name, .int .i64 x.period, .int .i64 x.duration, .int .i64 x.action, rv], .slice va n c] w fun e w' => ∃ pb row fv bs b1 b2, e = .returned (ptrV pb) ∧ PartN w w' x (.slice va n c) pb row fv bs b1 b2 := by
  obtain ⟨i0, hi0, hz0, hz1, hz2⟩ := parts_of infoPreg
  have HRV : Hid (RegsV w rv x.regs) := hrv
  have HG : Hid (∀ j (hj : j < x.regs.length), RegG x.regs[j]) := fun j hj => regG_of (hok.1 _ (List.getElem_mem hj))
  obtain ⟨ra, rc, rfl, _⟩ := hrv
  clear hok
  go_enter Tryz.func123, Tryz.ntmps123
  go_wp2_with fail
  have HNP0 : Hid (NP w ((w.alloc (.cells #[.string x.name, .int .i64 x.period, .int .i64 x.duration, .int .i64 x.action, .slice ra x.regs.length rc] 42)).alloc (.cells #[.bool false, .int .i64 0, .int .i64 0, .slice none 0 0, .nilFunc] 136)) #[.string x.name, .int .i64 x.period, .int .i64 x.duration, .int .i64 x.action, .slice ra x.regs.length rc] (w.heap.size + 1) (.slice none 0 0) .nilFunc x.regs 0 []) :=
    ⟨(NewB.two w _ _).bel, heap_old _ _ (heap_new w _), (NewB.two w _ _).at', World.ownsRow_nil _ _ _ _, ⟨rfl, fun j h => absurd h (by simp), List.Pairwise.nil, fun a ha => by cases ha⟩, by omega⟩
  generalize (w.alloc (.cells #[.string x.name, .int .i64 x.period, .int .i64 x.duration, .int .i64 x.action, .slice ra x.regs.length rc] 42)).alloc (.cells #[.bool false, .int .i64 0, .int .i64 0, .slice none 0 0, .nilFunc] 136) = W0 at *
  go_loopw [13] (fun v wr => ∃ (k : Nat) (pa : Option Addr) (pc : Nat) (bs : List (Nat × Nat)), v = .int .i64 k ∧ k ≤ x.regs.length ∧ Hid (NP w wr #[.string x.name, .int .i64 x.period, .int .i64 x.duration, .int .i64 x.action, .slice ra x.regs.length rc] (w.heap.size + 1) (.slice pa k pc) .nilFunc x.regs k bs)) (fun v _ => x.regs.length - (intOf v).toNat)
  case atStart => exact ⟨0, none, 0, [], rfl, by omega, HNP0⟩
  case round =>
    obtain ⟨k, pa, pc, bs, rfl, hk, HNP⟩ := hrel
    clear HNP0
    by_cases hlt : k < x.regs.length
    · have hlt' : (k : Int) < (x.regs.length : Int) := by omega
      have hk0 : (0 : Int) ≤ (k : Int) := by omega
      obtain ⟨ra9, rc9, e9, hx9⟩ := HRV.out
      obtain ⟨rfl, rfl⟩ : ra = ra9 ∧ rc = rc9 := by cases e9; exact ⟨rfl, rfl⟩
      obtain ⟨b, off, rfl, x0, x1, x2⟩ := hx9 k hlt
      have hbl := World.block_lt_of_cell? w _ x0
      have s0 := (HNP.out.bel.cell (by exact hbl)).trans x0
      have s1 := (HNP.out.bel.cell (by exact hbl)).trans x1
      have s2 := (HNP.out.bel.cell (by exact hbl)).trans x2
      clear hx9 e9 x0 x1 x2
      have hgk := HG.out k hlt
      have h1 := heap_new wr (.cells #[.int .i64 x.regs[k].page, .int .i64 x.regs[k].pages, .int .i64 x.regs[k].rights] 90)
      have HNP1 : Hid _ := HNP.out.below (newB wr (.cells #[.int .i64 x.regs[k].page, .int .i64 x.regs[k].pages, .int .i64 x.regs[k].rights] 90))
      have HAP : Hid (∀ {V2 V9 : World} {bq m g9 c9 : Nat} (o : Obj), NP w V2 #[.string x.name, .int .i64 x.period, .int .i64 x.duration, .int .i64 x.action, .slice (some ⟨b, off, none⟩) x.regs.length rc] (w.heap.size + 1) (.slice pa k pc) .nilFunc x.regs k bs → V2.heap[bq]? = some (regO x.regs[k] m) → V2.heap[m]? = some (memO x.regs[k]) → w.heap.size ≤ bq → w.heap.size ≤ m → (∀ a ∈ bs, a.2 < m) → (V2.alloc o).grownBy V9 (Value.slice pa k pc).ownBlock → V9.ownsRow (w.heap.size + 2) 144 1 (.slice (some ⟨g9, 0, none⟩) (k + 1) c9) (k + 1) (ptrsC (bs.map Prod.fst) ++ [ptrV bq]) →
        NP w (V9.setCell ⟨w.heap.size + 1, 3, none⟩ (.slice (some ⟨g9, 0, none⟩) (k + 1) c9)) #[.string x.name, .int .i64 x.period, .int .i64 x.duration, .int .i64 x.action, .slice (some ⟨b, off, none⟩) x.regs.length rc] (w.heap.size + 1) (.slice (some ⟨g9, 0, none⟩) (k + 1) c9) .nilFunc x.regs (k + 1) (bs ++ [(bq, m)])) := fun o h a1 a2 a3 a4 a5 a6 a7 => h.app hlt a1 a2 a3 a4 a5 o a6 a7
      have q0 : (wr.alloc (.cells #[.int .i64 x.regs[k].page, .int .i64 x.regs[k].pages, .int .i64 x.regs[k].rights] 90)).cell? ⟨wr.heap.size, 0, none⟩ = some (.int .i64 x.regs[k].page) := by rw [cell_of_blk h1]; rfl
      have q1 : (wr.alloc (.cells #[.int .i64 x.regs[k].page, .int .i64 x.regs[k].pages, .int .i64 x.regs[k].rights] 90)).cell? ⟨wr.heap.size, 1, none⟩ = some (.int .i64 x.regs[k].pages) := by rw [cell_of_blk h1]; rfl
      have q2 : (wr.alloc (.cells #[.int .i64 x.regs[k].page, .int .i64 x.regs[k].pages, .int .i64 x.regs[k].rights] 90)).cell? ⟨wr.heap.size, 2, none⟩ = some (.int .i64 x.regs[k].rights) := by rw [cell_of_blk h1]; rfl
      generalize x.regs[k] = r at *
      go_upto_region 5 with fail
      clear s0 s1 s2 h1
      generalize wr.alloc (.cells #[.int .i64 r.page, .int .i64 r.pages, .int .i64 r.rights] 90) = V1 at *
      generalize wr.heap.size = rb at *
      have p3 : V1.cell? ⟨w.heap.size + 1, 3, none⟩ = some (.slice pa k pc) := by rw [cell_of_blk HNP1.out.blk]; rfl
      have hsz1 : w.heap.size + 1 < V1.heap.size := lt_of_blk HNP1.out.blk
      go_region_law (first
        | (refine step_append_lies _ (by rfl) _ _ _ (by rfl) (w.heap.size + 2) 144 i0 _ 1 8 Tryz.underlying134 hi0 hz0 hz1 hz2 rfl (by omega) (.slice pa k pc) k (ptrsC (bs.map Prod.fst)) (by rfl) (HN2.out.own.alloc _) ⟨V2.heap.size, 0, none⟩ 1 1 [.pointer (some ⟨b2, 0, none⟩)] (by rfl) (by rfl) (World.news_of_block (cs := #[.pointer (some ⟨b2, 0, none⟩)]) (t := 144) (fr := (0, 0)) (heap_new V2 _)) (by simp [Value.oneCell']) (by omega) (by unfold maxLen; omega) (by omega) (by simp; omega) (V2.heap.size + 1) (by simp) ?_; intro g9 c9 V9 hown9 hgrow9 hat9 hlt9
           have hb9 := HN2.out.grown _ hgrow9
           have x9 : V9.cell? ⟨w.heap.size + 1, 3, none⟩ = some (.slice pa k pc) := by rw [cell_of_blk hb9]; rfl
           have f9 : V9.frozen? ⟨w.heap.size + 1, 3, none⟩ = false := frozen_of_blk hb9
           clear hb9)
        | (go_simp; go_at_call 190; refine (newRegion_any V1.drew r hgk).mono ?_; rintro e V2 ⟨b2, m2, rfl, hnb, hnm, hne⟩
           have HN2 : Hid _ := HNP1.out.below ((Below.refl V1.heap.size V1).drew.trans hnb.bel)
           have p32 : V2.cell? ⟨w.heap.size + 1, 3, none⟩ = some (.slice pa k pc) := by rw [cell_of_blk HN2.out.blk]; rfl
           have p33 : ∀ o, (V2.alloc o).cell? ⟨w.heap.size + 1, 3, none⟩ = some (.slice pa k pc) := fun o => by rw [cell_of_blk (heap_old _ o HN2.out.blk)]; rfl
           have hsz2 : w.heap.size + 1 < V2.heap.size := lt_of_blk HN2.out.blk
           have HMT : Hid (∀ a ∈ bs, a.2 < m2) := fun a ha => by have := HNP1.out.rg.top a ha; have h2 : V1.heap.size ≤ m2 := hnm.lo; omega
           have HBS : Hid (V2.heap[b2]? = some (regO r m2) ∧ V2.heap[m2]? = some (memO r) ∧ w.heap.size ≤ b2 ∧ w.heap.size ≤ m2) := ⟨hnb.at', hnm.at', by have h2 : V1.heap.size ≤ b2 := hnb.lo; omega, by have h2 : V1.heap.size ≤ m2 := hnm.lo; omega⟩
           unfold ptrV))
      all_goals
        have h10 := HAP.out _ HN2.out HBS.out.1 HBS.out.2.1 HBS.out.2.2.1 HBS.out.2.2.2 HMT.out hgrow9 hown9
        go_wp2_with fail
        exact ⟨⟨k + 1, _, c9, _, by go_num, by omega, h10⟩, by simp [intOf]; omega⟩
    · have hlt' : ¬ (k : Int) < (x.regs.length : Int) := by omega
      have hke : k = x.regs.length := by omega
      subst hke
      have a3 : wr.cell? ⟨w.heap.size, 3, none⟩ = some (.int .i64 x.action) := by rw [cell_of_blk HNP.out.par]; rfl
      have p4 : wr.cell? ⟨w.heap.size + 1, 4, none⟩ = some .nilFunc := by rw [cell_of_blk HNP.out.blk]; rfl
      have HRE : Hid _ := reactionOf_any wr (w.heap.size + 1) x.action (.slice va n c) ha ⟨_, _, _, rfl⟩
      unfold ptrV at HRE
      go_wp2_with fail
      refine Calls.mono HRE.out ?_
      rintro e w1 ⟨rfl, hw1⟩
      obtain ⟨fn, fc, hfv⟩ : ∃ fn fc, (if x.action = 2 then Value.func (Fn.func 231) #[] #[.pointer (some ⟨wr.heap.size, 0, none⟩)] else if x.action = 3 then .func (Fn.func 232) #[] #[.pointer (some ⟨wr.heap.size, 0, none⟩), .pointer (some ⟨wr.heap.size + 1, 0, none⟩)] else .func (Fn.func 234) #[] #[]) = Value.func fn #[] fc := by
        split
        · exact ⟨_, _, rfl⟩
        · split <;> exact ⟨_, _, rfl⟩
      have HFV : Hid ((if x.action = 2 then Value.func (Fn.func 231) #[] #[.pointer (some ⟨wr.heap.size, 0, none⟩)] else if x.action = 3 then .func (Fn.func 232) #[] #[.pointer (some ⟨wr.heap.size, 0, none⟩), .pointer (some ⟨wr.heap.size + 1, 0, none⟩)] else .func (Fn.func 234) #[] #[]) = Value.func fn #[] fc) := hfv
      rw [hfv]
      clear hfv
      have HN1 : Hid (NP w w1 #[.string x.name, .int .i64 x.period, .int .i64 x.duration, .int .i64 x.action, .slice ra x.regs.length rc] (w.heap.size + 1) (.slice pa x.regs.length pc) .nilFunc x.regs x.regs.length bs) := by
        have := HNP.out.below (NewB.two wr (.cells #[ptrV (w.heap.size + 1)] 137) (.cells #[.slice va n c] 139)).bel
        rw [hw1]
        exact this
      have HX1 : Hid (w1.heap[wr.heap.size]? = some (.cells #[ptrV (w.heap.size + 1)] 137 (0, 0))) := by
        show _ = _
        rw [hw1]
        exact heap_old _ _ (heap_new wr _)
      have HX2 : Hid (w1.heap[wr.heap.size + 1]? = some (.cells #[.slice va n c] 139 (0, 0))) := by
        show _ = _
        rw [hw1]
        exact (NewB.two wr _ _).at'
      have hwr := HNP.out.bel.size
      clear hw1 HRE HNP a3 p4
      have p4 : w1.cell? ⟨w.heap.size + 1, 4, none⟩ = some .nilFunc := by rw [cell_of_blk HN1.out.blk]; rfl
      have f4 : w1.frozen? ⟨w.heap.size + 1, 4, none⟩ = false := frozen_of_blk HN1.out.blk
      go_wp2_with fail
      go_ret
      have hpb := HN1.out.blk
      have hfar : ∀ (q t : Nat) (cs : Array Value), w1.heap[q]? = some (Obj.cells cs t (0, 0)) → t ≠ 136 → (w1.setCell ⟨w.heap.size + 1, 4, none⟩ (.func fn #[] fc)).heap[q]? = w1.heap[q]? := fun q t cs hq h4 => by
        refine blk_far 4 _ (fun e => ?_)
        subst e
        rw [hpb] at hq
        injection hq with hq
        injection hq with _ hq _
        exact h4 hq.symm
      refine ⟨_, _, .func fn #[] fc, bs, wr.heap.size, wr.heap.size + 1, rfl, ⟨HN1.out.bel.setCell (p := ⟨w.heap.size + 1, 4, none⟩) (by show w.heap.size ≤ w.heap.size + 1; omega) _, blk_set 4 _ hpb, own_base (owns_keep HN1.out.own fun q hq => blk_far 4 _ (fun e => own_not_blk HN1.out.own hpb (by decide) (e ▸ hq).symm)) (by omega), ?_, ⟨by omega, hwr, by omega⟩, (hfar _ _ _ HX1.out (by decide)).trans HX1.out, (hfar _ _ _ HX2.out (by decide)).trans HX2.out, HFV.out.symm⟩⟩
      refine HN1.out.rg.keep (by simp) fun q e => ?_
      rcases e with ⟨_, _, e⟩ | ⟨_, e⟩
      · exact hfar q _ _ e (by decide)
      · exact hfar q _ _ e (by decide)
end Go.Proofs.YteioennfpkoagaaGreatDoor.C
namespace Go.Proofs.YteioennfpkoagaaGreatDoor.C
open Go.RowKit K
attribute [local go_sem ↓] Go.wp_at_zero Go.wp_at_succ

/- the channels that lead to a partition -/
def toL (ts : List Int) (p : Int) : List Nat := (List.range ts.length).filter fun c => ts.getD c 0 == p
structure ToS (ts : List Int) (p : Int) (k : Nat) (l : List Nat) : Prop where
  eq : l = (List.range k).filter fun c => ts.getD c 0 == p
theorem ToS.step {ts : List Int} {p : Int} {k : Nat} {l : List Nat} (h : ToS ts p k l) : ToS ts p (k + 1) (if ts.getD k 0 = p then l ++ [k] else l) := by
  refine ⟨?_⟩
  rw [List.range_succ, List.filter_append, ← h.eq]
  by_cases e : ts.getD k 0 = p
  · rw [if_pos e, List.filter_cons, if_pos (by simpa using e)]; rfl
  · rw [if_neg e, List.filter_cons, if_neg (by simpa using e)]; simp
set_option maxRecDepth 100000 in
set_option maxHeartbeats 4000000 in
theorem channelsTo_any (w : World) (kb : Nat) (pv tk ptv : Value) (va : Option Addr) (cp : Nat) (cbs : List Nat) (ts : List Int) (p : Nat) (hlen : ts.length = cbs.length) (hn : cbs.length ≤ 255)
    (hk : w.heap[kb]? = some (.cells #[pv, tk, ptv, .slice va cbs.length cp] 141)) (hown : w.ownsRow 0 149 1 (.slice va cbs.length cp) cbs.length (ptrsC cbs)) (hc : ∀ c (h : c < cbs.length), w.cell? ⟨cbs[c], 1, none⟩ = some (.int .i64 (ts.getD c 0))) :
    Calls Tryz.prog 124 #[ptrV kb, .int .i64 p] w fun e w' => ∃ v, e = .returned v ∧ Below w.heap.size w w' ∧ w'.ownsRow w.heap.size 149 1 v (toL ts p).length (ptrsC ((toL ts p).map fun c => cbs.getD c 0)) := by
  obtain ⟨i0, hi0, hz0, hz1, hz2⟩ := parts_of infoPchan
  have c3 : w.cell? ⟨kb, 3, none⟩ = some (.slice va cbs.length cp) := by rw [cell_of_blk hk]; rfl
  have HOW : Hid (w.ownsRow 0 149 1 (.slice va cbs.length cp) cbs.length (ptrsC cbs)) := hown
  have HC : Hid _ := hc
  have HFIN : Hid (∀ l, ToS ts p cbs.length l → l = toL ts p) := fun l h => by rw [h.eq, ← hlen]; rfl
  clear hk hown hc
  unfold ptrV
  go_enter Tryz.func124, Tryz.ntmps124
  go_wp2_with fail
  go_loopw [5, 13] (fun f v wr => ∃ (k : Nat) (fa : Option Addr) (fc : Nat) (l : List Nat), v = .int .i64 k ∧ f = .slice fa l.length fc ∧ k ≤ cbs.length ∧ Hid (ToS ts p k l) ∧ Hid (l.length ≤ k) ∧ Hid (wr.ownsRow w.heap.size 149 1 (.slice fa l.length fc) l.length (ptrsC (l.map fun c => cbs.getD c 0))) ∧ Hid (Below w.heap.size w wr)) (fun _ v _ => cbs.length - (intOf v).toNat)
  case atStart => exact ⟨0, none, 0, [], rfl, rfl, by omega, ⟨rfl⟩, Nat.le_refl _, World.ownsRow_nil _ _ _ _, Below.refl _ _⟩
  case round =>
    obtain ⟨k, fa, fc, l, rfl, rfl, hk, HTO, HLE, HFO, HBE⟩ := hrel
    by_cases hlt : k < cbs.length
    · have hlt' : (k : Int) < (cbs.length : Int) := by omega
      have hk0 : (0 : Int) ≤ (k : Int) := by omega
      obtain ⟨g, cap, hsl, _⟩ : ∃ g cap, (Value.slice va cbs.length cp) = .slice (some ⟨g, 0, none⟩) cbs.length cap ∧ cbs.length ≤ cap := by
        rcases own_form HOW.out with ⟨h0, _⟩ | h
        · omega
        · exact h
      obtain ⟨rfl, rfl⟩ : va = some ⟨g, 0, none⟩ ∧ cp = cap := by cases hsl; exact ⟨rfl, rfl⟩
      have x0 : w.cell? ⟨g, k, none⟩ = some (.pointer (some ⟨cbs[k], 0, none⟩)) := by
        rw [World.ownsRow.cellAt HOW.out k (by omega)]
        simp [ptrsC, List.getElem?_eq_getElem hlt, ptrV]
      have x1 := HC.out k hlt
      have d0 := (HBE.out.cell (by exact World.block_lt_of_cell? w _ x0)).trans x0
      have d1 := (HBE.out.cell (by exact World.block_lt_of_cell? w _ x1)).trans x1
      have HST : Hid (ToS ts p (k + 1) (if ts.getD k 0 = p then l ++ [k] else l)) := HTO.out.step
      have HGD : Hid (cbs.getD k 0 = cbs[k]) := by
        show _ = _
        rw [List.getD, List.getElem?_eq_getElem hlt]
        rfl
      have hle := HLE.out
      have hsz := HBE.out.size
      clear x0 x1 hsl
      generalize cbs[k] = cb at *
      generalize ts.getD k 0 = tg at *
      by_cases ht : tg = (p : Int)
      · have HS2 : Hid (ToS ts p (k + 1) (l ++ [k])) := by have := HST.out; rw [if_pos ht] at this; exact this
        subst ht
        clear HST
        go_wp2_with (first
          | (at_builtin; refine wpList_append_lies _ rfl _ _ _ rfl w.heap.size 149 i0 _ 1 8 Tryz.underlying139 hi0 hz0 hz1 hz2 rfl (by omega) (.slice fa l.length fc) l.length (ptrsC (l.map fun c => cbs.getD c 0)) rfl (HFO.out.alloc _) ⟨wr.heap.size, 0, none⟩ 1 1 [.pointer (some ⟨cb, 0, none⟩)] rfl rfl (World.news_of_block (cs := #[.pointer (some ⟨cb, 0, none⟩)]) (t := 149) (fr := (0, 0)) (heap_new wr _)) (by simp [Value.oneCell']) (by omega) (by unfold maxLen; omega) (by omega) (by simp; omega) (wr.heap.size + 1) (by simp) ?_; intro g9 c9 V9 hown9 hgrow9 hat9 hlt9)
          | fail)
        have e1 : (l ++ [k]).length = l.length + 1 := by simp
        refine ⟨⟨k + 1, some ⟨g9, 0, none⟩, c9, l ++ [k], by go_num, by rw [e1], by omega, HS2, by show _ ≤ _; rw [e1]; omega, ?_, ?_⟩, by simp [intOf]; omega⟩
        · have e : ptrsC ((l ++ [k]).map fun c => cbs.getD c 0) = ptrsC (l.map fun c => cbs.getD c 0) ++ [.pointer (some ⟨cb, 0, none⟩)] := by
            rw [← HGD.out]
            simp [ptrsC, ptrV]
          rw [e, e1]
          exact hown9
        · exact (HBE.out.trans ((newB wr _).mono hsz)).grown hgrow9 (Nat.le_trans hsz (newB wr _).size) (fun q hq => (HFO.out.lt q hq).1)
      · have HS2 : Hid (ToS ts p (k + 1) l) := by have := HST.out; rw [if_neg ht] at this; exact this
        clear HST
        go_wp2_with fail
        exact ⟨⟨k + 1, fa, fc, l, by go_num, rfl, by omega, HS2, by show _ ≤ _; omega, HFO, HBE⟩, by simp [intOf]; omega⟩
    · have hlt' : ¬ (k : Int) < (cbs.length : Int) := by omega
      have hke : k = cbs.length := by omega
      subst hke
      have hl := HFIN.out l HTO.out
      go_wp2_with fail
      go_ret
      refine ⟨_, rfl, HBE.out, ?_⟩
      have := HFO.out
      rw [hl] at this
      exact this
end Go.Proofs.YteioennfpkoagaaGreatDoor.C
namespace Go.Proofs.YteioennfpkoagaaGreatDoor.C
open Go.RowKit K

/- a partition that has been made -/
structure PRec where
  lo : Nat
  hi : Nat
  pb : Nat
  row : Value
  fv : Value
  bs : List (Nat × Nat)
  b1 : Nat
  b2 : Nat
  iv : Value
def tgts (cs : List ChanD) : List Int := cs.map ChanD.target
structure PRok (wr : World) (cbs : List Nat) (cs : List ChanD) (i : Nat) (x : PartD) (r : PRec) : Prop where
  blk : wr.heap[r.pb]? = some (.cells #[.bool false, .int .i64 0, .int .i64 0, r.row, r.fv] 136 (0, 0))
  own : wr.ownsRow r.lo 144 1 r.row x.regs.length (ptrsC (r.bs.map Prod.fst))
  len : r.bs.length = x.regs.length
  at' : ∀ j (h : j < r.bs.length) (h2 : j < x.regs.length), wr.heap[r.bs[j].1]? = some (regO x.regs[j] r.bs[j].2) ∧ wr.heap[r.bs[j].2]? = some (memO x.regs[j]) ∧ r.lo ≤ r.bs[j].1 ∧ r.lo ≤ r.bs[j].2
  inc : r.bs.Pairwise fun a b => a.2 < b.2
  ord : r.lo ≤ r.pb ∧ r.lo ≤ r.b1 ∧ r.lo ≤ r.b2
  box1 : wr.heap[r.b1]? = some (.cells #[ptrV r.pb] 137 (0, 0))
  box2 : wr.heap[r.b2]? = some (.cells #[r.iv] 139 (0, 0))
  fun' : r.fv = if x.action = 2 then .func (Fn.func 231) #[] #[ptrV r.b1] else if x.action = 3 then .func (Fn.func 232) #[] #[ptrV r.b1, ptrV r.b2] else .func (Fn.func 234) #[] #[]
  inb : wr.ownsRow r.lo 149 1 r.iv (toL (tgts cs) i).length (ptrsC ((toL (tgts cs) i).map fun c => cbs.getD c 0))
/- all its blocks lie in its range -/
structure PRin (r : PRec) : Prop where
  pb : r.pb < r.hi
  row : ∀ b, r.row.ownBlock = some b → b < r.hi
  bs : ∀ a ∈ r.bs, a.1 < r.hi ∧ a.2 < r.hi
  box : r.b1 < r.hi ∧ r.b2 < r.hi
  iv : ∀ b, r.iv.ownBlock = some b → b < r.hi
theorem PRok.keep {wr wr' : World} {cbs : List Nat} {cs : List ChanD} {i : Nat} {x : PartD} {r : PRec} (h : PRok wr cbs cs i x r) (hin : PRin r) (hk : ∀ b, r.lo ≤ b → b < r.hi → wr'.heap[b]? = wr.heap[b]?) : PRok wr' cbs cs i x r :=
  ⟨(hk _ h.ord.1 hin.pb).trans h.blk, owns_keep h.own fun b hb => hk b (h.own.lt b hb).1 (hin.row b hb), h.len, fun j hj h2 => by
    obtain ⟨a1, a2, a3, a4⟩ := h.at' j hj h2
    have hb := hin.bs _ (List.getElem_mem hj)
    exact ⟨(hk _ a3 hb.1).trans a1, (hk _ a4 hb.2).trans a2, a3, a4⟩, h.inc, h.ord, (hk _ h.ord.2.1 hin.box.1).trans h.box1, (hk _ h.ord.2.2 hin.box.2).trans h.box2, h.fun', owns_keep h.inb fun b hb => hk b (h.inb.lt b hb).1 (hin.iv b hb)⟩
/- the partitions made so far -/
structure PtS (w0 wr : World) (ps : List PartD) (cs : List ChanD) (cbs : List Nat) (k : Nat) (rs : List PRec) : Prop where
  len : rs.length = k
  all : ∀ i (h : i < rs.length) (h2 : i < ps.length), PRok wr cbs cs i ps[i] rs[i]
  ins : ∀ r ∈ rs, PRin r ∧ w0.heap.size ≤ r.lo ∧ r.hi ≤ wr.heap.size
  inc : rs.Pairwise fun a b => a.hi ≤ b.lo
theorem PtS.keep {w0 wr wr' : World} {ps : List PartD} {cs : List ChanD} {cbs : List Nat} {k : Nat} {rs : List PRec} (h : PtS w0 wr ps cs cbs k rs) (hs : wr.heap.size ≤ wr'.heap.size) (hk : ∀ r ∈ rs, ∀ b, r.lo ≤ b → b < r.hi → wr'.heap[b]? = wr.heap[b]?) : PtS w0 wr' ps cs cbs k rs :=
  ⟨h.len, fun i hi h2 => (h.all i hi h2).keep (h.ins _ (List.getElem_mem hi)).1 (hk _ (List.getElem_mem hi)), fun r hr => ⟨(h.ins r hr).1, (h.ins r hr).2.1, Nat.le_trans (h.ins r hr).2.2 hs⟩, h.inc⟩
/- the channels made so far -/
structure CnS (w0 wr : World) (cs : List ChanD) (k : Nat) (cbs : List Nat) : Prop where
  len : cbs.length = k
  all : ∀ c (h : c < cbs.length) (h2 : c < cs.length), wr.heap[cbs[c]]? = some (.cells (chanB cs[c] (.slice none 0 0) 0) 153 (0, 0)) ∧ w0.heap.size ≤ cbs[c]
  inc : cbs.Pairwise (· < ·)
  top : ∀ b ∈ cbs, b < wr.heap.size
theorem CnS.keep {w0 wr wr' : World} {cs : List ChanD} {k : Nat} {cbs : List Nat} (h : CnS w0 wr cs k cbs) (hs : wr.heap.size ≤ wr'.heap.size) (hk : ∀ b ∈ cbs, wr'.heap[b]? = wr.heap[b]?) : CnS w0 wr' cs k cbs :=
  ⟨h.len, fun c hc h2 => ⟨(hk _ (List.getElem_mem hc)).trans (h.all c hc h2).1, (h.all c hc h2).2⟩, h.inc, fun b hb => Nat.lt_of_lt_of_le (h.top b hb) hs⟩
/- which block is for what -/
def roleP (i : Nat) (r : PRec) (b : Nat) : Role := if b = r.pb then .part i else match r.bs.findIdx? (fun a => a.2 == b) with
  | some j => .mem i j
  | none => .fix
def noRec : PRec := ⟨0, 0, 0, .pointer none, .pointer none, [], 0, 0, .pointer none⟩
def roleL (kb : Nat) (rows : List Value) (cbs : List Nat) (rs : List PRec) (b : Nat) : Option Role :=
  if b = kb then some .ker
  else if rows.any (fun v => v.ownBlock == some b) = true then some .fix
  else match cbs.findIdx? (· == b) with
    | some c => some (.chan c)
    | none => match rs.findIdx? (fun r => decide (r.lo ≤ b ∧ b < r.hi)) with
      | some i => some (roleP i (rs.getD i noRec) b)
      | none => none
theorem find_inc {α : Type} {l : List α} {p : α → Bool} {i : Nat} (hi : i < l.length) (h1 : p l[i] = true) (h2 : ∀ j (hj : j < l.length), j < i → p l[j] = false) : l.findIdx? p = some i := by
  rw [List.findIdx?_eq_some_iff_getElem]
  exact ⟨hi, h1, fun j hj => by rw [h2 j (by omega) hj]; simp⟩
theorem find_none {α : Type} {l : List α} {p : α → Bool} (h : ∀ x ∈ l, p x = false) : l.findIdx? p = none := by
  rw [List.findIdx?_eq_none_iff]
  exact h
theorem ty_ne {w : World} {a b t u : Nat} {cs ds : Array Value} {x y : Nat × Nat} (h1 : w.heap[a]? = some (.cells cs t x)) (h2 : w.heap[b]? = some (.cells ds u y)) (h : t ≠ u) : a ≠ b := fun e => by
  subst e
  rw [h1] at h2
  injection h2 with h2
  injection h2 with _ h2 _
  exact h h2
end Go.Proofs.YteioennfpkoagaaGreatDoor.C
namespace Go.Proofs.YteioennfpkoagaaGreatDoor.C
open Go.RowKit K

theorem own_row {w : World} {B e n : Nat} {v : Value} {l : List Value} {P : Nat → Prop} {f : Nat → Value} (h : w.ownsRow B e 1 v n l) (hP : ∀ b, v.ownBlock = some b → P b) (hf : ∀ i, i < n → l[i]? = some (f i)) : RowF w P v n f := by
  rcases own_form h with ⟨h0, rfl⟩ | ⟨g, cap, rfl, _⟩
  · subst h0
    exact ⟨none, 0, rfl, fun i hi => absurd hi (by omega)⟩
  · refine ⟨some ⟨g, 0, none⟩, cap, rfl, fun i hi => ⟨g, rfl, hP g rfl, ?_⟩⟩
    rw [World.ownsRow.cellAt h i (by omega)]
    exact hf i hi
structure LoadF (w0 w' : World) (kb : Nat) (pl : List Int) (ps : List PartD) (cs : List ChanD) (qv ptv chv : Value) (cbs : List Nat) (rs : List PRec) : Prop where
  ker : w'.heap[kb]? = some (.cells #[qv, .int .i64 0, ptv, chv] 141 (0, 0))
  lo : w0.heap.size ≤ kb
  pln : w'.ownsRow w0.heap.size 3 1 qv pl.length (intsC pl)
  prt : w'.ownsRow w0.heap.size 137 1 ptv ps.length (ptrsC (rs.map PRec.pb))
  chn : w'.ownsRow w0.heap.size 149 1 chv cs.length (ptrsC cbs)
  cn : CnS w0 w' cs cs.length cbs
  pt : PtS w0 w' ps cs cbs ps.length rs
def layL (kb : Nat) (qv ptv chv : Value) (ps : List PartD) (cbs : List Nat) (rs : List PRec) : Lay where
  kb := kb
  pv := qv
  ptv := ptv
  chv := chv
  pb i := (rs.getD i noRec).pb
  cb c := cbs.getD c 0
  rv i := (rs.getD i noRec).row
  fv i := (rs.getD i noRec).fv
  rb i j := ((rs.getD i noRec).bs.getD j (0, 0)).1
  mb i j := ((rs.getD i noRec).bs.getD j (0, 0)).2
  mc i j := (64 * (((ps[i]?.map PartD.regs).getD [])[j]?.map RegD.pages).getD 0).toNat
  rl := roleL kb [qv, ptv, chv] cbs rs
theorem toL_mem (cs : List ChanD) (i d : Nat) : d ∈ toL (tgts cs) i ↔ ∃ y, cs[d]? = some y ∧ y.target = (i : Int) := by
  unfold toL
  rw [List.mem_filter, List.mem_range]
  have hl : (tgts cs).length = cs.length := by simp [tgts]
  constructor
  · rintro ⟨h1, h2⟩
    have hd : d < cs.length := by omega
    refine ⟨cs[d], List.getElem?_eq_getElem hd, ?_⟩
    simpa [tgts, List.getElem?_eq_getElem hd] using h2
  · rintro ⟨y, hy, ht⟩
    obtain ⟨hd, rfl⟩ := List.getElem?_eq_some_iff.1 hy
    refine ⟨by omega, ?_⟩
    simpa [tgts, List.getElem?_eq_getElem hd] using ht
section
variable {w0 w' : World} {kb : Nat} {pl : List Int} {ps : List PartD} {cs : List ChanD} {qv ptv chv : Value} {cbs : List Nat} {rs : List PRec}
theorem LoadF.notRow (h : LoadF w0 w' kb pl ps cs qv ptv chv cbs rs) {b t : Nat} {c : Array Value} (hb : w'.heap[b]? = some (.cells c t (0, 0))) (h1 : t ≠ 3) (h2 : t ≠ 137) (h3 : t ≠ 149) : [qv, ptv, chv].any (fun v => v.ownBlock == some b) = false := by
  have a1 := own_not_blk h.pln hb h1
  have a2 := own_not_blk h.prt hb h2
  have a3 := own_not_blk h.chn hb h3
  simp only [List.any_cons, List.any_nil, Bool.or_false, Bool.or_eq_false_iff, beq_eq_false_iff_ne, ne_eq]
  exact ⟨fun e => a1 e.symm, fun e => a2 e.symm, fun e => a3 e.symm⟩
theorem LoadF.notCh (h : LoadF w0 w' kb pl ps cs qv ptv chv cbs rs) {b t : Nat} {c : Array Value} (hb : w'.heap[b]? = some (.cells c t (0, 0))) (h1 : t ≠ 153) : cbs.findIdx? (· == b) = none := find_none fun x hx => by
  obtain ⟨k, hk, rfl⟩ := List.getElem_of_mem hx
  have hk2 : k < cs.length := by have := h.cn.len; omega
  have := ty_ne hb (h.cn.all k hk hk2).1 h1
  simp only [beq_eq_false_iff_ne, ne_eq]
  exact fun e => this e.symm
theorem LoadF.isFix (h : LoadF w0 w' kb pl ps cs qv ptv chv cbs rs) {b t : Nat} {c : Array Value} (hb : w'.heap[b]? = some (.cells c t (0, 0))) (h0 : t ≠ 141) (h1 : t ≠ 153) (h2 : t ≠ 136) (h3 : t ≠ 5) {i : Nat} (hi : i < rs.length) (hlo : rs[i].lo ≤ b) (hhi : b < rs[i].hi) : roleL kb [qv, ptv, chv] cbs rs b = some .fix := by
  unfold roleL
  rw [if_neg (ty_ne hb h.ker h0)]
  split
  · rfl
  · rw [h.notCh hb h1]
    have hf : rs.findIdx? (fun r => decide (r.lo ≤ b ∧ b < r.hi)) = some i := find_inc hi (decide_eq_true ⟨hlo, hhi⟩) fun j hj hji => decide_eq_false (fun e => by
      have := List.pairwise_iff_getElem.1 h.pt.inc j i hj hi hji
      omega)
    have hi2 : i < ps.length := by have := h.pt.len; omega
    have hr := h.pt.all i hi hi2
    rw [hf]
    simp only []
    have hg : rs.getD i noRec = rs[i] := by rw [List.getD, List.getElem?_eq_getElem hi]; rfl
    rw [hg]
    unfold roleP
    rw [if_neg (ty_ne hb hr.blk h2), find_none fun a ha => ?_]
    obtain ⟨j, hj, rfl⟩ := List.getElem_of_mem ha
    have hj2 : j < ps[i].regs.length := by have := hr.len; omega
    have hm := (hr.at' j hj hj2).2.1
    unfold memO at hm
    have := ty_ne hb hm h3
    simp only [beq_eq_false_iff_ne, ne_eq]
    exact fun e => this e.symm
theorem LoadF.inRec (h : LoadF w0 w' kb pl ps cs qv ptv chv cbs rs) {b t : Nat} {c : Array Value} (hb : w'.heap[b]? = some (.cells c t (0, 0))) (h0 : t ≠ 141) (h1 : t ≠ 3) (h2 : t ≠ 137) (h3 : t ≠ 149) (h4 : t ≠ 153) {i : Nat} (hi : i < rs.length) (hlo : rs[i].lo ≤ b) (hhi : b < rs[i].hi) : roleL kb [qv, ptv, chv] cbs rs b = some (roleP i rs[i] b) := by
  unfold roleL
  rw [if_neg (ty_ne hb h.ker h0), h.notRow hb h1 h2 h3, if_neg (by simp), h.notCh hb h4]
  have hf : rs.findIdx? (fun r => decide (r.lo ≤ b ∧ b < r.hi)) = some i := find_inc hi (decide_eq_true ⟨hlo, hhi⟩) fun j hj hji => decide_eq_false (fun e => by
    have := List.pairwise_iff_getElem.1 h.pt.inc j i hj hi hji
    omega)
  rw [hf]
  simp only []
  have hg : rs.getD i noRec = rs[i] := by rw [List.getD, List.getElem?_eq_getElem hi]; rfl
  rw [hg]
theorem LoadF.kvi (h : LoadF w0 w' kb pl ps cs qv ptv chv cbs rs) (_hn : ps.length ≤ 255) (hm : cs.length ≤ 255) (hact : ∀ x ∈ ps, 1 ≤ x.action ∧ x.action ≤ 3) (_hreg : ∀ x ∈ ps, ∀ r ∈ x.regs, RegG r) (hdep : ∀ y ∈ cs, 1 ≤ y.depth) :
    KVi w' (layL kb qv ptv chv ps cbs rs) pl ps cs bootK ∧ ∀ b, roleL kb [qv, ptv, chv] cbs rs b ≠ none → w0.heap.size ≤ b := by
  have hrow : ∀ v ∈ [qv, ptv, chv], ∀ b, v.ownBlock = some b → roleL kb [qv, ptv, chv] cbs rs b = some .fix := fun v hv b hb => by
    unfold roleL
    have hne : b ≠ kb := fun e => by
      subst e
      simp only [List.mem_cons, List.not_mem_nil, or_false] at hv
      rcases hv with rfl | rfl | rfl
      · exact own_not_blk h.pln h.ker (by decide) hb.symm
      · exact own_not_blk h.prt h.ker (by decide) hb.symm
      · exact own_not_blk h.chn h.ker (by decide) hb.symm
    rw [if_neg hne, if_pos (List.any_eq_true.2 ⟨v, hv, by simp [hb]⟩)]
  have hchan : ∀ c (hc : c < cbs.length), roleL kb [qv, ptv, chv] cbs rs cbs[c] = some (.chan c) := fun c hc => by
    have hc2 : c < cs.length := by have := h.cn.len; omega
    have hb := (h.cn.all c hc hc2).1
    unfold roleL
    rw [if_neg (ty_ne hb h.ker (by decide)), h.notRow hb (by decide) (by decide) (by decide), if_neg (by simp), find_inc hc (by simp) fun j hj hji => by
      have := List.pairwise_iff_getElem.1 h.cn.inc j c hj hc hji
      simp only [beq_eq_false_iff_ne, ne_eq]
      omega]
  have hlow : ∀ b, roleL kb [qv, ptv, chv] cbs rs b ≠ none → w0.heap.size ≤ b ∧ b < w'.heap.size := fun b hb => by
    unfold roleL at hb
    split at hb
    · rename_i e
      subst e
      exact ⟨h.lo, lt_of_blk h.ker⟩
    · split at hb
      · rename_i e
        obtain ⟨v, hv, hv2⟩ := List.any_eq_true.1 e
        have hv3 : v.ownBlock = some b := by simpa using hv2
        simp only [List.mem_cons, List.not_mem_nil, or_false] at hv
        rcases hv with rfl | rfl | rfl
        · exact h.pln.lt b hv3
        · exact h.prt.lt b hv3
        · exact h.chn.lt b hv3
      · split at hb
        · rename_i c hc
          obtain ⟨hc1, hc2, _⟩ := List.findIdx?_eq_some_iff_getElem.1 hc
          have hc3 : cbs[c] = b := by simpa using hc2
          have hc4 : c < cs.length := by have := h.cn.len; omega
          rw [← hc3]
          exact ⟨(h.cn.all c hc1 hc4).2, h.cn.top _ (List.getElem_mem hc1)⟩
        · split at hb
          · rename_i i hi
            obtain ⟨hi1, hi2, _⟩ := List.findIdx?_eq_some_iff_getElem.1 hi
            have hi3 : rs[i].lo ≤ b ∧ b < rs[i].hi := by simpa using hi2
            have := (h.pt.ins _ (List.getElem_mem hi1)).2
            omega
          · exact absurd rfl hb
  have hgr : ∀ {i : Nat} (hi : i < rs.length), rs.getD i noRec = rs[i] := fun hi => by rw [List.getD, List.getElem?_eq_getElem hi]; rfl
  have hgc : ∀ {c : Nat} (hc : c < cbs.length), cbs.getD c 0 = cbs[c] := fun hc => by rw [List.getD, List.getElem?_eq_getElem hc]; rfl
  have hi2 : ∀ {i : Nat} {x : PartD}, ps[i]? = some x → ∃ (h1 : i < rs.length) (h2 : i < ps.length), ps[i] = x := fun {i x} hx => by
    obtain ⟨a, b⟩ := List.getElem?_eq_some_iff.1 hx
    exact ⟨by have := h.pt.len; omega, a, b⟩
  refine ⟨⟨⟨fun b hb => (hlow b hb).2, ?_, ?_, ?_, ?_, ?_, fun i x hx => ?_, fun i x hx => ?_, fun i x hx j r hr => ?_, fun i x hx j r hr => ?_, fun i x hx => ?_⟩, fun c y hy => ?_⟩, fun b hb => (hlow b hb).1⟩
  · show roleL kb _ cbs rs kb = _
    unfold roleL
    rw [if_pos rfl]
  · show w'.heap[kb]? = some (.cells #[qv, .int .i64 ((0 % pl.length : Nat) : Int), ptv, chv] 141)
    rw [Nat.zero_mod]
    exact h.ker
  · exact own_row h.pln (fun b hb => hrow qv (by simp) b hb) fun i hi => by simp [intsC, List.getD, List.getElem?_eq_getElem hi]
  · refine own_row h.prt (fun b hb => hrow ptv (by simp) b hb) fun i hi => ?_
    have h1 : i < rs.length := by have := h.pt.len; omega
    show _ = some (ptrV (rs.getD i noRec).pb)
    rw [hgr h1]
    simp [ptrsC, List.getElem?_eq_getElem h1]
  · refine own_row h.chn (fun b hb => hrow chv (by simp) b hb) fun i hi => ?_
    have h1 : i < cbs.length := by have := h.cn.len; omega
    show _ = some (ptrV (cbs.getD i 0))
    rw [hgc h1]
    simp [ptrsC, List.getElem?_eq_getElem h1]
  · obtain ⟨h1, h2, rfl⟩ := hi2 hx
    have hr := h.pt.all i h1 h2
    have hin := h.pt.ins _ (List.getElem_mem h1)
    show roleL kb _ cbs rs (rs.getD i noRec).pb = _ ∧ w'.heap[(rs.getD i noRec).pb]? = some (.cells #[.bool false, .int .i64 0, .int .i64 0, (rs.getD i noRec).row, (rs.getD i noRec).fv] 136)
    rw [hgr h1]
    refine ⟨?_, hr.blk⟩
    rw [h.inRec hr.blk (by decide) (by decide) (by decide) (by decide) (by decide) h1 hr.ord.1 hin.1.pb]
    unfold roleP
    rw [if_pos rfl]
  · obtain ⟨h1, h2, rfl⟩ := hi2 hx
    have hr := h.pt.all i h1 h2
    have hin := h.pt.ins _ (List.getElem_mem h1)
    show RowF w' _ (rs.getD i noRec).row _ _
    rw [hgr h1]
    refine own_row hr.own (fun b hb => ?_) fun j hj => ?_
    · obtain ⟨hl1, hl2⟩ := hr.own.lt b hb
      rcases hr.own.2 with ⟨hv, _⟩ | ⟨g, cap, cur, hv, _, hg, _⟩
      · rw [hv] at hb; cases hb
      · rw [hv] at hb
        have : some g = some b := hb
        cases this
        exact h.isFix hg (by decide) (by decide) (by decide) (by decide) h1 hl1 (hin.1.row b (by rw [hv]; rfl))
    · have hj2 : j < rs[i].bs.length := by have := hr.len; omega
      show _ = some (ptrV ((rs.getD i noRec).bs.getD j (0, 0)).1)
      rw [hgr h1, List.getD, List.getElem?_eq_getElem hj2]
      simp [ptrsC, List.getElem?_eq_getElem hj2]
  · obtain ⟨h1, h2, rfl⟩ := hi2 hx
    have hr0 := h.pt.all i h1 h2
    have hin := h.pt.ins _ (List.getElem_mem h1)
    obtain ⟨hj, rfl⟩ := List.getElem?_eq_some_iff.1 hr
    have hj2 : j < rs[i].bs.length := by have := hr0.len; omega
    have hgb : (rs.getD i noRec).bs.getD j (0, 0) = rs[i].bs[j] := by rw [hgr h1, List.getD, List.getElem?_eq_getElem hj2]; rfl
    obtain ⟨a1, a2, a3, a4⟩ := hr0.at' j hj2 hj
    obtain ⟨l1, l2⟩ := hin.1.bs _ (List.getElem_mem hj2)
    have hmc : (layL kb qv ptv chv ps cbs rs).mc i j = (64 * ps[i].regs[j].pages).toNat := by
      show (64 * (((ps[i]?.map PartD.regs).getD [])[j]?.map RegD.pages).getD 0).toNat = _
      rw [List.getElem?_eq_getElem h2]
      simp only [Option.map_some, Option.getD_some]
      rw [List.getElem?_eq_getElem hj]
      rfl
    have hrb : (layL kb qv ptv chv ps cbs rs).rb i j = rs[i].bs[j].1 := by show ((rs.getD i noRec).bs.getD j (0, 0)).1 = _; rw [hgb]
    have hmb : (layL kb qv ptv chv ps cbs rs).mb i j = rs[i].bs[j].2 := by show ((rs.getD i noRec).bs.getD j (0, 0)).2 = _; rw [hgb]
    unfold regB2
    rw [hrb, hmb, hmc]
    unfold regO at a1
    unfold memO at a2
    refine ⟨h.isFix a1 (by decide) (by decide) (by decide) (by decide) h1 a3 l1, a1, ?_, Nat.le_refl _⟩
    show roleL kb _ cbs rs rs[i].bs[j].2 = _
    rw [h.inRec a2 (by decide) (by decide) (by decide) (by decide) (by decide) h1 a4 l2]
    unfold roleP
    rw [if_neg (ty_ne a2 hr0.blk (by decide)), find_inc hj2 (by simp) fun q hq hqj => by
      have := List.pairwise_iff_getElem.1 hr0.inc q j hq hj2 hqj
      simp only [beq_eq_false_iff_ne, ne_eq]
      omega]
  · obtain ⟨h1, h2, rfl⟩ := hi2 hx
    have hr0 := h.pt.all i h1 h2
    obtain ⟨hj, rfl⟩ := List.getElem?_eq_some_iff.1 hr
    have hj2 : j < rs[i].bs.length := by have := hr0.len; omega
    have hgb : (rs.getD i noRec).bs.getD j (0, 0) = rs[i].bs[j] := by rw [hgr h1, List.getD, List.getElem?_eq_getElem hj2]; rfl
    have hmb : (layL kb qv ptv chv ps cbs rs).mb i j = rs[i].bs[j].2 := by show ((rs.getD i noRec).bs.getD j (0, 0)).2 = _; rw [hgb]
    obtain ⟨a1, a2, a3, a4⟩ := hr0.at' j hj2 hj
    rw [hmb]
    unfold memO at a2
    refine ⟨_, a2, fun k hk => ⟨?_, by simp [bootK], by simp [bootK]⟩⟩
    have hk2 : k < (64 * ps[i].regs[j].pages).toNat := by omega
    simp [byC, bootK, hk2]
  · obtain ⟨h1, h2, rfl⟩ := hi2 hx
    have hr := h.pt.all i h1 h2
    have hin := h.pt.ins _ (List.getElem_mem h1)
    have ha := hact _ (List.getElem_mem h2)
    have hfv : (layL kb qv ptv chv ps cbs rs).fv i = rs[i].fv := by show (rs.getD i noRec).fv = _; rw [hgr h1]
    have hpb : (layL kb qv ptv chv ps cbs rs).pb i = rs[i].pb := by show (rs.getD i noRec).pb = _; rw [hgr h1]
    have hb1 := h.isFix hr.box1 (by decide) (by decide) (by decide) (by decide) h1 hr.ord.2.1 hin.1.box.1
    have hb2 := h.isFix hr.box2 (by decide) (by decide) (by decide) (by decide) h1 hr.ord.2.2 hin.1.box.2
    unfold ReactV
    rw [hfv, hpb, hr.fun']
    rcases (show ps[i].action = 1 ∨ ps[i].action = 2 ∨ ps[i].action = 3 by omega) with e | e | e
    · exact .inl ⟨e, by rw [if_neg (by omega), if_neg (by omega)]⟩
    · exact .inr (.inl ⟨e, rs[i].b1, hb1, by rw [if_pos e], hr.box1⟩)
    · refine .inr (.inr ⟨e, rs[i].b1, rs[i].b2, rs[i].iv, (toL (tgts cs) i).length, fun k => (toL (tgts cs) i).getD k 0, hb1, hb2, by rw [if_neg (by omega), if_pos e], hr.box1, hr.box2, ?_, fun k hk => ?_, fun d y hy ht => ?_, ?_⟩)
      · refine own_row hr.inb (fun b hb => ?_) fun k hk => ?_
        · obtain ⟨hl1, hl2⟩ := hr.inb.lt b hb
          rcases hr.inb.2 with ⟨hv, _⟩ | ⟨g, cap, cur, hv, _, hg, _⟩
          · rw [hv] at hb; cases hb
          · rw [hv] at hb
            have : some g = some b := hb
            cases this
            exact h.isFix hg (by decide) (by decide) (by decide) (by decide) h1 hl1 (hin.1.iv b (by rw [hv]; rfl))
        · show _ = some (ptrV (cbs.getD ((toL (tgts cs) i).getD k 0) 0))
          simp [ptrsC, List.getElem?_eq_getElem hk, List.getD]
      · have hmem : (toL (tgts cs) i).getD k 0 ∈ toL (tgts cs) i := by rw [List.getD, List.getElem?_eq_getElem hk]; exact List.getElem_mem hk
        exact (toL_mem cs i _).1 hmem
      · obtain ⟨k, hk, hk2⟩ := List.getElem_of_mem ((toL_mem cs i d).2 ⟨y, hy, ht⟩)
        refine ⟨k, hk, ?_⟩
        show (toL (tgts cs) i).getD k 0 = d
        rw [List.getD, List.getElem?_eq_getElem hk]
        exact hk2
      · have h1 := List.length_filter_le (fun c => (tgts cs).getD c 0 == (i : Int)) (List.range (tgts cs).length)
        have hl : (tgts cs).length = cs.length := by simp [tgts]
        unfold toL
        rw [List.length_range] at h1
        omega
  · obtain ⟨hc, rfl⟩ := List.getElem?_eq_some_iff.1 hy
    have hc2 : c < cbs.length := by have := h.cn.len; omega
    have hcb : (layL kb qv ptv chv ps cbs rs).cb c = cbs[c] := hgc hc2
    rw [hcb]
    refine ⟨.slice none 0 0, 0, hchan c hc2, (h.cn.all c hc2 hc).1, ⟨[], rfl, World.ownsRow_nil _ _ _ _, (fun b hb => by cases hb), (fun k hk => by simp [bootK] at hk)⟩, ⟨by omega, by have := hdep _ (List.getElem_mem hc); omega, fun _ => ⟨by simp [bootK], fun m hm => by simp [bootK] at hm⟩⟩, fun m hm => by simp [bootK] at hm, ?_⟩
    have := hdep _ (List.getElem_mem hc)
    simp [bootK]
    omega
end
end Go.Proofs.YteioennfpkoagaaGreatDoor.C
