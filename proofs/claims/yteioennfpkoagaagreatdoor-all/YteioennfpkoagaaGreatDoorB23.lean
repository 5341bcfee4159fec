import Derived.Test.YteioennfpkoagaaGreatDoorB19
import Derived.Test.YteioennfpkoagaaGreatDoorB22
import Derived.Test.YteioennfpkoagaaGreatDoorB17
import Derived.Test.YteioennfpkoagaaGreatDoorB04
import Derived.Deep.DeepCutAuto
import Derived.Test.YteioennfpkoagaaGreatDoorB16
namespace Go.Proofs.YteioennfpkoagaaGreatDoor.C
open Go.RowKit K
attribute [local go_sem ↓] Go.wp_at_zero Go.wp_at_succ

/- is there one in the plan that there is not -/
set_option maxRecDepth 100000 in
set_option maxHeartbeats 1000000 in
theorem clo_strange (w : World) (bx n cap : Nat) (va : Option Addr) (x : Int) (_hn : n ≤ 255) (hbx : w.cell? ⟨bx, 1, none⟩ = some (.slice va n cap)) :
    Calls Tryz.prog 227 #[.int .i64 x, .pointer (some ⟨bx, 0, none⟩)] w fun e w' => e = .returned (.bool (decide ((n : Int) ≤ x))) ∧ Below w.heap.size w w' := by
  go_enter Tryz.func227, Tryz.ntmps227
  go_wp2_with fail
  go_ret
  exact ⟨rfl, Below.refl _ _⟩
set_option maxRecDepth 100000 in
set_option maxHeartbeats 1000000 in
theorem index_strange (bx n cp : Nat) (vb : Option Addr) (qs : List Int) (v : Value) (w : World) (hv : PlanV w v qs) (hl : qs.length ≤ 255) (hn : n ≤ 255) (hbx : w.cell? ⟨bx, 1, none⟩ = some (.slice vb n cp)) :
    Calls Tryz.prog 251 #[v, .func (Fn.func 227) #[] #[.pointer (some ⟨bx, 0, none⟩)]] w fun e w' => ∃ r : Int, e = .returned (.int .i64 r) ∧ Hid (decide (0 ≤ r) = strange qs n) ∧ Below w.heap.size w w' := by
  obtain ⟨va, cap, rfl, hc⟩ := hv
  have HC : Hid _ := hc
  clear hc
  have l1 := World.block_lt_of_cell? w _ hbx
  simp only [] at l1
  go_enter Tryz.func251, Tryz.ntmps251
  go_wp2_with fail
  go_loopw [8] (fun i wr => ∃ (k : Nat), i = .int .i64 k ∧ k ≤ qs.length ∧ Hid (strange (qs.take k) n = false) ∧ Below w.heap.size w wr) (fun i _ => qs.length - (intOf i).toNat)
  case atStart => exact ⟨0, rfl, by omega, by simp [Hid, strange], Below.refl _ _⟩
  case round =>
    obtain ⟨k, rfl, hk, HK, hbel⟩ := hrel
    by_cases hlt : k < qs.length
    · have hlt' : (k : Int) < (qs.length : Int) := by omega
      have hk0 : (0 : Int) ≤ (k : Int) := by omega
      obtain ⟨b, off, rfl, c0⟩ := HC.out k hlt
      have hbl := World.block_lt_of_cell? w _ c0
      have d0 := (hbel.cell (by exact hbl)).trans c0
      clear c0
      have HST : Hid (strange (qs.take (k + 1)) n = (strange (qs.take k) n || decide ((n : Int) ≤ qs[k]))) := by show _ = _; unfold strange; rw [take_snocD qs k hlt, List.any_append]; simp
      have HMEM : Hid (strange qs n = false → decide ((n : Int) ≤ qs[k]) = false) := fun h => by unfold strange at h; rw [List.any_eq_false] at h; simpa using h qs[k] (List.getElem_mem _)
      generalize qs[k] = q at *
      have hclo := clo_strange wr bx n cp vb q hn (by rw [hbel.cell (by exact l1)]; exact hbx)
      go_wp2_with fail
      refine hclo.mono ?_
      rintro e w2 ⟨rfl, hb2⟩
      cases hh : decide ((n : Int) ≤ q)
      · have HX : Hid (strange (qs.take (k + 1)) n = false) := by show _ = _; rw [HST.out, HK.out, hh]; rfl
        clear hh HST
        go_wp2_with fail
        go_roundw
        case rel => exact ⟨k + 1, by go_num, by omega, HX, hbel.trans (hb2.mono hbel.size)⟩
        case measure => simp [intOf]; omega
      · have HX : Hid (decide (0 ≤ (k : Int)) = strange qs n) := by
          show _ = _
          cases hq : strange qs n
          · have := HMEM.out hq; rw [hh] at this; cases this
          · simp
        clear hh HST
        go_wp2_with fail
        go_ret
        exact ⟨_, rfl, HX, hbel.trans (hb2.mono hbel.size)⟩
    · have hlt' : ¬ (k : Int) < (qs.length : Int) := by omega
      have HX : Hid (decide (0 ≤ (-1 : Int)) = strange qs n) := by have := HK.out; rw [List.take_of_length_le (by omega)] at this; show _ = _; rw [this]; rfl
      go_wp2_with fail
      go_ret
      exact ⟨_, rfl, HX, hbel⟩
set_option maxRecDepth 100000 in
set_option maxHeartbeats 1000000 in
theorem contains_strange (bx n cp : Nat) (vb : Option Addr) (qs : List Int) (v : Value) (w : World) (hv : PlanV w v qs) (hl : qs.length ≤ 255) (hn : n ≤ 255) (hbx : w.cell? ⟨bx, 1, none⟩ = some (.slice vb n cp)) :
    Calls Tryz.prog 228 #[v, .func (Fn.func 227) #[] #[.pointer (some ⟨bx, 0, none⟩)]] w fun e w' => e = .returned (.bool (strange qs n)) ∧ Below w.heap.size w w' := by
  have hi := index_strange bx n cp vb qs v w hv hl hn hbx
  go_enter Tryz.func228, Tryz.ntmps228
  go_wp2_with fail
  refine hi.mono ?_
  rintro e w1 ⟨r, rfl, HR, hb⟩
  have hy := HR.out
  clear HR
  cases hq : strange qs n
  · rw [hq] at hy
    have HQ : Hid _ := hq
    clear hq
    go_wp2_with fail
    go_ret
    exact ⟨by rw [HQ.out]; rfl, hb⟩
  · rw [hq] at hy
    have HQ : Hid _ := hq
    clear hq
    go_wp2_with fail
    go_ret
    exact ⟨by rw [HQ.out]; rfl, hb⟩
theorem countP_step {pl : List Int} {k i : Nat} (hk : k < pl.length) : countP (pl.take (k + 1)) i = countP (pl.take k) i + if pl[k] = (i : Int) then 1 else 0 := by
  unfold countP
  rw [take_snocD pl k hk, List.filter_append, List.length_append]
  by_cases h : pl[k] = (i : Int)
  · rw [if_pos h]; simp [h]
  · rw [if_neg h]; simp [h]
set_option maxRecDepth 100000 in
set_option maxHeartbeats 1000000 in
theorem ticksOf_any (w : World) (v : Value) (pl : List Int) (i : Nat) (hv : PlanV w v pl) (hl : pl.length ≤ 255) :
    Calls Tryz.prog 230 #[v, .int .i64 i] w fun e w' => e = .returned (.int .i64 (countP pl i)) ∧ w' = w := by
  obtain ⟨va, cap, rfl, hc⟩ := hv
  have HC : Hid _ := hc
  clear hc
  go_enter Tryz.func230, Tryz.ntmps230
  go_wp2_with fail
  go_loopw [5, 10] (fun c v wr => ∃ (k : Nat), v = .int .i64 k ∧ c = .int .i64 (countP (pl.take k) i) ∧ k ≤ pl.length ∧ wr = w) (fun _ v _ => pl.length - (intOf v).toNat)
  case atStart => exact ⟨0, rfl, by simp [countP], by omega, rfl⟩
  case round =>
    obtain ⟨k, rfl, rfl, hk, hw⟩ := hrel
    have hw2 := hw.symm
    clear hw
    subst hw2
    by_cases hlt : k < pl.length
    · have hlt' : (k : Int) < (pl.length : Int) := by omega
      obtain ⟨b, off, rfl, c0⟩ := HC.out k hlt
      have HST : Hid (countP (pl.take (k + 1)) i = countP (pl.take k) i + if pl[k] = (i : Int) then 1 else 0) := countP_step hlt
      have h1 := count_le (pl.take k) i
      have h2 : 0 ≤ countP (pl.take k) i := by unfold countP; omega
      have h3 : ((pl.take k).length : Int) ≤ 255 := by rw [List.length_take]; omega
      generalize countP (pl.take k) i = cn at *
      generalize pl[k] = q at *
      by_cases hq : q = (i : Int)
      · have HX : Hid (countP (pl.take (k + 1)) i = cn + 1) := by show _ = _; rw [HST.out, if_pos hq]
        subst hq
        clear HST
        go_wp2_with fail
        exact ⟨⟨k + 1, by go_num, by rw [HX.out], by omega, by first | rfl | trivial⟩, by simp [intOf]; omega⟩
      · have HX : Hid (countP (pl.take (k + 1)) i = cn) := by show _ = _; rw [HST.out, if_neg hq]; omega
        clear HST
        go_wp2_with fail
        exact ⟨⟨k + 1, by go_num, by rw [HX.out], by omega, by first | rfl | trivial⟩, by simp [intOf]; omega⟩
    · have hlt' : ¬ (k : Int) < (pl.length : Int) := by omega
      have HX : Hid (pl.take k = pl) := List.take_of_length_le (by omega)
      go_wp2_with fail
      go_ret
      exact ⟨by show Ending.returned (.int .i64 (countP (pl.take k) i)) = _; rw [HX.out], rfl⟩
set_option maxRecDepth 100000 in
theorem dec_len_all : ((List.range 256).all fun i => decide ((decF i).length ≤ 3)) = true := by decide
theorem ba_add (a b : List UInt8) : ba a ++ ba b = ba (a ++ b) := by
  apply ByteArray.ext
  rw [ByteArray.data_append]
  simp [ba]
set_option maxRecDepth 100000 in
set_option maxHeartbeats 1000000 in
theorem someName_any (w : World) (i : Nat) (hi : i ≤ 255) (ht : TB w) :
    Calls Tryz.prog 229 #[.int .i64 i] w fun e w' => e = .returned (.string (someN i)) ∧ Below w.heap.size w w' := by
  go_enter Tryz.func229, Tryz.ntmps229
  go_wp2_with fail
  refine (itoa_any i w (by omega) ht).mono ?_
  rintro e w1 ⟨rfl, hb⟩
  have hz : (ba (decF i)).size ≤ 3 := by
    have := List.all_eq_true.1 dec_len_all i (List.mem_range.2 (by omega))
    simp only [decide_eq_true_eq] at this
    simpa [ba, ByteArray.size] using this
  have HE : Hid ((⟨#[110]⟩ : ByteArray) ++ ba (decF i) = someN i) := ba_add [110] (decF i)
  generalize ba (decF i) = t at *
  have hsum : ¬ 9223372036854775807 < 1 + t.size := by omega
  go_wp2_with fail
  go_ret
  exact ⟨by rw [← HE.out]; rfl, hb⟩
end Go.Proofs.YteioennfpkoagaaGreatDoor.C
namespace Go.Proofs.YteioennfpkoagaaGreatDoor.C
open Go.RowKit K
attribute [local go_sem ↓] Go.wp_at_zero Go.wp_at_succ

/- just the checksum of what was read is left -/
set_option maxRecDepth 100000 in
set_option maxHeartbeats 4000000 in
theorem atSum_any (w : World) (rb k : Nat) (s : ByteArray) (_hs : s.size ≤ 9223372036854775807) (hk : k ≤ s.size) (hk2 : k ≤ 1000000) (hk1 : 1 ≤ k) (h : w.heap[rb]? = some (.cells #[.string s, .int .i64 k] 270)) :
    Calls Tryz.prog 188 #[.pointer (some ⟨rb, 0, none⟩)] w fun e w' => e = .returned (.bool (decide (s.data.toList = sealL (s.data.toList.take k)))) ∧ Below w.heap.size w w' := by
  have y0 : w.cell? ⟨rb, 0, none⟩ = some (.string s) := by rw [cell_of_blk h]; rfl
  have y1 : w.cell? ⟨rb, 1, none⟩ = some (.int .i64 k) := by rw [cell_of_blk h]; rfl
  have hrl := lt_of_blk h
  have hk0 : (0 : Int) ≤ (k : Int) := by omega
  have hk3 : (k : Int) ≤ (s.size : Int) := by omega
  obtain ⟨t, htE⟩ : ∃ t, s.extract 0 k = t := ⟨_, rfl⟩
  have HTL : Hid (t.data.toList = s.data.toList.take k) := by
    show _ = _
    rw [← htE]
    simp [ByteArray.data_extract]
  have HTS : Hid (t.size = k) := by
    show _ = _
    have := congrArg List.length HTL.out
    simp only [List.length_take, Array.length_toList] at this
    have e1 : t.data.size = t.size := rfl
    have e2 : s.data.size = s.size := rfl
    omega
  obtain ⟨gc, hgc⟩ : ∃ gc, grownCap w.drew t.size 0 5 = gc := ⟨_, rfl⟩
  have hcv : (convert 9 63 (.string t)).run Tryz.prog w.drew = .ok (.slice (some ⟨w.heap.size, 0, none⟩) t.size gc) (w.alloc (.cells (bytesRow t gc) 5 ((bytesRow t gc).size, (bytesRow t gc).size + 1))).drew.drew := by
    have := run_bytes_of_string (P := Tryz.prog) w.drew 9 63 5 t Tryz.underlying9 Tryz.underlying63 Tryz.underlying5
    rw [hgc] at this
    exact this
  have HBR : Hid (BytesR (w.alloc (.cells (bytesRow t gc) 5 ((bytesRow t gc).size, (bytesRow t gc).size + 1))).drew.drew w.heap.size t.data.toList gc) := BytesR.of w.drew t gc (by rw [← hgc]; exact grownCap_ge _ _ _ _)
  have HBW : Hid (Below w.heap.size w (w.alloc (.cells (bytesRow t gc) 5 ((bytesRow t gc).size, (bytesRow t gc).size + 1))).drew.drew) := below_drewN (newB w _) 2
  have HNE : Hid (sealL t.data.toList ≠ []) := fun e => by have := congrArg List.length e; rw [sealL_len] at this; simp at this
  have HCA : Hid (Calls Tryz.prog 120 #[.slice (some ⟨w.heap.size, 0, none⟩) t.size gc] (w.alloc (.cells (bytesRow t gc) 5 ((bytesRow t gc).size, (bytesRow t gc).size + 1))).drew.drew fun e w' => ∃ v, e = .returned v ∧ BytesV w' v (sealL t.data.toList) ∧ Below w.heap.size w w') := by
    have hl : t.data.toList.length = t.size := by simp
    have := seal_arg w _ w.heap.size gc t.data.toList HBR.out HBW.out (Nat.le_refl _) (by rw [hl, HTS.out]; exact hk2)
    rw [hl] at this
    exact this
  have HSB : Hid (∀ V V', (V.cell? ⟨rb, 0, none⟩ = some (.string s) ∧ V.cell? ⟨rb, 1, none⟩ = some (.int .i64 k) ∧ Below w.heap.size w V) → Below V.heap.size V V' → (V'.cell? ⟨rb, 0, none⟩ = some (.string s) ∧ V'.cell? ⟨rb, 1, none⟩ = some (.int .i64 k) ∧ Below w.heap.size w V')) := fun V V' h hb2 => by
    have hb := h.2.2
    have hl : rb < V.heap.size := by have := hb.size; omega
    exact ⟨(hb2.cell (p := ⟨rb, 0, none⟩) hl).trans h.1, (hb2.cell (p := ⟨rb, 1, none⟩) hl).trans h.2.1, hb.trans (hb2.mono hb.size)⟩
  have HEQ : Hid ((s.toList == (ba (sealL t.data.toList)).toList) = decide (s.data.toList = sealL (s.data.toList.take k))) := by
    show _ = _
    rw [ByteArray.toList_eq, ByteArray.toList_eq, mk_data, HTL.out]
    by_cases h : s.data.toList = sealL (s.data.toList.take k)
    · rw [decide_eq_true h]; exact beq_iff_eq.2 h
    · rw [decide_eq_false h]; simpa using h
  clear h hgc
  go_enter Tryz.func188, Tryz.ntmps188
  go_upto_region 1 with fail
  have z0 : (w.alloc (.cells (bytesRow t gc) 5 ((bytesRow t gc).size, (bytesRow t gc).size + 1))).drew.drew.cell? ⟨rb, 0, none⟩ = some (.string s) := (HBW.out.cell (p := ⟨rb, 0, none⟩) hrl).trans y0
  have z1 : (w.alloc (.cells (bytesRow t gc) 5 ((bytesRow t gc).size, (bytesRow t gc).size + 1))).drew.drew.cell? ⟨rb, 1, none⟩ = some (.int .i64 k) := (HBW.out.cell (p := ⟨rb, 1, none⟩) hrl).trans y1
  go_region_law (first
    | (go_simp; go_at_call 120
       refine HCA.out.mono ?_
       rintro e w3 ⟨v, rfl, hbv, hb3⟩
       have hcv2 := conv_bytes hbv HNE.out
       have u0 : w3.cell? ⟨rb, 0, none⟩ = some (.string s) := (hb3.cell (p := ⟨rb, 0, none⟩) hrl).trans y0
       have u1 : w3.cell? ⟨rb, 1, none⟩ = some (.int .i64 k) := (hb3.cell (p := ⟨rb, 1, none⟩) hrl).trans y1))
  all_goals go_wp2_with fail
  all_goals go_ret
  all_goals exact ⟨by rw [← HEQ.out]; rfl, hb3⟩
end Go.Proofs.YteioennfpkoagaaGreatDoor.C
namespace Go.Proofs.YteioennfpkoagaaGreatDoor.C
open Go.RowKit K
attribute [local go_sem ↓] Go.wp_at_zero Go.wp_at_succ

/- a list in the making in a struct, beside one element and a box -/
structure IS (w : World) (bx wb ob : Nat) (bc wc oc : Array Value) (t : TypeId) (e sz : Nat) (row : Value) (n : Nat) (xs : List Value) (V : World) : Prop where
  bel : Below w.heap.size w V
  box : V.heap[bx]? = some (.cells bc 34 (0, 0))
  who : V.heap[wb]? = some (.cells wc 34 (0, 0))
  one : V.heap[ob]? = some (.cells oc t (0, 0))
  own : V.ownsRow (wb + 1) e sz row n xs
  far : row.ownBlock ≠ some ob
  ord : w.heap.size ≤ bx ∧ bx < wb ∧ wb < ob
section
variable {w V V' V9 : World} {bx wb ob : Nat} {bc wc oc : Array Value} {t : TypeId} {e sz : Nat} {row : Value} {n : Nat} {xs : List Value}
theorem IS.start (hbel : Below w.heap.size w V) (hbox : V.heap[bx]? = some (.cells bc 34 (0, 0))) (hwho : V.heap[wb]? = some (.cells wc 34 (0, 0))) (hown : V.ownsRow (wb + 1) e sz row n xs) (hord : w.heap.size ≤ bx ∧ bx < wb) (oc : Array Value) (t : TypeId) : IS w bx wb V.heap.size bc wc oc t e sz row n xs (V.alloc (.cells oc t)) :=
  ⟨hbel.trans ((newB V _).mono hbel.size), heap_old V _ hbox, heap_old V _ hwho, heap_new V _, hown.alloc _, fun h => by have := (hown.lt _ h).2; omega, by have := lt_of_blk hwho; omega⟩
theorem IS.below (h : IS w bx wb ob bc wc oc t e sz row n xs V) (hb : Below V.heap.size V V') : IS w bx wb ob bc wc oc t e sz row n xs V' :=
  ⟨h.bel.trans (hb.mono h.bel.size), keepN h.box hb, keepN h.who hb, keepN h.one hb, own_stays h.own hb, h.far, h.ord⟩
theorem IS.set (h : IS w bx wb ob bc wc oc t e sz row n xs V) (i : Nat) (u : Value) : IS w bx wb ob bc wc (oc.setIfInBounds i u) t e sz row n xs (V.setCell ⟨ob, i, none⟩ u) := by
  obtain ⟨o1, o2, o3⟩ := h.ord
  exact ⟨h.bel.setCell (p := ⟨ob, i, none⟩) (by show w.heap.size ≤ ob; omega) _, (blk_far i u (by omega)).trans h.box, (blk_far i u (by omega)).trans h.who, blk_set i u h.one, owns_keep h.own fun k hk => blk_far i u (fun e => h.far (e ▸ hk)), h.far, h.ord⟩
theorem IS.cellO (h : IS w bx wb ob bc wc oc t e sz row n xs V) (i : Nat) : V.cell? ⟨ob, i, none⟩ = oc[i]? := cell_of_blk h.one
theorem IS.freeO (h : IS w bx wb ob bc wc oc t e sz row n xs V) (i : Nat) : V.frozen? ⟨ob, i, none⟩ = false := frozen_of_blk h.one
theorem IS.cellW (h : IS w bx wb ob bc wc oc t e sz row n xs V) (i : Nat) : V.cell? ⟨wb, i, none⟩ = wc[i]? := cell_of_blk h.who
theorem IS.cellB (h : IS w bx wb ob bc wc oc t e sz row n xs V) (i : Nat) : V.cell? ⟨bx, i, none⟩ = bc[i]? := cell_of_blk h.box
theorem IS.grown (h : IS w bx wb ob bc wc oc t e sz row n xs V) (o : Obj) (hg : (V.alloc o).grownBy V9 row.ownBlock) (hne : 34 ≠ e) : Below w.heap.size w V9 ∧ V9.heap[bx]? = some (.cells bc 34 (0, 0)) ∧ V9.heap[wb]? = some (.cells wc 34 (0, 0)) := by
  have hF := Frm.grown hg
  have hb := newB V o
  obtain ⟨o1, o2, o3⟩ := h.ord
  have ha := h.own.alloc o
  refine ⟨(h.bel.trans (hb.mono h.bel.size)).grown hg (Nat.le_trans h.bel.size hb.size) (fun k hk => by have := (h.own.lt k hk).1; omega), ?_, ?_⟩
  · rw [hF.block bx (by have := lt_of_blk h.box; have := hb.size; omega) (fun e => own_not_blk h.own h.box hne e.symm), hb.block bx (lt_of_blk h.box)]
    exact h.box
  · rw [hF.block wb (by have := lt_of_blk h.who; have := hb.size; omega) (fun e => own_not_blk h.own h.who hne e.symm), hb.block wb (lt_of_blk h.who)]
    exact h.who
theorem IS.app (h : IS w bx wb ob bc wc oc t e sz row n xs V) (o : Obj) (hg : (V.alloc o).grownBy V9 row.ownBlock) (hne : 34 ≠ e) {m g9 c9 : Nat} {xs' : List Value} (hown9 : V9.ownsRow (wb + 1) e sz (.slice (some ⟨g9, 0, none⟩) m c9) m xs') (i : Nat) (u : Value) :
    Below w.heap.size w (V9.setCell ⟨wb, i, none⟩ u) ∧ (V9.setCell ⟨wb, i, none⟩ u).heap[bx]? = some (.cells bc 34 (0, 0)) ∧ (V9.setCell ⟨wb, i, none⟩ u).heap[wb]? = some (.cells (wc.setIfInBounds i u) 34 (0, 0)) ∧ (V9.setCell ⟨wb, i, none⟩ u).ownsRow (wb + 1) e sz (.slice (some ⟨g9, 0, none⟩) m c9) m xs' := by
  obtain ⟨h1, h2, h3⟩ := h.grown o hg hne
  obtain ⟨o1, o2, o3⟩ := h.ord
  refine ⟨h1.setCell (p := ⟨wb, i, none⟩) (by show w.heap.size ≤ wb; omega) _, (blk_far i u (by omega)).trans h2, blk_set i u h3, owns_keep hown9 fun k hk => blk_far i u (fun e => ?_)⟩
  have := (hown9.lt k hk).1
  omega
end
theorem parts_see {w : World} {B : Nat} {v : Value} {ys : List (PartD × Value)} (h : w.ownsRow B 42 5 v ys.length (pC ys)) (hr : ∀ y ∈ ys, RegsV w y.2 y.1.regs ∧ capV y.2) : PartsV w v (ys.map Prod.fst) ∧ PartsC w v (ys.map Prod.fst).length := by
  have hlen : (ys.map Prod.fst).length = ys.length := by simp
  rcases own_form h with ⟨h0, rfl⟩ | ⟨g, cap, rfl, hle⟩
  · have : ys = [] := List.eq_nil_of_length_eq_zero h0
    subst this
    exact ⟨⟨_, _, rfl, fun i hi => absurd hi (by simp)⟩, ⟨_, _, _, rfl, Nat.le_refl _⟩, fun i hi => absurd hi (by simp)⟩
  · have hc : ∀ i (hi : i < ys.length) j, j < 5 → w.cell? ⟨g, i * 5 + j, none⟩ = (pC1 ys[i])[j]? := fun i hi j hj => by
      rw [World.ownsRow.cellAt h _ (by omega)]
      exact flat_at pC1 5 (fun _ => rfl) ys i j hi hj
    constructor
    · refine ⟨some ⟨g, 0, none⟩, cap, by rw [hlen], fun i hi => ⟨g, 0, (ys[i]'(by omega)).2, rfl, ?_⟩⟩
      have hi' : i < ys.length := by omega
      rw [List.getElem_map, Nat.zero_add]
      exact ⟨hc i hi' 0 (by omega), hc i hi' 1 (by omega), hc i hi' 2 (by omega), hc i hi' 3 (by omega), hc i hi' 4 (by omega), (hr _ (List.getElem_mem hi')).1⟩
    · refine ⟨⟨_, _, _, rfl, by omega⟩, fun i hi b off l c e rv hcc => ?_⟩
      have hi' : i < ys.length := by omega
      simp only [Value.slice.injEq, Option.some.injEq, Addr.mk.injEq, and_true] at e
      obtain ⟨⟨rfl, rfl⟩, _, _⟩ := e
      rw [Nat.zero_add, hc i hi' 4 (by omega)] at hcc
      have : (ys[i]'hi').2 = rv := by simpa [pC1] using hcc
      rw [← this]
      exact (hr _ (List.getElem_mem hi')).2
/- what has been made of the partitions so far -/
structure YS (w : World) (pl : List Int) (ps : List PartD) (k : Nat) (ys : List (PartD × Value)) : Prop where
  len : ys.length = k
  all : ∀ j (h : j < ys.length) (h2 : j < ps.length), ys[j].1 = wholeP pl.length pl j ps[j]
  reg : ∀ y ∈ ys, RegsV w y.2 y.1.regs ∧ capV y.2
theorem YS.snoc {w : World} {pl : List Int} {ps : List PartD} {k : Nat} {ys : List (PartD × Value)} (h : YS w pl ps k ys) (hk : k < ps.length) (rv : Value) (hr : RegsV w rv ps[k].regs) (hc : capV rv) : YS w pl ps (k + 1) (ys ++ [(wholeP pl.length pl k ps[k], rv)]) := by
  refine ⟨by rw [List.length_append, h.len]; rfl, fun j hj h2 => ?_, fun y hy => ?_⟩
  · by_cases e : j < ys.length
    · rw [List.getElem_append_left e]; exact h.all j e h2
    · have hj2 : j = ys.length := by simp at hj; omega
      have hk2 := h.len
      subst hj2
      subst hk2
      simp
  · rcases List.mem_append.1 hy with hy | hy
    · exact h.reg y hy
    · simp at hy
      subst hy
      exact ⟨hr, hc⟩
theorem YS.fin {w : World} {pl : List Int} {ps : List PartD} {k : Nat} {ys : List (PartD × Value)} (h : YS w pl ps k ys) (hk : k = ps.length) : ys.map Prod.fst = ps.mapIdx (wholeP pl.length pl) := by
  apply List.ext_getElem
  · simp [h.len, hk]
  · intro j h1 h2
    rw [List.getElem_map, List.getElem_mapIdx]
    have hl := h.len
    exact h.all j (by simpa using h1) (by simp at h1; omega)
set_option maxRecDepth 100000 in
set_option maxHeartbeats 8000000 in
theorem isRight_any (w : World) (pl : List Int) (ps : List PartD) (cs : List ChanD) (pv cv qv : Value) (hp : PartsV w pv ps) (hpc : PartsC w pv ps.length) (hc : ChansV w cv cs) (hcc : capV cv) (hq : PlanV w qv pl) (hn : ps.length ≤ 255) (hm : cs.length ≤ 255) (hl : pl.length ≤ 255) (hrl : ∀ x ∈ ps, x.regs.length ≤ 255) (htb : TB w) :
    Calls Tryz.prog 189 #[.agg #[.int .i64 (pl.length : Int), pv, cv], qv] w fun e w' => e = .returned (.bool (rightB pl ps cs)) ∧ Below w.heap.size w w' := by
  have HP : Hid (PartsV w pv ps) := hp
  have HPC : Hid (PartsC w pv ps.length) := hpc
  have HC : Hid (ChansV w cv cs) := hc
  have HCC : Hid (capV cv) := hcc
  have HQ : Hid (PlanV w qv pl) := hq
  have HTB : Hid (TB w) := htb
  have HRL : Hid (∀ x ∈ ps, x.regs.length ≤ 255) := hrl
  obtain ⟨va, cap, rfl, _⟩ := hp
  obtain ⟨ca, ck, rfl, _⟩ := hc
  obtain ⟨qa, qk, rfl, _⟩ := hq
  clear hpc hcc htb hrl
  obtain ⟨i0, hi0, hz0, hz1, hz2⟩ := parts_of infoPartI
  obtain ⟨j0, hj0, hy0, hy1, hy2⟩ := parts_of infoChanI
  go_enter Tryz.func189, Tryz.ntmps189
  go_wp2_with fail
  have b0 := newB w (.cells #[.int .i64 (pl.length : Int), .slice va ps.length cap, .slice ca cs.length ck] 34)
  have h0 := heap_new w (.cells #[.int .i64 (pl.length : Int), .slice va ps.length cap, .slice ca cs.length ck] 34)
  have HB0 : Hid (Below w.heap.size w (w.alloc (.cells #[.int .i64 (pl.length : Int), .slice va ps.length cap, .slice ca cs.length ck] 34))) := b0
  have HH0 : Hid ((w.alloc (.cells #[.int .i64 (pl.length : Int), .slice va ps.length cap, .slice ca cs.length ck] 34)).heap[w.heap.size]? = some (.cells #[.int .i64 (pl.length : Int), .slice va ps.length cap, .slice ca cs.length ck] 34 (0, 0))) := h0
  clear b0 h0
  generalize w.alloc (.cells #[.int .i64 (pl.length : Int), .slice va ps.length cap, .slice ca cs.length ck] 34) = W0 at *
  refine Calls.mono (contains_strange w.heap.size ps.length cap va pl _ W0 (HQ.out.below HB0.out) hl hn (by rw [cell_of_blk HH0.out]; rfl)) ?_
  rintro e w1 ⟨rfl, hb1⟩
  have HB1 : Hid (Below w.heap.size w w1) := HB0.out.trans (hb1.mono HB0.out.size)
  have HH1 : Hid (w1.heap[w.heap.size]? = some (.cells #[.int .i64 (pl.length : Int), .slice va ps.length cap, .slice ca cs.length ck] 34 (0, 0))) := keepN HH0.out hb1
  clear hb1
  cases hst : strange pl ps.length
  · have HST : Hid (rightB pl ps cs = decide (checkF (wholeM pl ps cs) = 0)) := by show _ = _; unfold rightB; rw [hst]; rfl
    have y0 : w1.cell? ⟨w.heap.size, 0, none⟩ = some (.int .i64 (pl.length : Int)) := by rw [cell_of_blk HH1.out]; rfl
    have y1 : w1.cell? ⟨w.heap.size, 1, none⟩ = some (.slice va ps.length cap) := by rw [cell_of_blk HH1.out]; rfl
    clear hst
    have h2 := heap_new w1 (.cells #[.int .i64 (pl.length : Int), .slice none 0 0, .slice none 0 0] 34)
    have HB2 : Hid (Below w.heap.size w (w1.alloc (.cells #[.int .i64 (pl.length : Int), .slice none 0 0, .slice none 0 0] 34))) := HB1.out.trans ((newB w1 _).mono HB1.out.size)
    have HH2 : Hid ((w1.alloc (.cells #[.int .i64 (pl.length : Int), .slice none 0 0, .slice none 0 0] 34)).heap[w.heap.size]? = some (.cells #[.int .i64 (pl.length : Int), .slice va ps.length cap, .slice ca cs.length ck] 34 (0, 0))) := keepN HH1.out (newB w1 _)
    have HW2 : Hid ((w1.alloc (.cells #[.int .i64 (pl.length : Int), .slice none 0 0, .slice none 0 0] 34)).heap[w1.heap.size]? = some (.cells #[.int .i64 (pl.length : Int), .slice none 0 0, .slice none 0 0] 34 (0, 0))) := h2
    have hw1 : w.heap.size < w1.heap.size := lt_of_blk HH1.out
    clear h2
    have y1' : (w1.alloc (.cells #[.int .i64 (pl.length : Int), .slice none 0 0, .slice none 0 0] 34)).cell? ⟨w.heap.size, 1, none⟩ = some (.slice va ps.length cap) := by rw [cell_of_blk HH2.out]; rfl
    go_wp2_with fail
    generalize w1.alloc (.cells #[.int .i64 (pl.length : Int), .slice none 0 0, .slice none 0 0] 34) = W2 at *
    generalize w1.heap.size = wb at *
    go_loopw [21] (fun v wr => ∃ (k : Nat) (ra : Option Addr) (rc : Nat) (ys : List (PartD × Value)), v = .int .i64 k ∧ k ≤ ps.length ∧ Hid (YS w pl ps k ys) ∧ Hid (wr.ownsRow (wb + 1) 42 5 (.slice ra k rc) k (pC ys)) ∧ Hid (Below w.heap.size w wr) ∧ Hid (wr.heap[w.heap.size]? = some (.cells #[.int .i64 (pl.length : Int), .slice va ps.length cap, .slice ca cs.length ck] 34 (0, 0))) ∧ Hid (wr.heap[wb]? = some (.cells #[.int .i64 (pl.length : Int), .slice ra k rc, .slice none 0 0] 34 (0, 0)))) (fun v _ => ps.length - (intOf v).toNat)
    case atStart => exact ⟨0, none, 0, [], rfl, by omega, ⟨rfl, fun j h => absurd h (by simp), fun y hy => by cases hy⟩, World.ownsRow_nil _ _ _ _, HB2, HH2, HW2⟩
    case round =>
      obtain ⟨k, ra, rc, ys, rfl, hk, HYS, HOW, HBR, HBX, HWB⟩ := hrel
      clear HB2 HH2 HW2
      by_cases hlt : k < ps.length
      · have hlt' : (k : Int) < (ps.length : Int) := by omega
        have hk0 : (0 : Int) ≤ (k : Int) := by omega
        obtain ⟨va9, cap9, e9, hx9⟩ := HP.out
        obtain ⟨rfl, rfl⟩ : va = va9 ∧ cap = cap9 := by cases e9; exact ⟨rfl, rfl⟩
        obtain ⟨b, off, rv, rfl, x0, x1, x2, x3, x4, xr⟩ := hx9 k hlt
        have HCV : Hid (capV rv) := HPC.out.2 k hlt b off _ _ rfl rv x4
        have hbl := World.block_lt_of_cell? w _ x0
        have s0 := (HBR.out.cell (by exact hbl)).trans x0
        have s1 := (HBR.out.cell (by exact hbl)).trans x1
        have s2 := (HBR.out.cell (by exact hbl)).trans x2
        have s3 := (HBR.out.cell (by exact hbl)).trans x3
        have s4 := (HBR.out.cell (by exact hbl)).trans x4
        have HXR : Hid (RegsV w rv ps[k].regs) := xr
        obtain ⟨rra, rrc, rfl, _⟩ := xr
        have HYS2 : Hid (YS w pl ps (k + 1) (ys ++ [(wholeP pl.length pl k ps[k], .slice rra ps[k].regs.length rrc)])) := HYS.out.snoc hlt _ HXR.out HCV.out
        have HIS0 : Hid (IS w w.heap.size wb wr.heap.size #[.int .i64 (pl.length : Int), .slice (some ⟨b, off, none⟩) ps.length cap, .slice ca cs.length ck] #[.int .i64 (pl.length : Int), .slice ra k rc, .slice none 0 0] #[.string ps[k].name, .int .i64 ps[k].period, .int .i64 ps[k].duration, .int .i64 ps[k].action, .slice rra ps[k].regs.length rrc] 42 42 5 (.slice ra k rc) k (pC ys) (wr.alloc (.cells #[.string ps[k].name, .int .i64 ps[k].period, .int .i64 ps[k].duration, .int .i64 ps[k].action, .slice rra ps[k].regs.length rrc] 42))) := IS.start HBR.out HBX.out HWB.out HOW.out ⟨Nat.le_refl _, hw1⟩ _ _
        have HYL : Hid (ys.length = k) := HYS.out.len
        clear x0 x1 x2 x3 x4 hx9 e9 HOW HBX HWB HYS
        generalize ps[k] = q at *
        go_wp2_with fail
        clear s0 s1 s2 s3 s4
        generalize wr.alloc (.cells #[.string q.name, .int .i64 q.period, .int .i64 q.duration, .int .i64 q.action, .slice rra q.regs.length rrc] 42) = V1 at *
        generalize wr.heap.size = ob at *
        refine Calls.mono (someName_any V1 k (by omega) (HTB.out.below HIS0.out.bel)) ?_
        rintro e V2 ⟨rfl, hb2⟩
        have HIS1 : Hid _ := HIS0.out.below hb2
        have c0 : V2.cell? ⟨ob, 0, none⟩ = some (.string q.name) := HIS1.out.cellO 0
        have g0 : V2.frozen? ⟨ob, 0, none⟩ = false := HIS1.out.freeO 0
        have HIS2 : Hid _ := HIS1.out.set 0 (.string (someN k))
        have c1 : (V2.setCell ⟨ob, 0, none⟩ (.string (someN k))).cell? ⟨ob, 1, none⟩ = some (.int .i64 q.period) := HIS2.out.cellO 1
        have g1 : (V2.setCell ⟨ob, 0, none⟩ (.string (someN k))).frozen? ⟨ob, 1, none⟩ = false := HIS2.out.freeO 1
        have cb : (V2.setCell ⟨ob, 0, none⟩ (.string (someN k))).cell? ⟨w.heap.size, 0, none⟩ = some (.int .i64 (pl.length : Int)) := HIS2.out.cellB 0
        have HIS3 : Hid _ := HIS2.out.set 1 (.int .i64 (pl.length : Int))
        obtain ⟨sn, hsn⟩ : ∃ sn, someN k = sn := ⟨_, rfl⟩
        have HSN : Hid (someN k = sn) := hsn
        rw [hsn] at HIS2 HIS3 c1 g1 cb ⊢
        clear hsn
        clear hb2
        go_wp2_with fail
        clear c0 g0 c1 g1 cb
        generalize (V2.setCell ⟨ob, 0, none⟩ (.string sn)).setCell ⟨ob, 1, none⟩ (.int .i64 (pl.length : Int)) = V3 at *
        refine Calls.mono (ticksOf_any V3 _ pl k (HQ.out.below HIS3.out.bel) hl) ?_
        rintro e V4 ⟨rfl, hV⟩
        have hV2 := hV.symm
        clear hV
        subst hV2
        have c2 : V3.cell? ⟨ob, 2, none⟩ = some (.int .i64 q.duration) := HIS3.out.cellO 2
        have g2 : V3.frozen? ⟨ob, 2, none⟩ = false := HIS3.out.freeO 2
        obtain ⟨cn, hcn⟩ : ∃ cn, countP pl k = cn := ⟨_, rfl⟩
        have HQN : Hid (wholeP pl.length pl k q = ⟨sn, pl.length, cn, q.action, q.regs⟩) := by
          show _ = _
          unfold wholeP
          rw [hcn, HSN.out]
        rw [hcn]
        clear hcn
        have HIS4 : Hid (IS w w.heap.size wb ob #[.int .i64 (pl.length : Int), .slice (some ⟨b, off, none⟩) ps.length cap, .slice ca cs.length ck] #[.int .i64 (pl.length : Int), .slice ra k rc, .slice none 0 0] #[.string sn, .int .i64 (pl.length : Int), .int .i64 cn, .int .i64 q.action, .slice rra q.regs.length rrc] 42 42 5 (.slice ra k rc) k (pC ys) (V3.setCell ⟨ob, 2, none⟩ (.int .i64 cn))) := HIS3.out.set 2 (.int .i64 cn)
        have d0 : (V3.setCell ⟨ob, 2, none⟩ (.int .i64 cn)).cell? ⟨ob, 0, none⟩ = some (.string sn) := HIS4.out.cellO 0
        have d1 : (V3.setCell ⟨ob, 2, none⟩ (.int .i64 cn)).cell? ⟨ob, 1, none⟩ = some (.int .i64 (pl.length : Int)) := HIS4.out.cellO 1
        have d2 : (V3.setCell ⟨ob, 2, none⟩ (.int .i64 cn)).cell? ⟨ob, 2, none⟩ = some (.int .i64 cn) := HIS4.out.cellO 2
        have d3 : (V3.setCell ⟨ob, 2, none⟩ (.int .i64 cn)).cell? ⟨ob, 3, none⟩ = some (.int .i64 q.action) := HIS4.out.cellO 3
        have d4 : (V3.setCell ⟨ob, 2, none⟩ (.int .i64 cn)).cell? ⟨ob, 4, none⟩ = some (.slice rra q.regs.length rrc) := HIS4.out.cellO 4
        have d5 : (V3.setCell ⟨ob, 2, none⟩ (.int .i64 cn)).cell? ⟨wb, 1, none⟩ = some (.slice ra k rc) := HIS4.out.cellW 1
        clear HIS0 HIS1 HIS2 HIS3
        go_upto_region 11 with fail
        clear c2 g2
        generalize V3.setCell ⟨ob, 2, none⟩ (.int .i64 cn) = V5 at *
        go_wp2_with (first
          | (at_builtin; refine wpList_append_lies _ rfl _ _ _ rfl (wb + 1) 42 i0 _ 5 64 Tryz.underlying31 hi0 hz0 hz1 hz2 rfl (by omega) (.slice ra k rc) k (pC ys) rfl (HIS4.out.own.alloc _) ⟨V5.heap.size, 0, none⟩ 1 1 [.string sn, .int .i64 (pl.length : Int), .int .i64 cn, .int .i64 q.action, .slice rra q.regs.length rrc] rfl rfl (World.news_of_block (cs := #[.string sn, .int .i64 (pl.length : Int), .int .i64 cn, .int .i64 q.action, .slice rra q.regs.length rrc]) (t := 42) (fr := (0, 0)) (heap_new V5 _)) (by simp [Value.oneCell']) (by omega) (by unfold maxLen; omega) (by omega) (by have := lt_of_blk HIS4.out.who; simp; omega) (V5.heap.size + 1) (by simp) ?_; intro g9 c9 V9 hown9 hgrow9 hat9 hlt9
             have hw9 := (HIS4.out.grown _ hgrow9 (by decide)).2.2
             have c91 : V9.cell? ⟨wb, 1, none⟩ = some (.slice ra k rc) := by rw [cell_of_blk hw9]; rfl
             have f91 : V9.frozen? ⟨wb, 1, none⟩ = false := frozen_of_blk hw9
             clear hw9)
          | fail)
        obtain ⟨k1, k2, k3, k4⟩ := HIS4.out.app _ hgrow9 (by decide) hown9 1 (.slice (some ⟨g9, 0, none⟩) (k + 1) c9)
        refine ⟨⟨k + 1, _, c9, _, by go_num, by omega, HYS2, ?_, k1, k2, k3⟩, by simp [intOf]; omega⟩
        have e : pC (ys ++ [(wholeP pl.length pl k q, .slice rra q.regs.length rrc)]) = pC ys ++ [.string sn, .int .i64 (pl.length : Int), .int .i64 cn, .int .i64 q.action, .slice rra q.regs.length rrc] := by rw [HQN.out]; simp [pC, pC1]
        rw [e]
        exact k4
      · have hlt' : ¬ (k : Int) < (ps.length : Int) := by omega
        have hke : k = ps.length := by omega
        subst hke
        have y2 : wr.cell? ⟨w.heap.size, 2, none⟩ = some (.slice ca cs.length ck) := by rw [cell_of_blk HBX.out]; rfl
        have HPL : Hid (ys.map Prod.fst = ps.mapIdx (wholeP pl.length pl)) := HYS.out.fin rfl
        have HRG : Hid (∀ y ∈ ys, RegsV w y.2 y.1.regs ∧ capV y.2) := HYS.out.reg
        have HYL : Hid (ys.length = ps.length) := HYS.out.len
        clear HYS hlt hk
        go_wp2_with fail
        clear y2 hlt'
        generalize wr = X1 at *
        go_loopw [46] (fun v wr => ∃ (j : Nat) (ra2 : Option Addr) (rc2 : Nat) (X : List ChanD), v = .int .i64 j ∧ j ≤ cs.length ∧ Hid (X.length = j ∧ ∀ i (h : i < X.length) (h2 : i < cs.length), X[i] = wholeC i cs[i]) ∧ Hid (wr.ownsRow (wb + 1) 92 6 (.slice ra2 j rc2) j (cC X)) ∧ Hid (wr.ownsRow (wb + 1) 42 5 (.slice ra ps.length rc) ps.length (pC ys)) ∧ Hid (Below w.heap.size w wr) ∧ Hid (wr.heap[w.heap.size]? = some (.cells #[.int .i64 (pl.length : Int), .slice va ps.length cap, .slice ca cs.length ck] 34 (0, 0))) ∧ Hid (wr.heap[wb]? = some (.cells #[.int .i64 (pl.length : Int), .slice ra ps.length rc, .slice ra2 j rc2] 34 (0, 0)))) (fun v _ => cs.length - (intOf v).toNat)
        case atStart => exact ⟨0, none, 0, [], rfl, by omega, ⟨rfl, fun i h => absurd h (by simp)⟩, World.ownsRow_nil _ _ _ _, HOW, HBR, HBX, HWB⟩
        case round =>
          obtain ⟨j, ra2, rc2, X, rfl, hj, HXS, HO2, HO1, HBR2, HBX2, HWB2⟩ := hrel
          clear HOW HBR HBX HWB
          by_cases hlt : j < cs.length
          · have hlt' : (j : Int) < (cs.length : Int) := by omega
            have hj0' : (0 : Int) ≤ (j : Int) := by omega
            obtain ⟨ca9, ck9, e9, hx9⟩ := HC.out
            obtain ⟨rfl, rfl⟩ : ca = ca9 ∧ ck = ck9 := by cases e9; exact ⟨rfl, rfl⟩
            obtain ⟨b, off, rfl, x0, x1, x2, x3, x4, x5⟩ := hx9 j hlt
            have hbl := World.block_lt_of_cell? w _ x0
            have s0 := (HBR2.out.cell (by exact hbl)).trans x0
            have s1 := (HBR2.out.cell (by exact hbl)).trans x1
            have s2 := (HBR2.out.cell (by exact hbl)).trans x2
            have s3 := (HBR2.out.cell (by exact hbl)).trans x3
            have s4 := (HBR2.out.cell (by exact hbl)).trans x4
            have s5 := (HBR2.out.cell (by exact hbl)).trans x5
            have HXS2 : Hid ((X ++ [wholeC j cs[j]]).length = j + 1 ∧ ∀ i (h : i < (X ++ [wholeC j cs[j]]).length) (h2 : i < cs.length), (X ++ [wholeC j cs[j]])[i] = wholeC i cs[i]) := by
              obtain ⟨h1, h2⟩ := HXS.out
              refine ⟨by rw [List.length_append, h1]; rfl, fun i hi hi2 => ?_⟩
              by_cases e : i < X.length
              · rw [List.getElem_append_left e]; exact h2 i e hi2
              · have hi3 : i = j := by simp at hi; omega
                subst hi3
                rw [List.getElem_append_right (by omega)]
                simp
            have HIS0 : Hid (IS w w.heap.size wb wr.heap.size #[.int .i64 (pl.length : Int), .slice va ps.length cap, .slice (some ⟨b, off, none⟩) cs.length ck] #[.int .i64 (pl.length : Int), .slice ra ps.length rc, .slice ra2 j rc2] #[.string cs[j].name, .int .i64 cs[j].source, .int .i64 cs[j].target, .int .i64 cs[j].kind, .int .i64 cs[j].size, .int .i64 cs[j].depth] 92 92 6 (.slice ra2 j rc2) j (cC X) (wr.alloc (.cells #[.string cs[j].name, .int .i64 cs[j].source, .int .i64 cs[j].target, .int .i64 cs[j].kind, .int .i64 cs[j].size, .int .i64 cs[j].depth] 92))) := IS.start HBR2.out HBX2.out HWB2.out HO2.out ⟨Nat.le_refl _, hw1⟩ _ _
            have HP0 : Hid ((wr.alloc (.cells #[.string cs[j].name, .int .i64 cs[j].source, .int .i64 cs[j].target, .int .i64 cs[j].kind, .int .i64 cs[j].size, .int .i64 cs[j].depth] 92)).ownsRow (wb + 1) 42 5 (.slice ra ps.length rc) ps.length (pC ys)) := HO1.out.alloc _
            clear x0 x1 x2 x3 x4 x5 hx9 e9 HO2 HO1 HBX2 HWB2 HXS
            generalize cs[j] = q at *
            go_wp2_with fail
            clear s0 s1 s2 s3 s4 s5
            generalize wr.alloc (.cells #[.string q.name, .int .i64 q.source, .int .i64 q.target, .int .i64 q.kind, .int .i64 q.size, .int .i64 q.depth] 92) = V1 at *
            generalize wr.heap.size = ob at *
            refine Calls.mono (someName_any V1 j (by omega) (HTB.out.below HIS0.out.bel)) ?_
            rintro e V2 ⟨rfl, hb2⟩
            have HIS1 : Hid _ := HIS0.out.below hb2
            have HP1 : Hid (V2.ownsRow (wb + 1) 42 5 (.slice ra ps.length rc) ps.length (pC ys)) := own_stays HP0.out hb2
            have c0 : V2.cell? ⟨ob, 0, none⟩ = some (.string q.name) := HIS1.out.cellO 0
            have g0 : V2.frozen? ⟨ob, 0, none⟩ = false := HIS1.out.freeO 0
            obtain ⟨sn, hsn⟩ : ∃ sn, someN j = sn := ⟨_, rfl⟩
            have HSN : Hid (wholeC j q = ⟨sn, q.source, q.target, q.kind, q.size, q.depth⟩) := by
              show _ = _
              unfold wholeC
              rw [hsn]
            rw [hsn]
            clear hsn hb2
            have HIS2 : Hid (IS w w.heap.size wb ob #[.int .i64 (pl.length : Int), .slice va ps.length cap, .slice (some ⟨b, off, none⟩) cs.length ck] #[.int .i64 (pl.length : Int), .slice ra ps.length rc, .slice ra2 j rc2] #[.string sn, .int .i64 q.source, .int .i64 q.target, .int .i64 q.kind, .int .i64 q.size, .int .i64 q.depth] 92 92 6 (.slice ra2 j rc2) j (cC X) (V2.setCell ⟨ob, 0, none⟩ (.string sn))) := HIS1.out.set 0 (.string sn)
            have HP2 : Hid ((V2.setCell ⟨ob, 0, none⟩ (.string sn)).ownsRow (wb + 1) 42 5 (.slice ra ps.length rc) ps.length (pC ys)) := owns_keep HP1.out fun k hk => blk_far 0 _ (fun e => own_not_blk HP1.out HIS1.out.one (by decide) (e ▸ hk).symm)
            have d0 : (V2.setCell ⟨ob, 0, none⟩ (.string sn)).cell? ⟨ob, 0, none⟩ = some (.string sn) := HIS2.out.cellO 0
            have d1 : (V2.setCell ⟨ob, 0, none⟩ (.string sn)).cell? ⟨ob, 1, none⟩ = some (.int .i64 q.source) := HIS2.out.cellO 1
            have d2 : (V2.setCell ⟨ob, 0, none⟩ (.string sn)).cell? ⟨ob, 2, none⟩ = some (.int .i64 q.target) := HIS2.out.cellO 2
            have d3 : (V2.setCell ⟨ob, 0, none⟩ (.string sn)).cell? ⟨ob, 3, none⟩ = some (.int .i64 q.kind) := HIS2.out.cellO 3
            have d4 : (V2.setCell ⟨ob, 0, none⟩ (.string sn)).cell? ⟨ob, 4, none⟩ = some (.int .i64 q.size) := HIS2.out.cellO 4
            have d5 : (V2.setCell ⟨ob, 0, none⟩ (.string sn)).cell? ⟨ob, 5, none⟩ = some (.int .i64 q.depth) := HIS2.out.cellO 5
            have d6 : (V2.setCell ⟨ob, 0, none⟩ (.string sn)).cell? ⟨wb, 2, none⟩ = some (.slice ra2 j rc2) := HIS2.out.cellW 2
            clear HIS0 HIS1 HP0 HP1
            go_upto_region 17 with fail
            clear c0 g0
            generalize V2.setCell ⟨ob, 0, none⟩ (.string sn) = V5 at *
            go_wp2_with (first
              | (at_builtin; refine wpList_append_lies _ rfl _ _ _ rfl (wb + 1) 92 j0 _ 6 56 Tryz.underlying32 hj0 hy0 hy1 hy2 rfl (by omega) (.slice ra2 j rc2) j (cC X) rfl (HIS2.out.own.alloc _) ⟨V5.heap.size, 0, none⟩ 1 1 [.string sn, .int .i64 q.source, .int .i64 q.target, .int .i64 q.kind, .int .i64 q.size, .int .i64 q.depth] rfl rfl (World.news_of_block (cs := #[.string sn, .int .i64 q.source, .int .i64 q.target, .int .i64 q.kind, .int .i64 q.size, .int .i64 q.depth]) (t := 92) (fr := (0, 0)) (heap_new V5 _)) (by simp [Value.oneCell']) (by omega) (by unfold maxLen; omega) (by omega) (by have := lt_of_blk HIS2.out.who; simp; omega) (V5.heap.size + 1) (by simp) ?_; intro g9 c9 V9 hown9 hgrow9 hat9 hlt9
                 have hw9 := (HIS2.out.grown _ hgrow9 (by decide)).2.2
                 have c92 : V9.cell? ⟨wb, 2, none⟩ = some (.slice ra2 j rc2) := by rw [cell_of_blk hw9]; rfl
                 have f92 : V9.frozen? ⟨wb, 2, none⟩ = false := frozen_of_blk hw9
                 have HW9 : Hid (V9.heap[wb]? = some (.cells #[.int .i64 (pl.length : Int), .slice ra ps.length rc, .slice ra2 j rc2] 34 (0, 0))) := hw9
                 clear hw9)
              | fail)
            obtain ⟨k1, k2, k3, k4⟩ := HIS2.out.app _ hgrow9 (by decide) hown9 2 (.slice (some ⟨g9, 0, none⟩) (j + 1) c9)
            have hp9 : V9.ownsRow (wb + 1) 42 5 (.slice ra ps.length rc) ps.length (pC ys) := own_else (HP2.out.alloc _) (HIS2.out.own.alloc _) (by decide) hgrow9
            refine ⟨⟨j + 1, _, c9, _, by go_num, by omega, HXS2, ?_, ?_, k1, k2, k3⟩, by simp [intOf]; omega⟩
            · have e : cC (X ++ [wholeC j q]) = cC X ++ [.string sn, .int .i64 q.source, .int .i64 q.target, .int .i64 q.kind, .int .i64 q.size, .int .i64 q.depth] := by rw [HSN.out]; simp [cC, cC1]
              rw [e]
              exact k4
            · exact owns_keep hp9 fun k hk => blk_far 2 _ (fun e => own_not_blk hp9 HW9.out (by decide) (e ▸ hk).symm)
          · have hlt' : ¬ (j : Int) < (cs.length : Int) := by omega
            have hje : j = cs.length := by omega
            subst hje
            have w0 : wr.cell? ⟨wb, 0, none⟩ = some (.int .i64 (pl.length : Int)) := by rw [cell_of_blk HWB2.out]; rfl
            have w1' : wr.cell? ⟨wb, 1, none⟩ = some (.slice ra ps.length rc) := by rw [cell_of_blk HWB2.out]; rfl
            have w2' : wr.cell? ⟨wb, 2, none⟩ = some (.slice ra2 cs.length rc2) := by rw [cell_of_blk HWB2.out]; rfl
            have hXe : X = cs.mapIdx wholeC := by
              apply List.ext_getElem
              · simp [HXS.out.1]
              · intro i h1 h2
                rw [List.getElem_mapIdx]
                exact HXS.out.2 i h1 (by simpa using h2)
            have hpv : PartsV wr (.slice ra ps.length rc) (ps.mapIdx (wholeP pl.length pl)) ∧ PartsC wr (.slice ra ps.length rc) (ps.mapIdx (wholeP pl.length pl)).length := by
              rw [← HPL.out]
              exact parts_see (by rw [HYL.out]; exact HO1.out) fun y hy => ⟨(HRG.out y hy).1.below HBR2.out, (HRG.out y hy).2⟩
            have hcv : ChansV wr (.slice ra2 cs.length rc2) (cs.mapIdx wholeC) := by
              have hO := HO2.out
              rw [hXe] at hO
              exact chans_see (by simpa using hO)
            have HCK : Hid _ := manCheck_any (pl.length : Int) (ps.mapIdx (wholeP pl.length pl)) (cs.mapIdx wholeC) (.slice ra ps.length rc) (.slice ra2 cs.length rc2) wr hpv.1 hpv.2 hcv (own_cap HO2.out) (by simp; omega) (fun k hk => by
              have hk2 : k < ps.length := by simpa using hk
              rw [List.getElem_mapIdx]
              have := HRL.out _ (List.getElem_mem hk2)
              show (ps[k]'hk2).regs.length ≤ _
              omega) (by simp; omega)
            clear hpv hcv hXe
            go_wp2_with fail
            refine Calls.mono HCK.out ?_
            rintro e w9 ⟨rfl, hb9⟩
            have hbf : Below w.heap.size w w9 := HBR2.out.trans (hb9.mono HBR2.out.size)
            have HCW : Hid (checkF ⟨(pl.length : Int), ps.mapIdx (wholeP pl.length pl), cs.mapIdx wholeC⟩ = checkF (wholeM pl ps cs)) := rfl
            by_cases hz : checkF (wholeM pl ps cs) = 0
            · have HF : Hid (rightB pl ps cs = true) := by show _ = _; rw [HST.out, decide_eq_true hz]
              rw [HCW.out, hz]
              go_wp2_with fail
              go_ret
              exact ⟨by rw [HF.out]; rfl, hbf⟩
            · have HF : Hid (rightB pl ps cs = false) := by show _ = _; rw [HST.out, decide_eq_false hz]
              rw [HCW.out]
              generalize checkF (wholeM pl ps cs) = ck0 at *
              go_wp2_with fail
              go_ret
              exact ⟨by rw [HF.out]; simp [hz], hbf⟩
  · have HST : Hid (rightB pl ps cs = false) := by show _ = _; unfold rightB; rw [hst]; rfl
    clear hst
    go_wp2_with fail
    go_ret
    exact ⟨by rw [HST.out]; rfl, HB1.out⟩
end Go.Proofs.YteioennfpkoagaaGreatDoor.C
namespace Go.Proofs.YteioennfpkoagaaGreatDoor.C
open Go.RowKit K

/- what a call leaves: the kernel in another state, and all else as it was -/
structure Aft (KV : World → Value → ManD → KS → (Nat → Prop) → Prop) (v : Value) (D : ManD) (S : KS) (o : Nat → Prop) (w w' : World) : Prop where
  out : ∃ o', KV w' v D S o' ∧ newO o o' w
  frm : Frm o w w'
/- a kernel, by what its calls do -/
structure KerI where
  KV : World → Value → ManD → KS → (Nat → Prop) → Prop
  low : ∀ {w v D S o}, KV w v D S o → ∀ b, o b → b < w.heap.size
  ptr : ∀ {w v D S o}, KV w v D S o → ∃ a, v = .pointer (some a)
  chk : ∀ {w v D S o}, KV w v D S o → checkF D = 0
  keep : ∀ {w w' v D S o}, KV w v D S o → (∀ b, o b → w'.heap[b]? = w.heap[b]?) → KV w' v D S o
  tick : ∀ {w v D S o}, KV w v D S o → SmallK bigK S → Calls Tryz.prog 34 #[v] w fun e w' => e = .returned (.tuple #[]) ∧ Aft KV v D (tickK S) o w w'
  running : ∀ {w v D S o}, KV w v D S o → SmallK bigK S → Calls Tryz.prog 35 #[v] w fun e w' => e = .returned (.int .i64 (runF D S)) ∧ Aft KV v D S o w w'
  read : ∀ {w v D S o p a}, KV w v D S o → SmallK bigK S → inR p → inR a → Calls Tryz.prog 29 #[v, .int .i64 p, .int .i64 a] w fun e w' => e = .returned (.tuple #[.int .i64 (readF D S p a).1, .int .i64 (readF D S p a).2.1]) ∧ Aft KV v D (readF D S p a).2.2 o w w'
  write : ∀ {w v D S o p a b}, KV w v D S o → SmallK bigK S → inR p → inR a → inR b → Calls Tryz.prog 30 #[v, .int .i64 p, .int .i64 a, .int .i64 b] w fun e w' => e = .returned (.int .i64 (writeF D S p a b).1) ∧ Aft KV v D (writeF D S p a b).2 o w w'
  send : ∀ {w v D S o p c s}, KV w v D S o → SmallK bigK S → inR p → inR c → s.size ≤ 9223372036854775807 → Calls Tryz.prog 31 #[v, .int .i64 p, .int .i64 c, .string s] w fun e w' => e = .returned (.int .i64 (sendF D S p c s).1) ∧ Aft KV v D (sendF D S p c s).2 o w w'
  recv : ∀ {w v D S o p c}, KV w v D S o → SmallK bigK S → inR p → inR c → Calls Tryz.prog 32 #[v, .int .i64 p, .int .i64 c] w fun e w' => e = .returned (.tuple #[.string (recvF D S p c).1.1, .bool (recvF D S p c).1.2.1, .int .i64 (recvF D S p c).1.2.2]) ∧ Aft KV v D (recvF D S p c).2 o w w'
  raise : ∀ {w v D S o p}, KV w v D S o → SmallK bigK S → inR p → Calls Tryz.prog 33 #[v, .int .i64 p] w fun e w' => e = .returned (.int .i64 (raiseF D S p).1) ∧ Aft KV v D (raiseF D S p).2 o w w'
  state : ∀ {w v D S o p}, KV w v D S o → SmallK bigK S → inR p → Calls Tryz.prog 28 #[v, .int .i64 p] w fun e w' => e = .returned (.tuple #[stV (stateF D S p).1, .int .i64 (stateF D S p).2]) ∧ Aft KV v D S o w w'
  /- which bytes are taken for an image -/
  acc : ByteArray → Bool
  accImg : ∀ D, checkF D = 0 → acc (ba (imgF D)) = true
  accSyn : ∀ l : List UInt8, 4 ≤ l.length → synL l ≠ 0#32 → acc (ba l) = false
  accCut : ∀ D k, checkF D = 0 → k < (imgF D).length → acc (ba ((imgF D).take k)) = false
  boot : ∀ {w s}, TB w → s.size ≤ 9223372036854775807 → Calls Tryz.prog 24 #[.string s] w fun e w' => Below w.heap.size w w' ∧ ((acc s = false ∧ e = .returned (.tuple #[.pointer none, .int .i64 18])) ∨
    (acc s = true ∧ ∃ a o, e = .returned (.tuple #[.pointer (some a), .int .i64 0]) ∧ (∀ b, o b → w.heap.size ≤ b) ∧ ∀ D, checkF D = 0 → s = ba (imgF D) → KV w' (.pointer (some a)) D bootK o))
end Go.Proofs.YteioennfpkoagaaGreatDoor.C
