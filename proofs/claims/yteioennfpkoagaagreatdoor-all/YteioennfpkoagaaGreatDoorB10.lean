import Derived.Test.YteioennfpkoagaaGreatDoorB09
import Derived.Test.YteioennfpkoagaaGreatDoorB08
import Derived.Test.YteioennfpkoagaaGreatDoorB07
import Derived.Test.YteioennfpkoagaaGreatDoorB05
import Derived.ArgAppend
import Derived.OwnWalk
import Derived.Deep.RegionLaw
import Derived.Deep.DeepCutAuto
import Derived.Test.YteioennfpkoagaaGreatDoorB03
namespace Go.Proofs.YteioennfpkoagaaGreatDoor.C
open Go.RowKit K
attribute [local go_sem ↓] Go.wp_at_zero Go.wp_at_succ

def encB (x : Int) : UInt8 := UInt8.ofNat (x % 256).toNat
theorem encB_nat (x : Int) : ((encB x).toNat : Int) = x % 256 := by
  unfold encB
  rw [UInt8.toNat_ofNat']
  omega
theorem byC_len (l : List UInt8) : (byC l).length = l.length := by simp [byC]
theorem byC_app (a b : List UInt8) : byC (a ++ b) = byC a ++ byC b := by simp [byC]
def ownB (v : Value) : Nat → Prop := fun k => v.ownBlock = some k
theorem Frm.grown {w w' : World} {v : Value} (h : w.grownBy w' v.ownBlock) : Frm (ownB v) w w' :=
  ⟨h.os, h.tape, h.output, h.size, fun k hk hn => h.block k hk (fun e => hn e.symm)⟩
theorem own_slice {w : World} {B e s n : Nat} {v : Value} {xs : List Value} (h : w.ownsRow B e s v n xs) : ∃ va c, v = .slice va n c := by
  rcases own_form h with ⟨h0, rfl⟩ | ⟨g, cap, rfl, _⟩
  · exact ⟨none, 0, by rw [h0]⟩
  · exact ⟨_, _, rfl⟩
theorem infoByte : (Tryz.prog.info? 5).map (fun i => (i.zero, i.size, i.bytes)) = some (some (.int .u8 0), 1, 1) := by kernel_rfl
set_option maxRecDepth 100000 in
set_option maxHeartbeats 4000000 in
theorem nums_any (B nb : Nat) (v : Value) (bs : List UInt8) (ns : List Int) (w : World) (ho : w.ownsRow B 5 1 v bs.length (byC bs)) (hB : B ≤ w.heap.size) (hn : w.heap[nb]? = some (.cells (intsC ns).toArray 3 (0, 0))) (hlen : bs.length + ns.length ≤ 1048576) :
    Calls Tryz.prog 182 #[v, .slice (some ⟨nb, 0, none⟩) ns.length ns.length] w fun e w' => ∃ v', e = .returned v' ∧ w'.ownsRow B 5 1 v' (bs.length + ns.length) (byC (bs ++ ns.map encB)) ∧ Frm (ownB v) w w' ∧ newO (ownB v) (ownB v') w := by
  obtain ⟨i0, hi0, hz0, hz1, hz2⟩ := parts_of infoByte
  have HO : Hid (w.ownsRow B 5 1 v bs.length (byC bs)) := ho
  have HN : Hid (w.heap[nb]? = some (.cells (intsC ns).toArray 3 (0, 0))) := hn
  clear ho hn
  obtain ⟨va0, c0, rfl⟩ := own_slice HO.out
  go_enter Tryz.func182, Tryz.ntmps182
  go_wp2_with fail
  go_loopw [0, 9] (fun s i wr => ∃ (k : Nat) (va : Option Addr) (c : Nat), i = .int .i64 k ∧ s = .slice va (bs.length + k) c ∧ k ≤ ns.length ∧ Hid (wr.ownsRow B 5 1 (.slice va (bs.length + k) c) (bs.length + k) (byC (bs ++ (ns.take k).map encB))) ∧ Hid (Frm (ownB (.slice va0 bs.length c0)) w wr ∧ newO (ownB (.slice va0 bs.length c0)) (ownB (.slice va (bs.length + k) c)) w)) (fun _ i _ => ns.length - (intOf i).toNat)
  case atStart => exact ⟨0, va0, c0, rfl, rfl, by omega, by rw [Nat.add_zero, List.take_zero, List.map_nil, List.append_nil]; exact HO, ⟨Frm.refl _ _, newO.refl _ _⟩⟩
  case round =>
    obtain ⟨k, va, c, rfl, rfl, hk, HW, HF⟩ := hrel
    have hnb : wr.heap[nb]? = some (.cells (intsC ns).toArray 3 (0, 0)) :=
      (HF.out.1.block nb (lt_of_blk HN.out) (fun e => own_not_blk HO.out HN.out (by decide) e.symm)).trans HN.out
    by_cases hlt : k < ns.length
    · have hlt' : (k : Int) < (ns.length : Int) := by omega
      have hcell : wr.cell? ⟨nb, k, none⟩ = some (.int .i64 (ns.getD k 0)) := by
        rw [cell_of_blk hnb]
        simpa using intsC_at ns k hlt
      have hBw : B ≤ wr.heap.size := Nat.le_trans hB HF.out.1.size
      obtain ⟨x, hx⟩ : ∃ x, ns.getD k 0 = x := ⟨_, rfl⟩
      have HX : Hid _ := hx
      rw [hx] at hcell
      clear hx hnb
      go_wp2_with (first
        | (at_builtin; refine wpList_append_lies _ rfl _ _ _ rfl B 5 i0 _ 1 1 Tryz.underlying63 hi0 hz0 hz1 hz2 rfl (by omega) (.slice va (bs.length + k) c) (bs.length + k) (byC (bs ++ (ns.take k).map encB)) rfl (HW.out.alloc _) ⟨wr.heap.size, 0, none⟩ 1 1 [.int .u8 (x % 256)] rfl rfl (World.news_of_block (cs := #[.int .u8 (x % 256)]) (t := 5) (fr := (0, 0)) (heap_new wr _)) (by simp [Value.oneCell']) (by omega) (by unfold maxLen; omega) (by omega) (by simp; omega) (wr.heap.size + 1) (by simp) ?_; intro g9 c9 V9 hown9 hgrow9 hat9 hlt9)
        | fail)
      refine ⟨⟨k + 1, _, c9, by go_num, rfl, by omega, ?_, ?_⟩, by simp [intOf]; omega⟩
      · have e : byC (bs ++ (ns.take (k + 1)).map encB) = byC (bs ++ (ns.take k).map encB) ++ [.int .u8 (x % 256)] := by
          rw [List.take_succ_eq_append_getElem hlt, List.map_append, ← List.append_assoc, byC_app]
          have : ns[k] = x := by
            have := HX.out
            simpa [List.getD, List.getElem?_eq_getElem hlt] using this
          simp [byC, this, encB_nat]
        rw [e]
        exact hown9
      · have hg : Frm (ownB (.slice va (bs.length + k) c)) wr V9 := (Frm.all _ (newB wr _)).trans (Frm.grown hgrow9) (newO.refl _ _)
        refine ⟨HF.out.1.trans hg HF.out.2, fun b hb => ?_⟩
        have hgb : b = g9 := by
          have : some g9 = some b := hb
          cases this; rfl
        subst hgb
        rcases hat9 with h | h
        · exact HF.out.2 _ h
        · right
          have := HF.out.1.size
          omega
    · have hlt' : ¬ (k : Int) < (ns.length : Int) := by omega
      go_wp2_with fail
      go_ret
      have hke : k = ns.length := by omega
      subst hke
      refine ⟨_, rfl, ?_, HF.out⟩
      have := HW.out
      rwa [List.take_length] at this
end Go.Proofs.YteioennfpkoagaaGreatDoor.C
namespace Go.Proofs.YteioennfpkoagaaGreatDoor.C
open Go.RowKit K
attribute [local go_sem ↓] Go.wp_at_zero Go.wp_at_succ

theorem nums_app (B nb : Nat) (v : Value) (bs : List UInt8) (ns : List Int) (w : World) (ho : w.ownsRow B 5 1 v bs.length (byC bs)) (hB : B ≤ w.heap.size) (hn : w.heap[nb]? = some (.cells (intsC ns).toArray 3 (0, 0))) (hlen : bs.length + ns.length ≤ 1048576) :
    Calls Tryz.prog 182 #[v, .slice (some ⟨nb, 0, none⟩) ns.length ns.length] w fun e w' => ∃ X va c, e = .returned (.slice va X.length c) ∧ X = bs ++ ns.map encB ∧ w'.ownsRow B 5 1 (.slice va X.length c) X.length (byC X) ∧ Frm (ownB v) w w' := by
  refine Calls.mono (nums_any B nb v bs ns w ho hB hn hlen) ?_
  rintro e w' ⟨v', rfl, h1, h2, h3⟩
  have e1 : (bs ++ ns.map encB).length = bs.length + ns.length := by simp
  rw [← e1] at h1
  obtain ⟨va, c, rfl⟩ := own_slice h1
  exact ⟨_, va, c, rfl, rfl, h1, h2⟩
theorem ownB_ge {w : World} {B e s n : Nat} {v : Value} {xs : List Value} (h : w.ownsRow B e s v n xs) : ∀ k, ownB v k → B ≤ k := fun k hk => (h.lt k hk).1
theorem nums_at (w0 V : World) (nb : Nat) (v : Value) (Y : List UInt8) (ns : List Int) (ho : V.ownsRow w0.heap.size 5 1 v Y.length (byC Y)) (hB : Below w0.heap.size w0 V) (hlen : Y.length + ns.length ≤ 1048576) (hnb : V.heap.size = nb) :
    Calls Tryz.prog 182 #[v, .slice (some ⟨nb, 0, none⟩) ns.length ns.length] (V.alloc (.cells (intsC ns).toArray 3)) fun e w' => ∃ X va c, e = .returned (.slice va X.length c) ∧ X = Y ++ ns.map encB ∧ w'.ownsRow w0.heap.size 5 1 (.slice va X.length c) X.length (byC X) ∧ Below w0.heap.size w0 w' ∧ Frm (ownB v) V w' := by
  subst hnb
  have b1 := newB V (.cells (intsC ns).toArray 3)
  have o1 := own_stays ho b1
  refine Calls.mono (nums_app w0.heap.size V.heap.size v Y ns _ o1 (Nat.le_trans hB.size b1.size) (heap_new V _) hlen) ?_
  rintro e w2 ⟨Z, va2, c2, rfl, hZ, hown2, hf2⟩
  exact ⟨Z, va2, c2, rfl, hZ, hown2, (hB.trans (b1.mono hB.size)).trans (hf2.below (Nat.le_trans hB.size b1.size) (ownB_ge o1)), (Frm.all _ b1).trans hf2 (newO.refl _ _)⟩
/- a frame's plan -/
def PlanV (w : World) (v : Value) (pl : List Int) : Prop :=
  ∃ va cap, v = .slice va pl.length cap ∧ ∀ i (h : i < pl.length), ∃ b off, va = some ⟨b, off, none⟩ ∧ w.cell? ⟨b, off + i, none⟩ = some (.int .i64 pl[i])
theorem PlanV.below {w w' : World} {v : Value} {pl : List Int} (h : PlanV w v pl) (hb : Below w.heap.size w w') : PlanV w' v pl := by
  obtain ⟨va, cap, e, hc⟩ := h
  refine ⟨va, cap, e, fun i hi => ?_⟩
  obtain ⟨b, off, e1, h1⟩ := hc i hi
  have hlt := World.block_lt_of_cell? w _ h1
  exact ⟨b, off, e1, (hb.cell (by exact hlt)).trans h1⟩
def encPlan (pl : List Int) : List UInt8 := encB pl.length :: pl.map fun x => encB (1 + x)
set_option maxRecDepth 100000 in
set_option maxHeartbeats 4000000 in
theorem encPlan_any (w0 w : World) (v pv : Value) (bs : List UInt8) (pl : List Int) (ho : w.ownsRow w0.heap.size 5 1 v bs.length (byC bs)) (h0 : Below w0.heap.size w0 w) (hp : PlanV w0 pv pl) (hb : bs.length ≤ 10000) (hl : pl.length ≤ 10000) (hr : ∀ x ∈ pl, -10000 ≤ x ∧ x ≤ 10000) :
    Calls Tryz.prog 117 #[v, pv] w fun e w' => ∃ X va c, e = .returned (.slice va X.length c) ∧ X = bs ++ encPlan pl ∧ w'.ownsRow w0.heap.size 5 1 (.slice va X.length c) X.length (byC X) ∧ Below w0.heap.size w0 w' := by
  have HO : Hid (w.ownsRow w0.heap.size 5 1 v bs.length (byC bs)) := ho
  have H0 : Hid (Below w0.heap.size w0 w) := h0
  have HP : Hid (PlanV w0 pv pl) := hp
  clear ho h0
  obtain ⟨pa, pc, rfl, hpc⟩ := hp
  clear hpc
  obtain ⟨va0, c0, rfl⟩ := own_slice HO.out
  go_enter Tryz.func117, Tryz.ntmps117
  go_wp2_with fail
  have o1 := own_stays HO.out (newB w (.cells #[.int .i64 pl.length] 3))
  refine Calls.mono (nums_app w0.heap.size w.heap.size _ bs [(pl.length : Int)] _ o1 (Nat.le_trans H0.out.size (newB w _).size) (heap_new w _) (by simp; omega)) ?_
  rintro e w1 ⟨X, va1, c1, rfl, hX, hown1, hf1⟩
  have HB1 : Hid (Below w0.heap.size w0 w1) := (H0.out.trans ((newB w _).mono H0.out.size)).trans (hf1.below (Nat.le_trans H0.out.size (newB w _).size) (ownB_ge o1))
  have HX : Hid (X = bs ++ [encB pl.length]) := hX
  have HW1 : Hid (w1.ownsRow w0.heap.size 5 1 (.slice va1 X.length c1) X.length (byC X)) := hown1
  have HXL : Hid (X.length = bs.length + 1) := by show _ = _; rw [hX]; simp
  clear hX hown1 hf1 o1
  go_wp2_with fail
  go_loopw [0, 14] (fun s i wr => ∃ (k : Nat) (Y : List UInt8) (va : Option Addr) (c : Nat), i = .int .i64 k ∧ s = .slice va Y.length c ∧ k ≤ pl.length ∧ Hid (Y = X ++ (pl.take k).map fun x => encB (1 + x)) ∧ Hid (wr.ownsRow w0.heap.size 5 1 (.slice va Y.length c) Y.length (byC Y)) ∧ Hid (Below w0.heap.size w0 wr)) (fun _ i _ => pl.length - (intOf i).toNat)
  case atStart => exact ⟨0, X, va1, c1, rfl, rfl, by omega, by simp [Hid], HW1, HB1⟩
  case round =>
    obtain ⟨k, Y, va, c, rfl, rfl, hk, HY, HW, HB⟩ := hrel
    by_cases hlt : k < pl.length
    · have hlt' : (k : Int) < (pl.length : Int) := by omega
      have hp := HP.out.below HB.out
      obtain ⟨pa', pc', epa, hc⟩ := hp
      simp only [Value.slice.injEq, true_and] at epa
      obtain ⟨rfl, rfl⟩ := epa
      obtain ⟨b, off, rfl, hcell⟩ := hc k hlt
      obtain ⟨x1, x2⟩ := hr pl[k] (List.getElem_mem _)
      have HPK : Hid (∃ x, pl[k] = x) := ⟨_, rfl⟩
      obtain ⟨x, hx⟩ : ∃ x, pl[k] = x := ⟨_, rfl⟩
      have HX2 : Hid (pl[k] = x) := hx
      rw [hx] at hcell x1 x2
      have hYl : Hid (Y.length = bs.length + 1 + k) := by
        show _ = _
        rw [HY.out, List.length_append, HXL.out, List.length_map, List.length_take]; omega
      clear hx hc HPK
      go_wp2_with fail
      have o1 := own_stays HW.out (newB wr (.cells #[.int .i64 (1 + x)] 3))
      refine Calls.mono (nums_app w0.heap.size wr.heap.size _ Y [1 + x] _ o1 (Nat.le_trans HB.out.size (newB wr _).size) (heap_new wr _) (by have := hYl.out; simp; omega)) ?_
      rintro e w2 ⟨Z, va2, c2, rfl, hZ, hown2, hf2⟩
      have HB2 : Hid (Below w0.heap.size w0 w2) := (HB.out.trans ((newB wr _).mono HB.out.size)).trans (hf2.below (Nat.le_trans HB.out.size (newB wr _).size) (ownB_ge o1))
      have HZ : Hid (Z = Y ++ [encB (1 + x)]) := hZ
      have HW2 : Hid (w2.ownsRow w0.heap.size 5 1 (.slice va2 Z.length c2) Z.length (byC Z)) := hown2
      clear hZ hown2 hf2 o1
      go_wp2_with fail
      refine ⟨⟨k + 1, Z, va2, c2, by go_num, rfl, by omega, ?_, HW2, HB2⟩, by simp [intOf]; omega⟩
      show Z = _
      rw [HZ.out, HY.out, List.take_succ_eq_append_getElem hlt, List.map_append, HX2.out, List.append_assoc]
      rfl
    · have hlt' : ¬ (k : Int) < (pl.length : Int) := by omega
      go_wp2_with fail
      go_ret
      refine ⟨Y, va, c, rfl, ?_, HW.out, HB.out⟩
      have hke : k = pl.length := by omega
      rw [HY.out, HX.out, hke, List.take_length]
      simp [encPlan]
end Go.Proofs.YteioennfpkoagaaGreatDoor.C
namespace Go.Proofs.YteioennfpkoagaaGreatDoor.C
open Go.RowKit K
attribute [local go_sem ↓] Go.wp_at_zero Go.wp_at_succ

def encChan (c : ChanD) : List UInt8 := [encB c.source, encB c.target, encB c.kind, encB c.size, encB c.depth]
def encChans (cs : List ChanD) : List UInt8 := encB cs.length :: cs.flatMap encChan
theorem encChans_len (cs : List ChanD) (k : Nat) : ((cs.take k).flatMap encChan).length = 5 * (cs.take k).length := by
  induction cs.take k with
  | nil => rfl
  | cons c l ih => rw [List.flatMap_cons, List.length_append, ih, List.length_cons]; simp [encChan]; omega
set_option maxRecDepth 100000 in
set_option maxHeartbeats 4000000 in
theorem encChans_any (w0 w : World) (v pv : Value) (bs : List UInt8) (cs : List ChanD) (ho : w.ownsRow w0.heap.size 5 1 v bs.length (byC bs)) (h0 : Below w0.heap.size w0 w) (hp : ChansV w0 pv cs) (hb : bs.length ≤ 10000) (hl : cs.length ≤ 10000) :
    Calls Tryz.prog 119 #[v, pv] w fun e w' => ∃ X va c, e = .returned (.slice va X.length c) ∧ X = bs ++ encChans cs ∧ w'.ownsRow w0.heap.size 5 1 (.slice va X.length c) X.length (byC X) ∧ Below w0.heap.size w0 w' := by
  have HO : Hid (w.ownsRow w0.heap.size 5 1 v bs.length (byC bs)) := ho
  have H0 : Hid (Below w0.heap.size w0 w) := h0
  have HP : Hid (ChansV w0 pv cs) := hp
  clear ho h0
  obtain ⟨pa, pc, rfl, hpc⟩ := hp
  clear hpc
  obtain ⟨va0, c0, rfl⟩ := own_slice HO.out
  go_enter Tryz.func119, Tryz.ntmps119
  go_wp2_with fail
  have o1 := own_stays HO.out (newB w (.cells #[.int .i64 cs.length] 3))
  refine Calls.mono (nums_app w0.heap.size w.heap.size _ bs [(cs.length : Int)] _ o1 (Nat.le_trans H0.out.size (newB w _).size) (heap_new w _) (by simp; omega)) ?_
  rintro e w1 ⟨X, va1, c1, rfl, hX, hown1, hf1⟩
  have HB1 : Hid (Below w0.heap.size w0 w1) := (H0.out.trans ((newB w _).mono H0.out.size)).trans (hf1.below (Nat.le_trans H0.out.size (newB w _).size) (ownB_ge o1))
  have HX : Hid (X = bs ++ [encB cs.length]) := hX
  have HW1 : Hid (w1.ownsRow w0.heap.size 5 1 (.slice va1 X.length c1) X.length (byC X)) := hown1
  have HXL : Hid (X.length = bs.length + 1) := by show _ = _; rw [hX]; simp
  clear hX hown1 hf1 o1
  go_wp2_with fail
  go_loopw [0, 14] (fun s i wr => ∃ (k : Nat) (Y : List UInt8) (va : Option Addr) (c : Nat), i = .int .i64 k ∧ s = .slice va Y.length c ∧ k ≤ cs.length ∧ Hid (Y = X ++ (cs.take k).flatMap encChan) ∧ Hid (wr.ownsRow w0.heap.size 5 1 (.slice va Y.length c) Y.length (byC Y)) ∧ Hid (Below w0.heap.size w0 wr)) (fun _ i _ => cs.length - (intOf i).toNat)
  case atStart => exact ⟨0, X, va1, c1, rfl, rfl, by omega, by simp [Hid], HW1, HB1⟩
  case round =>
    obtain ⟨k, Y, va, c, rfl, rfl, hk, HY, HW, HB⟩ := hrel
    by_cases hlt : k < cs.length
    · have hlt' : (k : Int) < (cs.length : Int) := by omega
      have hp := HP.out.below HB.out
      obtain ⟨pa', pc', epa, hc⟩ := hp
      simp only [Value.slice.injEq, true_and] at epa
      obtain ⟨rfl, rfl⟩ := epa
      obtain ⟨b, off, rfl, d0, d1, d2, d3, d4, d5⟩ := hc k hlt
      obtain ⟨x, hx⟩ : ∃ x, cs[k] = x := ⟨_, rfl⟩
      have HX2 : Hid (cs[k] = x) := hx
      rw [hx] at d0 d1 d2 d3 d4 d5
      obtain ⟨xn, xs, xt, xk, xz, xd⟩ := x
      simp only [] at d0 d1 d2 d3 d4 d5
      have hYl : Hid (Y.length = bs.length + 1 + 5 * k) := by
        show _ = _
        rw [HY.out, List.length_append, HXL.out, encChans_len, List.length_take]; omega
      clear hx hc
      go_wp2_with fail
      have b1 := newB wr (.cells #[.string xn, .int .i64 xs, .int .i64 xt, .int .i64 xk, .int .i64 xz, .int .i64 xd] 92)
      have h1 := heap_new wr (.cells #[.string xn, .int .i64 xs, .int .i64 xt, .int .i64 xk, .int .i64 xz, .int .i64 xd] 92)
      have HBA : Hid (Below w0.heap.size w0 (wr.alloc (.cells #[.string xn, .int .i64 xs, .int .i64 xt, .int .i64 xk, .int .i64 xz, .int .i64 xd] 92))) := HB.out.trans (b1.mono HB.out.size)
      have HWA : Hid ((wr.alloc (.cells #[.string xn, .int .i64 xs, .int .i64 xt, .int .i64 xk, .int .i64 xz, .int .i64 xd] 92)).ownsRow w0.heap.size 5 1 (.slice va Y.length c) Y.length (byC Y)) := own_stays HW.out b1
      clear d0 d1 d2 d3 d4 d5 b1
      refine Calls.mono (nums_at w0 _ _ _ Y [xs, xt, xk, xz, xd] HWA.out HBA.out (by have := hYl.out; simp; omega) (by simp)) ?_
      rintro e w2 ⟨Z, va2, c2, rfl, hZ, hown2, hb2, hf2⟩
      have HB2 : Hid (Below w0.heap.size w0 w2) := hb2
      have HZ : Hid (Z = Y ++ [encB xs, encB xt, encB xk, encB xz, encB xd]) := hZ
      have HW2 : Hid (w2.ownsRow w0.heap.size 5 1 (.slice va2 Z.length c2) Z.length (byC Z)) := hown2
      clear hZ hown2 hf2 hb2 h1
      go_wp2_with fail
      refine ⟨⟨k + 1, Z, va2, c2, by go_num, rfl, by omega, ?_, HW2, HB2⟩, by simp [intOf]; omega⟩
      show Z = _
      rw [HZ.out, HY.out, List.take_succ_eq_append_getElem hlt, List.flatMap_append, HX2.out, List.append_assoc]
      simp [encChan]
    · have hlt' : ¬ (k : Int) < (cs.length : Int) := by omega
      go_wp2_with fail
      go_ret
      refine ⟨Y, va, c, rfl, ?_, HW.out, HB.out⟩
      have hke : k = cs.length := by omega
      rw [HY.out, HX.out, hke, List.take_length]
      simp [encChans]
def encReg (r : RegD) : List UInt8 := [encB r.page, encB r.pages, encB r.rights]
def encPart (x : PartD) : List UInt8 := encB x.action :: encB x.regs.length :: x.regs.flatMap encReg
def encParts (ps : List PartD) : List UInt8 := encB ps.length :: ps.flatMap encPart
theorem encRegs_len (rs : List RegD) : (rs.flatMap encReg).length = 3 * rs.length := by
  induction rs with
  | nil => rfl
  | cons c l ih => rw [List.flatMap_cons, List.length_append, ih, List.length_cons]; simp [encReg]; omega
theorem encParts_len (ps : List PartD) (h : ∀ x ∈ ps, x.regs.length ≤ 100) : (ps.flatMap encPart).length ≤ 302 * ps.length := by
  induction ps with
  | nil => simp
  | cons c l ih =>
    have h1 := ih fun x hx => h x (by simp [hx])
    have h2 := h c (by simp)
    rw [List.flatMap_cons, List.length_append, List.length_cons]
    simp only [encPart, List.length_cons, encRegs_len]
    omega
set_option maxRecDepth 100000 in
set_option maxHeartbeats 4000000 in
theorem encParts_any (w0 w : World) (v pv : Value) (bs : List UInt8) (ps : List PartD) (ho : w.ownsRow w0.heap.size 5 1 v bs.length (byC bs)) (h0 : Below w0.heap.size w0 w) (hp : PartsV w0 pv ps) (hb : bs.length ≤ 10000) (hl : ps.length ≤ 100) (hr : ∀ x ∈ ps, x.regs.length ≤ 100) :
    Calls Tryz.prog 118 #[v, pv] w fun e w' => ∃ X va c, e = .returned (.slice va X.length c) ∧ X = bs ++ encParts ps ∧ w'.ownsRow w0.heap.size 5 1 (.slice va X.length c) X.length (byC X) ∧ Below w0.heap.size w0 w' := by
  have HO : Hid (w.ownsRow w0.heap.size 5 1 v bs.length (byC bs)) := ho
  have H0 : Hid (Below w0.heap.size w0 w) := h0
  have HP : Hid (PartsV w0 pv ps) := hp
  clear ho h0
  obtain ⟨pa, pc, rfl, hpc⟩ := hp
  clear hpc
  obtain ⟨va0, c0, rfl⟩ := own_slice HO.out
  go_enter Tryz.func118, Tryz.ntmps118
  go_wp2_with fail
  refine Calls.mono (nums_at w0 w _ _ bs [(ps.length : Int)] HO.out H0.out (by simp; omega) rfl) ?_
  rintro e w1 ⟨X, va1, c1, rfl, hX, hown1, hb1, hf1⟩
  have HB1 : Hid (Below w0.heap.size w0 w1) := hb1
  have HX : Hid (X = bs ++ [encB ps.length]) := hX
  have HW1 : Hid (w1.ownsRow w0.heap.size 5 1 (.slice va1 X.length c1) X.length (byC X)) := hown1
  have HXL : Hid (X.length = bs.length + 1) := by show _ = _; rw [hX]; simp
  clear hX hown1 hf1 hb1
  go_wp2_with fail
  go_loopw [0, 16] (fun s i wr => ∃ (k : Nat) (Y : List UInt8) (va : Option Addr) (c : Nat), i = .int .i64 k ∧ s = .slice va Y.length c ∧ k ≤ ps.length ∧ Hid (Y = X ++ (ps.take k).flatMap encPart) ∧ Hid (wr.ownsRow w0.heap.size 5 1 (.slice va Y.length c) Y.length (byC Y)) ∧ Hid (Below w0.heap.size w0 wr)) (fun _ i _ => ps.length - (intOf i).toNat)
  case atStart => exact ⟨0, X, va1, c1, rfl, rfl, by omega, by simp [Hid], HW1, HB1⟩
  case round =>
    obtain ⟨k, Y, va, c, rfl, rfl, hk, HY, HW, HB⟩ := hrel
    by_cases hlt : k < ps.length
    · have hlt' : (k : Int) < (ps.length : Int) := by omega
      have hp := HP.out
      obtain ⟨pa', pc', epa, hc⟩ := hp
      simp only [Value.slice.injEq, true_and] at epa
      obtain ⟨rfl, rfl⟩ := epa
      obtain ⟨b, off, rv, rfl, e0, e1, e2, e3, e4, hrv⟩ := hc k hlt
      have hbl := World.block_lt_of_cell? w0 _ e0
      have d0 := (HB.out.cell (by exact hbl)).trans e0
      have d1 := (HB.out.cell (by exact hbl)).trans e1
      have d2 := (HB.out.cell (by exact hbl)).trans e2
      have d3 := (HB.out.cell (by exact hbl)).trans e3
      have d4 := (HB.out.cell (by exact hbl)).trans e4
      clear e0 e1 e2 e3 e4
      have hrk := hr ps[k] (List.getElem_mem _)
      obtain ⟨x, hx⟩ : ∃ x, ps[k] = x := ⟨_, rfl⟩
      have HX2 : Hid (ps[k] = x) := hx
      rw [hx] at d0 d1 d2 d3 hrk hrv
      obtain ⟨xn, xp, xd, xa, xr⟩ := x
      simp only [] at d0 d1 d2 d3 hrk hrv
      have HR : Hid (RegsV w0 rv xr) := hrv
      obtain ⟨ra, rc, rfl, hrc⟩ := hrv
      have hYl : Hid (Y.length ≤ 50000) := by
        show _ ≤ _
        have h1 := encParts_len (ps.take k) (fun x hx => hr x (List.mem_of_mem_take hx))
        rw [List.length_take] at h1
        rw [HY.out, List.length_append, HXL.out]
        omega
      clear hx hc hrc
      go_wp2_with fail
      have b1 := newB wr (.cells #[.string xn, .int .i64 xp, .int .i64 xd, .int .i64 xa, .slice ra xr.length rc] 42)
      have h1 := heap_new wr (.cells #[.string xn, .int .i64 xp, .int .i64 xd, .int .i64 xa, .slice ra xr.length rc] 42)
      have HBA : Hid (Below w0.heap.size w0 (wr.alloc (.cells #[.string xn, .int .i64 xp, .int .i64 xd, .int .i64 xa, .slice ra xr.length rc] 42))) := HB.out.trans (b1.mono HB.out.size)
      have HWA : Hid ((wr.alloc (.cells #[.string xn, .int .i64 xp, .int .i64 xd, .int .i64 xa, .slice ra xr.length rc] 42)).ownsRow w0.heap.size 5 1 (.slice va Y.length c) Y.length (byC Y)) := own_stays HW.out b1
      clear d0 d1 d2 d3 d4 b1
      refine Calls.mono (nums_at w0 _ _ _ Y [xa, (xr.length : Int)] HWA.out HBA.out (by have := hYl.out; simp; omega) (by simp)) ?_
      rintro e w2 ⟨Z, va2, c2, rfl, hZ, hown2, hb2, hf2⟩
      have HB2 : Hid (Below w0.heap.size w0 w2) := hb2
      have HZ : Hid (Z = Y ++ [encB xa, encB xr.length]) := hZ
      have HZL : Hid (Z.length = Y.length + 2) := by show _ = _; rw [hZ]; simp
      have HW2 : Hid (w2.ownsRow w0.heap.size 5 1 (.slice va2 Z.length c2) Z.length (byC Z)) := hown2
      have HL2 : Hid (w2.heap[wr.heap.size]? = some (.cells #[.string xn, .int .i64 xp, .int .i64 xd, .int .i64 xa, .slice ra xr.length rc] 42 (0, 0))) := (hf2.block _ (lt_of_blk h1) (fun e => own_not_blk HWA.out h1 (by decide) e.symm)).trans h1
      clear hZ hown2 hf2 hb2 h1
      have y4 : w2.cell? ⟨wr.heap.size, 4, none⟩ = some (.slice ra xr.length rc) := by rw [cell_of_blk HL2.out]; rfl
      go_wp2_with fail
      generalize wr = W4 at *
      go_loopw [0, 31] (fun s i wr => ∃ (j : Nat) (U : List UInt8) (va : Option Addr) (c : Nat), i = .int .i64 j ∧ s = .slice va U.length c ∧ j ≤ xr.length ∧ Hid (U = Z ++ (xr.take j).flatMap encReg) ∧ Hid (wr.ownsRow w0.heap.size 5 1 (.slice va U.length c) U.length (byC U)) ∧ Hid (Below w0.heap.size w0 wr)) (fun _ i _ => xr.length - (intOf i).toNat)
      case atStart => exact ⟨0, Z, va2, c2, rfl, rfl, by omega, by simp [Hid], HW2, HB2⟩
      case round =>
        obtain ⟨j, U, vb, cb, rfl, rfl, hj, HU, HWU, HBU⟩ := hrel
        by_cases hjl : j < xr.length
        · have hjl' : (j : Int) < (xr.length : Int) := by omega
          have hR := HR.out.below HBU.out
          obtain ⟨ra', rc', era, hrc⟩ := hR
          simp only [Value.slice.injEq, true_and] at era
          obtain ⟨rfl, rfl⟩ := era
          obtain ⟨rb, ro, rfl, f0, f1, f2⟩ := hrc j hjl
          obtain ⟨y, hy⟩ : ∃ y, xr[j] = y := ⟨_, rfl⟩
          have HYJ : Hid (xr[j] = y) := hy
          rw [hy] at f0 f1 f2
          obtain ⟨yp, yn, yr⟩ := y
          simp only [] at f0 f1 f2
          have hUl : Hid (U.length ≤ 60000) := by
            show _ ≤ _
            have h1 := hYl.out
            rw [HU.out, List.length_append, HZL.out, encRegs_len, List.length_take]
            omega
          clear hy hrc
          go_wp2_with fail
          have b1 := newB wr (.cells #[.int .i64 yp, .int .i64 yn, .int .i64 yr] 90)
          have HBA2 : Hid (Below w0.heap.size w0 (wr.alloc (.cells #[.int .i64 yp, .int .i64 yn, .int .i64 yr] 90))) := HBU.out.trans (b1.mono HBU.out.size)
          have HWA2 : Hid ((wr.alloc (.cells #[.int .i64 yp, .int .i64 yn, .int .i64 yr] 90)).ownsRow w0.heap.size 5 1 (.slice vb U.length cb) U.length (byC U)) := own_stays HWU.out b1
          clear f0 f1 f2 b1
          refine Calls.mono (nums_at w0 _ _ _ U [yp, yn, yr] HWA2.out HBA2.out (by have := hUl.out; simp; omega) (by simp)) ?_
          rintro e w3 ⟨T, va3, c3, rfl, hT, hown3, hb3, hf3⟩
          have HB3 : Hid (Below w0.heap.size w0 w3) := hb3
          have HT : Hid (T = U ++ [encB yp, encB yn, encB yr]) := hT
          have HW3 : Hid (w3.ownsRow w0.heap.size 5 1 (.slice va3 T.length c3) T.length (byC T)) := hown3
          clear hT hown3 hf3 hb3
          go_wp2_with fail
          refine ⟨⟨j + 1, T, va3, c3, by go_num, rfl, by omega, ?_, HW3, HB3⟩, by simp [intOf]; omega⟩
          show T = _
          rw [HT.out, HU.out, List.take_succ_eq_append_getElem hjl, List.flatMap_append, HYJ.out, List.append_assoc]
          simp [encReg]
        · have hjl' : ¬ (j : Int) < (xr.length : Int) := by omega
          have HJE : Hid (j = xr.length) := by show _ = _; omega
          go_wp2_with fail
          refine ⟨⟨k + 1, U, vb, cb, by go_num, rfl, by omega, ?_, HWU, HBU⟩, by simp [intOf]; omega⟩
          show U = _
          rw [HU.out, HZ.out, HY.out, HJE.out, List.take_length, List.take_succ_eq_append_getElem hlt, List.flatMap_append, HX2.out]
          simp [encPart]
    · have hlt' : ¬ (k : Int) < (ps.length : Int) := by omega
      go_wp2_with fail
      go_ret
      refine ⟨Y, va, c, rfl, ?_, HW.out, HB.out⟩
      have hke : k = ps.length := by omega
      rw [HY.out, HX.out, hke, List.take_length]
      simp [encParts]
end Go.Proofs.YteioennfpkoagaaGreatDoor.C
namespace Go.Proofs.YteioennfpkoagaaGreatDoor.C
open Go.RowKit K
attribute [local go_sem ↓] Go.wp_at_zero Go.wp_at_succ

theorem bytes_see {w : World} {B : Nat} {v : Value} {l : List UInt8} (h : w.ownsRow B 5 1 v l.length (byC l)) : BytesV w v l := by
  rcases own_form h with ⟨h0, rfl⟩ | ⟨g, cap, rfl, _⟩
  · have : l = [] := List.eq_nil_of_length_eq_zero h0
    subst this
    exact ⟨_, _, rfl, fun i hi => absurd hi (by simp)⟩
  · refine ⟨some ⟨g, 0, none⟩, cap, rfl, fun i hi => ⟨g, 0, rfl, ?_⟩⟩
    rw [Nat.zero_add, World.ownsRow.cellAt h _ (by omega)]
    simp [byC, List.getElem?_eq_getElem hi]
theorem sb_nat (k : Nat) (s : BitVec 32) : ((sb k s).toNat : Int) = (s.toNat : Int) / (2 ^ k : Nat) % 256 := by
  unfold sb
  rw [UInt8.toNat_ofNat', Nat.shiftRight_eq_div_pow]
  omega
set_option maxRecDepth 100000 in
set_option maxHeartbeats 4000000 in
theorem seal_any (w0 w : World) (v : Value) (bs : List UInt8) (ho : w.ownsRow w0.heap.size 5 1 v bs.length (byC bs)) (h0 : Below w0.heap.size w0 w) (hb : bs.length ≤ 1000000) :
    Calls Tryz.prog 120 #[v] w fun e w' => ∃ X va c, e = .returned (.slice va X.length c) ∧ X = sealL bs ∧ w'.ownsRow w0.heap.size 5 1 (.slice va X.length c) X.length (byC X) ∧ Below w0.heap.size w0 w' := by
  obtain ⟨i0, hi0, hz0, hz1, hz2⟩ := parts_of infoByte
  have HO : Hid (w.ownsRow w0.heap.size 5 1 v bs.length (byC bs)) := ho
  have H0 : Hid (Below w0.heap.size w0 w) := h0
  clear ho h0
  obtain ⟨va0, c0, rfl⟩ := own_slice HO.out
  go_enter Tryz.func120, Tryz.ntmps120
  go_wp2_with fail
  refine Calls.mono (checksum_any _ bs (by omega) w (bytes_see HO.out)) ?_
  rintro e V ⟨rfl, rfl⟩
  obtain ⟨s, hs⟩ : ∃ s, sumL bs = s := ⟨_, rfl⟩
  have HS : Hid (sumL bs = s) := hs
  rw [hs]
  clear hs
  have hw0 := H0.out.size
  go_wp2_with (first
    | (at_builtin; refine wpList_append_lies _ rfl _ _ _ rfl w0.heap.size 5 i0 _ 1 1 Tryz.underlying63 hi0 hz0 hz1 hz2 rfl (by omega) (.slice va0 bs.length c0) bs.length (byC bs) rfl (HO.out.alloc _) ⟨V.heap.size, 0, none⟩ 4 4 [.int .u8 ((s.toNat : Int) / 16777216), .int .u8 ((s.toNat : Int) / 65536 % 256), .int .u8 ((s.toNat : Int) / 256 % 256), .int .u8 ((s.toNat : Int) % 256)] rfl rfl (World.news_of_block (cs := #[.int .u8 ((s.toNat : Int) / 16777216), .int .u8 ((s.toNat : Int) / 65536 % 256), .int .u8 ((s.toNat : Int) / 256 % 256), .int .u8 ((s.toNat : Int) % 256)]) (t := 5) (fr := (0, 0)) (heap_new V _)) (by simp [Value.oneCell']) (by omega) (by unfold maxLen; omega) (by omega) (by simp; omega) (V.heap.size + 1) (by simp) ?_; intro g9 c9 V9 hown9 hgrow9 hat9 hlt9)
    | fail)
  go_ret
  have e1 : byC (sealL bs) = byC bs ++ [.int .u8 ((s.toNat : Int) / 16777216), .int .u8 ((s.toNat : Int) / 65536 % 256), .int .u8 ((s.toNat : Int) / 256 % 256), .int .u8 ((s.toNat : Int) % 256)] := by
    unfold sealL
    rw [byC_app, HS.out]
    simp only [byC, sumB, List.map_cons, List.map_nil, sb_nat]
    have h1 := s.isLt
    have h2 : (s.toNat : Int) / (2 ^ 24 : Nat) % 256 = (s.toNat : Int) / 16777216 := by omega
    rw [h2]
    simp
  have e2 : (sealL bs).length = bs.length + 4 := sealL_len bs
  refine ⟨sealL bs, some ⟨g9, 0, none⟩, c9, by rw [e2]; rfl, rfl, by rw [e1, e2]; exact hown9, ?_⟩
  have b1 := newB V (.cells #[.int .u8 ((s.toNat : Int) / 16777216), .int .u8 ((s.toNat : Int) / 65536 % 256), .int .u8 ((s.toNat : Int) / 256 % 256), .int .u8 ((s.toNat : Int) % 256)] 5)
  exact (H0.out.trans (b1.mono hw0)).grown hgrow9 (Nat.le_trans hw0 b1.size) (fun k hk => (HO.out.lt k hk).1)
def bodyL (D : ManD) (pl : List Int) : List UInt8 := 255 :: (encPlan pl ++ (encParts D.parts ++ encChans D.chans))
def imgL (D : ManD) (pl : List Int) : List UInt8 := sealL (bodyL D pl)
theorem conv_bytes {w : World} {v : Value} {l : List UInt8} (h : BytesV w v l) (hne : l ≠ []) : (convert 63 9 v).run Tryz.prog w = .ok (.string (ba l)) w := by
  obtain ⟨va, cap, rfl, hc⟩ := h
  obtain ⟨b, off, rfl, _⟩ := hc 0 (List.length_pos_iff.2 hne)
  have := run_convert_bytes_arg (P := Tryz.prog) w 63 5 Tryz.underlying63 Tryz.underlying5 b off l.length cap (l.map fun x => (x.toNat : Int)) (by simp) (fun i hi => by
    obtain ⟨b', off', e, hcell⟩ := hc i hi
    cases e
    rw [hcell]
    simp [List.getD, List.getElem?_eq_getElem hi]) 9 Tryz.underlying9
  have e : (l.map fun x => (x.toNat : Int)).map (fun n => UInt8.ofNat n.toNat) = l := by
    rw [List.map_map]
    conv => rhs; rw [← List.map_id l]
    apply List.map_congr_left
    intro x _
    simp
  have e2 : strOfNums (l.map fun x => (x.toNat : Int)) = ba l := by
    unfold strOfNums ba
    rw [e]
  rw [this, e2]
set_option maxRecDepth 100000 in
set_option maxHeartbeats 4000000 in
theorem write_any (w : World) (F : Int) (pv cv qv : Value) (D : ManD) (pl : List Int) (hp : PartsV w pv D.parts) (hc : ChansV w cv D.chans) (hq : PlanV w qv pl) (hpl : D.parts.length ≤ 8) (hcl : D.chans.length ≤ 8) (hrl : ∀ x ∈ D.parts, x.regs.length ≤ 4) (hql : pl.length ≤ 240) (hqr : ∀ x ∈ pl, -10000 ≤ x ∧ x ≤ 10000) :
    Calls Tryz.prog 63 #[.agg #[.int .i64 F, pv, cv], qv] w fun e w' => e = .returned (.string (ba (imgL D pl))) ∧ Below w.heap.size w w' := by
  have HP : Hid (PartsV w pv D.parts) := hp
  have HC : Hid (ChansV w cv D.chans) := hc
  have HQ : Hid (PlanV w qv pl) := hq
  obtain ⟨pa, pc, rfl, _⟩ := hp
  obtain ⟨ca, cc, rfl, _⟩ := hc
  obtain ⟨qa, qc, rfl, _⟩ := hq
  go_enter Tryz.func63, Tryz.ntmps63
  go_wp2_with fail
  have b1 := newB w (.cells #[.int .i64 F, .slice pa D.parts.length pc, .slice ca D.chans.length cc] 34)
  have h1 := heap_new w (.cells #[.int .i64 F, .slice pa D.parts.length pc, .slice ca D.chans.length cc] 34)
  have hz : (w.alloc (.cells #[.int .i64 F, .slice pa D.parts.length pc, .slice ca D.chans.length cc] 34)).heap.size = w.heap.size + 1 := by simp
  have HPV : Hid _ := HP.out.below b1
  have HCV : Hid _ := HC.out.below b1
  have HQV : Hid _ := HQ.out.below b1
  have HBW : Hid _ := b1
  have HM : Hid _ := h1
  clear h1 b1
  generalize w.alloc (.cells #[.int .i64 F, .slice pa D.parts.length pc, .slice ca D.chans.length cc] 34) = V1 at *
  have b2 := newB V1 (.cells #[.int .u8 255] 5)
  have h2 := heap_new V1 (.cells #[.int .u8 255] 5)
  rw [← hz]
  have o1 : (V1.alloc (.cells #[.int .u8 255] 5)).ownsRow V1.heap.size 5 1 (.slice (some ⟨V1.heap.size, 0, none⟩) 1 1) [(255 : UInt8)].length (byC [255]) := ⟨rfl, .inr ⟨_, 1, _, rfl, Nat.le_refl _, h2, by decide, by decide, rfl, rfl⟩⟩
  refine Calls.mono (encPlan_any V1 _ _ _ [255] pl o1 b2 HQV.out (by decide) (by omega) hqr) ?_
  rintro e w1 ⟨X1, va1, c1, rfl, hX1, hown1, hb1⟩
  have HB1 : Hid (Below V1.heap.size V1 w1) := hb1
  have HX1 : Hid (X1 = [255] ++ encPlan pl) := hX1
  have hXl1 : Hid (X1.length ≤ 1000) := by show _ ≤ _; rw [hX1]; simp [encPlan]; omega
  have HW1 : Hid (w1.ownsRow V1.heap.size 5 1 (.slice va1 X1.length c1) X1.length (byC X1)) := hown1
  have m1 : w1.cell? ⟨w.heap.size, 1, none⟩ = some (.slice pa D.parts.length pc) := by rw [cell_of_blk (keepN HM.out hb1)]; rfl
  clear hX1 hown1 hb1 b2 h2 o1
  go_wp2_with fail
  refine Calls.mono (encParts_any V1 w1 _ _ X1 D.parts HW1.out HB1.out HPV.out (by have := hXl1.out; omega) (by omega) (fun x hx => by have := hrl x hx; omega)) ?_
  rintro e w2 ⟨X2, va2, c2, rfl, hX2, hown2, hb2⟩
  have HB2 : Hid (Below V1.heap.size V1 w2) := hb2
  have HX2 : Hid (X2 = X1 ++ encParts D.parts) := hX2
  have hXl2 : Hid (X2.length ≤ 9000) := by
    show _ ≤ _
    have h1 := hXl1.out
    have h3 := encParts_len D.parts (fun x hx => by have := hrl x hx; omega)
    rw [hX2, List.length_append]
    simp only [encParts, List.length_cons]
    omega
  have HW2 : Hid (w2.ownsRow V1.heap.size 5 1 (.slice va2 X2.length c2) X2.length (byC X2)) := hown2
  have m2 : w2.cell? ⟨w.heap.size, 2, none⟩ = some (.slice ca D.chans.length cc) := by rw [cell_of_blk (keepN HM.out hb2)]; rfl
  clear hX2 hown2 hb2 m1
  go_wp2_with fail
  refine Calls.mono (encChans_any V1 w2 _ _ X2 D.chans HW2.out HB2.out HCV.out (by have := hXl2.out; omega) (by omega)) ?_
  rintro e w3 ⟨X3, va3, c3, rfl, hX3, hown3, hb3⟩
  have HB3 : Hid (Below V1.heap.size V1 w3) := hb3
  have HX3 : Hid (X3 = X2 ++ encChans D.chans) := hX3
  have hXl3 : Hid (X3.length ≤ 100000) := by
    show _ ≤ _
    have h1 := hXl2.out
    have h3 := encChans_len D.chans D.chans.length
    rw [List.take_length] at h3
    rw [hX3, List.length_append]
    simp only [encChans, List.length_cons]
    omega
  have HW3 : Hid (w3.ownsRow V1.heap.size 5 1 (.slice va3 X3.length c3) X3.length (byC X3)) := hown3
  clear hX3 hown3 hb3 m2
  go_wp2_with fail
  refine Calls.mono (seal_any V1 w3 _ X3 HW3.out HB3.out (by have := hXl3.out; omega)) ?_
  rintro e w4 ⟨X4, va4, c4, rfl, hX4, hown4, hb4⟩
  have HB4 : Hid (Below V1.heap.size V1 w4) := hb4
  have hX5 : X4 = imgL D pl := by
    rw [hX4, HX3.out, HX2.out, HX1.out]
    simp [imgL, bodyL]
  have hcv := conv_bytes (bytes_see hown4) (by rw [hX4]; simp [sealL, sumB])
  rw [hX5] at hcv
  have HX5 : Hid _ := hX5
  clear hX4 hown4 hb4 hX5
  rw [HX5.out]
  go_wp2_with fail
  go_ret
  exact ⟨rfl, HBW.out.trans (HB4.out.mono HBW.out.size)⟩
end Go.Proofs.YteioennfpkoagaaGreatDoor.C
