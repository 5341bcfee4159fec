import Derived.Test.YteioennfpkoagaaGreatDoorB18
import Derived.ArgAppend
import Derived.Test.YteioennfpkoagaaGreatDoorB05
import Derived.Test.YteioennfpkoagaaGreatDoorB03
import Derived.Test.YteioennfpkoagaaGreatDoorB08
import Derived.Test.YteioennfpkoagaaGreatDoorB13
import Derived.OwnWalk
import Derived.Deep.DeepCutAuto
namespace Go.Proofs.YteioennfpkoagaaGreatDoor.C
open Go.RowKit K
attribute [local go_sem ↓] Go.wp_at_zero Go.wp_at_succ

theorem infoPartI : (Tryz.prog.info? 42).map (fun i => (i.zero, i.size, i.bytes)) = some (some (.agg #[.string ⟨#[]⟩, .int .i64 0, .int .i64 0, .int .i64 0, .slice none 0 0]), 5, 64) := by kernel_rfl
theorem own_base {w : World} {B B' e s n : Nat} {v : Value} {xs : List Value} (h : w.ownsRow B' e s v n xs) (hB : B ≤ B') : w.ownsRow B e s v n xs := by
  refine ⟨h.1, ?_⟩
  rcases h.2 with hn | ⟨g, cap, cur, hv, hb, rest⟩
  · exact .inl hn
  · exact .inr ⟨g, cap, cur, hv, Nat.le_trans hB hb, rest⟩
theorem PA.far {w w' : World} {B rb : Nat} {v : Value} {ys : List (PartD × Value)} (h : PA w B v ys) (hB : rb < B) (hf : Frm (isB rb) w w') : PA w' B v ys :=
  ⟨own_far h.own hB hf, fun y hy => own_far (h.reg y hy) hB hf⟩
theorem PA.set {w : World} {B b : Nat} {v : Value} {ys : List (PartD × Value)} {cs : Array Value} (h : PA w B v ys) (hb : w.heap[b]? = some (.cells cs 42 (0, 0))) (hv : v.ownBlock ≠ some b) (i : Nat) (u : Value) : PA (w.setCell ⟨b, i, none⟩ u) B v ys :=
  ⟨owns_keep h.own fun k hk => blk_far i u (fun e => hv (e ▸ hk)), fun y hy => owns_keep (h.reg y hy) fun k hk => blk_far i u (fun e => own_not_blk (h.reg y hy) hb (by decide) (e ▸ hk).symm)⟩
set_option maxRecDepth 100000 in
set_option maxHeartbeats 4000000 in
theorem iparts_any (w : World) (rb : Nat) (s : ByteArray) (l : List UInt8) (hs : s.size ≤ 9223372036854775807) (h : RD w rb s l) :
    Calls Tryz.prog 186 #[.pointer (some ⟨rb, 0, none⟩)] w fun e w' => ∃ v ys, e = .returned v ∧ ys.map Prod.fst = (partsI l).1 ∧ PA w' w.heap.size v ys ∧ RD w' rb s (partsI l).2 ∧ Frm (isB rb) w w' := by
  obtain ⟨i0, hi0, hz0, hz1, hz2⟩ := parts_of infoPartI
  have hrb := h.lt
  go_enter Tryz.func186, Tryz.ntmps186
  go_wp2_with fail
  refine Calls.mono (number_any w rb s l hs h) ?_
  rintro e w1 ⟨rfl, hr1, hf1⟩
  have hn := num_lt l
  have HR1 : Hid (RD w1 rb s (numI l).2) := hr1
  have HF1 : Hid (Frm (isB rb) w w1) := hf1
  obtain ⟨n, hne⟩ : ∃ n, (numI l).1 = n := ⟨_, rfl⟩
  have HL : Hid (partsI l = readN partI n (numI l).2) := by
    show _ = _
    rw [← hne]; rfl
  rw [hne] at hn ⊢
  clear h hr1 hf1 hne
  generalize (numI l).2 = l0 at *
  go_wp2_with fail
  go_loopw [3, 7] (fun v i wr => ∃ (k : Nat) (va : Option Addr) (c : Nat) (ys : List (PartD × Value)) (l' : List UInt8), i = .int .i64 k ∧ v = .slice va k c ∧ Hid (LR partI n l0 k (ys.map Prod.fst) l') ∧ Hid (PA wr w.heap.size (.slice va k c) ys) ∧ Hid (RD wr rb s l') ∧ Hid (Frm (isB rb) w wr)) (fun _ i _ => n - (intOf i).toNat)
  case atStart => exact ⟨0, none, 0, [], l0, rfl, rfl, LR.start _ _ _, ⟨World.ownsRow_nil _ _ _ _, fun y hy => by cases hy⟩, HR1, HF1⟩
  case round =>
    obtain ⟨k, va, c, ys, l', rfl, rfl, HLR, HPA, HRD, HFR⟩ := hrel
    clear HR1 HF1
    by_cases hlt : k < n
    · have hlt' : (k : Int) < (n : Int) := by omega
      have HL2 : Hid (LR partI n l0 (k + 1) (ys.map Prod.fst ++ [(partI l').1]) (partI l').2) := HLR.out.step hlt
      have HYL : Hid (ys.length = k) := by
        have := HLR.out.len
        rw [List.length_map] at this
        exact this
      go_wp2_with fail
      refine Calls.mono (number_any wr rb s l' hs HRD.out) ?_
      rintro e w2 ⟨rfl, hr2, hf2⟩
      have HP2 : Hid (PA w2 w.heap.size (.slice va k c) ys) := HPA.out.far hrb hf2
      have HF2 : Hid (Frm (isB rb) w w2) := HFR.out.trans hf2 (newO.refl _ _)
      have HR2 : Hid (RD w2 rb s (numI l').2) := hr2
      obtain ⟨x1, hx1⟩ : ∃ x, (numI l').1 = x := ⟨_, rfl⟩
      have HX : Hid ((partI l').1 = ⟨noName, 0, 0, x1, (regsI (numI l').2).1⟩ ∧ (partI l').2 = (regsI (numI l').2).2) := by
        refine ⟨?_, rfl⟩
        rw [← hx1]; rfl
      rw [hx1]
      clear hr2 hf2 HLR HPA HRD HFR hx1
      have hsz2 := HF2.out.size
      have h0 := heap_new w2 (.cells #[.string ⟨#[]⟩, .int .i64 0, .int .i64 0, .int .i64 x1, .slice none 0 0] 42)
      have b0 := newB w2 (.cells #[.string ⟨#[]⟩, .int .i64 0, .int .i64 0, .int .i64 x1, .slice none 0 0] 42)
      have HFA : Hid (Frm (isB rb) w (w2.alloc (.cells #[.string ⟨#[]⟩, .int .i64 0, .int .i64 0, .int .i64 x1, .slice none 0 0] 42))) := HF2.out.alloc _
      have hfar : (Value.slice va k c).ownBlock ≠ some w2.heap.size := fun h => by have := (HP2.out.own.lt _ h).2; omega
      go_wp2_with fail
      have HP3 : Hid _ := HP2.out.below b0
      have HR3 : Hid _ := HR2.out.below b0
      have HH0 : Hid _ := h0
      have HFV : Hid _ := hfar
      clear b0 h0 hfar HP2 HR2 HF2
      generalize w2.alloc (.cells #[.string ⟨#[]⟩, .int .i64 0, .int .i64 0, .int .i64 x1, .slice none 0 0] 42) = W1 at *
      generalize w2.heap.size = b at *
      refine Calls.mono (iregs_any W1 rb s _ hs HR3.out) ?_
      rintro e w3 ⟨rv, rfl, hrow, hr3, hf3⟩
      have hsz1 := HFA.out.size
      have HP4 : Hid (PA w3 w.heap.size (.slice va k c) ys) := HP3.out.far hrb hf3
      have HH3 : Hid (w3.heap[b]? = some (.cells #[.string ⟨#[]⟩, .int .i64 0, .int .i64 0, .int .i64 x1, .slice none 0 0] 42 (0, 0))) := (hf3.block b (lt_of_blk HH0.out) (fun e => by unfold isB at e; omega)).trans HH0.out
      have HRW : Hid (w3.ownsRow w.heap.size 90 3 rv (regsI (numI l').2).1.length (rC (regsI (numI l').2).1)) := own_base hrow hsz1
      have HR4 : Hid (RD w3 rb s (regsI (numI l').2).2) := hr3
      have HF4 : Hid (Frm (isB rb) w w3) := HFA.out.trans hf3 (newO.refl _ _)
      have c0 : w3.cell? ⟨b, 4, none⟩ = some (.slice none 0 0) := by rw [cell_of_blk HH3.out]; rfl
      have f0 : w3.frozen? ⟨b, 4, none⟩ = false := frozen_of_blk HH3.out
      obtain ⟨ra, rc, hrv⟩ := own_slice HRW.out
      subst hrv
      clear hrow hr3 hf3 HFA HP3 HR3 HH0
      generalize (regsI (numI l').2).2 = l3 at *
      generalize (regsI (numI l').2).1 = rs at *
      have HP5 : Hid (PA (w3.setCell ⟨b, 4, none⟩ (.slice ra rs.length rc)) w.heap.size (.slice va k c) ys) := HP4.out.set HH3.out HFV.out 4 _
      have HH5 : Hid ((w3.setCell ⟨b, 4, none⟩ (.slice ra rs.length rc)).heap[b]? = some (.cells #[.string ⟨#[]⟩, .int .i64 0, .int .i64 0, .int .i64 x1, .slice ra rs.length rc] 42 (0, 0))) := blk_set 4 _ HH3.out
      have HRW5 : Hid ((w3.setCell ⟨b, 4, none⟩ (.slice ra rs.length rc)).ownsRow w.heap.size 90 3 (.slice ra rs.length rc) rs.length (rC rs)) := owns_keep HRW.out fun q hq => blk_far 4 _ (fun e => own_not_blk HRW.out HH3.out (by decide) (e ▸ hq).symm)
      have HR5 : Hid (RD (w3.setCell ⟨b, 4, none⟩ (.slice ra rs.length rc)) rb s l3) := HR4.out.keep (blk_far 4 _ (by omega))
      have HF5 : Hid (Frm (isB rb) w (w3.setCell ⟨b, 4, none⟩ (.slice ra rs.length rc))) := HF4.out.set (.inr hsz2) 4 _
      have d0 : (w3.setCell ⟨b, 4, none⟩ (.slice ra rs.length rc)).cell? ⟨b, 0, none⟩ = some (.string ⟨#[]⟩) := by rw [cell_of_blk HH5.out]; rfl
      have d1 : (w3.setCell ⟨b, 4, none⟩ (.slice ra rs.length rc)).cell? ⟨b, 1, none⟩ = some (.int .i64 0) := by rw [cell_of_blk HH5.out]; rfl
      have d2 : (w3.setCell ⟨b, 4, none⟩ (.slice ra rs.length rc)).cell? ⟨b, 2, none⟩ = some (.int .i64 0) := by rw [cell_of_blk HH5.out]; rfl
      have d3 : (w3.setCell ⟨b, 4, none⟩ (.slice ra rs.length rc)).cell? ⟨b, 3, none⟩ = some (.int .i64 x1) := by rw [cell_of_blk HH5.out]; rfl
      have d4 : (w3.setCell ⟨b, 4, none⟩ (.slice ra rs.length rc)).cell? ⟨b, 4, none⟩ = some (.slice ra rs.length rc) := by rw [cell_of_blk HH5.out]; rfl
      clear HP4 HH3 HRW HR4 HF4
      go_upto_region 6 with fail
      generalize w3.setCell ⟨b, 4, none⟩ (.slice ra rs.length rc) = W4 at *
      have hsz := HF5.out.size
      go_wp2_with (first
        | (at_builtin; refine wpList_append_lies _ rfl _ _ _ rfl w.heap.size 42 i0 _ 5 64 Tryz.underlying31 hi0 hz0 hz1 hz2 rfl (by omega) (.slice va k c) k (pC ys) rfl (by have := HP5.out.own.alloc (.cells #[.string ⟨#[]⟩, .int .i64 0, .int .i64 0, .int .i64 x1, .slice ra rs.length rc] 42); rwa [HYL.out] at this) ⟨W4.heap.size, 0, none⟩ 1 1 [.string ⟨#[]⟩, .int .i64 0, .int .i64 0, .int .i64 x1, .slice ra rs.length rc] rfl rfl (World.news_of_block (cs := #[.string ⟨#[]⟩, .int .i64 0, .int .i64 0, .int .i64 x1, .slice ra rs.length rc]) (t := 42) (fr := (0, 0)) (heap_new W4 _)) (by simp [Value.oneCell']) (by omega) (by unfold maxLen; omega) (by omega) (by simp; omega) (W4.heap.size + 1) (by simp) ?_; intro g9 c9 V9 hown9 hgrow9 hat9 hlt9)
        | fail)
      have hal : (W4.alloc (.cells #[.string ⟨#[]⟩, .int .i64 0, .int .i64 0, .int .i64 x1, .slice ra rs.length rc] 42)).ownsRow w.heap.size 42 5 (.slice va k c) ys.length (pC ys) := HP5.out.own.alloc _
      refine ⟨⟨k + 1, _, c9, ys ++ [(⟨noName, 0, 0, x1, rs⟩, .slice ra rs.length rc)], l3, by go_num, rfl, ?_, ?_, ?_, ?_⟩, by simp [intOf]; omega⟩
      · have := HL2.out
        rw [HX.out.1, HX.out.2] at this
        rw [List.map_append]
        exact this
      · have hy := HYL.out
        subst hy
        exact PA.snoc (HP5.out.below (newB W4 _)) (own_stays HRW5.out (newB W4 _)) hgrow9 hown9
      · exact (HR5.out.below (newB W4 _)).grow hrb hal hgrow9
      · exact (HF5.out.alloc _).grow (Nat.le_refl _) hal hgrow9
    · have hlt' : ¬ (k : Int) < (n : Int) := by omega
      go_wp2_with fail
      go_ret
      have hfin := HLR.out.fin hlt
      rw [HL.out, hfin]
      exact ⟨_, rfl, ys, rfl, HPA.out, HRD.out, HFR.out⟩
end Go.Proofs.YteioennfpkoagaaGreatDoor.C
namespace Go.Proofs.YteioennfpkoagaaGreatDoor.C
open Go.RowKit K
attribute [local go_sem ↓] Go.wp_at_zero Go.wp_at_succ

theorem infoChanI : (Tryz.prog.info? 92).map (fun i => (i.zero, i.size, i.bytes)) = some (some (.agg #[.string ⟨#[]⟩, .int .i64 0, .int .i64 0, .int .i64 0, .int .i64 0, .int .i64 0]), 6, 56) := by kernel_rfl
set_option maxRecDepth 100000 in
set_option maxHeartbeats 4000000 in
theorem ichans_any (w : World) (rb : Nat) (s : ByteArray) (l : List UInt8) (hs : s.size ≤ 9223372036854775807) (h : RD w rb s l) :
    Calls Tryz.prog 187 #[.pointer (some ⟨rb, 0, none⟩)] w fun e w' => ∃ v, e = .returned v ∧ w'.ownsRow w.heap.size 92 6 v (chansI l).1.length (cC (chansI l).1) ∧ RD w' rb s (chansI l).2 ∧ Frm (isB rb) w w' := by
  obtain ⟨i0, hi0, hz0, hz1, hz2⟩ := parts_of infoChanI
  have hrb := h.lt
  go_enter Tryz.func187, Tryz.ntmps187
  go_wp2_with fail
  refine Calls.mono (number_any w rb s l hs h) ?_
  rintro e w1 ⟨rfl, hr1, hf1⟩
  have hn := num_lt l
  have HR1 : Hid (RD w1 rb s (numI l).2) := hr1
  have HF1 : Hid (Frm (isB rb) w w1) := hf1
  obtain ⟨n, hne⟩ : ∃ n, (numI l).1 = n := ⟨_, rfl⟩
  have HL : Hid (chansI l = readN chanI n (numI l).2) := by
    show _ = _
    rw [← hne]; rfl
  rw [hne] at hn ⊢
  clear h hr1 hf1 hne
  generalize (numI l).2 = l0 at *
  go_wp2_with fail
  go_loopw [3, 7] (fun v i wr => ∃ (k : Nat) (va : Option Addr) (c : Nat) (X : List ChanD) (l' : List UInt8), i = .int .i64 k ∧ v = .slice va k c ∧ Hid (LR chanI n l0 k X l') ∧ Hid (wr.ownsRow w.heap.size 92 6 (.slice va k c) k (cC X)) ∧ Hid (RD wr rb s l') ∧ Hid (Frm (isB rb) w wr)) (fun _ i _ => n - (intOf i).toNat)
  case atStart => exact ⟨0, none, 0, [], l0, rfl, rfl, LR.start _ _ _, World.ownsRow_nil _ _ _ _, HR1, HF1⟩
  case round =>
    obtain ⟨k, va, c, X, l', rfl, rfl, HLR, HOW, HRD, HFR⟩ := hrel
    clear HR1 HF1
    by_cases hlt : k < n
    · have hlt' : (k : Int) < (n : Int) := by omega
      have HS0 : Hid (RSt w (wr.alloc (.cells #[.string ⟨#[]⟩, .int .i64 0, .int .i64 0, .int .i64 0, .int .i64 0, .int .i64 0] 92)) rb s l' wr.heap.size #[.string ⟨#[]⟩, .int .i64 0, .int .i64 0, .int .i64 0, .int .i64 0, .int .i64 0] 92 92 6 (.slice va k c) k (cC X)) := RSt.start HRD.out HFR.out HOW.out hrb _ _
      have HL2 : Hid (LR chanI n l0 (k + 1) (X ++ [(chanI l').1]) (chanI l').2) := HLR.out.step hlt
      go_wp2_with fail
      generalize wr.alloc (.cells #[.string ⟨#[]⟩, .int .i64 0, .int .i64 0, .int .i64 0, .int .i64 0, .int .i64 0] 92) = W1 at *
      generalize wr.heap.size = b at *
      refine Calls.mono (number_any W1 rb s _ hs HS0.out.rd) ?_
      rintro e w2 ⟨rfl, hr2, hf2⟩
      have HS1 : Hid _ := HS0.out.num hr2 hf2
      have c0 : w2.cell? ⟨b, 1, none⟩ = some (.int .i64 0) := HS1.out.cell 1
      have f0 : w2.frozen? ⟨b, 1, none⟩ = false := HS1.out.free 1
      clear hr2 hf2
      obtain ⟨x1, hx1⟩ : ∃ x, (numI l').1 = x := ⟨_, rfl⟩
      rw [hx1]
      go_wp2_with fail
      have HS2 : Hid _ := HS1.out.set 1 (.int .i64 x1)
      clear c0 f0
      generalize w2.setCell ⟨b, 1, none⟩ (.int .i64 x1) = W2 at *
      refine Calls.mono (number_any W2 rb s _ hs HS2.out.rd) ?_
      rintro e w3 ⟨rfl, hr2, hf2⟩
      have HS3 : Hid _ := HS2.out.num hr2 hf2
      have c0 : w3.cell? ⟨b, 2, none⟩ = some (.int .i64 0) := HS3.out.cell 2
      have f0 : w3.frozen? ⟨b, 2, none⟩ = false := HS3.out.free 2
      clear hr2 hf2
      obtain ⟨x2, hx2⟩ : ∃ x, (numI (numI l').2).1 = x := ⟨_, rfl⟩
      rw [hx2]
      go_wp2_with fail
      have HS4 : Hid _ := HS3.out.set 2 (.int .i64 x2)
      clear c0 f0
      generalize w3.setCell ⟨b, 2, none⟩ (.int .i64 x2) = W3 at *
      refine Calls.mono (number_any W3 rb s _ hs HS4.out.rd) ?_
      rintro e w4 ⟨rfl, hr2, hf2⟩
      have HS5 : Hid _ := HS4.out.num hr2 hf2
      have c0 : w4.cell? ⟨b, 3, none⟩ = some (.int .i64 0) := HS5.out.cell 3
      have f0 : w4.frozen? ⟨b, 3, none⟩ = false := HS5.out.free 3
      clear hr2 hf2
      obtain ⟨x3, hx3⟩ : ∃ x, (numI (numI (numI l').2).2).1 = x := ⟨_, rfl⟩
      rw [hx3]
      go_wp2_with fail
      have HS6 : Hid _ := HS5.out.set 3 (.int .i64 x3)
      clear c0 f0
      generalize w4.setCell ⟨b, 3, none⟩ (.int .i64 x3) = W4 at *
      refine Calls.mono (number_any W4 rb s _ hs HS6.out.rd) ?_
      rintro e w5 ⟨rfl, hr2, hf2⟩
      have HS7 : Hid _ := HS6.out.num hr2 hf2
      have c0 : w5.cell? ⟨b, 4, none⟩ = some (.int .i64 0) := HS7.out.cell 4
      have f0 : w5.frozen? ⟨b, 4, none⟩ = false := HS7.out.free 4
      clear hr2 hf2
      obtain ⟨x4, hx4⟩ : ∃ x, (numI (numI (numI (numI l').2).2).2).1 = x := ⟨_, rfl⟩
      rw [hx4]
      go_wp2_with fail
      have HS8 : Hid _ := HS7.out.set 4 (.int .i64 x4)
      clear c0 f0
      generalize w5.setCell ⟨b, 4, none⟩ (.int .i64 x4) = W5 at *
      refine Calls.mono (number_any W5 rb s _ hs HS8.out.rd) ?_
      rintro e w6 ⟨rfl, hr2, hf2⟩
      have HS9 : Hid _ := HS8.out.num hr2 hf2
      have c0 : w6.cell? ⟨b, 5, none⟩ = some (.int .i64 0) := HS9.out.cell 5
      have f0 : w6.frozen? ⟨b, 5, none⟩ = false := HS9.out.free 5
      clear hr2 hf2
      obtain ⟨x5, hx5⟩ : ∃ x, (numI (numI (numI (numI (numI l').2).2).2).2).1 = x := ⟨_, rfl⟩
      rw [hx5]
      have HX : Hid ((chanI l').1 = ⟨noName, x1, x2, x3, x4, x5⟩) := by
        show (⟨_, _, _, _, _, _⟩ : ChanD) = _
        rw [hx1, hx2, hx3, hx4, hx5]
      have HS10 : Hid (RSt w (w6.setCell ⟨b, 5, none⟩ (.int .i64 x5)) rb s (chanI l').2 b #[.string ⟨#[]⟩, .int .i64 x1, .int .i64 x2, .int .i64 x3, .int .i64 x4, .int .i64 x5] 92 92 6 (.slice va k c) k (cC X)) := HS9.out.set 5 (.int .i64 x5)
      have d0 : (w6.setCell ⟨b, 5, none⟩ (.int .i64 x5)).cell? ⟨b, 0, none⟩ = some (.string ⟨#[]⟩) := HS10.out.cell 0
      have d1 : (w6.setCell ⟨b, 5, none⟩ (.int .i64 x5)).cell? ⟨b, 1, none⟩ = some (.int .i64 x1) := HS10.out.cell 1
      have d2 : (w6.setCell ⟨b, 5, none⟩ (.int .i64 x5)).cell? ⟨b, 2, none⟩ = some (.int .i64 x2) := HS10.out.cell 2
      have d3 : (w6.setCell ⟨b, 5, none⟩ (.int .i64 x5)).cell? ⟨b, 3, none⟩ = some (.int .i64 x3) := HS10.out.cell 3
      have d4 : (w6.setCell ⟨b, 5, none⟩ (.int .i64 x5)).cell? ⟨b, 4, none⟩ = some (.int .i64 x4) := HS10.out.cell 4
      have d5 : (w6.setCell ⟨b, 5, none⟩ (.int .i64 x5)).cell? ⟨b, 5, none⟩ = some (.int .i64 x5) := HS10.out.cell 5
      clear HS0 HS1 HS2 HS3 HS4 HS5 HS6 HS7 HS8 HS9 hx1 hx2 hx3 hx4 hx5
      go_upto_region 10 with fail
      generalize w6.setCell ⟨b, 5, none⟩ (.int .i64 x5) = W6 at *
      have hsz := HS10.out.frm.size
      go_wp2_with (first
        | (at_builtin; refine wpList_append_lies _ rfl _ _ _ rfl w.heap.size 92 i0 _ 6 56 Tryz.underlying32 hi0 hz0 hz1 hz2 rfl (by omega) (.slice va k c) k (cC X) rfl (HS10.out.own.alloc _) ⟨W6.heap.size, 0, none⟩ 1 1 [.string ⟨#[]⟩, .int .i64 x1, .int .i64 x2, .int .i64 x3, .int .i64 x4, .int .i64 x5] rfl rfl (World.news_of_block (cs := #[.string ⟨#[]⟩, .int .i64 x1, .int .i64 x2, .int .i64 x3, .int .i64 x4, .int .i64 x5]) (t := 92) (fr := (0, 0)) (heap_new W6 _)) (by simp [Value.oneCell']) (by omega) (by unfold maxLen; omega) (by omega) (by simp; omega) (W6.heap.size + 1) (by simp) ?_; intro g9 c9 V9 hown9 hgrow9 hat9 hlt9)
        | fail)
      obtain ⟨hr9, hf9⟩ := HS10.out.grow _ hgrow9
      refine ⟨⟨k + 1, _, c9, _, _, by go_num, rfl, HL2, ?_, hr9, hf9⟩, by simp [intOf]; omega⟩
      have e : cC (X ++ [(chanI l').1]) = cC X ++ [.string ⟨#[]⟩, .int .i64 x1, .int .i64 x2, .int .i64 x3, .int .i64 x4, .int .i64 x5] := by rw [HX.out]; simp [cC, cC1, noName]
      rw [e]; exact hown9
    · have hlt' : ¬ (k : Int) < (n : Int) := by omega
      go_wp2_with fail
      go_ret
      have hfin := HLR.out.fin hlt
      have hl := HLR.out.len
      rw [HL.out, hfin]
      exact ⟨_, rfl, by rw [hl]; exact HOW.out, HRD.out, HFR.out⟩
end Go.Proofs.YteioennfpkoagaaGreatDoor.C
namespace Go.Proofs.YteioennfpkoagaaGreatDoor.C
open Go.RowKit K
attribute [local go_sem ↓] Go.wp_at_zero Go.wp_at_succ

/- bytes of a string, with room behind them -/
structure BytesR (w : World) (b : Nat) (l : List UInt8) (cap : Nat) : Prop where
  cell : ∀ i (h : i < l.length), w.cell? ⟨b, i, none⟩ = some (.int .u8 l[i].toNat)
  room : ∀ i, i < cap → (w.cell? ⟨b, i, none⟩).isSome = true ∧ w.frozen? ⟨b, i, none⟩ = false
  le : l.length ≤ cap
  lt : b < w.heap.size
theorem BytesR.of (w : World) (s : ByteArray) (k : Nat) (hk : s.size ≤ k) : BytesR (w.drew.alloc (.cells (bytesRow s k) 5 ((bytesRow s k).size, (bytesRow s k).size + 1))) w.heap.size s.data.toList k := by
  have hb : (w.drew.alloc (.cells (bytesRow s k) 5 ((bytesRow s k).size, (bytesRow s k).size + 1))).heap[w.heap.size]? = some (.cells (bytesRow s k) 5 ((bytesRow s k).size, (bytesRow s k).size + 1)) := heap_new w.drew _
  have hsz : (bytesRow s k).size = k := by
    unfold bytesRow
    simp
    have : s.data.size = s.size := rfl
    omega
  refine ⟨fun i hi => ?_, fun i hi => ⟨?_, ?_⟩, by simpa using hk, lt_of_blk hb⟩
  · rw [cell_of_blk hb]
    unfold bytesRow
    have hi' : i < s.data.size := by simpa using hi
    rw [Array.getElem?_append_left (by simpa using hi'), Array.getElem?_map, Array.getElem?_eq_getElem hi']
    rfl
  · rw [cell_of_blk hb, Array.getElem?_eq_getElem (by omega)]
    rfl
  · simp only [World.frozen?, hb]
    simp
    omega
theorem BytesR.see {w : World} {b cap : Nat} {l : List UInt8} (h : BytesR w b l cap) : BytesV w (.slice (some ⟨b, 0, none⟩) l.length cap) l :=
  ⟨_, _, rfl, fun i hi => ⟨b, 0, rfl, by rw [Nat.zero_add]; exact h.cell i hi⟩⟩
theorem below_many {B b : Nat} {a : World} (hb : B ≤ b) : ∀ (vs : List Value) (o : Nat) (w : World), Below B a w → Below B a (w.setCells b o vs)
  | [], _, _, h => h
  | v :: vs, o, _w, h => below_many hb vs (o + 1) _ (h.setCell (p := ⟨b, o, none⟩) hb v)
def sealV (s : BitVec 32) : List Value := [.int .u8 ((s.toNat : Int) / 16777216), .int .u8 ((s.toNat : Int) / 65536 % 256), .int .u8 ((s.toNat : Int) / 256 % 256), .int .u8 ((s.toNat : Int) % 256)]
theorem sealV_eq (l : List UInt8) : byC (sealL l) = byC l ++ sealV (sumL l) := by
  obtain ⟨s, hs⟩ : ∃ s, sumL l = s := ⟨_, rfl⟩
  unfold sealL sealV
  rw [byC_app, hs]
  simp only [byC, sumB, List.map_cons, List.map_nil, sb_nat]
  have h1 := s.isLt
  have h2 : (s.toNat : Int) / (2 ^ 24 : Nat) % 256 = (s.toNat : Int) / 16777216 := by omega
  rw [h2]
  simp
set_option maxRecDepth 100000 in
set_option maxHeartbeats 4000000 in
theorem seal_arg (w0 w : World) (b cap : Nat) (bs : List UInt8) (ho : BytesR w b bs cap) (h0 : Below w0.heap.size w0 w) (hb0 : w0.heap.size ≤ b) (hb : bs.length ≤ 1000000) :
    Calls Tryz.prog 120 #[.slice (some ⟨b, 0, none⟩) bs.length cap] w fun e w' => ∃ v, e = .returned v ∧ BytesV w' v (sealL bs) ∧ Below w0.heap.size w0 w' := by
  obtain ⟨i0, hi0, hz0, hz1, hz2⟩ := parts_of infoByte
  have HO : Hid (BytesR w b bs cap) := ho
  have H0 : Hid (Below w0.heap.size w0 w) := h0
  clear ho h0
  go_enter Tryz.func120, Tryz.ntmps120
  go_wp2_with fail
  refine Calls.mono (checksum_any _ bs (by omega) w HO.out.see) ?_
  rintro e V ⟨rfl, rfl⟩
  have HE : Hid (byC (sealL bs) = byC bs ++ sealV (sumL bs)) := sealV_eq bs
  obtain ⟨s, hs⟩ : ∃ s, sumL bs = s := ⟨_, rfl⟩
  rw [hs] at HE ⊢
  clear hs
  have hw0 := H0.out.size
  have hblt : b < V.heap.size := HO.out.lt
  have HB1 : Hid (Below w0.heap.size w0 (V.alloc (.cells #[.int .u8 ((s.toNat : Int) / 16777216), .int .u8 ((s.toNat : Int) / 65536 % 256), .int .u8 ((s.toNat : Int) / 256 % 256), .int .u8 ((s.toNat : Int) % 256)] 5))) := H0.out.trans ((newB V _).mono hw0)
  have HC : Hid (∀ o j u, (byC bs)[j]? = some u → (V.alloc o).cell? ⟨b, 0 + j, none⟩ = some u) := fun o j u hu => by
    have hj : j < bs.length := by
      rcases Nat.lt_or_ge j bs.length with h | h
      · exact h
      · rw [List.getElem?_eq_none (by rw [byC_len]; exact h)] at hu; cases hu
    rw [Nat.zero_add, (newB V o).cell (p := ⟨b, j, none⟩) hblt, HO.out.cell j hj, ← hu]
    simp [byC, List.getElem?_eq_getElem hj]
  have HRM : Hid (∀ o, bs.length + 4 ≤ cap → ∀ j, j < 4 → ((V.alloc o).cell? ⟨b, 0 + bs.length * 1 + j, none⟩).isSome = true ∧ (V.alloc o).frozen? ⟨b, 0 + bs.length * 1 + j, none⟩ = false) := fun o hr j hj => by
    have h1 := HO.out.room (bs.length + j) (by omega)
    rw [show 0 + bs.length * 1 + j = bs.length + j by omega]
    refine ⟨by rw [(newB V o).cell (p := ⟨b, bs.length + j, none⟩) hblt]; exact h1.1, ?_⟩
    have h2 := h1.2
    unfold World.frozen? at h2 ⊢
    rwa [(newB V o).block b hblt]
  have e2 : (sealL bs).length = bs.length + 4 := sealL_len bs
  have HE2 : Hid ((sealL bs).length = bs.length + 4) := e2
  clear e2
  by_cases hroom : bs.length + 4 ≤ cap
  · go_wp2_with (first
      | (at_builtin; refine wpList_append_arg _ rfl _ _ _ rfl 5 i0 _ 1 1 Tryz.underlying63 hi0 hz0 hz1 hz2 rfl (by omega) b 0 bs.length cap (byC bs) rfl (by rw [byC_len]; omega) (HC.out _) ⟨V.heap.size, 0, none⟩ 4 4 [.int .u8 ((s.toNat : Int) / 16777216), .int .u8 ((s.toNat : Int) / 65536 % 256), .int .u8 ((s.toNat : Int) / 256 % 256), .int .u8 ((s.toNat : Int) % 256)] rfl rfl (World.news_of_block (cs := #[.int .u8 ((s.toNat : Int) / 16777216), .int .u8 ((s.toNat : Int) / 65536 % 256), .int .u8 ((s.toNat : Int) / 256 % 256), .int .u8 ((s.toNat : Int) % 256)]) (t := 5) (fr := (0, 0)) (heap_new V _)) (by simp [Value.oneCell']) (HRM.out _) (by unfold maxLen; omega) (by omega) (fun _ => ?_) (fun h => absurd h (by omega)))
      | fail)
    go_ret
    refine ⟨_, rfl, ⟨some ⟨b, 0, none⟩, cap, by rw [HE2.out]; rfl, fun i hi => ⟨b, 0, rfl, ?_⟩⟩, below_many hb0 _ _ _ HB1.out⟩
    have hi2 : i < bs.length + 4 := by rw [← HE2.out]; exact hi
    have key : (byC bs ++ sealV s)[i]? = some (.int .u8 ((sealL bs)[i]).toNat) := by
      rw [← HE.out]
      simp [byC, List.getElem?_eq_getElem hi]
    rcases Nat.lt_or_ge i bs.length with h1 | h1
    · rw [List.getElem?_append_left (by rw [byC_len]; exact h1)] at key
      rw [World.cell?_setCells_out _ _ _ _ _ (fun _ _ => .inl (show 0 + i < bs.length by omega))]
      exact HC.out _ i _ key
    · obtain ⟨j, rfl⟩ : ∃ j, i = bs.length + j := ⟨i - bs.length, by omega⟩
      rw [List.getElem?_append_right (by rw [byC_len]; omega), byC_len, Nat.add_sub_cancel_left] at key
      have hj : j < (sealV s).length := by show j < 4; omega
      rw [← key]
      have := World.cell?_setCells_in b (sealV s) bs.length (V.alloc (.cells #[.int .u8 ((s.toNat : Int) / 16777216), .int .u8 ((s.toNat : Int) / 65536 % 256), .int .u8 ((s.toNat : Int) / 256 % 256), .int .u8 ((s.toNat : Int) % 256)] 5)) (fun q hq => by rw [show bs.length + q = 0 + bs.length * 1 + q by omega]; exact (HRM.out _ hroom q hq).1) j hj
      rw [Nat.zero_add, List.getElem?_eq_getElem hj]
      exact this
  · go_wp2_with (first
      | (at_builtin; refine wpList_append_arg _ rfl _ _ _ rfl 5 i0 _ 1 1 Tryz.underlying63 hi0 hz0 hz1 hz2 rfl (by omega) b 0 bs.length cap (byC bs) rfl (by rw [byC_len]; omega) (HC.out _) ⟨V.heap.size, 0, none⟩ 4 4 [.int .u8 ((s.toNat : Int) / 16777216), .int .u8 ((s.toNat : Int) / 65536 % 256), .int .u8 ((s.toNat : Int) / 256 % 256), .int .u8 ((s.toNat : Int) % 256)] rfl rfl (World.news_of_block (cs := #[.int .u8 ((s.toNat : Int) / 16777216), .int .u8 ((s.toNat : Int) / 65536 % 256), .int .u8 ((s.toNat : Int) / 256 % 256), .int .u8 ((s.toNat : Int) % 256)]) (t := 5) (fr := (0, 0)) (heap_new V _)) (by simp [Value.oneCell']) (HRM.out _) (by unfold maxLen; omega) (by omega) (fun h => absurd h (by omega)) (fun _ => ?_); intro v9 W9 hown9 hgrow9)
      | fail)
    go_ret
    have hown : W9.ownsRow (V.heap.size + 1) 5 1 v9 (sealL bs).length (byC (sealL bs)) := by
      rw [HE2.out, HE.out]
      unfold sealV
      simpa using hown9
    refine ⟨_, rfl, bytes_see hown, HB1.out.grown hgrow9 HB1.out.size (fun k hk => by cases hk)⟩
end Go.Proofs.YteioennfpkoagaaGreatDoor.C
namespace Go.Proofs.YteioennfpkoagaaGreatDoor.C
open Go.RowKit
attribute [local go_sem ↓] Go.wp_at_zero Go.wp_at_succ

theorem wrap_tick {f p : Int} (h1 : 1 ≤ p) (h2 : p ≤ 240) (h3 : 0 ≤ f) (h4 : f ≤ 240) : IntKind.i64.wrap (f % p) = f % p ∧ IntKind.i64.wrap (f - f % p) = f - f % p ∧ IntKind.i64.wrap (f - f % p + p) = f - f % p + p := by
  have a := Int.emod_lt_of_pos f (show 0 < p by omega)
  have b := Int.emod_nonneg f (show p ≠ 0 by omega)
  exact ⟨wrap_small _ (by omega) (by omega), wrap_small _ (by omega) (by omega), wrap_small _ (by omega) (by omega)⟩
theorem row_at {w : World} {b : Nat} {l : List Int} {k : Nat} (h : w.heap[b]? = some (.cells (intsC l).toArray 3 (0, 0))) (hk : k < l.length) : w.cell? ⟨b, k, none⟩ = some (.int .i64 (l.getD k 0)) := by
  rw [cell_of_blk h, List.getElem?_toArray]; exact intsC_at l k hk
theorem row_set {w : World} {b : Nat} {l : List Int} (h : w.heap[b]? = some (.cells (intsC l).toArray 3 (0, 0))) (k : Nat) (v : Int) : (w.setCell ⟨b, k, none⟩ (.int .i64 v)).heap[b]? = some (.cells (intsC (l.set k v)).toArray 3 (0, 0)) := by
  rw [blk_set k _ h, List.setIfInBounds_toArray, intsC_set]

set_option maxHeartbeats 4000000 in
set_option maxRecDepth 100000 in
theorem refPlan_any (f : Int) (ps : List PartD) (cs : List ChanD) (pv cv : Value) (w : World) (hp : PartsV w pv ps) (hc : ChansV w cv cs) (hl : ps.length ≤ 4611686018427387903) :
    Calls Tryz.prog 156 #[.agg #[.int .i64 f, pv, cv]] w fun e w' => (¬ checkF ⟨f, ps, cs⟩ = 0 ∧ e = .returned (.tuple #[.slice none 0 0, .int .i64 (checkF ⟨f, ps, cs⟩)]) ∧ Below w.heap.size w w') ∨ (checkF ⟨f, ps, cs⟩ = 0 ∧ Below w.heap.size w w' ∧ ∃ v, e = .returned (.tuple #[v, .int .i64 0]) ∧ w'.ownsRow w.heap.size 3 1 v (planF ⟨f, ps, cs⟩).length (intsC (planF ⟨f, ps, cs⟩))) := by
  have HP : Hid (PartsV w pv ps) := hp
  have HCV : Hid (ChansV w cv cs) := hc
  obtain ⟨va, cap, rfl, hx⟩ := hp
  clear hx
  obtain ⟨ca, ck, rfl, hx⟩ := hc
  clear hx
  have b0 : Below w.heap.size w (w.alloc (.cells #[.int .i64 f, .slice va ps.length cap, .slice ca cs.length ck] 34)) := (Below.refl _ w).alloc (Nat.le_refl _) _
  have h0 := heap_new w (.cells #[.int .i64 f, .slice va ps.length cap, .slice ca cs.length ck] 34)
  go_enter Tryz.func156, Tryz.ntmps156
  go_wp2_with fail
  generalize w.alloc (.cells #[.int .i64 f, .slice va ps.length cap, .slice ca cs.length ck] 34) = W0 at *
  refine (check_any f ps cs _ _ W0 (PartsV.below HP.out b0) (ChansV.below HCV.out b0) hl).mono ?_
  rintro e w1 ⟨rfl, hb1⟩
  have b1 := b0.trans (hb1.mono b0.size)
  have h1 := (hb1.block _ (lt_of_blk h0)).trans h0
  clear b0 h0 hb1
  by_cases hz : checkF ⟨f, ps, cs⟩ = 0
  · have HZ : Hid _ := hz
    obtain ⟨hf1, hf2, hp8, _, hpo, _⟩ := check_ok hz
    simp only [] at hf1 hf2 hp8
    have HPO : Hid (∀ k (hk : k < ps.length), 1 ≤ ps[k].period ∧ ps[k].period ≤ 240 ∧ 0 ≤ ps[k].duration ∧ ps[k].duration ≤ 240) := fun k hk => by
      have h := partErr_ok (hpo k hk).2
      simp only [] at h
      exact ⟨by omega, by omega, by omega, by omega⟩
    have HD : Hid (∀ k (h : k < ps.length), 0 ≤ ps[k].duration ∧ ps[k].duration ≤ 240) := fun k hk => ⟨(HPO.out k hk).2.2.1, (HPO.out k hk).2.2.2⟩
    rw [hz]
    clear hz hpo
    obtain ⟨F, rfl⟩ : ∃ F : Nat, f = F := ⟨f.toNat, by omega⟩
    have hmk := make_ints w1 ps.length (by omega)
    have y1 : w1.cell? ⟨w.heap.size, 1, none⟩ = some (.slice va ps.length cap) := by rw [cell_of_blk h1]; rfl
    have hpl : ps.length ≤ 9223372036854775807 := by omega
    go_wp2_with fail
    have b2 := b1.alloc (o := .cells (intsC (List.replicate ps.length 0)).toArray 3) b1.size
    have l2 := heap_new w1 (.cells (intsC (List.replicate ps.length 0)).toArray 3)
    have m2 := heap_old w1 (.cells (intsC (List.replicate ps.length 0)).toArray 3) h1
    have hlb : w1.heap.size < (w1.alloc (.cells (intsC (List.replicate ps.length 0)).toArray 3)).heap.size := by simp
    have hmb : w.heap.size ≠ w1.heap.size := by have := lt_of_blk h1; omega
    have hmb2 := lt_of_blk h1
    clear y1 hmk b1 h1
    generalize w1.alloc (.cells (intsC (List.replicate ps.length 0)).toArray 3) = W2 at *
    generalize w1.heap.size = lb at *
    go_loopw [6, 7] (fun o i wr => ∃ (t : Nat) (oa : Option Addr) (oc : Nat), i = .int .i64 t ∧ o = .slice oa t oc ∧ t ≤ F ∧ wr.ownsRow W2.heap.size 3 1 (.slice oa t oc) t (intsC (planN ps t).1) ∧ wr.heap[lb]? = some (.cells (intsC (planN ps t).2).toArray 3 (0, 0)) ∧ wr.heap[w.heap.size]? = some (.cells #[.int .i64 (F : Int), .slice va ps.length cap, .slice ca cs.length ck] 34 (0, 0)) ∧ Below w.heap.size w wr ∧ W2.heap.size ≤ wr.heap.size) (fun _ i _ => F - (intOf i).toNat)
    case atStart => exact ⟨0, none, 0, rfl, rfl, by omega, ⟨rfl, .inl ⟨rfl, rfl⟩⟩, l2, m2, b2, Nat.le_refl _⟩
    case round =>
      obtain ⟨t, oa, oc, rfl, rfl, htF, hown, hleft, hman, hbel, hsz⟩ := hrel
      have y0 : wr.cell? ⟨w.heap.size, 0, none⟩ = some (.int .i64 (F : Int)) := by rw [cell_of_blk hman]; rfl
      by_cases hlt : t < F
      · have hlt' : (t : Int) < (F : Int) := by omega
        have hLN := (planN_len ps t).2
        have HIN : Hid (InB (planN ps t).2) := planN_in ps HD.out t
        have HNX : Hid (planN ps (t + 1) = ((planN ps t).1 ++ [(planStep t ps (planN ps t).2).1], (planStep t ps (planN ps t).2).2)) := rfl
        generalize (planN ps t).2 = ls at *
        generalize (planN ps t).1 = outs at *
        go_wp2_with fail
        clear y0
        generalize wr = wz at *
        go_loopw [8, 9, 10] (fun b d i wx => ∃ k : Nat, i = .int .i64 k ∧ b = .int .i64 (bestK t ps ls k).1 ∧ d = .int .i64 (bestK t ps ls k).2 ∧ k ≤ ps.length ∧ wx.ownsRow W2.heap.size 3 1 (.slice oa t oc) t (intsC outs) ∧ wx.heap[lb]? = some (.cells (intsC (refK t ps ls k)).toArray 3 (0, 0)) ∧ wx.heap[w.heap.size]? = some (.cells #[.int .i64 (F : Int), .slice va ps.length cap, .slice ca cs.length ck] 34 (0, 0)) ∧ Below w.heap.size w wx ∧ W2.heap.size ≤ wx.heap.size) (fun _ _ i _ => ps.length - (intOf i).toNat)
        case atStart => exact ⟨0, rfl, rfl, rfl, by omega, hown, hleft, hman, hbel, hsz⟩
        case round =>
          obtain ⟨k, rfl, rfl, rfl, hk, hown, hleft, hman, hbel, hsz⟩ := hrel
          have y1 : wr.cell? ⟨w.heap.size, 1, none⟩ = some (.slice va ps.length cap) := by rw [cell_of_blk hman]; rfl
          by_cases hkl : k < ps.length
          · have hkl' : (k : Int) < (ps.length : Int) := by omega
            have hk0 : (0 : Int) ≤ (k : Int) := by omega
            obtain ⟨va', cap', hvv, hvc⟩ := PartsV.below HP.out hbel
            cases hvv
            obtain ⟨pb, po, rv, rfl, _, d1, d2, _⟩ := hvc k hkl
            clear hvc
            have hrl : (refK t ps ls k).length = ps.length := by rw [refK_len]; exact hLN
            have HRS : Hid _ := refK_step (t := t) (ls := ls) hkl
            have HBS : Hid _ := bestK_step (t := t) (ls := ls) hkl
            obtain ⟨p1, p2, _, _⟩ := HPO.out k hkl
            have g1 := row_at hleft (show k < (refK t ps ls k).length by omega)
            have fz := frozen_of_blk (i := k) hleft
            have hpw : PartsV wr _ ps := PartsV.below HP.out hbel
            clear hpw
            generalize ps[k] = x at *
            obtain ⟨w1', w2', w3'⟩ := wrap_tick p1 p2 (show (0 : Int) ≤ (t : Int) by omega) (show (t : Int) ≤ 240 by omega)
            have hpz : ¬ x.period = 0 := by omega
            have ht0 : (0 : Int) ≤ (t : Int) := by omega
            generalize hR : refK t ps ls k = R at *
            generalize hBB : bestK t ps ls k = BB at *
            obtain ⟨B, D⟩ := BB
            simp only [] at HBS
            have HRR : Hid _ := hR
            have HBB : Hid _ := hBB
            clear hR hBB
            have hbk1 : pb ≠ lb := by
              have e1 := World.block_lt_of_cell? wr _ d1
              obtain ⟨va2, cap2, hvv, hvc⟩ := HP.out
              cases hvv
              obtain ⟨pb2, po2, rv2, hbb, q0, _⟩ := hvc k hkl
              cases hbb
              have := World.block_lt_of_cell? w _ q0
              simp only [] at this
              omega
            generalize hcc : R.getD k 0 = c0 at *
            have HCC : Hid _ := hcc
            clear hcc
            have hdue : dueF t x = (t : Int) - (t : Int) % x.period + x.period := rfl
            cases hmod : ((t : Int) % x.period == 0)
            · have hfr : fresh1 t x c0 = c0 := by unfold fresh1; rw [if_neg (by simpa using hmod)]
              rw [hfr] at HRS HBS
              have hset : R.set k c0 = R := by
                rw [← HCC.out]
                apply List.ext_getElem?
                intro j
                rw [List.getElem?_set]
                by_cases hj : k = j
                · subst hj
                  simp [show k < R.length by omega, List.getD]
                · simp [hj]
              rw [hset] at HRS
              have HL1 : Hid _ := hleft
              rw [← HRS.out] at hleft
              by_cases q1 : 0 < c0
              · have q1' : decide (0 < c0) = true := by simp [q1]
                by_cases q2 : B < 0
                · have q2' : decide (B < 0) = true := by simp [q2]
                  rw [if_pos ⟨q1, .inl q2⟩, hdue] at HBS
                  go_wp2_with fail
                  go_roundw
                  case rel => exact ⟨k + 1, by go_num, by rw [HBS.out], by rw [HBS.out], by omega, hown, hleft, hman, hbel, hsz⟩
                  case measure => simp [intOf]; omega
                · have q2' : decide (B < 0) = false := by simp; omega
                  by_cases q3 : (t : Int) - (t : Int) % x.period + x.period < D
                  · have q3' : decide ((t : Int) - (t : Int) % x.period + x.period < D) = true := by simp [q3]
                    rw [if_pos ⟨q1, .inr q3⟩, hdue] at HBS
                    go_wp2_with fail
                    go_roundw
                    case rel => exact ⟨k + 1, by go_num, by rw [HBS.out], by rw [HBS.out], by omega, hown, hleft, hman, hbel, hsz⟩
                    case measure => simp [intOf]; omega
                  · have q3' : decide ((t : Int) - (t : Int) % x.period + x.period < D) = false := by simp; omega
                    rw [if_neg (by rw [hdue]; omega)] at HBS
                    go_wp2_with fail
                    go_roundw
                    case rel => exact ⟨k + 1, by go_num, by rw [HBS.out], by rw [HBS.out], by omega, hown, hleft, hman, hbel, hsz⟩
                    case measure => simp [intOf]; omega
              · have q1' : decide (0 < c0) = false := by simp; omega
                rw [if_neg (by omega)] at HBS
                go_wp2_with fail
                go_roundw
                case rel => exact ⟨k + 1, by go_num, by rw [HBS.out], by rw [HBS.out], by omega, hown, hleft, hman, hbel, hsz⟩
                case measure => simp [intOf]; omega
            · have hfr : fresh1 t x c0 = x.duration := by unfold fresh1; rw [if_pos (by simpa using hmod)]
              rw [hfr] at HRS HBS
              have hleft2 := row_set hleft k x.duration
              have z1 : (wr.setCell ⟨lb, k, none⟩ (.int .i64 x.duration)).cell? ⟨lb, k, none⟩ = some (.int .i64 x.duration) := by
                rw [row_at hleft2 (by rw [List.length_set]; omega), getD_set _ _ _ _ (by omega), if_pos rfl]
              rw [← HRS.out] at hleft2
              have hown2 := own_kept hown (grown_set wr lb k (.int .i64 x.duration)) (fun j e => .inl (by cases e; exact hlb))
              have hman2 : (wr.setCell ⟨lb, k, none⟩ (.int .i64 x.duration)).heap[w.heap.size]? = _ := (blk_far k (.int .i64 x.duration) hmb).trans hman
              have hbel2 := hbel.setCell (p := ⟨lb, k, none⟩) (Nat.le_of_lt hmb2) (.int .i64 x.duration)
              have hsz2 : W2.heap.size ≤ (wr.setCell ⟨lb, k, none⟩ (.int .i64 x.duration)).heap.size := by simpa using hsz
              by_cases q1 : 0 < x.duration
              · have q1' : decide (0 < x.duration) = true := by simp [q1]
                by_cases q2 : B < 0
                · have q2' : decide (B < 0) = true := by simp [q2]
                  rw [if_pos ⟨q1, .inl q2⟩, hdue] at HBS
                  go_wp2_with fail
                  go_roundw
                  case rel => exact ⟨k + 1, by go_num, by rw [HBS.out], by rw [HBS.out], by omega, hown2, hleft2, hman2, hbel2, hsz2⟩
                  case measure => simp [intOf]; omega
                · have q2' : decide (B < 0) = false := by simp; omega
                  by_cases q3 : (t : Int) - (t : Int) % x.period + x.period < D
                  · have q3' : decide ((t : Int) - (t : Int) % x.period + x.period < D) = true := by simp [q3]
                    rw [if_pos ⟨q1, .inr q3⟩, hdue] at HBS
                    go_wp2_with fail
                    go_roundw
                    case rel => exact ⟨k + 1, by go_num, by rw [HBS.out], by rw [HBS.out], by omega, hown2, hleft2, hman2, hbel2, hsz2⟩
                    case measure => simp [intOf]; omega
                  · have q3' : decide ((t : Int) - (t : Int) % x.period + x.period < D) = false := by simp; omega
                    rw [if_neg (by rw [hdue]; omega)] at HBS
                    go_wp2_with fail
                    go_roundw
                    case rel => exact ⟨k + 1, by go_num, by rw [HBS.out], by rw [HBS.out], by omega, hown2, hleft2, hman2, hbel2, hsz2⟩
                    case measure => simp [intOf]; omega
              · have q1' : decide (0 < x.duration) = false := by simp; omega
                rw [if_neg (by omega)] at HBS
                go_wp2_with fail
                go_roundw
                case rel => exact ⟨k + 1, by go_num, by rw [HBS.out], by rw [HBS.out], by omega, hown2, hleft2, hman2, hbel2, hsz2⟩
                case measure => simp [intOf]; omega
          · have hkl' : ¬ (k : Int) < (ps.length : Int) := by omega
            have hke : k = ps.length := by omega
            subst hke
            obtain ⟨i0, hi, hz0, hz1, hz2⟩ := info_parts intInfo
            have HPS : Hid (planStep t ps ls = planStep t ps ls) := rfl
            conv at HPS => arg 1; rhs; unfold planStep
            have hrl : (refK t ps ls ps.length).length = ps.length := by rw [refK_len]; exact hLN
            have hpos := bestK_pos (t := t) hLN ps.length (Nat.le_refl _)
            have hin := refK_in (t := t) hLN HIN.out HD.out ps.length
            have HB0 : Hid _ := hin
            clear hin
            generalize hR : refK t ps ls ps.length = R at *
            generalize (bestK t ps ls ps.length).2 = D at *
            generalize hB : (bestK t ps ls ps.length).1 = B at *
            clear hR hB
            rcases hpos with ⟨rfl, _⟩ | ⟨c1, c2, c3⟩
            · have HS : Hid (planStep t ps ls = (-1, R)) := by show _ = _; rw [HPS.out, if_pos (by omega)]
              clear HPS
              go_wp2_with (at_builtin; refine wpList_append_own _ rfl _ _ 48 rfl W2.heap.size 3 i0 (.int .i64 0) 1 8 Tryz.underlying48 hi hz0 hz1 hz2 rfl (by decide) _ _ _ rfl (own_below hown ((Below.refl _ _).alloc (Nat.le_refl _) _)) ⟨wr.heap.size, 0, none⟩ 1 1 [.int .i64 (-1)] rfl rfl ?c1 ?c2 ?c3 ?c4 ?c5 ?_)
              case c2 => first | rfl | (simp [Value.oneCell']; done) | (intro u hu; simp at hu; subst hu; rfl)
              case c3 => unfold maxLen; omega
              case c4 => omega
              case c5 => first | omega | (simp; omega)
              intro v' w3 hown3 hgrow _
              obtain ⟨oa3, oc3, rfl⟩ := own_shapeT hown3
              have hne : ∀ j, j < W2.heap.size → some j ≠ (Value.slice oa t oc).ownBlock := fun j hj e => by have := (hown.lt j e.symm).1; omega
              have hl3 : w3.heap[lb]? = some (.cells (intsC R).toArray 3 (0, 0)) := (hgrow.block lb (by have := lt_of_blk hleft; simp; omega) (hne lb hlb)).trans (heap_old _ _ hleft)
              have hm3 : w3.heap[w.heap.size]? = _ := (hgrow.block w.heap.size (by have := lt_of_blk hman; simp; omega) (hne _ (by omega))).trans (heap_old _ _ hman)
              have hb3 := (hbel.alloc hbel.size (.cells #[.int .i64 (-1)] 3)).grown hgrow (by have := hbel.size; simp; omega) (fun j hj => by have := (hown.lt j hj).1; omega)
              have hs3 : W2.heap.size ≤ w3.heap.size := Nat.le_trans hsz (Nat.le_trans (by simp) hgrow.size)
              have HN1 : Hid (intsC outs ++ [.int .i64 (-1)] = intsC (planN ps (t + 1)).1) := by show _ = _; rw [HNX.out, HS.out]; simp [intsC]
              have HN2 : Hid (R = (planN ps (t + 1)).2) := by show _ = _; rw [HNX.out, HS.out]
              rw [HN1.out] at hown3
              rw [HN2.out] at hl3
              go_wp2_with fail
              go_roundw
              case rel => exact ⟨t + 1, oa3, oc3, by go_num, rfl, by omega, hown3, hl3, hm3, hb3, hs3⟩
              case measure => simp [intOf]; omega
            · obtain ⟨bn, rfl⟩ : ∃ bn : Nat, B = bn := ⟨B.toNat, by omega⟩
              simp only [Int.toNat_natCast] at c3
              have hbl : bn < R.length := by omega
              have hbl' : (bn : Int) < (ps.length : Int) := by omega
              have hb0 : (0 : Int) ≤ (bn : Int) := by omega
              have hin := HB0.out bn hbl
              have HS : Hid (planStep t ps ls = ((bn : Int), R.set bn (R.getD bn 0 - 1))) := by show _ = _; rw [HPS.out, if_neg (by omega)]; simp only [Int.toNat_natCast]
              clear HPS
              have g1 := row_at hleft hbl
              have fz := frozen_of_blk (i := bn) hleft
              have hleft2 := row_set hleft bn (R.getD bn 0 - 1)
              generalize hcc : R.getD bn 0 = c at *
              clear hcc
              have hw : IntKind.i64.wrap (c - 1) = c - 1 := wrap_small _ (by omega) (by omega)
              have hown2 := own_kept hown (grown_set wr lb bn (.int .i64 (c - 1))) (fun j e => .inl (by cases e; exact hlb))
              have hman2 : (wr.setCell ⟨lb, bn, none⟩ (.int .i64 (c - 1))).heap[w.heap.size]? = _ := (blk_far bn (.int .i64 (c - 1)) hmb).trans hman
              have hbel2 := hbel.setCell (p := ⟨lb, bn, none⟩) (Nat.le_of_lt hmb2) (.int .i64 (c - 1))
              have hsz2 : W2.heap.size ≤ (wr.setCell ⟨lb, bn, none⟩ (.int .i64 (c - 1))).heap.size := by simpa using hsz
              clear hbel hman hleft hown hsz
              have hownL : ∀ j, (Value.slice oa t oc).ownBlock = some j → W2.heap.size ≤ j := fun j hj => (hown2.lt j hj).1
              go_upto_region 23 with fail
              clear g1 fz
              generalize wr.setCell ⟨lb, bn, none⟩ (.int .i64 (c - 1)) = V at *
              go_wp2_with (at_builtin; refine wpList_append_own _ rfl _ _ 48 rfl W2.heap.size 3 i0 (.int .i64 0) 1 8 Tryz.underlying48 hi hz0 hz1 hz2 rfl (by decide) _ _ _ rfl (own_below hown2 ((Below.refl _ _).alloc (Nat.le_refl _) _)) ⟨V.heap.size, 0, none⟩ 1 1 [.int .i64 bn] rfl rfl ?d1 ?d2 ?d3 ?d4 ?d5 ?_)
              case d2 => first | rfl | (simp [Value.oneCell']; done) | (intro u hu; simp at hu; subst hu; rfl)
              case d3 => unfold maxLen; omega
              case d4 => omega
              case d5 => first | omega | (simp; omega)
              intro v' w3 hown3 hgrow _
              obtain ⟨oa3, oc3, rfl⟩ := own_shapeT hown3
              have hne : ∀ j, j < W2.heap.size → some j ≠ (Value.slice oa t oc).ownBlock := fun j hj e => by have := hownL j e.symm; omega
              have hl3 : w3.heap[lb]? = some (.cells (intsC (R.set bn (c - 1))).toArray 3 (0, 0)) := (hgrow.block lb (by have := lt_of_blk hleft2; simp at this ⊢; omega) (hne lb hlb)).trans (heap_old _ _ hleft2)
              have hm3 : w3.heap[w.heap.size]? = _ := (hgrow.block w.heap.size (by have := lt_of_blk hman2; simp at this ⊢; omega) (hne _ (by omega))).trans (heap_old _ _ hman2)
              have hb3 := (hbel2.alloc hbel2.size (.cells #[.int .i64 (bn : Int)] 3)).grown hgrow (by have := hbel2.size; simp at this ⊢; omega) (fun j hj => by have := hownL j hj; omega)
              have hs3 : W2.heap.size ≤ w3.heap.size := Nat.le_trans hsz2 (Nat.le_trans (by simp) hgrow.size)
              have HN1 : Hid (intsC outs ++ [.int .i64 (bn : Int)] = intsC (planN ps (t + 1)).1) := by show _ = _; rw [HNX.out, HS.out]; simp [intsC]
              have HN2 : Hid (R.set bn (c - 1) = (planN ps (t + 1)).2) := by show _ = _; rw [HNX.out, HS.out]
              rw [HN1.out] at hown3
              rw [HN2.out] at hl3
              go_wp2_with fail
              go_roundw
              case rel => exact ⟨t + 1, oa3, oc3, by go_num, rfl, by omega, hown3, hl3, hm3, hb3, hs3⟩
              case measure => simp [intOf]; omega
      · have hlt' : ¬ (t : Int) < (F : Int) := by omega
        have hte : t = F := by omega
        subst hte
        go_wp2_with fail
        go_ret2
        refine .inr ⟨HZ.out, hbel, _, rfl, ?_⟩
        have e : planF ⟨(t : Int), ps, cs⟩ = (planN ps t).1 := by unfold planF; simp only [Int.toNat_natCast]
        rw [e, (planN_len ps t).1]
        exact own_mono hown (by omega)
  · have hzz : (checkF ⟨f, ps, cs⟩ != 0) = true := by simp [hz]
    go_wp2_with fail
    go_ret2
    exact .inl ⟨hz, rfl, b1⟩
end Go.Proofs.YteioennfpkoagaaGreatDoor.C
