import Derived.Test.YteioennfpkoagaaGreatDoorM03
import Derived.Test.YteioennfpkoagaaGreatDoorM04
import Derived.Deep.DeepCutAuto
namespace Go.Proofs.YteioennfpkoagaaGreatDoor.C
open Go.RowKit K
attribute [local go_sem ↓] Go.wp_at_zero Go.wp_at_succ

set_option maxRecDepth 100000 in
set_option maxHeartbeats 8000000 in
theorem apart_law (I : KerI) (hMade : MadeF) (w : World) (htb : TB w) (u sv : Value) (L : List Int) (os : List StepD) (hL : IntsV w u L) (xw : Int) (hxw : inI xw) (hS : StepsV w sv os) :
    Calls Tryz.prog 8 #[u, .int .i64 xw, sv] w fun e w' => e = .returned (.bool true) ∧ Below w.heap.size w w' := by
  have HTB : Hid (TB w) := htb
  clear htb
  have HM : Hid _ := hMade w u L hL
  have HSV : Hid (StepsV w sv os) := hS
  obtain ⟨hol, _, sa, sc, rfl, _⟩ := hS
  clear hMade hL
  go_enter Tryz.func8, Tryz.ntmps8
  go_wp2_with fail
  refine Calls.mono HM.out ?_
  rintro e w1 ⟨n, ps, cs, pv, cv, rfl, hm⟩
  have HMM : Hid (MadeM w n ps cs pv cv w1) := hm
  obtain ⟨va, cap, rfl, _⟩ := hm.parts
  obtain ⟨ca, ck, rfl, _⟩ := hm.chans
  have hfr := hm.fr
  have hps : ps.length ≤ 8 := (check_ok hm.chk).2.2.1
  have hpos : 0 < ps.length := List.length_pos_iff.2 hm.ne
  have hcl : cs.length ≤ 8 := (check_ok hm.chk).2.2.2.1
  have HEN : Hid (∀ x ∈ cs, (0 ≤ x.source ∧ x.source < ps.length) ∧ (0 ≤ x.target ∧ x.target < ps.length)) := fun x hx => ⟨(hm.ci.all x hx).src, (hm.ci.all x hx).tgt⟩
  clear hm HM
  have b0 := newB w1 (.cells #[.int .i64 n, .slice va ps.length cap, .slice ca cs.length ck] 34)
  have h0 := heap_new w1 (.cells #[.int .i64 n, .slice va ps.length cap, .slice ca cs.length ck] 34)
  have HP0 : Hid _ := HMM.out.parts.below b0
  have HPC0 : Hid _ := PartsC.below HMM.out.parts HMM.out.partsC b0
  have HC0 : Hid _ := HMM.out.chans.below b0
  have HBEG : Hid _ := kbegin_any I (w1.alloc (.cells #[.int .i64 n, .slice va ps.length cap, .slice ca cs.length ck] 34)) ((HTB.out.below HMM.out.bel).below b0) n ps cs _ _ HP0.out HPC0.out HC0.out HMM.out.chansC HMM.out.chk HMM.out.ne HMM.out.fst
  have HB0 : Hid (Below w1.heap.size w1 (w1.alloc (.cells #[.int .i64 n, .slice va ps.length cap, .slice ca cs.length ck] 34))) := b0
  have HH0 : Hid ((w1.alloc (.cells #[.int .i64 n, .slice va ps.length cap, .slice ca cs.length ck] 34)).heap[w1.heap.size]? = some (.cells #[.int .i64 n, .slice va ps.length cap, .slice ca cs.length ck] 34 (0, 0))) := h0
  clear b0 h0
  go_wp2_with fail
  generalize w1.alloc (.cells #[.int .i64 n, .slice va ps.length cap, .slice ca cs.length ck] 34) = W0 at *
  refine Calls.mono HBEG.out ?_
  rintro e w2 ⟨a, qv, W1, rfl, hbg⟩
  have HBG : Hid (Begun I W0 ⟨n, ps, cs⟩ a qv W1 w2) := hbg
  have epl : (planF ⟨n, ps, cs⟩).length = n := by rw [planF_len]; simp
  obtain ⟨qa, qc, hqv, _⟩ := hbg.plan
  rw [epl] at hqv
  subst hqv
  clear hbg HBEG
  have hW0 : Below w.heap.size w W1 := (HMM.out.bel.trans (HB0.out.mono HMM.out.bel.size)).trans (HBG.out.pre.mono (Nat.le_trans HMM.out.bel.size HB0.out.size))
  have HBW : Hid (Below w.heap.size w W1) := hW0
  have HPW : Hid (PartsV W1 (.slice va ps.length cap) ps) := PartsV.below HP0.out HBG.out.pre
  have HPCW : Hid (PartsC W1 (.slice va ps.length cap) ps.length) := PartsC.below HP0.out HPC0.out HBG.out.pre
  have HCW : Hid (ChansV W1 (.slice ca cs.length ck) cs) := ChansV.below HC0.out HBG.out.pre
  have HSW : Hid (StepsV W1 (.slice sa os.length sc) os) := HSV.out.below hW0
  have HMW : Hid (W1.heap[w1.heap.size]? = some (.cells #[.int .i64 n, .slice va ps.length cap, .slice ca cs.length ck] 34 (0, 0))) := keepN HH0.out HBG.out.pre
  have hb2 := HBG.out.kat.bel
  have y0 : w2.cell? ⟨w1.heap.size, 0, none⟩ = some (.int .i64 n) := by rw [cell_of_blk (keepN HMW.out hb2)]; rfl
  have y1 : w2.cell? ⟨w1.heap.size, 1, none⟩ = some (.slice va ps.length cap) := by rw [cell_of_blk (keepN HMW.out hb2)]; rfl
  have y2 : w2.cell? ⟨w1.heap.size, 2, none⟩ = some (.slice ca cs.length ck) := by rw [cell_of_blk (keepN HMW.out hb2)]; rfl
  have HBEG2 : Hid _ := kbegin_any I w2 ((HTB.out.below HBW.out).below hb2) n ps cs _ _ (HPW.out.below hb2) (PartsC.below HPW.out HPCW.out hb2) (HCW.out.below hb2) HMM.out.chansC HMM.out.chk HMM.out.ne HMM.out.fst
  clear hW0 hb2
  go_wp2_with fail
  refine Calls.mono HBEG2.out ?_
  rintro e w3 ⟨a2, qv2, W2, rfl, hbg2⟩
  have HKP : Hid (KP I W1 [] a a2 ⟨n, ps, cs⟩ bootK bootK w3) := KP.of HBG.out.kat hbg2.kat hbg2.pre
  obtain ⟨qa2, qc2, hqv, _⟩ := hbg2.plan
  rw [epl] at hqv
  subst hqv
  clear hbg2 HBEG2 y0 y1 y2 epl
  have y1 : w3.cell? ⟨w1.heap.size, 1, none⟩ = some (.slice va ps.length cap) := by rw [cell_of_blk (keepN HMW.out HKP.out.bel)]; rfl
  go_wp2_with fail
  obtain ⟨p, hpe, hp1⟩ : ∃ p : Nat, pickF xw ps.length = p ∧ p < ps.length := by
    have := pickF_lt (c := xw) (n := ps.length) (by omega)
    exact ⟨(pickF xw ps.length).toNat, by omega, by omega⟩
  refine Calls.mono (pick_any xw ps.length hxw (by omega) w3) ?_
  rintro e V ⟨rfl, hV⟩
  have hV2 := hV.symm
  clear hV
  subst hV2
  rw [hpe]
  clear hpe
  have y0 : w3.cell? ⟨w1.heap.size, 0, none⟩ = some (.int .i64 n) := by rw [cell_of_blk (keepN HMW.out HKP.out.bel)]; rfl
  have y2 : w3.cell? ⟨w1.heap.size, 2, none⟩ = some (.slice ca cs.length ck) := by rw [cell_of_blk (keepN HMW.out HKP.out.bel)]; rfl
  go_wp2_with fail
  refine Calls.mono (leads_any w3 n ps cs _ _ (HPW.out.below HKP.out.bel) (HCW.out.below HKP.out.bel) hps hcl HEN.out p hp1) ?_
  rintro e w4 ⟨fb, rfl, hfb, hfh, hb4⟩
  have HKP4 : Hid (KP I W1 [fb] a a2 ⟨n, ps, cs⟩ bootK bootK w4) := HKP.out.add hb4 hfb (lt_of_blk hfh)
  have HFB : Hid (W1.heap.size ≤ fb) := Nat.le_trans HKP.out.bel.size hfb
  have HSH : Hid (Shut ⟨n, ps, cs⟩ (fun q => leadL cs (upB (fun _ => false) p) ps.length q = true)) := shut_of (leadL_shut (n := ps.length) (i := p) (fun x hx => by have := HEN.out x hx; omega) hp1 (by simp [upB]))
  have HFP : Hid (leadL cs (upB (fun _ => false) p) ps.length p = true) := leadL_le _ _ _ p (by simp [upB])
  obtain ⟨F, hF⟩ : ∃ F, leadL cs (upB (fun _ => false) p) ps.length = F := ⟨_, rfl⟩
  rw [hF] at hfh HSH HFP
  have HFH : Hid (w4.heap[fb]? = some (.cells (boolA F ps.length) 4 (0, 0))) := hfh
  clear y0 y1 y2 hfh hb4 hF hfb
  go_wp2_with fail
  go_loopw [14] (fun ii wr => ∃ (k : Nat) (S T : KS), ii = .int .i64 k ∧ k ≤ os.length ∧ Hid (KP I W1 [fb] a a2 ⟨n, ps, cs⟩ S T wr) ∧ Hid (EqvK ⟨n, ps, cs⟩ (fun q => F q = true) S T) ∧ Hid (SmallK k S ∧ SmallK k T) ∧ Hid (wr.heap[fb]? = some (.cells (boolA F ps.length) 4 (0, 0)))) (fun ii _ => os.length - (intOf ii).toNat)
  case atStart => exact ⟨0, bootK, bootK, rfl, by omega, HKP4, EqvK.refl _ _ _, ⟨SmallK.boot, SmallK.boot⟩, HFH⟩
  case round =>
    obtain ⟨k, S, T, rfl, hk, HKR, HEQ, HSM, HFR⟩ := hrel
    by_cases hlt : k < os.length
    · have hlt' : (k : Int) < (os.length : Int) := by omega
      have hsS : SmallK bigK S := HSM.out.1.mono (by unfold bigK; omega)
      have hsT : SmallK bigK T := HSM.out.2.mono (by unfold bigK; omega)
      have hSw := HSW.out.below HKR.out.bel
      have hor := hSw.2.1 os[k] (List.getElem_mem _)
      obtain ⟨_, _, sa', sc', esa, hc⟩ := hSw
      simp only [Value.slice.injEq, true_and] at esa
      obtain ⟨rfl, rfl⟩ := esa
      obtain ⟨sb, so, rfl, s0, s1, s2, s3, s4⟩ := hc k hlt
      obtain ⟨x, hx⟩ : ∃ x, os[k] = x := ⟨_, rfl⟩
      rw [hx] at s0 s1 s2 s3 s4 hor
      clear hx hc
      obtain ⟨xk, xp, xn, xb, xt⟩ := x
      simp only [] at s0 s1 s2 s3 s4
      have HOR : Hid (StepR ⟨xk, xp, xn, xb, xt⟩) := hor
      have hxp := hor.p
      have hx5 := heap_new wr (.cells #[.int .i64 xk, .int .i64 xp, .int .i64 xn, .int .i64 xb, .string xt] 71)
      have hk5 := HKR.out.alloc (.cells #[.int .i64 xk, .int .i64 xp, .int .i64 xn, .int .i64 xb, .string xt] 71)
      have hf5 := keepN HFR.out (newB wr (.cells #[.int .i64 xk, .int .i64 xp, .int .i64 xn, .int .i64 xb, .string xt] 71))
      have hlo : W1.heap.size ≤ wr.heap.size := HKR.out.bel.size
      go_upto_region 12 with fail
      generalize wr.alloc (.cells #[.int .i64 xk, .int .i64 xp, .int .i64 xn, .int .i64 xb, .string xt] 71) = W5 at *
      generalize wr.heap.size = lo at *
      have HX5 : Hid (W5.heap[lo]? = some (.cells #[.int .i64 xk, .int .i64 xp, .int .i64 xn, .int .i64 xb, .string xt] 71 (0, 0))) := hx5
      have HK5 : Hid (KP I W1 [lo, fb] a a2 ⟨n, ps, cs⟩ S T W5) := hk5
      have HF5 : Hid (W5.heap[fb]? = some (.cells (boolA F ps.length) 4 (0, 0))) := hf5
      have o0 : W5.cell? ⟨lo, 0, none⟩ = some (.int .i64 xk) := by rw [cell_of_blk hx5]; rfl
      have o1 : W5.cell? ⟨lo, 1, none⟩ = some (.int .i64 xp) := by rw [cell_of_blk hx5]; rfl
      have o2 : W5.cell? ⟨lo, 2, none⟩ = some (.int .i64 xn) := by rw [cell_of_blk hx5]; rfl
      have o3 : W5.cell? ⟨lo, 3, none⟩ = some (.int .i64 xb) := by rw [cell_of_blk hx5]; rfl
      have o4 : W5.cell? ⟨lo, 4, none⟩ = some (.string xt) := by rw [cell_of_blk hx5]; rfl
      have m0 : W5.cell? ⟨w1.heap.size, 0, none⟩ = some (.int .i64 n) := by rw [cell_of_blk (keepN HMW.out hk5.bel)]; rfl
      have m1 : W5.cell? ⟨w1.heap.size, 1, none⟩ = some (.slice va ps.length cap) := by rw [cell_of_blk (keepN HMW.out hk5.bel)]; rfl
      have m2 : W5.cell? ⟨w1.heap.size, 2, none⟩ = some (.slice ca cs.length ck) := by rw [cell_of_blk (keepN HMW.out hk5.bel)]; rfl
      clear s0 s1 s2 s3 s4 hx5 hk5 hf5 hor
      obtain ⟨q, hqe, hq1⟩ : ∃ q : Nat, pickF xp ps.length = q ∧ q < ps.length := by
        have := pickF_lt (c := xp) (n := ps.length) (by omega)
        exact ⟨(pickF xp ps.length).toNat, by omega, by omega⟩
      have HQE : Hid (pickF xp ps.length = q) := hqe
      clear hqe
      go_wp2_with fail
      refine Calls.mono (pick_any xp ps.length hxp (by omega) W5) ?_
      rintro e V ⟨rfl, hV⟩
      have hV2 := hV.symm
      clear hV
      subst hV2
      rw [HQE.out]
      have HDX : Hid (Calls Tryz.prog 27 #[.pointer (some a), .agg #[.int .i64 n, .slice va ps.length cap, .slice ca cs.length ck], .agg #[.int .i64 xk, .int .i64 xp, .int .i64 xn, .int .i64 xb, .string xt]] W5 fun e w' => e = .returned (ansV (doF ⟨n, ps, cs⟩ S ⟨xk, xp, xn, xb, xt⟩).1) ∧ KP I W1 [lo, fb] a a2 ⟨n, ps, cs⟩ (doF ⟨n, ps, cs⟩ S ⟨xk, xp, xn, xb, xt⟩).2 T w' ∧ sameL [lo, fb] W5 w') := KP.do_ HK5.out HPW.out HCW.out HMM.out.chk HMM.out.ne hsS ⟨xk, xp, xn, xb, xt⟩ HOR.out
      go_wp2_with fail
      refine Calls.mono HDX.out ?_
      rintro e w6 ⟨rfl, hk6, hs6⟩
      have HWP : Hid ((whoP ⟨n, ps, cs⟩ ⟨xk, xp, xn, xb, xt⟩).toNat = q) := by
        show (pickF xp ps.length).toNat = q
        rw [HQE.out]; simp
      have HX6 : Hid (w6.heap[lo]? = some (.cells #[.int .i64 xk, .int .i64 xp, .int .i64 xn, .int .i64 xb, .string xt] 71 (0, 0))) := hs6.at (by simp) HX5.out
      have HF6 : Hid (w6.heap[fb]? = some (.cells (boolA F ps.length) 4 (0, 0))) := hs6.at (by simp) HF5.out
      obtain ⟨dS, hdS⟩ : ∃ d, doF ⟨n, ps, cs⟩ S ⟨xk, xp, xn, xb, xt⟩ = d := ⟨_, rfl⟩
      have HDS : Hid (doF ⟨n, ps, cs⟩ S ⟨xk, xp, xn, xb, xt⟩ = dS) := hdS
      rw [hdS] at hk6 ⊢
      clear hdS
      obtain ⟨⟨an, at_, ay, ae⟩, S'⟩ := dS
      unfold ansV
      simp only [] at hk6 ⊢
      have hsS' : SmallK (k + 1) S' := by have := HSM.out.1.step ⟨n, ps, cs⟩ ⟨xk, xp, xn, xb, xt⟩; rwa [HDS.out] at this
      have hk7 := hk6.alloc (.cells #[.int .i64 an, .string at_, .bool ay, .int .i64 ae] 73)
      have ha7 := heap_new w6 (.cells #[.int .i64 an, .string at_, .bool ay, .int .i64 ae] 73)
      have b7 := newB w6 (.cells #[.int .i64 an, .string at_, .bool ay, .int .i64 ae] 73)
      have hx7 := keepN HX6.out b7
      have hf7 := keepN HF6.out b7
      have hlt6 := lt_of_blk HX6.out
      have hlt6f := lt_of_blk HF6.out
      clear hk6 hs6 HDX o0 o1 o2 o3 o4 m0 m1 m2
      go_upto_region 14 with fail
      generalize w6.alloc (.cells #[.int .i64 an, .string at_, .bool ay, .int .i64 ae] 73) = W7 at *
      generalize w6.heap.size = la at *
      have hk8 := hk7.alloc (.cells #[.int .i64 0, .string ⟨#[]⟩, .bool false, .int .i64 0] 73)
      have hb8 := heap_new W7 (.cells #[.int .i64 0, .string ⟨#[]⟩, .bool false, .int .i64 0] 73)
      have b8 := newB W7 (.cells #[.int .i64 0, .string ⟨#[]⟩, .bool false, .int .i64 0] 73)
      have ha8 := keepN ha7 b8
      have hx8 := keepN hx7 b8
      have hf8 := keepN hf7 b8
      have hlt7 := lt_of_blk ha7
      go_upto_region 15 with fail
      generalize W7.alloc (.cells #[.int .i64 0, .string ⟨#[]⟩, .bool false, .int .i64 0] 73) = W8 at *
      generalize W7.heap.size = lb at *
      have HK8 : Hid (KP I W1 [lb, la, lo, fb] a a2 ⟨n, ps, cs⟩ S' T W8) := hk8
      have HLB : Hid (W8.heap[lb]? = some (.cells #[.int .i64 0, .string ⟨#[]⟩, .bool false, .int .i64 0] 73 (0, 0))) := hb8
      have HLA : Hid (W8.heap[la]? = some (.cells #[.int .i64 an, .string at_, .bool ay, .int .i64 ae] 73 (0, 0))) := ha8
      have HX8 : Hid (W8.heap[lo]? = some (.cells #[.int .i64 xk, .int .i64 xp, .int .i64 xn, .int .i64 xb, .string xt] 71 (0, 0))) := hx8
      have HF8 : Hid (W8.heap[fb]? = some (.cells (boolA F ps.length) 4 (0, 0))) := hf8
      have o0 : W8.cell? ⟨lo, 0, none⟩ = some (.int .i64 xk) := by rw [cell_of_blk hx8]; rfl
      have g0 : W8.cell? ⟨fb, q, none⟩ = some (.bool (F q)) := by rw [cell_of_blk hf8]; exact boolA_at _ hq1
      have hq1' : (q : Int) < (ps.length : Int) := by omega
      clear hk7 ha7 b7 hx7 hf7 hk8 hb8 b8 ha8 hx8 hf8
      go_cut [78] (fun t wc => t = .bool (decide (xk = 1 ∨ F q = true)) ∧ wc = W8)
      case first =>
        by_cases hk1 : xk = 1
        · subst hk1
          go_wp2_with fail
          go_meet
          exact ⟨by simp, rfl⟩
        · go_wp2_with fail
          go_meet
          exact ⟨by simp [hk1], rfl⟩
      case rest =>
        obtain ⟨rfl, hwc⟩ := hcut
        have hwc2 := hwc.symm
        clear hwc
        subst hwc2
        by_cases hex : xk = 1 ∨ F q = true
        · rw [decide_eq_true hex]
          have HEX : Hid (xk = 1 ∨ F q = true) := hex
          clear hex
          have o1 : W8.cell? ⟨lo, 1, none⟩ = some (.int .i64 xp) := by rw [cell_of_blk HX8.out]; rfl
          have o2 : W8.cell? ⟨lo, 2, none⟩ = some (.int .i64 xn) := by rw [cell_of_blk HX8.out]; rfl
          have o3 : W8.cell? ⟨lo, 3, none⟩ = some (.int .i64 xb) := by rw [cell_of_blk HX8.out]; rfl
          have o4 : W8.cell? ⟨lo, 4, none⟩ = some (.string xt) := by rw [cell_of_blk HX8.out]; rfl
          have m0 : W8.cell? ⟨w1.heap.size, 0, none⟩ = some (.int .i64 n) := by rw [cell_of_blk (keepN HMW.out HK8.out.bel)]; rfl
          have m1 : W8.cell? ⟨w1.heap.size, 1, none⟩ = some (.slice va ps.length cap) := by rw [cell_of_blk (keepN HMW.out HK8.out.bel)]; rfl
          have m2 : W8.cell? ⟨w1.heap.size, 2, none⟩ = some (.slice ca cs.length ck) := by rw [cell_of_blk (keepN HMW.out HK8.out.bel)]; rfl
          have HDY : Hid (Calls Tryz.prog 27 #[.pointer (some a2), .agg #[.int .i64 n, .slice va ps.length cap, .slice ca cs.length ck], .agg #[.int .i64 xk, .int .i64 xp, .int .i64 xn, .int .i64 xb, .string xt]] W8 fun e w' => e = .returned (ansV (doF ⟨n, ps, cs⟩ T ⟨xk, xp, xn, xb, xt⟩).1) ∧ KP I W1 [lb, la, lo, fb] a2 a ⟨n, ps, cs⟩ (doF ⟨n, ps, cs⟩ T ⟨xk, xp, xn, xb, xt⟩).2 S' w' ∧ sameL [lb, la, lo, fb] W8 w') := KP.do_ HK8.out.swap HPW.out HCW.out HMM.out.chk HMM.out.ne hsT ⟨xk, xp, xn, xb, xt⟩ HOR.out
          go_wp2_with fail
          refine Calls.mono HDY.out ?_
          rintro e w9 ⟨rfl, hk9, hs9⟩
          obtain ⟨dT, hdT⟩ : ∃ d, doF ⟨n, ps, cs⟩ T ⟨xk, xp, xn, xb, xt⟩ = d := ⟨_, rfl⟩
          have HDT : Hid (doF ⟨n, ps, cs⟩ T ⟨xk, xp, xn, xb, xt⟩ = dT) := hdT
          rw [hdT] at hk9 ⊢
          clear hdT
          obtain ⟨⟨bn, bt, bY, be⟩, T'⟩ := dT
          unfold ansV
          simp only [] at hk9 ⊢
          have hsT' : SmallK (k + 1) T' := by have := HSM.out.2.step ⟨n, ps, cs⟩ ⟨xk, xp, xn, xb, xt⟩; rwa [HDT.out] at this
          have hlb9 := hs9.at (b := lb) (by simp) HLB.out
          have hla9 := hs9.at (b := la) (by simp) HLA.out
          have hfb9 := hs9.at (b := fb) (by simp) HF8.out
          have l0 : w9.cell? ⟨lb, 0, none⟩ = some (.int .i64 0) := by rw [cell_of_blk hlb9]; rfl
          have l1 : w9.cell? ⟨lb, 1, none⟩ = some (.string ⟨#[]⟩) := by rw [cell_of_blk hlb9]; rfl
          have l2 : w9.cell? ⟨lb, 2, none⟩ = some (.bool false) := by rw [cell_of_blk hlb9]; rfl
          have l3 : w9.cell? ⟨lb, 3, none⟩ = some (.int .i64 0) := by rw [cell_of_blk hlb9]; rfl
          have lf := fun i => frozen_of_row w9 lb i _ _ hlb9
          have lf0 := lf 0
          have lf1 := lf 1
          have lf2 := lf 2
          have lf3 := lf 3
          clear lf
          have hbS := blk_set 3 (.int .i64 be) (blk_set 2 (.bool bY) (blk_set 1 (.string bt) (blk_set 0 (.int .i64 bn) hlb9)))
          have far : ∀ {c : Nat} {x : Obj}, c ≠ lb → w9.heap[c]? = some x → ((((w9.setCell ⟨lb, 0, none⟩ (.int .i64 bn)).setCell ⟨lb, 1, none⟩ (.string bt)).setCell ⟨lb, 2, none⟩ (.bool bY)).setCell ⟨lb, 3, none⟩ (.int .i64 be)).heap[c]? = some x := fun {c x} hc hx => (blk_far 3 _ hc).trans ((blk_far 2 _ hc).trans ((blk_far 1 _ hc).trans ((blk_far 0 _ hc).trans hx)))
          have hlaS := far (show la ≠ lb by omega) hla9
          have hfbS := far (show fb ≠ lb by omega) hfb9
          have hkS := (((hk9.swap.set (c := lb) (by simp) (by omega) 0 (.int .i64 bn)).set (c := lb) (by simp) (by omega) 1 (.string bt)).set (c := lb) (by simp) (by omega) 2 (.bool bY)).set (c := lb) (by simp) (by omega) 3 (.int .i64 be)
          clear far
          go_upto_region 17 with fail
          generalize (((w9.setCell ⟨lb, 0, none⟩ (.int .i64 bn)).setCell ⟨lb, 1, none⟩ (.string bt)).setCell ⟨lb, 2, none⟩ (.bool bY)).setCell ⟨lb, 3, none⟩ (.int .i64 be) = WS at *
          have HKS : Hid (KP I W1 [lb, la, lo, fb] a a2 ⟨n, ps, cs⟩ S' T' WS) := hkS
          have HFS : Hid (WS.heap[fb]? = some (.cells (boolA F ps.length) 4 (0, 0))) := hfbS
          have HBS : Hid (WS.heap[lb]? = some (.cells #[.int .i64 bn, .string bt, .bool bY, .int .i64 be] 73 (0, 0))) := hbS
          have HAS : Hid (WS.heap[la]? = some (.cells #[.int .i64 an, .string at_, .bool ay, .int .i64 ae] 73 (0, 0))) := hlaS
          clear l0 l1 l2 l3 lf0 lf1 lf2 lf3 hbS hlaS hfbS hkS hlb9 hla9 hfb9 hk9 hs9
          have HANS : Hid (EqvK ⟨n, ps, cs⟩ (fun q => F q = true) S' T' ∧ (q = p → (⟨an, at_, ay, ae⟩ : AnsD) = ⟨bn, bt, bY, be⟩)) := by
            by_cases hfq : F q = true
            · obtain ⟨h1, h2⟩ := EqvK.step HSH.out HEQ.out (o := ⟨xk, xp, xn, xb, xt⟩) (by show F _ = true; rw [HWP.out]; exact hfq)
              rw [HDS.out, HDT.out] at h1 h2
              exact ⟨h2, fun _ => h1⟩
            · have hk1 : xk = 1 := by
                rcases HEX.out with h | h
                · exact h
                · exact absurd h hfq
              obtain ⟨h1, h2, h3⟩ := EqvK.tickStep HEQ.out (o := ⟨xk, xp, xn, xb, xt⟩) hk1
              rw [HDS.out] at h1 h3
              rw [HDT.out] at h2 h3
              exact ⟨h3, fun e => absurd (by rw [e]; exact HFP.out) hfq⟩
          by_cases hqp : q = p
          · have heq := HANS.out.2 hqp
            simp only [AnsD.mk.injEq] at heq
            obtain ⟨rfl, rfl, rfl, rfl⟩ := heq
            subst hqp
            have v0 : WS.cell? ⟨lb, 0, none⟩ = some (.int .i64 an) := by rw [cell_of_blk HBS.out]; rfl
            have v1 : WS.cell? ⟨lb, 1, none⟩ = some (.string at_) := by rw [cell_of_blk HBS.out]; rfl
            have v2 : WS.cell? ⟨lb, 2, none⟩ = some (.bool ay) := by rw [cell_of_blk HBS.out]; rfl
            have v3 : WS.cell? ⟨lb, 3, none⟩ = some (.int .i64 ae) := by rw [cell_of_blk HBS.out]; rfl
            have v4 : WS.cell? ⟨la, 0, none⟩ = some (.int .i64 an) := by rw [cell_of_blk HAS.out]; rfl
            have v5 : WS.cell? ⟨la, 1, none⟩ = some (.string at_) := by rw [cell_of_blk HAS.out]; rfl
            have v6 : WS.cell? ⟨la, 2, none⟩ = some (.bool ay) := by rw [cell_of_blk HAS.out]; rfl
            have v7 : WS.cell? ⟨la, 3, none⟩ = some (.int .i64 ae) := by rw [cell_of_blk HAS.out]; rfl
            go_wp2_with fail
            exact ⟨⟨k + 1, S', T', by go_num, by omega, HKS.out.less (by simp), HANS.out.1, ⟨hsS', hsT'⟩, HFS⟩, by simp [intOf]; omega⟩
          · have hqp' : ¬ (q : Int) = (p : Int) := by omega
            go_wp2_with fail
            exact ⟨⟨k + 1, S', T', by go_num, by omega, HKS.out.less (by simp), HANS.out.1, ⟨hsS', hsT'⟩, HFS⟩, by simp [intOf]; omega⟩
        · rw [decide_eq_false hex]
          have hfq : ¬ F q = true := fun h => hex (.inr h)
          have hk1 : xk ≠ 1 := fun h => hex (.inl h)
          have hqp2 : q ≠ p := fun e => hfq (by rw [e]; exact HFP.out)
          have hqp : ¬ (q : Int) = (p : Int) := by omega
          have HE1 : Hid (EqvK ⟨n, ps, cs⟩ (fun q => F q = true) S' T) := by
            have := EqvK.stepOne HSH.out HEQ.out (o := ⟨xk, xp, xn, xb, xt⟩) hk1 (by show ¬ F _ = true; rw [HWP.out]; exact hfq)
            rwa [HDS.out] at this
          clear hex
          go_wp2_with fail
          exact ⟨⟨k + 1, S', T, by go_num, by omega, HK8.out.less (by simp), HE1, ⟨hsS', HSM.out.2.mono (by omega)⟩, HF8⟩, by simp [intOf]; omega⟩
    · have hlt' : ¬ (k : Int) < (os.length : Int) := by omega
      have hsS : SmallK bigK S := HSM.out.1.mono (by unfold bigK; omega)
      have hsT : SmallK bigK T := HSM.out.2.mono (by unfold bigK; omega)
      go_wp2_with fail
      refine Calls.mono (KP.state HKR.out hsS (p := (p : Int)) (by unfold inR; omega)) ?_
      rw [state_in (D := ⟨n, ps, cs⟩) hp1]
      rintro e w5 ⟨rfl, hk5, hs5⟩
      unfold stV
      have hst : S.sts p = T.sts p := HEQ.out.sts p HFP.out
      simp only []
      rw [hst]
      obtain ⟨st, hste⟩ : ∃ st, T.sts p = st := ⟨_, rfl⟩
      have HSE : Hid (T.sts p = st) := hste
      rw [hste]
      clear hste hst
      obtain ⟨sp, sf, sr⟩ := st
      simp only []
      have hk6 := hk5.alloc (.cells #[.bool sp, .int .i64 sf, .int .i64 sr] 76)
      have h6 := heap_new w5 (.cells #[.bool sp, .int .i64 sf, .int .i64 sr] 76)
      clear hk5 hs5
      go_upto_region 20 with fail
      generalize w5.alloc (.cells #[.bool sp, .int .i64 sf, .int .i64 sr] 76) = W6 at *
      generalize w5.heap.size = ls at *
      have HK6 : Hid (KP I W1 [ls, fb] a a2 ⟨n, ps, cs⟩ S T W6) := hk6
      have HH6 : Hid (W6.heap[ls]? = some (.cells #[.bool sp, .int .i64 sf, .int .i64 sr] 76 (0, 0))) := h6
      clear hk6 h6
      go_wp2_with fail
      refine Calls.mono (KP.state HK6.out.swap hsT (p := (p : Int)) (by unfold inR; omega)) ?_
      rw [state_in (D := ⟨n, ps, cs⟩) hp1, HSE.out]
      unfold stV
      simp only []
      rintro e w7 ⟨rfl, hk7, hs7⟩
      have h7 := hs7.at (by simp) HH6.out
      have hlt7 := lt_of_blk h7
      have v0 : w7.cell? ⟨ls, 0, none⟩ = some (.bool sp) := by rw [cell_of_blk h7]; rfl
      have v1 : w7.cell? ⟨ls, 1, none⟩ = some (.int .i64 sf) := by rw [cell_of_blk h7]; rfl
      have v2 : w7.cell? ⟨ls, 2, none⟩ = some (.int .i64 sr) := by rw [cell_of_blk h7]; rfl
      have HB7 : Hid (Below W1.heap.size W1 w7) := hk7.bel
      clear hk7 hs7 h7
      go_wp2_with fail
      go_ret
      exact ⟨rfl, HBW.out.trans ((HB7.out.trans ((newB w7 _).mono HB7.out.size)).mono HBW.out.size)⟩
end Go.Proofs.YteioennfpkoagaaGreatDoor.C
