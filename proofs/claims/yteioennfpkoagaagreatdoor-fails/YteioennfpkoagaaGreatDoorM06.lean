import Derived.Test.YteioennfpkoagaaGreatDoorM04
import Derived.Deep.DeepCutAuto
namespace Go.Proofs.YteioennfpkoagaaGreatDoor.C
open Go.RowKit K
attribute [local go_sem ↓] Go.wp_at_zero Go.wp_at_succ

theorem fail_sts (D : ManD) (S : KS) (p : Nat) : (failF D S p).sts p = failSt (actF D p) (S.sts p) := by
  show (if p = p then _ else _) = _
  rw [if_pos rfl]
theorem fail_mem (D : ManD) (S : KS) (p : Nat) (a : Int) : (failF D S p).mem p a = if actF D p = 3 then 0 else S.mem p a := by
  show (if p = p ∧ actF D p = 3 then 0 else S.mem p a) = _
  simp
theorem turn_fail {D : ManD} {S : KS} {p : Nat} (hp : p < D.parts.length) (hw : whoF D S = (p : Int)) (h : (failSt (actF D p) (S.sts p)).stopped = false) : turnF D (failF D S p) p = 0 := by
  apply turn_on hp
  · exact hw
  · rw [fail_sts]; exact h
theorem turn_fail2 {D : ManD} {S : KS} {p : Nat} (hp : p < D.parts.length) (h : (failSt (actF D p) (S.sts p)).stopped = true) : turnF D (failF D S p) p = 20 := by
  unfold turnF
  rw [if_neg (by omega), Int.toNat_natCast, fail_sts, if_pos h]
theorem run_fail2 {D : ManD} {S : KS} {p : Nat} (hw : whoF D S = (p : Int)) (h : (failSt (actF D p) (S.sts p)).stopped = true) : runF D (failF D S p) = -1 := by
  have hw2 : whoF D (failF D S p) = (p : Int) := hw
  unfold runF
  rw [hw2, Int.toNat_natCast, fail_sts, if_pos ⟨by omega, h⟩]
theorem read_fail {D : ManD} {S : KS} {p : Nat} {a : Int} (ht : turnF D S p = 0) (hr : rightsF (regsAt D p) a = 0) : readF D S p a = (0, 22, failF D S p) := by
  unfold readF
  rw [if_neg (fun h => h ht), Int.toNat_natCast, if_pos hr]
theorem actF_of {D : ManD} {p : Nat} {x : PartD} (h : D.parts[p]? = some x) : actF D p = x.action := by
  unfold actF
  rw [h]; rfl
theorem ticks_succ (S : KS) (i : Nat) : tickK (ticksK S i) = ticksK S (i + 1) := rfl
theorem SmallK.ticks {n : Nat} {S : KS} (h : SmallK n S) (i : Nat) : SmallK (n + i) (ticksK S i) :=
  ⟨by have := h.time; show S.time + i ≤ n + i; omega, (h.mono (Nat.le_add_right n i)).flt, (h.mono (Nat.le_add_right n i)).res⟩
set_option maxRecDepth 100000 in
set_option maxHeartbeats 16000000 in
theorem fails_law (I : KerI) (hMade : MadeF) (w : World) (htb : TB w) (u sv : Value) (L : List Int) (os : List StepD) (hL : IntsV w u L) (hS : StepsV w sv os) :
    Calls Tryz.prog 10 #[u, sv] w fun e w' => e = .returned (.bool true) ∧ Below w.heap.size w w' := by
  have HTB : Hid (TB w) := htb
  clear htb
  have HM : Hid _ := hMade w u L hL
  have HSV : Hid (StepsV w sv os) := hS
  obtain ⟨hol, _, sa, sc, rfl, _⟩ := hS
  clear hMade hL
  go_enter Tryz.func10, Tryz.ntmps10
  go_wp2_with fail
  refine Calls.mono HM.out ?_
  rintro e w1 ⟨n, ps, cs, pv, cv, rfl, hm⟩
  have HMM : Hid (MadeM w n ps cs pv cv w1) := hm
  obtain ⟨va, cap, rfl, _⟩ := hm.parts
  obtain ⟨ca, ck, rfl, _⟩ := hm.chans
  have hfr := hm.fr
  have hps : ps.length ≤ 8 := (check_ok hm.chk).2.2.1
  clear hm HM
  have b0 := newB w1 (.cells #[.int .i64 n, .slice va ps.length cap, .slice ca cs.length ck] 34)
  have h0 := heap_new w1 (.cells #[.int .i64 n, .slice va ps.length cap, .slice ca cs.length ck] 34)
  have HBEG : Hid _ := kbegin_any I (w1.alloc (.cells #[.int .i64 n, .slice va ps.length cap, .slice ca cs.length ck] 34)) ((HTB.out.below HMM.out.bel).below b0) n ps cs _ _ (HMM.out.parts.below b0) (PartsC.below HMM.out.parts HMM.out.partsC b0) (HMM.out.chans.below b0) HMM.out.chansC HMM.out.chk HMM.out.ne HMM.out.fst
  have HB0 : Hid _ := b0
  have HH0 : Hid _ := h0
  clear b0 h0
  go_wp2_with fail
  generalize w1.alloc (.cells #[.int .i64 n, .slice va ps.length cap, .slice ca cs.length ck] 34) = W0 at *
  refine Calls.mono HBEG.out ?_
  rintro e w2 ⟨a, qv, W1, rfl, hbg⟩
  have HBG : Hid (Begun I W0 ⟨n, ps, cs⟩ a qv W1 w2) := hbg
  have epl : (planF ⟨n, ps, cs⟩).length = n := by rw [planF_len]; simp
  obtain ⟨qa, qc, hqv, _⟩ := hbg.plan
  rw [epl] at hqv
  subst hqv
  clear hbg epl HBEG
  have hW0 : Below w.heap.size w W1 := (HMM.out.bel.trans (HB0.out.mono HMM.out.bel.size)).trans (HBG.out.pre.mono (Nat.le_trans HMM.out.bel.size HB0.out.size))
  have HBW : Hid (Below w.heap.size w W1) := hW0
  have HPW : Hid (PartsV W1 (.slice va ps.length cap) ps) := PartsV.below (PartsV.below HMM.out.parts HB0.out) HBG.out.pre
  have HCW : Hid (ChansV W1 (.slice ca cs.length ck) cs) := ChansV.below (ChansV.below HMM.out.chans HB0.out) HBG.out.pre
  have HSW : Hid (StepsV W1 (.slice sa os.length sc) os) := HSV.out.below hW0
  have HMW : Hid (W1.heap[w1.heap.size]? = some (.cells #[.int .i64 n, .slice va ps.length cap, .slice ca cs.length ck] 34 (0, 0))) := keepN HH0.out HBG.out.pre
  clear hW0
  go_wp2_with fail
  go_loopw [8] (fun i wr => ∃ (k : Nat), i = .int .i64 k ∧ k ≤ os.length ∧ Hid (KAt I W1 a ⟨n, ps, cs⟩ (runTo ⟨n, ps, cs⟩ os bootK k) wr)) (fun i _ => os.length - (intOf i).toNat)
  case atStart => exact ⟨0, rfl, by omega, HBG.out.kat⟩
  case round =>
    obtain ⟨k, rfl, hk, HKA⟩ := hrel
    have hsm := runTo_small ⟨n, ps, cs⟩ os k
    by_cases hlt : k < os.length
    · have hlt' : (k : Int) < (os.length : Int) := by omega
      have hsb : SmallK bigK (runTo ⟨n, ps, cs⟩ os bootK k) := hsm.mono (by unfold bigK; omega)
      have HRS : Hid (runTo ⟨n, ps, cs⟩ os bootK (k + 1) = (doF ⟨n, ps, cs⟩ (runTo ⟨n, ps, cs⟩ os bootK k) os[k]).2) := runTo_succ hlt
      have hSw := HSW.out
      have hor := hSw.2.1 os[k] (List.getElem_mem _)
      obtain ⟨_, _, sa', sc', esa, hc⟩ := hSw
      simp only [Value.slice.injEq, true_and] at esa
      obtain ⟨rfl, rfl⟩ := esa
      obtain ⟨sb, so, rfl, s0, s1, s2, s3, s4⟩ := hc k hlt
      obtain ⟨x, hx⟩ : ∃ x, os[k] = x := ⟨_, rfl⟩
      rw [hx] at s0 s1 s2 s3 s4 hor HRS
      obtain ⟨S, hSe⟩ : ∃ S, runTo ⟨n, ps, cs⟩ os bootK k = S := ⟨_, rfl⟩
      rw [hSe] at HRS HKA hsb
      clear hx hc hSe hsm
      obtain ⟨xk, xp, xn, xb, xt⟩ := x
      simp only [] at s0 s1 s2 s3 s4
      have hbs : sb < W1.heap.size := World.block_lt_of_cell? W1 _ s0
      have HSK : Hid (∀ V, Below W1.heap.size W1 V → V.cell? ⟨w1.heap.size, 0, none⟩ = some (.int .i64 n) ∧ V.cell? ⟨w1.heap.size, 1, none⟩ = some (.slice va ps.length cap) ∧ V.cell? ⟨w1.heap.size, 2, none⟩ = some (.slice ca cs.length ck) ∧ V.cell? ⟨sb, so + k * 5, none⟩ = some (.int .i64 xk) ∧ V.cell? ⟨sb, so + k * 5 + 1, none⟩ = some (.int .i64 xp) ∧ V.cell? ⟨sb, so + k * 5 + 2, none⟩ = some (.int .i64 xn) ∧ V.cell? ⟨sb, so + k * 5 + 3, none⟩ = some (.int .i64 xb) ∧ V.cell? ⟨sb, so + k * 5 + 4, none⟩ = some (.string xt)) := fun V hV =>
        ⟨by rw [cell_of_blk (keepN HMW.out hV)]; rfl, by rw [cell_of_blk (keepN HMW.out hV)]; rfl, by rw [cell_of_blk (keepN HMW.out hV)]; rfl, (hV.cell (p := ⟨sb, so + k * 5, none⟩) hbs).trans s0, (hV.cell (p := ⟨sb, so + k * 5 + 1, none⟩) hbs).trans s1, (hV.cell (p := ⟨sb, so + k * 5 + 2, none⟩) hbs).trans s2, (hV.cell (p := ⟨sb, so + k * 5 + 3, none⟩) hbs).trans s3, (hV.cell (p := ⟨sb, so + k * 5 + 4, none⟩) hbs).trans s4⟩
      obtain ⟨m0, m1, m2, t0, t1, t2, t3, t4⟩ := HSK.out wr HKA.out.bel
      clear s0 s1 s2 s3 s4
      have HDO : Hid (Calls Tryz.prog 27 #[.pointer (some a), .agg #[.int .i64 n, .slice va ps.length cap, .slice ca cs.length ck], .agg #[.int .i64 xk, .int .i64 xp, .int .i64 xn, .int .i64 xb, .string xt]] wr.drew fun e w' => e = .returned (ansV (doF ⟨n, ps, cs⟩ S ⟨xk, xp, xn, xb, xt⟩).1) ∧ KAt I W1 a ⟨n, ps, cs⟩ (doF ⟨n, ps, cs⟩ S ⟨xk, xp, xn, xb, xt⟩).2 w') := KAt.do_ (HKA.out.below (below_drewN (Below.refl _ _) 1)) HPW.out HCW.out HMM.out.chk HMM.out.ne hsb ⟨xk, xp, xn, xb, xt⟩ hor
      go_upto_region 8 with fail
      go_region_held3 (fun V => V.cell? ⟨w1.heap.size, 0, none⟩ = some (.int .i64 n) ∧ V.cell? ⟨w1.heap.size, 1, none⟩ = some (.slice va ps.length cap) ∧ V.cell? ⟨w1.heap.size, 2, none⟩ = some (.slice ca cs.length ck) ∧ V.cell? ⟨sb, so + k * 5, none⟩ = some (.int .i64 xk) ∧ V.cell? ⟨sb, so + k * 5 + 1, none⟩ = some (.int .i64 xp) ∧ V.cell? ⟨sb, so + k * 5 + 2, none⟩ = some (.int .i64 xn) ∧ V.cell? ⟨sb, so + k * 5 + 3, none⟩ = some (.int .i64 xb) ∧ V.cell? ⟨sb, so + k * 5 + 4, none⟩ = some (.string xt)) (first | with_reducible assumption | exact HSK.out _ (below_drewN HKA.out.bel 1) | exact HSK.out _ hk3.bel) ((first
        | (go_at_call 27; refine HDO.out.mono ?_; rintro e w3 ⟨rfl, hk3⟩)))
      have HK3 : Hid (KAt I W1 a ⟨n, ps, cs⟩ (doF ⟨n, ps, cs⟩ S ⟨xk, xp, xn, xb, xt⟩).2 w3) := hk3
      clear m0 m1 m2 t0 t1 t2 t3 t4 hk3 HDO
      go_wp2_with fail
      exact ⟨⟨k + 1, by go_num, by omega, by rw [HRS.out]; exact HK3⟩, by simp [intOf]; omega⟩
    · have hlt' : ¬ (k : Int) < (os.length : Int) := by omega
      obtain ⟨S, hSe⟩ : ∃ S, runTo ⟨n, ps, cs⟩ os bootK k = S := ⟨_, rfl⟩
      rw [hSe] at HKA hsm
      have HSM : Hid (SmallK k S) := hsm
      clear hSe hsm hlt
      go_wp2_with fail
      refine Calls.mono (KAt.running HKA.out (HSM.out.mono (by unfold bigK; omega))) ?_
      rintro e w3 ⟨rfl, hk3⟩
      have HK3 : Hid (KAt I W1 a ⟨n, ps, cs⟩ (ticksK S 0) w3) := hk3
      clear hk3
      go_wp2_with fail
      generalize wr = WR at *
      go_loopw [9, 10] (fun pp ii wr => ∃ (i : Nat), ii = .int .i64 i ∧ pp = .int .i64 (runF ⟨n, ps, cs⟩ (ticksK S i)) ∧ i ≤ n ∧ Hid (KAt I W1 a ⟨n, ps, cs⟩ (ticksK S i) wr) ∧ Hid (∀ j, j < i → runF ⟨n, ps, cs⟩ (ticksK S j) < 0)) (fun _ ii _ => n - (intOf ii).toNat)
      case atStart => exact ⟨0, rfl, rfl, by omega, HK3, fun j hj => absurd hj (by omega)⟩
      case round =>
        obtain ⟨i, rfl, rfl, hi, HKT, HNG⟩ := hrel
        have y0 : wr.cell? ⟨w1.heap.size, 0, none⟩ = some (.int .i64 n) := by rw [cell_of_blk (keepN HMW.out HKT.out.bel)]; rfl
        have hsT : SmallK bigK (ticksK S i) := (HSM.out.ticks i).mono (by unfold bigK; omega)
        obtain ⟨rn, hrn⟩ : ∃ rn, runF ⟨n, ps, cs⟩ (ticksK S i) = rn := ⟨_, rfl⟩
        have HRN0 : Hid (runF ⟨n, ps, cs⟩ (ticksK S i) = rn) := hrn
        rw [hrn]
        clear hrn
        go_upto_region 11 with fail
        go_cut [56] (fun b wc => b = .bool (decide (i < n ∧ rn < 0)) ∧ wc = wr)
        case first =>
          by_cases hi1 : i < n
          · have hi1' : (i : Int) < (n : Int) := by omega
            go_wp2_with fail
            go_meet
            refine ⟨?_, rfl⟩
            simp [hi1]
          · have hi1' : ¬ (i : Int) < (n : Int) := by omega
            go_wp2_with fail
            go_meet
            refine ⟨?_, rfl⟩
            simp [hi1]
        case rest =>
          obtain ⟨rfl, hwc⟩ := hcut
          have hwc2 := hwc.symm
          clear hwc
          subst hwc2
          by_cases hgo : i < n ∧ rn < 0
          · rw [decide_eq_true hgo]
            obtain ⟨hi1, hi2⟩ := hgo
            go_wp2_with fail
            refine Calls.mono (KAt.tick HKT.out hsT) ?_
            rintro e w4 ⟨rfl, hk4⟩
            have HK4 : Hid (KAt I W1 a ⟨n, ps, cs⟩ (ticksK S (i + 1)) w4) := hk4
            clear hk4
            go_wp2_with fail
            refine Calls.mono (KAt.running HK4.out ((HSM.out.ticks (i + 1)).mono (by unfold bigK; omega))) ?_
            rintro e w5 ⟨rfl, hk5⟩
            have HK5 : Hid (KAt I W1 a ⟨n, ps, cs⟩ (ticksK S (i + 1)) w5) := hk5
            clear hk5
            go_wp2_with fail
            refine ⟨⟨i + 1, by go_num, rfl, by omega, HK5, fun j hj => ?_⟩, by simp [intOf]; omega⟩
            rcases Nat.lt_or_ge j i with h | h
            · exact HNG.out j h
            · have : j = i := by omega
              rw [this, HRN0.out]; exact hi2
          · rw [decide_eq_false hgo]
            by_cases hneg : rn < 0
            · have hin : i = n := by omega
              have HST : Hid (∀ j, j < ps.length → (S.sts j).stopped = true) := fun j hj => all_stopped (D := ⟨n, ps, cs⟩) (check_fit HMM.out.chk).1 (k := S) (fun j2 hj2 => HNG.out j2 (by rw [hin]; simpa using hj2)) hj
              clear hgo hin
              go_wp2_with fail
              generalize wr = WT at *
              go_loopw [11] (fun jj wr => ∃ (j : Nat), jj = .int .i64 j ∧ j ≤ ps.length ∧ Hid (KAt I W1 a ⟨n, ps, cs⟩ (ticksK S i) wr)) (fun jj _ => ps.length - (intOf jj).toNat)
              case atStart => exact ⟨0, rfl, by omega, HKT⟩
              case round =>
                obtain ⟨j, rfl, hj, HKU⟩ := hrel
                have y1 : wr.cell? ⟨w1.heap.size, 1, none⟩ = some (.slice va ps.length cap) := by rw [cell_of_blk (keepN HMW.out HKU.out.bel)]; rfl
                by_cases hjl : j < ps.length
                · have hjl' : (j : Int) < (ps.length : Int) := by omega
                  go_wp2_with fail
                  refine Calls.mono (KAt.state HKU.out hsT (p := (j : Int)) (by unfold inR; omega)) ?_
                  rw [state_in (D := ⟨n, ps, cs⟩) hjl]
                  rintro e w4 ⟨rfl, hk4⟩
                  unfold stV
                  have hsj : ((ticksK S i).sts j).stopped = true := HST.out j hjl
                  simp only []
                  rw [hsj]
                  have HK4 : Hid (KAt I W1 a ⟨n, ps, cs⟩ (ticksK S i) w4) := hk4
                  clear hk4 hsj
                  generalize ((ticksK S i).sts j).faults = sf at *
                  generalize ((ticksK S i).sts j).restarts = sr at *
                  go_wp2_with fail
                  exact ⟨⟨j + 1, by go_num, by omega, HK4.out.below (newB _ _)⟩, by simp [intOf]; omega⟩
                · have hjl' : ¬ (j : Int) < (ps.length : Int) := by omega
                  go_wp2_with fail
                  go_ret
                  exact ⟨rfl, HBW.out.trans (HKU.out.bel.mono HBW.out.size)⟩
            · obtain ⟨hw, hns⟩ := run_turn HRN0.out (by omega)
              obtain ⟨q, rfl⟩ : ∃ q : Nat, rn = q := ⟨rn.toNat, by omega⟩
              have hql : q < ps.length := by have := (who_in ⟨n, ps, cs⟩ (ticksK S i)).2; rw [hw] at this; simp only [] at this; omega
              have HW : Hid (whoF ⟨n, ps, cs⟩ (ticksK S i) = (q : Int)) := hw
              obtain ⟨T, hT⟩ : ∃ T, ticksK S i = T := ⟨_, rfl⟩
              have HSM2 : Hid (SmallK (k + i) T) := by rw [← hT]; exact HSM.out.ticks i
              rw [hT] at HKT hsT HW hns
              clear hgo hneg HNG HRN0 hw hT
              have hns2 : (T.sts q).stopped = false := by simpa using hns
              obtain ⟨st, hste⟩ : ∃ st, T.sts q = st := ⟨_, rfl⟩
              have HSE : Hid (T.sts q = st) := hste
              rw [hste] at hns2
              clear hste hns
              obtain ⟨sp, sf, sr⟩ := st
              simp only [] at hns2
              subst hns2
              have hPV := HPW.out.below HKT.out.bel
              obtain ⟨va', cap', eva, hc⟩ := hPV
              simp only [Value.slice.injEq, true_and] at eva
              obtain ⟨rfl, rfl⟩ := eva
              obtain ⟨b, off, rv, rfl, d0, d1, d2, d3, d4, hrv⟩ := hc q hql
              have hco := check_ok HMM.out.chk
              have hpt := (hco.2.2.2.2.1 q hql).2
              have hfx := HMM.out.fst ps[q] (List.getElem_mem _)
              simp only [] at hpt
              obtain ⟨x, hx⟩ : ∃ x, ps[q] = x := ⟨_, rfl⟩
              have hgx : (⟨n, ps, cs⟩ : ManD).parts[q]? = some x := by
                show ps[q]? = some x
                rw [List.getElem?_eq_getElem hql, hx]
              rw [hx] at hrv hpt hfx d0 d1 d2 d3
              have HRG : Hid (regsAt ⟨n, ps, cs⟩ q = x.regs) := regsAt_of hgx
              have HAC0 : Hid (actF ⟨n, ps, cs⟩ q = x.action) := actF_of hgx
              have hpo := partErr_ok hpt
              have hxq := congrArg PartD.regs hx
              clear hx hc hgx hco hpt
              obtain ⟨xn, xp, xd, xa, xr⟩ := x
              simp only [] at d0 d1 d2 d3 hrv hfx HRG HAC0 hpo hxq
              obtain ⟨_, _, _, _, ha1, ha3, hro⟩ := hpo
              have HRV1 : Hid (RegsV W1 rv xr) := by
                obtain ⟨va2, cap2, eva2, hc2⟩ := HPW.out
                simp only [Value.slice.injEq, true_and] at eva2
                obtain ⟨rfl, rfl⟩ := eva2
                obtain ⟨b2, o2, rv2, e2, _, _, _, _, c4, hrv2⟩ := hc2 q hql
                cases e2
                have : rv2 = rv := by
                  have h1 := (HKT.out.bel.cell (p := ⟨b, off + q * 5 + 4, none⟩) (World.block_lt_of_cell? W1 _ c4)).trans c4
                  rw [d4] at h1
                  exact (Option.some.inj h1).symm
                rw [this, hxq] at hrv2
                exact hrv2
              obtain ⟨ra, rc, rfl, hrc⟩ := hrv
              have HRBL : Hid (∀ {rb ro : Nat}, ra = some ⟨rb, ro, none⟩ → (0 : Int) < (xr.length : Int) → rb < W1.heap.size) := fun {rb ro} e h => by
                obtain ⟨ra2, rc2, era, hc2⟩ := HRV1.out
                simp only [Value.slice.injEq, true_and] at era
                obtain ⟨rfl, rfl⟩ := era
                obtain ⟨b2, o2, e2, c2, _⟩ := hc2 0 (by omega)
                rw [e] at e2
                cases e2
                exact World.block_lt_of_cell? W1 _ c2
              have HRC : Hid (∀ (i : Nat) (h : i < xr.length), ∃ b off, ra = some ⟨b, off, none⟩ ∧ wr.cell? ⟨b, off + i * 3, none⟩ = some (.int .i64 xr[i].page) ∧ wr.cell? ⟨b, off + i * 3 + 1, none⟩ = some (.int .i64 xr[i].pages) ∧ wr.cell? ⟨b, off + i * 3 + 2, none⟩ = some (.int .i64 xr[i].rights)) := hrc
              have y1 : wr.cell? ⟨w1.heap.size, 1, none⟩ = some (.slice (some ⟨b, off, none⟩) ps.length cap) := by rw [cell_of_blk (keepN HMW.out HKT.out.bel)]; rfl
              have hq0 : ¬ (q : Int) < 0 := by omega
              have hq1 : (q : Int) < (ps.length : Int) := by omega
              have hq2 : (0 : Int) ≤ (q : Int) := by omega
              have h5 := heap_new wr (.cells #[.string xn, .int .i64 xp, .int .i64 xd, .int .i64 xa, .slice ra xr.length rc] 42)
              have hk5 := HKT.out.lists.alloc (.cells #[.string xn, .int .i64 xp, .int .i64 xd, .int .i64 xa, .slice ra xr.length rc] 42)
              have HH5 : Hid _ := h5
              have HK5 : Hid _ := hk5
              have HB5 : Hid _ := newB wr (.cells #[.string xn, .int .i64 xp, .int .i64 xd, .int .i64 xa, .slice ra xr.length rc] 42)
              clear h5 hk5 hrc
              go_wp2_with fail
              generalize wr.alloc (.cells #[.string xn, .int .i64 xp, .int .i64 xd, .int .i64 xa, .slice ra xr.length rc] 42) = W5 at *
              obtain ⟨lx, hlx⟩ : ∃ lx, wr.heap.size = lx := ⟨_, rfl⟩
              rw [hlx] at HH5 HK5 ⊢
              refine Calls.mono (KAtL.state HK5.out hsT (p := (q : Int)) (by unfold inR; omega)) ?_
              rw [state_in (D := ⟨n, ps, cs⟩) hql, HSE.out]
              unfold stV
              simp only []
              rintro e w6 ⟨rfl, hk6, hs6⟩
              have hx6 := hs6.at (by simp) HH5.out
              have hk7 := hk6.alloc (.cells #[.bool false, .int .i64 sf, .int .i64 sr] 76)
              have h7 := heap_new w6 (.cells #[.bool false, .int .i64 sf, .int .i64 sr] 76)
              have hx7 := keepN hx6 (newB w6 (.cells #[.bool false, .int .i64 sf, .int .i64 sr] 76))
              have HK7 : Hid (KAtL I W1 [w6.heap.size, lx] a ⟨n, ps, cs⟩ T (w6.alloc (.cells #[.bool false, .int .i64 sf, .int .i64 sr] 76))) := hk7
              have HA7 : Hid _ := h7
              have HX7 : Hid _ := hx7
              have HB7 : Hid _ := newB w6 (.cells #[.bool false, .int .i64 sf, .int .i64 sr] 76)
              have hfb : 0 ≤ sf ∧ sf ≤ 2000000000000000000 := by have := HSM2.out.flt q; rw [HSE.out] at this; simp only [] at this; omega
              have hrb : 0 ≤ sr ∧ sr ≤ 2000000000000000000 := by have := HSM2.out.res q; rw [HSE.out] at this; simp only [] at this; omega
              have HTN : Hid (turnF ⟨n, ps, cs⟩ T q = 0) := turn_on hql HW.out (by rw [HSE.out])
              have HLOW : Hid (rightsF (regsAt ⟨n, ps, cs⟩ q) (-1) = 0) := by
                show _ = _
                rw [HRG.out]
                exact rights_low fun r hr => by have := hro.1 r hr; unfold regB at this; simp only [decide_eq_true_eq] at this; omega
              have HRC6 : Hid (∀ p : Addr, p.block < W1.heap.size → w6.cell? p = wr.cell? p) := fun p hp2 => (hk6.kat.bel.cell hp2).trans (HKT.out.bel.cell hp2).symm
              clear hk6 hs6 hx6 hk7 h7 hx7 HKT y0 y1 d0 d1 d2 d3 d4
              rcases hxr : xr with _ | ⟨g, rs⟩
              · have hl0 : ¬ (0 : Int) < (xr.length : Int) := by rw [hxr]; simp
                have hl1 : (xr.length : Int) = 0 := by rw [hxr]; rfl
                have HR0 : Hid (rightsF (regsAt ⟨n, ps, cs⟩ q) 0 = 0) := by show _ = _; rw [HRG.out, hxr]; rfl
                have x4 : (w6.alloc (.cells #[.bool false, .int .i64 sf, .int .i64 sr] 76)).cell? ⟨lx, 4, none⟩ = some (.slice ra xr.length rc) := by rw [cell_of_blk HX7.out]; rfl
                clear hxr hfx
                go_upto_region 26 with fail
                generalize w6.alloc (.cells #[.bool false, .int .i64 sf, .int .i64 sr] 76) = WW at *
                obtain ⟨la, hla⟩ : ∃ la, w6.heap.size = la := ⟨_, rfl⟩
                rw [hla] at HK7 HA7 ⊢
                clear hla
                go_wp2_with fail
                have HKW : Hid (KAtL I W1 [la, lx] a ⟨n, ps, cs⟩ T WW) := HK7
                have HAW : Hid (WW.heap[la]? = some (.cells #[.bool false, .int .i64 sf, .int .i64 sr] 76 (0, 0))) := HA7
                have HXW0 : Hid (WW.heap[lx]? = some (.cells #[.string xn, .int .i64 xp, .int .i64 xd, .int .i64 xa, .slice ra xr.length rc] 42 (0, 0))) := HX7
                have hsw : SmallK bigK T := hsT
                have HT2W : Hid (whoF ⟨n, ps, cs⟩ T = (q : Int)) := HW
                have HT2S : Hid (T.sts q = ⟨false, sf, sr⟩) := HSE
                have HRM1 : Hid (readF ⟨n, ps, cs⟩ T q (-1) = (0, 22, failF ⟨n, ps, cs⟩ T q)) := read_fail HTN.out HLOW.out
                have hsf : SmallK bigK (failF ⟨n, ps, cs⟩ T q) := (HSM2.out.fail _ _).mono (by unfold bigK; omega)
                clear x4
                rcases (show xa = 1 ∨ xa = 2 ∨ xa = 3 by omega) with hxa | hxa | hxa
                · subst hxa
                  have HAC : Hid (actF ⟨n, ps, cs⟩ q = 1) := HAC0.out
                  have HXW : Hid (WW.heap[lx]? = some (.cells #[.string xn, .int .i64 xp, .int .i64 xd, .int .i64 1, .slice ra xr.length rc] 42 (0, 0))) := HXW0
                  have HFS : Hid ((failF ⟨n, ps, cs⟩ T q).sts q = ⟨false, sf + 1, sr⟩) := by
                    show _ = _
                    rw [fail_sts, HAC.out, HT2S.out]
                    simp [failSt]
                  have hst : (failSt (actF ⟨n, ps, cs⟩ q) (T.sts q)).stopped = false := by rw [HAC.out, HT2S.out]; rfl
                  have HRD : Hid (readF ⟨n, ps, cs⟩ (failF ⟨n, ps, cs⟩ T q) q 0 = (0, 22, failF ⟨n, ps, cs⟩ (failF ⟨n, ps, cs⟩ T q) q)) := read_fail (turn_fail (D := ⟨n, ps, cs⟩) hql HT2W.out hst) HR0.out
                  clear hst
                  clear HAC0 HXW0
                  refine Calls.mono (KAtL.read HKW.out hsw (p := (q : Int)) (x := -1) (by unfold inR; omega) (by unfold inR; omega)) ?_
                  rw [HRM1.out]
                  rintro e w6 ⟨rfl, hk6, hs6⟩
                  have HK6 : Hid (KAtL I W1 [la, lx] a ⟨n, ps, cs⟩ (failF ⟨n, ps, cs⟩ T q) w6) := hk6
                  have HA6 : Hid (w6.heap[la]? = some (.cells #[.bool false, .int .i64 sf, .int .i64 sr] 76 (0, 0))) := hs6.at (by simp) HAW.out
                  have HX6 : Hid (w6.heap[lx]? = some (.cells #[.string xn, .int .i64 xp, .int .i64 xd, .int .i64 1, .slice ra xr.length rc] 42 (0, 0))) := hs6.at (by simp) HXW.out
                  clear hk6 hs6
                  go_wp2_with fail
                  refine Calls.mono (KAtL.state HK6.out hsf (p := (q : Int)) (by unfold inR; omega)) ?_
                  rw [state_in (D := ⟨n, ps, cs⟩) hql, HFS.out]
                  unfold stV
                  simp only []
                  rintro e w7 ⟨rfl, hk7, hs7⟩
                  have hk8 := hk7.alloc (.cells #[.bool false, .int .i64 (sf + 1), .int .i64 sr] 76)
                  have h8 := heap_new w7 (.cells #[.bool false, .int .i64 (sf + 1), .int .i64 sr] 76)
                  have ha8 := keepN (hs7.at (by simp) HA6.out) (newB w7 (.cells #[.bool false, .int .i64 (sf + 1), .int .i64 sr] 76))
                  have hx8 := keepN (hs7.at (by simp) HX6.out) (newB w7 (.cells #[.bool false, .int .i64 (sf + 1), .int .i64 sr] 76))
                  have HK8 : Hid (KAtL I W1 [w7.heap.size, la, lx] a ⟨n, ps, cs⟩ (failF ⟨n, ps, cs⟩ T q) (w7.alloc (.cells #[.bool false, .int .i64 (sf + 1), .int .i64 sr] 76))) := hk8
                  have HB8 : Hid _ := h8
                  have HA8 : Hid _ := ha8
                  have HX8 : Hid _ := hx8
                  clear hk7 hs7 hk8 h8 ha8 hx8
                  go_wp2_with fail
                  generalize w7.alloc (.cells #[.bool false, .int .i64 (sf + 1), .int .i64 sr] 76) = W8 at *
                  generalize w7.heap.size = lb at *
                  refine Calls.mono (KAtL.read HK8.out hsf (p := (q : Int)) (x := 0) (by unfold inR; omega) (by unfold inR; omega)) ?_
                  rw [HRD.out]
                  rintro e w9 ⟨rfl, hk9, hs9⟩
                  have ha9 := hs9.at (by simp) HA8.out
                  have hx9 := hs9.at (by simp) HX8.out
                  have hb9 := hs9.at (by simp) HB8.out
                  have HK9 : Hid (KAtL I W1 [lb, la, lx] a ⟨n, ps, cs⟩ _ w9) := hk9
                  have HBL : Hid (Below W1.heap.size W1 w9) := hk9.kat.bel
                  have z1 : w9.cell? ⟨lb, 0, none⟩ = some (.bool false) := by rw [cell_of_blk hb9]; rfl
                  have z2 : w9.cell? ⟨lb, 1, none⟩ = some (.int .i64 (sf + 1)) := by rw [cell_of_blk hb9]; rfl
                  have z3 : w9.cell? ⟨lb, 2, none⟩ = some (.int .i64 sr) := by rw [cell_of_blk hb9]; rfl
                  have z4 : w9.cell? ⟨la, 1, none⟩ = some (.int .i64 sf) := by rw [cell_of_blk ha9]; rfl
                  have z5 : w9.cell? ⟨la, 2, none⟩ = some (.int .i64 sr) := by rw [cell_of_blk ha9]; rfl
                  have z6 : w9.cell? ⟨lx, 3, none⟩ = some (.int .i64 1) := by rw [cell_of_blk hx9]; rfl
                  have z7 : w9.cell? ⟨lx, 4, none⟩ = some (.slice ra xr.length rc) := by rw [cell_of_blk hx9]; rfl
                  clear hk9 hs9 ha9 hx9 hb9
                  go_wp2_with fail
                  all_goals go_ret
                  all_goals exact ⟨rfl, HBW.out.trans (HBL.out.mono HBW.out.size)⟩
                · subst hxa
                  have HAC : Hid (actF ⟨n, ps, cs⟩ q = 2) := HAC0.out
                  have HXW : Hid (WW.heap[lx]? = some (.cells #[.string xn, .int .i64 xp, .int .i64 xd, .int .i64 2, .slice ra xr.length rc] 42 (0, 0))) := HXW0
                  have HFS : Hid ((failF ⟨n, ps, cs⟩ T q).sts q = ⟨true, sf + 1, sr⟩) := by
                    show _ = _
                    rw [fail_sts, HAC.out, HT2S.out]
                    simp [failSt]
                  have hst : (failSt (actF ⟨n, ps, cs⟩ q) (T.sts q)).stopped = true := by rw [HAC.out, HT2S.out]; rfl
                  have HRD : Hid (readF ⟨n, ps, cs⟩ (failF ⟨n, ps, cs⟩ T q) q 0 = (0, 20, failF ⟨n, ps, cs⟩ T q)) := read_off (turn_fail2 (D := ⟨n, ps, cs⟩) hql hst) (by decide)
                  have HRN : Hid (runF ⟨n, ps, cs⟩ (failF ⟨n, ps, cs⟩ T q) = -1) := run_fail2 HT2W.out hst
                  clear hst
                  clear HAC0 HXW0
                  refine Calls.mono (KAtL.read HKW.out hsw (p := (q : Int)) (x := -1) (by unfold inR; omega) (by unfold inR; omega)) ?_
                  rw [HRM1.out]
                  rintro e w6 ⟨rfl, hk6, hs6⟩
                  have HK6 : Hid (KAtL I W1 [la, lx] a ⟨n, ps, cs⟩ (failF ⟨n, ps, cs⟩ T q) w6) := hk6
                  have HA6 : Hid (w6.heap[la]? = some (.cells #[.bool false, .int .i64 sf, .int .i64 sr] 76 (0, 0))) := hs6.at (by simp) HAW.out
                  have HX6 : Hid (w6.heap[lx]? = some (.cells #[.string xn, .int .i64 xp, .int .i64 xd, .int .i64 2, .slice ra xr.length rc] 42 (0, 0))) := hs6.at (by simp) HXW.out
                  clear hk6 hs6
                  go_wp2_with fail
                  refine Calls.mono (KAtL.state HK6.out hsf (p := (q : Int)) (by unfold inR; omega)) ?_
                  rw [state_in (D := ⟨n, ps, cs⟩) hql, HFS.out]
                  unfold stV
                  simp only []
                  rintro e w7 ⟨rfl, hk7, hs7⟩
                  have hk8 := hk7.alloc (.cells #[.bool true, .int .i64 (sf + 1), .int .i64 sr] 76)
                  have h8 := heap_new w7 (.cells #[.bool true, .int .i64 (sf + 1), .int .i64 sr] 76)
                  have ha8 := keepN (hs7.at (by simp) HA6.out) (newB w7 (.cells #[.bool true, .int .i64 (sf + 1), .int .i64 sr] 76))
                  have hx8 := keepN (hs7.at (by simp) HX6.out) (newB w7 (.cells #[.bool true, .int .i64 (sf + 1), .int .i64 sr] 76))
                  have HK8 : Hid (KAtL I W1 [w7.heap.size, la, lx] a ⟨n, ps, cs⟩ (failF ⟨n, ps, cs⟩ T q) (w7.alloc (.cells #[.bool true, .int .i64 (sf + 1), .int .i64 sr] 76))) := hk8
                  have HB8 : Hid _ := h8
                  have HA8 : Hid _ := ha8
                  have HX8 : Hid _ := hx8
                  clear hk7 hs7 hk8 h8 ha8 hx8
                  go_wp2_with fail
                  generalize w7.alloc (.cells #[.bool true, .int .i64 (sf + 1), .int .i64 sr] 76) = W8 at *
                  generalize w7.heap.size = lb at *
                  refine Calls.mono (KAtL.read HK8.out hsf (p := (q : Int)) (x := 0) (by unfold inR; omega) (by unfold inR; omega)) ?_
                  rw [HRD.out]
                  rintro e w9 ⟨rfl, hk9, hs9⟩
                  have ha9 := hs9.at (by simp) HA8.out
                  have hx9 := hs9.at (by simp) HX8.out
                  have hb9 := hs9.at (by simp) HB8.out
                  have HK9 : Hid (KAtL I W1 [lb, la, lx] a ⟨n, ps, cs⟩ _ w9) := hk9
                  have HBL : Hid (Below W1.heap.size W1 w9) := hk9.kat.bel
                  have z1 : w9.cell? ⟨lb, 0, none⟩ = some (.bool true) := by rw [cell_of_blk hb9]; rfl
                  have z2 : w9.cell? ⟨lb, 1, none⟩ = some (.int .i64 (sf + 1)) := by rw [cell_of_blk hb9]; rfl
                  have z3 : w9.cell? ⟨lb, 2, none⟩ = some (.int .i64 sr) := by rw [cell_of_blk hb9]; rfl
                  have z4 : w9.cell? ⟨la, 1, none⟩ = some (.int .i64 sf) := by rw [cell_of_blk ha9]; rfl
                  have z5 : w9.cell? ⟨la, 2, none⟩ = some (.int .i64 sr) := by rw [cell_of_blk ha9]; rfl
                  have z6 : w9.cell? ⟨lx, 3, none⟩ = some (.int .i64 2) := by rw [cell_of_blk hx9]; rfl
                  have z7 : w9.cell? ⟨lx, 4, none⟩ = some (.slice ra xr.length rc) := by rw [cell_of_blk hx9]; rfl
                  have HA9 : Hid _ := ha9
                  have HB9 : Hid _ := hb9
                  clear hk9 hs9 ha9 hx9 hb9
                  go_wp2_with fail
                  refine Calls.mono (KAtL.running HK9.out hsf) ?_
                  rw [HRN.out]
                  rintro e wa ⟨rfl, hka, hsa⟩
                  have HBL2 : Hid (Below W1.heap.size W1 wa) := hka.kat.bel
                  have ya := hsa.at (by simp) HA9.out
                  have yb := hsa.at (by simp) HB9.out
                  have v1 : wa.cell? ⟨lb, 0, none⟩ = some (.bool true) := by rw [cell_of_blk yb]; rfl
                  have v3 : wa.cell? ⟨lb, 2, none⟩ = some (.int .i64 sr) := by rw [cell_of_blk yb]; rfl
                  have v5 : wa.cell? ⟨la, 2, none⟩ = some (.int .i64 sr) := by rw [cell_of_blk ya]; rfl
                  clear hka hsa ya yb z1 z2 z3 z4 z5 z6 z7
                  go_wp2_with fail
                  go_ret
                  exact ⟨rfl, HBW.out.trans (HBL2.out.mono HBW.out.size)⟩
                · subst hxa
                  have HAC : Hid (actF ⟨n, ps, cs⟩ q = 3) := HAC0.out
                  have HXW : Hid (WW.heap[lx]? = some (.cells #[.string xn, .int .i64 xp, .int .i64 xd, .int .i64 3, .slice ra xr.length rc] 42 (0, 0))) := HXW0
                  have HFS : Hid ((failF ⟨n, ps, cs⟩ T q).sts q = ⟨false, sf + 1, (sr + 1)⟩) := by
                    show _ = _
                    rw [fail_sts, HAC.out, HT2S.out]
                    simp [failSt]
                  have hst : (failSt (actF ⟨n, ps, cs⟩ q) (T.sts q)).stopped = false := by rw [HAC.out, HT2S.out]; rfl
                  have HRD : Hid (readF ⟨n, ps, cs⟩ (failF ⟨n, ps, cs⟩ T q) q 0 = (0, 22, failF ⟨n, ps, cs⟩ (failF ⟨n, ps, cs⟩ T q) q)) := read_fail (turn_fail (D := ⟨n, ps, cs⟩) hql HT2W.out hst) HR0.out
                  clear hst
                  clear HAC0 HXW0
                  refine Calls.mono (KAtL.read HKW.out hsw (p := (q : Int)) (x := -1) (by unfold inR; omega) (by unfold inR; omega)) ?_
                  rw [HRM1.out]
                  rintro e w6 ⟨rfl, hk6, hs6⟩
                  have HK6 : Hid (KAtL I W1 [la, lx] a ⟨n, ps, cs⟩ (failF ⟨n, ps, cs⟩ T q) w6) := hk6
                  have HA6 : Hid (w6.heap[la]? = some (.cells #[.bool false, .int .i64 sf, .int .i64 sr] 76 (0, 0))) := hs6.at (by simp) HAW.out
                  have HX6 : Hid (w6.heap[lx]? = some (.cells #[.string xn, .int .i64 xp, .int .i64 xd, .int .i64 3, .slice ra xr.length rc] 42 (0, 0))) := hs6.at (by simp) HXW.out
                  clear hk6 hs6
                  go_wp2_with fail
                  refine Calls.mono (KAtL.state HK6.out hsf (p := (q : Int)) (by unfold inR; omega)) ?_
                  rw [state_in (D := ⟨n, ps, cs⟩) hql, HFS.out]
                  unfold stV
                  simp only []
                  rintro e w7 ⟨rfl, hk7, hs7⟩
                  have hk8 := hk7.alloc (.cells #[.bool false, .int .i64 (sf + 1), .int .i64 (sr + 1)] 76)
                  have h8 := heap_new w7 (.cells #[.bool false, .int .i64 (sf + 1), .int .i64 (sr + 1)] 76)
                  have ha8 := keepN (hs7.at (by simp) HA6.out) (newB w7 (.cells #[.bool false, .int .i64 (sf + 1), .int .i64 (sr + 1)] 76))
                  have hx8 := keepN (hs7.at (by simp) HX6.out) (newB w7 (.cells #[.bool false, .int .i64 (sf + 1), .int .i64 (sr + 1)] 76))
                  have HK8 : Hid (KAtL I W1 [w7.heap.size, la, lx] a ⟨n, ps, cs⟩ (failF ⟨n, ps, cs⟩ T q) (w7.alloc (.cells #[.bool false, .int .i64 (sf + 1), .int .i64 (sr + 1)] 76))) := hk8
                  have HB8 : Hid _ := h8
                  have HA8 : Hid _ := ha8
                  have HX8 : Hid _ := hx8
                  clear hk7 hs7 hk8 h8 ha8 hx8
                  go_wp2_with fail
                  generalize w7.alloc (.cells #[.bool false, .int .i64 (sf + 1), .int .i64 (sr + 1)] 76) = W8 at *
                  generalize w7.heap.size = lb at *
                  refine Calls.mono (KAtL.read HK8.out hsf (p := (q : Int)) (x := 0) (by unfold inR; omega) (by unfold inR; omega)) ?_
                  rw [HRD.out]
                  rintro e w9 ⟨rfl, hk9, hs9⟩
                  have ha9 := hs9.at (by simp) HA8.out
                  have hx9 := hs9.at (by simp) HX8.out
                  have hb9 := hs9.at (by simp) HB8.out
                  have HK9 : Hid (KAtL I W1 [lb, la, lx] a ⟨n, ps, cs⟩ _ w9) := hk9
                  have HBL : Hid (Below W1.heap.size W1 w9) := hk9.kat.bel
                  have z1 : w9.cell? ⟨lb, 0, none⟩ = some (.bool false) := by rw [cell_of_blk hb9]; rfl
                  have z2 : w9.cell? ⟨lb, 1, none⟩ = some (.int .i64 (sf + 1)) := by rw [cell_of_blk hb9]; rfl
                  have z3 : w9.cell? ⟨lb, 2, none⟩ = some (.int .i64 (sr + 1)) := by rw [cell_of_blk hb9]; rfl
                  have z4 : w9.cell? ⟨la, 1, none⟩ = some (.int .i64 sf) := by rw [cell_of_blk ha9]; rfl
                  have z5 : w9.cell? ⟨la, 2, none⟩ = some (.int .i64 sr) := by rw [cell_of_blk ha9]; rfl
                  have z6 : w9.cell? ⟨lx, 3, none⟩ = some (.int .i64 3) := by rw [cell_of_blk hx9]; rfl
                  have z7 : w9.cell? ⟨lx, 4, none⟩ = some (.slice ra xr.length rc) := by rw [cell_of_blk hx9]; rfl
                  clear hk9 hs9 ha9 hx9 hb9
                  go_wp2_with fail
                  all_goals go_ret
                  all_goals exact ⟨rfl, HBW.out.trans (HBL.out.mono HBW.out.size)⟩
              · have hl0 : (0 : Int) < (xr.length : Int) := by rw [hxr]; simp
                have hl2 : ¬ (xr.length : Int) = 0 := by omega
                obtain ⟨rb, ro, rfl, f0, f1, f2⟩ := HRC.out 0 (by omega)
                have e0 : xr[0]'(by omega) = g := by simp [hxr]
                rw [e0, Nat.zero_mul, Nat.add_zero] at f0
                have hg2 : g.rights = 2 := hfx g (by rw [hxr]; rfl)
                have hgr := hro.1 g (by rw [hxr]; simp)
                unfold regB at hgr
                simp only [decide_eq_true_eq] at hgr
                obtain ⟨gp, gn, gr⟩ := g
                simp only [] at f0 hg2 hgr
                obtain ⟨g0, g1, g2, g3, _⟩ := hgr
                have HRT : Hid (rightsF (regsAt ⟨n, ps, cs⟩ (q : Int).toNat) (64 * gp) = 2) := by
                  show _ = _
                  rw [Int.toNat_natCast, HRG.out, hxr, ← hg2]
                  exact rights_first (r := ⟨gp, gn, gr⟩) g2
                have hwp : IntKind.i64.wrap (64 * gp) = 64 * gp := wrap_small _ (by omega) (by omega)
                have hrbl : rb < W1.heap.size := HRBL.out rfl hl0
                have f6 : w6.cell? ⟨rb, ro, none⟩ = some (.int .i64 gp) := (HRC6.out ⟨rb, ro, none⟩ hrbl).trans f0
                have f7 : (w6.alloc (.cells #[.bool false, .int .i64 sf, .int .i64 sr] 76)).cell? ⟨rb, ro, none⟩ = some (.int .i64 gp) := (HB7.out.cell (p := ⟨rb, ro, none⟩) (World.block_lt_of_cell? w6 _ f6)).trans f6
                have x4 : (w6.alloc (.cells #[.bool false, .int .i64 sf, .int .i64 sr] 76)).cell? ⟨lx, 4, none⟩ = some (.slice (some ⟨rb, ro, none⟩) xr.length rc) := by rw [cell_of_blk HX7.out]; rfl
                clear hxr hfx e0 f1 f2 f0 f6 hg2
                go_upto_region 26 with fail
                generalize w6.alloc (.cells #[.bool false, .int .i64 sf, .int .i64 sr] 76) = W7 at *
                obtain ⟨la, hla⟩ : ∃ la, w6.heap.size = la := ⟨_, rfl⟩
                rw [hla] at HK7 HA7 ⊢
                clear hla
                go_wp2_with fail
                refine Calls.mono (KAtL.write HK7.out hsT (p := (q : Int)) (x := 64 * gp) (b := 5) (by unfold inR; omega) (by unfold inR; omega) (by unfold inR; omega)) ?_
                rw [write_on HTN.out HRT.out]
                rintro e WW ⟨rfl, hkw, hsw0⟩
                have HAW : Hid (WW.heap[la]? = some (.cells #[.bool false, .int .i64 sf, .int .i64 sr] 76 (0, 0))) := hsw0.at (by simp) HA7.out
                have HXW0 : Hid (WW.heap[lx]? = some (.cells #[.string xn, .int .i64 xp, .int .i64 xd, .int .i64 xa, .slice (some ⟨rb, ro, none⟩) xr.length rc] 42 (0, 0))) := hsw0.at (by simp) HX7.out
                have HT2M0 : Hid ((setMem T (q : Int).toNat (64 * gp) (5 % 256)).mem q (64 * gp) = 5) := by show _ = _; rw [Int.toNat_natCast]; exact setMem_mem _ _ _ _
                have HT2W0 : Hid (whoF ⟨n, ps, cs⟩ (setMem T (q : Int).toNat (64 * gp) (5 % 256)) = (q : Int)) := HW.out
                have HT2S0 : Hid ((setMem T (q : Int).toNat (64 * gp) (5 % 256)).sts q = ⟨false, sf, sr⟩) := HSE.out
                have HTN0 : Hid (turnF ⟨n, ps, cs⟩ (setMem T (q : Int).toNat (64 * gp) (5 % 256)) q = 0) := by show _ = _; rw [turn_mem]; exact HTN.out
                have HSM3 : Hid (SmallK (k + i) (setMem T (q : Int).toNat (64 * gp) (5 % 256))) := HSM2.out.setMem _ _ _
                obtain ⟨T2, hT2⟩ : ∃ T2, setMem T (q : Int).toNat (64 * gp) (5 % 256) = T2 := ⟨_, rfl⟩
                rw [hT2] at hkw HT2M0 HT2W0 HT2S0 HTN0 HSM3
                have HKW : Hid (KAtL I W1 [la, lx] a ⟨n, ps, cs⟩ T2 WW) := hkw
                have HT2M : Hid (T2.mem q (64 * gp) = 5) := HT2M0
                have HT2W : Hid (whoF ⟨n, ps, cs⟩ T2 = (q : Int)) := HT2W0
                have HT2S : Hid (T2.sts q = ⟨false, sf, sr⟩) := HT2S0
                have HRM1 : Hid (readF ⟨n, ps, cs⟩ T2 q (-1) = (0, 22, failF ⟨n, ps, cs⟩ T2 q)) := read_fail HTN0.out HLOW.out
                have hsw : SmallK bigK T2 := HSM3.out.mono (by unfold bigK; omega)
                have hsf : SmallK bigK (failF ⟨n, ps, cs⟩ T2 q) := (HSM3.out.fail _ _).mono (by unfold bigK; omega)
                clear hkw hsw0 hT2 f7 x4 HT2M0 HT2W0 HT2S0
                go_wp2_with fail
                rcases (show xa = 1 ∨ xa = 2 ∨ xa = 3 by omega) with hxa | hxa | hxa
                · subst hxa
                  have HAC : Hid (actF ⟨n, ps, cs⟩ q = 1) := HAC0.out
                  have HXW : Hid (WW.heap[lx]? = some (.cells #[.string xn, .int .i64 xp, .int .i64 xd, .int .i64 1, .slice (some ⟨rb, ro, none⟩) xr.length rc] 42 (0, 0))) := HXW0
                  have HFS : Hid ((failF ⟨n, ps, cs⟩ T2 q).sts q = ⟨false, sf + 1, sr⟩) := by
                    show _ = _
                    rw [fail_sts, HAC.out, HT2S.out]
                    simp [failSt]
                  have hst : (failSt (actF ⟨n, ps, cs⟩ q) (T2.sts q)).stopped = false := by rw [HAC.out, HT2S.out]; rfl
                  have HRD : Hid (readF ⟨n, ps, cs⟩ (failF ⟨n, ps, cs⟩ T2 q) q (64 * gp) = (5, 0, failF ⟨n, ps, cs⟩ T2 q)) := by
                    show _ = _
                    rw [read_on (turn_fail (D := ⟨n, ps, cs⟩) hql HT2W.out hst) HRT.out, Int.toNat_natCast, fail_mem, HAC.out]
                    simp [HT2M.out]
                  clear hst
                  clear HAC0 HXW0
                  refine Calls.mono (KAtL.read HKW.out hsw (p := (q : Int)) (x := -1) (by unfold inR; omega) (by unfold inR; omega)) ?_
                  rw [HRM1.out]
                  rintro e w6 ⟨rfl, hk6, hs6⟩
                  have HK6 : Hid (KAtL I W1 [la, lx] a ⟨n, ps, cs⟩ (failF ⟨n, ps, cs⟩ T2 q) w6) := hk6
                  have HA6 : Hid (w6.heap[la]? = some (.cells #[.bool false, .int .i64 sf, .int .i64 sr] 76 (0, 0))) := hs6.at (by simp) HAW.out
                  have HX6 : Hid (w6.heap[lx]? = some (.cells #[.string xn, .int .i64 xp, .int .i64 xd, .int .i64 1, .slice (some ⟨rb, ro, none⟩) xr.length rc] 42 (0, 0))) := hs6.at (by simp) HXW.out
                  clear hk6 hs6
                  go_wp2_with fail
                  refine Calls.mono (KAtL.state HK6.out hsf (p := (q : Int)) (by unfold inR; omega)) ?_
                  rw [state_in (D := ⟨n, ps, cs⟩) hql, HFS.out]
                  unfold stV
                  simp only []
                  rintro e w7 ⟨rfl, hk7, hs7⟩
                  have hk8 := hk7.alloc (.cells #[.bool false, .int .i64 (sf + 1), .int .i64 sr] 76)
                  have h8 := heap_new w7 (.cells #[.bool false, .int .i64 (sf + 1), .int .i64 sr] 76)
                  have ha8 := keepN (hs7.at (by simp) HA6.out) (newB w7 (.cells #[.bool false, .int .i64 (sf + 1), .int .i64 sr] 76))
                  have hx8 := keepN (hs7.at (by simp) HX6.out) (newB w7 (.cells #[.bool false, .int .i64 (sf + 1), .int .i64 sr] 76))
                  have HK8 : Hid (KAtL I W1 [w7.heap.size, la, lx] a ⟨n, ps, cs⟩ (failF ⟨n, ps, cs⟩ T2 q) (w7.alloc (.cells #[.bool false, .int .i64 (sf + 1), .int .i64 sr] 76))) := hk8
                  have HB8 : Hid _ := h8
                  have HA8 : Hid _ := ha8
                  have HX8 : Hid _ := hx8
                  clear hk7 hs7 hk8 h8 ha8 hx8
                  go_wp2_with fail
                  generalize w7.alloc (.cells #[.bool false, .int .i64 (sf + 1), .int .i64 sr] 76) = W8 at *
                  generalize w7.heap.size = lb at *
                  refine Calls.mono (KAtL.read HK8.out hsf (p := (q : Int)) (x := (64 * gp)) (by unfold inR; omega) (by unfold inR; omega)) ?_
                  rw [HRD.out]
                  rintro e w9 ⟨rfl, hk9, hs9⟩
                  have ha9 := hs9.at (by simp) HA8.out
                  have hx9 := hs9.at (by simp) HX8.out
                  have hb9 := hs9.at (by simp) HB8.out
                  have HK9 : Hid (KAtL I W1 [lb, la, lx] a ⟨n, ps, cs⟩ _ w9) := hk9
                  have HBL : Hid (Below W1.heap.size W1 w9) := hk9.kat.bel
                  have z1 : w9.cell? ⟨lb, 0, none⟩ = some (.bool false) := by rw [cell_of_blk hb9]; rfl
                  have z2 : w9.cell? ⟨lb, 1, none⟩ = some (.int .i64 (sf + 1)) := by rw [cell_of_blk hb9]; rfl
                  have z3 : w9.cell? ⟨lb, 2, none⟩ = some (.int .i64 sr) := by rw [cell_of_blk hb9]; rfl
                  have z4 : w9.cell? ⟨la, 1, none⟩ = some (.int .i64 sf) := by rw [cell_of_blk ha9]; rfl
                  have z5 : w9.cell? ⟨la, 2, none⟩ = some (.int .i64 sr) := by rw [cell_of_blk ha9]; rfl
                  have z6 : w9.cell? ⟨lx, 3, none⟩ = some (.int .i64 1) := by rw [cell_of_blk hx9]; rfl
                  have z7 : w9.cell? ⟨lx, 4, none⟩ = some (.slice (some ⟨rb, ro, none⟩) xr.length rc) := by rw [cell_of_blk hx9]; rfl
                  clear hk9 hs9 ha9 hx9 hb9
                  go_wp2_with fail
                  all_goals go_ret
                  all_goals exact ⟨rfl, HBW.out.trans (HBL.out.mono HBW.out.size)⟩
                · subst hxa
                  have HAC : Hid (actF ⟨n, ps, cs⟩ q = 2) := HAC0.out
                  have HXW : Hid (WW.heap[lx]? = some (.cells #[.string xn, .int .i64 xp, .int .i64 xd, .int .i64 2, .slice (some ⟨rb, ro, none⟩) xr.length rc] 42 (0, 0))) := HXW0
                  have HFS : Hid ((failF ⟨n, ps, cs⟩ T2 q).sts q = ⟨true, sf + 1, sr⟩) := by
                    show _ = _
                    rw [fail_sts, HAC.out, HT2S.out]
                    simp [failSt]
                  have hst : (failSt (actF ⟨n, ps, cs⟩ q) (T2.sts q)).stopped = true := by rw [HAC.out, HT2S.out]; rfl
                  have HRD : Hid (readF ⟨n, ps, cs⟩ (failF ⟨n, ps, cs⟩ T2 q) q (64 * gp) = (0, 20, failF ⟨n, ps, cs⟩ T2 q)) := read_off (turn_fail2 (D := ⟨n, ps, cs⟩) hql hst) (by decide)
                  have HRN : Hid (runF ⟨n, ps, cs⟩ (failF ⟨n, ps, cs⟩ T2 q) = -1) := run_fail2 HT2W.out hst
                  clear hst
                  clear HAC0 HXW0
                  refine Calls.mono (KAtL.read HKW.out hsw (p := (q : Int)) (x := -1) (by unfold inR; omega) (by unfold inR; omega)) ?_
                  rw [HRM1.out]
                  rintro e w6 ⟨rfl, hk6, hs6⟩
                  have HK6 : Hid (KAtL I W1 [la, lx] a ⟨n, ps, cs⟩ (failF ⟨n, ps, cs⟩ T2 q) w6) := hk6
                  have HA6 : Hid (w6.heap[la]? = some (.cells #[.bool false, .int .i64 sf, .int .i64 sr] 76 (0, 0))) := hs6.at (by simp) HAW.out
                  have HX6 : Hid (w6.heap[lx]? = some (.cells #[.string xn, .int .i64 xp, .int .i64 xd, .int .i64 2, .slice (some ⟨rb, ro, none⟩) xr.length rc] 42 (0, 0))) := hs6.at (by simp) HXW.out
                  clear hk6 hs6
                  go_wp2_with fail
                  refine Calls.mono (KAtL.state HK6.out hsf (p := (q : Int)) (by unfold inR; omega)) ?_
                  rw [state_in (D := ⟨n, ps, cs⟩) hql, HFS.out]
                  unfold stV
                  simp only []
                  rintro e w7 ⟨rfl, hk7, hs7⟩
                  have hk8 := hk7.alloc (.cells #[.bool true, .int .i64 (sf + 1), .int .i64 sr] 76)
                  have h8 := heap_new w7 (.cells #[.bool true, .int .i64 (sf + 1), .int .i64 sr] 76)
                  have ha8 := keepN (hs7.at (by simp) HA6.out) (newB w7 (.cells #[.bool true, .int .i64 (sf + 1), .int .i64 sr] 76))
                  have hx8 := keepN (hs7.at (by simp) HX6.out) (newB w7 (.cells #[.bool true, .int .i64 (sf + 1), .int .i64 sr] 76))
                  have HK8 : Hid (KAtL I W1 [w7.heap.size, la, lx] a ⟨n, ps, cs⟩ (failF ⟨n, ps, cs⟩ T2 q) (w7.alloc (.cells #[.bool true, .int .i64 (sf + 1), .int .i64 sr] 76))) := hk8
                  have HB8 : Hid _ := h8
                  have HA8 : Hid _ := ha8
                  have HX8 : Hid _ := hx8
                  clear hk7 hs7 hk8 h8 ha8 hx8
                  go_wp2_with fail
                  generalize w7.alloc (.cells #[.bool true, .int .i64 (sf + 1), .int .i64 sr] 76) = W8 at *
                  generalize w7.heap.size = lb at *
                  refine Calls.mono (KAtL.read HK8.out hsf (p := (q : Int)) (x := (64 * gp)) (by unfold inR; omega) (by unfold inR; omega)) ?_
                  rw [HRD.out]
                  rintro e w9 ⟨rfl, hk9, hs9⟩
                  have ha9 := hs9.at (by simp) HA8.out
                  have hx9 := hs9.at (by simp) HX8.out
                  have hb9 := hs9.at (by simp) HB8.out
                  have HK9 : Hid (KAtL I W1 [lb, la, lx] a ⟨n, ps, cs⟩ _ w9) := hk9
                  have HBL : Hid (Below W1.heap.size W1 w9) := hk9.kat.bel
                  have z1 : w9.cell? ⟨lb, 0, none⟩ = some (.bool true) := by rw [cell_of_blk hb9]; rfl
                  have z2 : w9.cell? ⟨lb, 1, none⟩ = some (.int .i64 (sf + 1)) := by rw [cell_of_blk hb9]; rfl
                  have z3 : w9.cell? ⟨lb, 2, none⟩ = some (.int .i64 sr) := by rw [cell_of_blk hb9]; rfl
                  have z4 : w9.cell? ⟨la, 1, none⟩ = some (.int .i64 sf) := by rw [cell_of_blk ha9]; rfl
                  have z5 : w9.cell? ⟨la, 2, none⟩ = some (.int .i64 sr) := by rw [cell_of_blk ha9]; rfl
                  have z6 : w9.cell? ⟨lx, 3, none⟩ = some (.int .i64 2) := by rw [cell_of_blk hx9]; rfl
                  have z7 : w9.cell? ⟨lx, 4, none⟩ = some (.slice (some ⟨rb, ro, none⟩) xr.length rc) := by rw [cell_of_blk hx9]; rfl
                  have HA9 : Hid _ := ha9
                  have HB9 : Hid _ := hb9
                  clear hk9 hs9 ha9 hx9 hb9
                  go_wp2_with fail
                  refine Calls.mono (KAtL.running HK9.out hsf) ?_
                  rw [HRN.out]
                  rintro e wa ⟨rfl, hka, hsa⟩
                  have HBL2 : Hid (Below W1.heap.size W1 wa) := hka.kat.bel
                  have ya := hsa.at (by simp) HA9.out
                  have yb := hsa.at (by simp) HB9.out
                  have v1 : wa.cell? ⟨lb, 0, none⟩ = some (.bool true) := by rw [cell_of_blk yb]; rfl
                  have v3 : wa.cell? ⟨lb, 2, none⟩ = some (.int .i64 sr) := by rw [cell_of_blk yb]; rfl
                  have v5 : wa.cell? ⟨la, 2, none⟩ = some (.int .i64 sr) := by rw [cell_of_blk ya]; rfl
                  clear hka hsa ya yb z1 z2 z3 z4 z5 z6 z7
                  go_wp2_with fail
                  go_ret
                  exact ⟨rfl, HBW.out.trans (HBL2.out.mono HBW.out.size)⟩
                · subst hxa
                  have HAC : Hid (actF ⟨n, ps, cs⟩ q = 3) := HAC0.out
                  have HXW : Hid (WW.heap[lx]? = some (.cells #[.string xn, .int .i64 xp, .int .i64 xd, .int .i64 3, .slice (some ⟨rb, ro, none⟩) xr.length rc] 42 (0, 0))) := HXW0
                  have HFS : Hid ((failF ⟨n, ps, cs⟩ T2 q).sts q = ⟨false, sf + 1, (sr + 1)⟩) := by
                    show _ = _
                    rw [fail_sts, HAC.out, HT2S.out]
                    simp [failSt]
                  have hst : (failSt (actF ⟨n, ps, cs⟩ q) (T2.sts q)).stopped = false := by rw [HAC.out, HT2S.out]; rfl
                  have HRD : Hid (readF ⟨n, ps, cs⟩ (failF ⟨n, ps, cs⟩ T2 q) q (64 * gp) = (0, 0, failF ⟨n, ps, cs⟩ T2 q)) := by
                    show _ = _
                    rw [read_on (turn_fail (D := ⟨n, ps, cs⟩) hql HT2W.out hst) HRT.out, Int.toNat_natCast, fail_mem, HAC.out]
                    simp
                  clear hst
                  clear HAC0 HXW0
                  refine Calls.mono (KAtL.read HKW.out hsw (p := (q : Int)) (x := -1) (by unfold inR; omega) (by unfold inR; omega)) ?_
                  rw [HRM1.out]
                  rintro e w6 ⟨rfl, hk6, hs6⟩
                  have HK6 : Hid (KAtL I W1 [la, lx] a ⟨n, ps, cs⟩ (failF ⟨n, ps, cs⟩ T2 q) w6) := hk6
                  have HA6 : Hid (w6.heap[la]? = some (.cells #[.bool false, .int .i64 sf, .int .i64 sr] 76 (0, 0))) := hs6.at (by simp) HAW.out
                  have HX6 : Hid (w6.heap[lx]? = some (.cells #[.string xn, .int .i64 xp, .int .i64 xd, .int .i64 3, .slice (some ⟨rb, ro, none⟩) xr.length rc] 42 (0, 0))) := hs6.at (by simp) HXW.out
                  clear hk6 hs6
                  go_wp2_with fail
                  refine Calls.mono (KAtL.state HK6.out hsf (p := (q : Int)) (by unfold inR; omega)) ?_
                  rw [state_in (D := ⟨n, ps, cs⟩) hql, HFS.out]
                  unfold stV
                  simp only []
                  rintro e w7 ⟨rfl, hk7, hs7⟩
                  have hk8 := hk7.alloc (.cells #[.bool false, .int .i64 (sf + 1), .int .i64 (sr + 1)] 76)
                  have h8 := heap_new w7 (.cells #[.bool false, .int .i64 (sf + 1), .int .i64 (sr + 1)] 76)
                  have ha8 := keepN (hs7.at (by simp) HA6.out) (newB w7 (.cells #[.bool false, .int .i64 (sf + 1), .int .i64 (sr + 1)] 76))
                  have hx8 := keepN (hs7.at (by simp) HX6.out) (newB w7 (.cells #[.bool false, .int .i64 (sf + 1), .int .i64 (sr + 1)] 76))
                  have HK8 : Hid (KAtL I W1 [w7.heap.size, la, lx] a ⟨n, ps, cs⟩ (failF ⟨n, ps, cs⟩ T2 q) (w7.alloc (.cells #[.bool false, .int .i64 (sf + 1), .int .i64 (sr + 1)] 76))) := hk8
                  have HB8 : Hid _ := h8
                  have HA8 : Hid _ := ha8
                  have HX8 : Hid _ := hx8
                  clear hk7 hs7 hk8 h8 ha8 hx8
                  go_wp2_with fail
                  generalize w7.alloc (.cells #[.bool false, .int .i64 (sf + 1), .int .i64 (sr + 1)] 76) = W8 at *
                  generalize w7.heap.size = lb at *
                  refine Calls.mono (KAtL.read HK8.out hsf (p := (q : Int)) (x := (64 * gp)) (by unfold inR; omega) (by unfold inR; omega)) ?_
                  rw [HRD.out]
                  rintro e w9 ⟨rfl, hk9, hs9⟩
                  have ha9 := hs9.at (by simp) HA8.out
                  have hx9 := hs9.at (by simp) HX8.out
                  have hb9 := hs9.at (by simp) HB8.out
                  have HK9 : Hid (KAtL I W1 [lb, la, lx] a ⟨n, ps, cs⟩ _ w9) := hk9
                  have HBL : Hid (Below W1.heap.size W1 w9) := hk9.kat.bel
                  have z1 : w9.cell? ⟨lb, 0, none⟩ = some (.bool false) := by rw [cell_of_blk hb9]; rfl
                  have z2 : w9.cell? ⟨lb, 1, none⟩ = some (.int .i64 (sf + 1)) := by rw [cell_of_blk hb9]; rfl
                  have z3 : w9.cell? ⟨lb, 2, none⟩ = some (.int .i64 (sr + 1)) := by rw [cell_of_blk hb9]; rfl
                  have z4 : w9.cell? ⟨la, 1, none⟩ = some (.int .i64 sf) := by rw [cell_of_blk ha9]; rfl
                  have z5 : w9.cell? ⟨la, 2, none⟩ = some (.int .i64 sr) := by rw [cell_of_blk ha9]; rfl
                  have z6 : w9.cell? ⟨lx, 3, none⟩ = some (.int .i64 3) := by rw [cell_of_blk hx9]; rfl
                  have z7 : w9.cell? ⟨lx, 4, none⟩ = some (.slice (some ⟨rb, ro, none⟩) xr.length rc) := by rw [cell_of_blk hx9]; rfl
                  clear hk9 hs9 ha9 hx9 hb9
                  go_wp2_with fail
                  all_goals go_ret
                  all_goals exact ⟨rfl, HBW.out.trans (HBL.out.mono HBW.out.size)⟩
end Go.Proofs.YteioennfpkoagaaGreatDoor.C
