import Derived.Test.YteioennfpkoagaaGreatDoorM03
import Derived.Deep.DeepCutAuto
import Derived.OwnWalk
namespace Go.Proofs.YteioennfpkoagaaGreatDoor.C
open Go.RowKit K
attribute [local go_sem ↓] Go.wp_at_zero Go.wp_at_succ

theorem read_off {D : ManD} {S : KS} {p a e : Int} (h : turnF D S p = e) (he : e ≠ 0) : readF D S p a = (0, e, S) := by
  unfold readF
  rw [if_pos (by rw [h]; exact he), h]
theorem write_off {D : ManD} {S : KS} {p a b e : Int} (h : turnF D S p = e) (he : e ≠ 0) : writeF D S p a b = (e, S) := by
  unfold writeF
  rw [if_pos (by rw [h]; exact he), h]
theorem send_off {D : ManD} {S : KS} {p c e : Int} {s : ByteArray} (h : turnF D S p = e) (he : e ≠ 0) : sendF D S p c s = (e, S) := by
  unfold sendF
  rw [if_pos (by rw [h]; exact he), h]
theorem recv_off {D : ManD} {S : KS} {p c e : Int} (h : turnF D S p = e) (he : e ≠ 0) : recvF D S p c = ((ByteArray.empty, false, e), S) := by
  unfold recvF
  rw [if_pos (by rw [h]; exact he), h]
theorem raise_off {D : ManD} {S : KS} {p e : Int} (h : turnF D S p = e) (he : e ≠ 0) : raiseF D S p = (e, S) := by
  unfold raiseF
  rw [if_pos (by rw [h]; exact he), h]
theorem state_in {D : ManD} {S : KS} {p : Nat} (h : p < D.parts.length) : stateF D S p = (S.sts p, 0) := by
  unfold stateF
  rw [if_neg (by omega), Int.toNat_natCast]
theorem read_time (D : ManD) (S : KS) (p a : Int) : (readF D S p a).2.2.time = S.time := by
  unfold readF
  split
  · rfl
  · split <;> rfl
set_option maxRecDepth 100000 in
set_option maxHeartbeats 8000000 in
theorem windows_law (I : KerI) (hMade : MadeF) (w : World) (htb : TB w) (u sv : Value) (L : List Int) (os : List StepD) (hL : IntsV w u L) (hS : StepsV w sv os) :
    Calls Tryz.prog 9 #[u, sv] w fun e w' => e = .returned (.bool true) ∧ Below w.heap.size w w' := by
  have HTB : Hid (TB w) := htb
  clear htb
  have HM : Hid _ := hMade w u L hL
  have HSV : Hid (StepsV w sv os) := hS
  obtain ⟨hol, _, sa, sc, rfl, _⟩ := hS
  clear hMade hL
  go_enter Tryz.func9, Tryz.ntmps9
  go_wp2_with fail
  refine Calls.mono HM.out ?_
  rintro e w1 ⟨n, ps, cs, pv, cv, rfl, hm⟩
  have HMM : Hid (MadeM w n ps cs pv cv w1) := hm
  obtain ⟨va, cap, rfl, _⟩ := hm.parts
  obtain ⟨ca, ck, rfl, _⟩ := hm.chans
  have hfr := hm.fr
  have hps : ps.length ≤ 8 := (check_ok hm.chk).2.2.1
  clear hm HM
  have b0 := newB w1 (.cells #[.int .i64 n, .slice va ps.length cap, .slice ca cs.length ck] 34)
  have h0 := heap_new w1 (.cells #[.int .i64 n, .slice va ps.length cap, .slice ca cs.length ck] 34)
  have HBEG : Hid _ := kbegin_any I (w1.alloc (.cells #[.int .i64 n, .slice va ps.length cap, .slice ca cs.length ck] 34)) ((HTB.out.below HMM.out.bel).below b0) n ps cs _ _ (HMM.out.parts.below b0) (PartsC.below HMM.out.parts HMM.out.partsC b0) (HMM.out.chans.below b0) HMM.out.chansC HMM.out.chk HMM.out.ne HMM.out.fst
  have HB0 : Hid _ := b0
  have HH0 : Hid _ := h0
  clear b0 h0
  go_wp2_with fail
  generalize w1.alloc (.cells #[.int .i64 n, .slice va ps.length cap, .slice ca cs.length ck] 34) = W0 at *
  refine Calls.mono HBEG.out ?_
  rintro e w2 ⟨a, qv, W1, rfl, hbg⟩
  have HBG : Hid (Begun I W0 ⟨n, ps, cs⟩ a qv W1 w2) := hbg
  have epl : (planF ⟨n, ps, cs⟩).length = n := by rw [planF_len]; simp
  obtain ⟨qa, qc, hqv, _⟩ := hbg.plan
  rw [epl] at hqv
  subst hqv
  clear hbg epl HBEG
  have hW0 : Below w.heap.size w W1 := (HMM.out.bel.trans (HB0.out.mono HMM.out.bel.size)).trans (HBG.out.pre.mono (Nat.le_trans HMM.out.bel.size HB0.out.size))
  have HBW : Hid (Below w.heap.size w W1) := hW0
  have HPW : Hid (PartsV W1 (.slice va ps.length cap) ps) := PartsV.below (PartsV.below HMM.out.parts HB0.out) HBG.out.pre
  have HCW : Hid (ChansV W1 (.slice ca cs.length ck) cs) := ChansV.below (ChansV.below HMM.out.chans HB0.out) HBG.out.pre
  have HSW : Hid (StepsV W1 (.slice sa os.length sc) os) := HSV.out.below hW0
  have HMW : Hid (W1.heap[w1.heap.size]? = some (.cells #[.int .i64 n, .slice va ps.length cap, .slice ca cs.length ck] 34 (0, 0))) := keepN HH0.out HBG.out.pre
  clear hW0
  go_wp2_with fail
  go_loopw [8, 9] (fun nw i wr => ∃ (k : Nat), i = .int .i64 k ∧ nw = .int .i64 ((runTo ⟨n, ps, cs⟩ os bootK k).time : Nat) ∧ k ≤ os.length ∧ Hid (KAt I W1 a ⟨n, ps, cs⟩ (runTo ⟨n, ps, cs⟩ os bootK k) wr)) (fun _ i _ => os.length - (intOf i).toNat)
  case atStart => exact ⟨0, rfl, rfl, by omega, HBG.out.kat⟩
  case round =>
    obtain ⟨k, rfl, rfl, hk, HKA⟩ := hrel
    have hsm := runTo_small ⟨n, ps, cs⟩ os k
    have hst := hsm.time
    by_cases hlt : k < os.length
    · have hlt' : (k : Int) < (os.length : Int) := by omega
      have hsb : SmallK bigK (runTo ⟨n, ps, cs⟩ os bootK k) := hsm.mono (by unfold bigK; omega)
      have HRS : Hid (runTo ⟨n, ps, cs⟩ os bootK (k + 1) = (doF ⟨n, ps, cs⟩ (runTo ⟨n, ps, cs⟩ os bootK k) os[k]).2) := runTo_succ hlt
      have hSw := HSW.out
      have hor := hSw.2.1 os[k] (List.getElem_mem _)
      obtain ⟨_, _, sa', sc', esa, hc⟩ := hSw
      simp only [Value.slice.injEq, true_and] at esa
      obtain ⟨rfl, rfl⟩ := esa
      obtain ⟨sb, so, rfl, s0, s1, s2, s3, s4⟩ := hc k hlt
      obtain ⟨x, hx⟩ : ∃ x, os[k] = x := ⟨_, rfl⟩
      rw [hx] at s0 s1 s2 s3 s4 hor HRS
      obtain ⟨S, hSe⟩ : ∃ S, runTo ⟨n, ps, cs⟩ os bootK k = S := ⟨_, rfl⟩
      rw [hSe] at HRS HKA hsb hst ⊢
      clear hx hc hSe hsm
      obtain ⟨xk, xp, xn, xb, xt⟩ := x
      simp only [] at s0 s1 s2 s3 s4
      have hbs : sb < W1.heap.size := World.block_lt_of_cell? W1 _ s0
      have HSK : Hid (∀ V, Below W1.heap.size W1 V → V.cell? ⟨w1.heap.size, 0, none⟩ = some (.int .i64 n) ∧ V.cell? ⟨w1.heap.size, 1, none⟩ = some (.slice va ps.length cap) ∧ V.cell? ⟨w1.heap.size, 2, none⟩ = some (.slice ca cs.length ck) ∧ V.cell? ⟨sb, so + k * 5, none⟩ = some (.int .i64 xk) ∧ V.cell? ⟨sb, so + k * 5 + 1, none⟩ = some (.int .i64 xp) ∧ V.cell? ⟨sb, so + k * 5 + 2, none⟩ = some (.int .i64 xn) ∧ V.cell? ⟨sb, so + k * 5 + 3, none⟩ = some (.int .i64 xb) ∧ V.cell? ⟨sb, so + k * 5 + 4, none⟩ = some (.string xt)) := fun V hV =>
        ⟨by rw [cell_of_blk (keepN HMW.out hV)]; rfl, by rw [cell_of_blk (keepN HMW.out hV)]; rfl, by rw [cell_of_blk (keepN HMW.out hV)]; rfl, (hV.cell (p := ⟨sb, so + k * 5, none⟩) hbs).trans s0, (hV.cell (p := ⟨sb, so + k * 5 + 1, none⟩) hbs).trans s1, (hV.cell (p := ⟨sb, so + k * 5 + 2, none⟩) hbs).trans s2, (hV.cell (p := ⟨sb, so + k * 5 + 3, none⟩) hbs).trans s3, (hV.cell (p := ⟨sb, so + k * 5 + 4, none⟩) hbs).trans s4⟩
      obtain ⟨m0, m1, m2, t0, t1, t2, t3, t4⟩ := HSK.out wr HKA.out.bel
      clear s0 s1 s2 s3 s4
      have hdt := do_time ⟨n, ps, cs⟩ S ⟨xk, xp, xn, xb, xt⟩
      have HDO : Hid (Calls Tryz.prog 27 #[.pointer (some a), .agg #[.int .i64 n, .slice va ps.length cap, .slice ca cs.length ck], .agg #[.int .i64 xk, .int .i64 xp, .int .i64 xn, .int .i64 xb, .string xt]] wr.drew fun e w' => e = .returned (ansV (doF ⟨n, ps, cs⟩ S ⟨xk, xp, xn, xb, xt⟩).1) ∧ KAt I W1 a ⟨n, ps, cs⟩ (doF ⟨n, ps, cs⟩ S ⟨xk, xp, xn, xb, xt⟩).2 w') := KAt.do_ (HKA.out.below (below_drewN (Below.refl _ _) 1)) HPW.out HCW.out HMM.out.chk HMM.out.ne hsb ⟨xk, xp, xn, xb, xt⟩ hor
      go_upto_region 9 with fail
      go_region_held3 (fun V => V.cell? ⟨w1.heap.size, 0, none⟩ = some (.int .i64 n) ∧ V.cell? ⟨w1.heap.size, 1, none⟩ = some (.slice va ps.length cap) ∧ V.cell? ⟨w1.heap.size, 2, none⟩ = some (.slice ca cs.length ck) ∧ V.cell? ⟨sb, so + k * 5, none⟩ = some (.int .i64 xk) ∧ V.cell? ⟨sb, so + k * 5 + 1, none⟩ = some (.int .i64 xp) ∧ V.cell? ⟨sb, so + k * 5 + 2, none⟩ = some (.int .i64 xn) ∧ V.cell? ⟨sb, so + k * 5 + 3, none⟩ = some (.int .i64 xb) ∧ V.cell? ⟨sb, so + k * 5 + 4, none⟩ = some (.string xt)) (first | with_reducible assumption | exact HSK.out _ (below_drewN HKA.out.bel 1) | exact HSK.out _ hk3.bel) ((first
        | (go_at_call 27; refine HDO.out.mono ?_; rintro e w3 ⟨rfl, hk3⟩)))
      have u0 := (HSK.out w3 hk3.bel).2.2.2.1
      have HK3 : Hid (KAt I W1 a ⟨n, ps, cs⟩ (doF ⟨n, ps, cs⟩ S ⟨xk, xp, xn, xb, xt⟩).2 w3) := hk3
      have HDT : Hid _ := hdt
      clear m0 m1 m2 t0 t1 t2 t3 t4 hk3 HDO hdt
      by_cases hk1 : xk = 1
      · subst hk1
        go_wp2_with fail
        refine ⟨⟨k + 1, by go_num, ?_, by omega, by rw [HRS.out]; exact HK3⟩, by simp [intOf]; omega⟩
        rw [HRS.out, HDT.out]
        simp
      · go_wp2_with fail
        refine ⟨⟨k + 1, by go_num, ?_, by omega, by rw [HRS.out]; exact HK3⟩, by simp [intOf]; omega⟩
        rw [HRS.out, HDT.out]
        simp [hk1]
    · have hlt' : ¬ (k : Int) < (os.length : Int) := by omega
      have hke : k = os.length := by omega
      clear hlt
      obtain ⟨S, hSe⟩ : ∃ S, runTo ⟨n, ps, cs⟩ os bootK k = S := ⟨_, rfl⟩
      rw [hSe] at HKA hsm hst ⊢
      have HSM : Hid (SmallK k S) := hsm
      clear hSe hke hsm
      go_wp2_with fail
      generalize wr = WR at *
      go_loopw [8, 10] (fun nw tt wr => ∃ (t : Nat) (T : KS), tt = .int .i64 t ∧ nw = .int .i64 (T.time : Nat) ∧ t ≤ n ∧ Hid (KAt I W1 a ⟨n, ps, cs⟩ T wr) ∧ Hid (SmallK (k + 10 * t) T)) (fun _ tt _ => n - (intOf tt).toNat)
      case atStart => exact ⟨0, S, rfl, rfl, by omega, HKA, HSM.out.mono (by omega)⟩
      case round =>
        obtain ⟨t, T, rfl, rfl, ht, HKT, HST⟩ := hrel
        have y0 : wr.cell? ⟨w1.heap.size, 0, none⟩ = some (.int .i64 n) := by rw [cell_of_blk (keepN HMW.out HKT.out.bel)]; rfl
        by_cases htl : t < n
        · have htl' : (t : Int) < (n : Int) := by omega
          go_wp2_with fail
          generalize wr = WT at *
          obtain ⟨tm, htm⟩ : ∃ tm, T.time = tm := ⟨_, rfl⟩
          have HTM : Hid (T.time = tm) := htm
          rw [htm]
          have htb : tm ≤ k + 10 * t := by rw [← htm]; exact HST.out.time
          clear htm
          go_loopw [11] (fun pp wr => ∃ (j : Nat) (U : KS), pp = .int .i64 j ∧ j ≤ ps.length ∧ Hid (U.time = tm) ∧ Hid (KAt I W1 a ⟨n, ps, cs⟩ U wr) ∧ Hid (SmallK (k + 10 * t + j) U)) (fun pp _ => ps.length - (intOf pp).toNat)
          case atStart => exact ⟨0, T, rfl, by omega, HTM, HKT, HST⟩
          case round =>
            obtain ⟨j, U, rfl, hj, HUT, HKU, HSU⟩ := hrel
            have y1 : wr.cell? ⟨w1.heap.size, 1, none⟩ = some (.slice va ps.length cap) := by rw [cell_of_blk (keepN HMW.out HKU.out.bel)]; rfl
            by_cases hjl : j < ps.length
            · have hjl' : (j : Int) < (ps.length : Int) := by omega
              have hsu : SmallK bigK U := HSU.out.mono (by unfold bigK; omega)
              go_wp2_with fail
              refine Calls.mono (KAt.state HKU.out hsu (p := (j : Int)) (by unfold inR; omega)) ?_
              rw [state_in (D := ⟨n, ps, cs⟩) hjl]
              rintro e w4 ⟨rfl, hk4⟩
              unfold stV
              have HK4 : Hid (KAt I W1 a ⟨n, ps, cs⟩ U w4) := hk4
              obtain ⟨st, hste⟩ : ∃ st, U.sts j = st := ⟨_, rfl⟩
              have HSE : Hid (U.sts j = st) := hste
              rw [hste]
              clear hste hk4
              obtain ⟨sp, sf, sr⟩ := st
              simp only []
              have h4 := heap_new w4 (.cells #[.bool sp, .int .i64 sf, .int .i64 sr] 76)
              have hk5 := (HK4.out.lists).alloc (.cells #[.bool sp, .int .i64 sf, .int .i64 sr] 76)
              have HH4 : Hid _ := h4
              have HK5 : Hid _ := hk5
              clear h4 hk5
              go_wp2_with fail
              generalize w4.alloc (.cells #[.bool sp, .int .i64 sf, .int .i64 sr] 76) = W5 at *
              generalize w4.heap.size = lb at *
              refine Calls.mono (KAtL.read HK5.out hsu (p := (j : Int)) (x := 0) (by unfold inR; omega) (by unfold inR; omega)) ?_
              rintro e w6 ⟨rfl, hk6, hs6⟩
              have HK6 : Hid (KAtL I W1 [lb] a ⟨n, ps, cs⟩ (readF ⟨n, ps, cs⟩ U j 0).2.2 w6) := hk6
              have HL6 : Hid (w6.heap[lb]? = some (.cells #[.bool sp, .int .i64 sf, .int .i64 sr] 76 (0, 0))) := hs6.at (by simp) HH4.out
              have HRT : Hid ((readF ⟨n, ps, cs⟩ U j 0).2.2.time = tm) := (read_time _ _ _ _).trans HUT.out
              have HRM : Hid (SmallK (k + 10 * t + j + 1) (readF ⟨n, ps, cs⟩ U j 0).2.2) := HSU.out.read _ _ _
              have y0 : w6.cell? ⟨w1.heap.size, 0, none⟩ = some (.int .i64 n) := by rw [cell_of_blk (keepN HMW.out hk6.kat.bel)]; rfl
              have z0 : w6.cell? ⟨lb, 0, none⟩ = some (.bool sp) := by rw [cell_of_blk HL6.out]; rfl
              have hmod : (tm : Int) % (n : Int) = ((tm % n : Nat) : Int) := by norm_cast
              have hml : tm % n < n := Nat.mod_lt _ (by omega)
              have HWH : Hid (whoF ⟨n, ps, cs⟩ U = tickF ps (tm % n)) := by
                show tickF ps (U.time % (n : Int).toNat) = _
                rw [HUT.out, Int.toNat_natCast]
              have hpv := HBG.out.plan.below hk6.kat.bel
              obtain ⟨qa', qc', eqv, hqc⟩ := hpv
              rw [planF_len] at eqv
              simp only [Int.toNat_natCast, Value.slice.injEq, true_and] at eqv
              obtain ⟨rfl, rfl⟩ := eqv
              obtain ⟨qb, qo, rfl, hq⟩ := hqc (tm % n) (by rw [planF_len]; simpa using hml)
              rw [planF_at (D := ⟨n, ps, cs⟩) (t := tm % n) (by simpa using hml), ← HWH.out] at hq
              obtain ⟨wh, hwhe⟩ : ∃ wh, whoF ⟨n, ps, cs⟩ U = wh := ⟨_, rfl⟩
              have HWE : Hid (whoF ⟨n, ps, cs⟩ U = wh) := hwhe
              simp only [hwhe] at hq
              have hn0 : ¬ (n : Int) = 0 := by omega
              obtain ⟨md, hmd⟩ : ∃ md, tm % n = md := ⟨_, rfl⟩
              rw [hmd] at hmod hml hq
              have hm0 : (0 : Int) ≤ (md : Int) := by omega
              have hm1 : (md : Int) < (n : Int) := by omega
              clear hk6 hs6 hwhe hqc HH4 HK5 HK4 y1 hmd
              by_cases hrun : wh = (j : Int) ∧ sp = false
              · obtain ⟨rfl, rfl⟩ := hrun
                obtain ⟨rdr, hrd⟩ : ∃ r, readF ⟨n, ps, cs⟩ U j 0 = r := ⟨_, rfl⟩
                rw [hrd] at HK6 HRT HRM ⊢
                obtain ⟨rd1, rd2, U2⟩ := rdr
                simp only [] at HK6 HRT HRM
                clear hrd
                go_wp2_with fail
                exact ⟨⟨j + 1, U2, by go_num, by omega, HRT, HK6.out.kat, by rw [← Nat.add_assoc]; exact HRM⟩, by simp [intOf]; omega⟩
              · have hto := off_turn (D := ⟨n, ps, cs⟩) (k := U) hjl (fun h => hrun ⟨HWE.out ▸ h.1, by have := h.2; rw [HSE.out] at this; exact this⟩)
                rw [HSE.out] at hto
                cases sp
                · have HTO : Hid (turnF ⟨n, ps, cs⟩ U j = 21) := by show _ = _; simpa using hto
                  have hwj : ¬ wh = (j : Int) := fun h => hrun ⟨h, rfl⟩
                  rw [read_off HTO.out (by decide)] at HK6 HRT HRM ⊢
                  simp only [] at HK6
                  clear hto hrun HRT HRM
                  go_wp2_with fail
                  refine Calls.mono (KAtL.write HK6.out hsu (p := (j : Int)) (x := 0) (b := 1) (by unfold inR; omega) (by unfold inR; omega) (by unfold inR; omega)) ?_
                  rw [write_off HTO.out (by decide)]
                  rintro e w7 ⟨rfl, hk7, hs7⟩
                  have HK7 : Hid (KAtL I W1 [lb] a ⟨n, ps, cs⟩ U w7) := hk7
                  have HL7 : Hid (w7.heap[lb]? = some (.cells #[.bool false, .int .i64 sf, .int .i64 sr] 76 (0, 0))) := hs7.at (by simp) HL6.out
                  clear hk7 hs7
                  go_wp2_with fail
                  refine Calls.mono (KAtL.send HK7.out hsu (p := (j : Int)) (c := 0) (s := ⟨#[]⟩) (by unfold inR; omega) (by unfold inR; omega) (by decide)) ?_
                  rw [send_off HTO.out (by decide)]
                  rintro e w8 ⟨rfl, hk8, hs8⟩
                  have HK8 : Hid (KAtL I W1 [lb] a ⟨n, ps, cs⟩ U w8) := hk8
                  have HL8 : Hid (w8.heap[lb]? = some (.cells #[.bool false, .int .i64 sf, .int .i64 sr] 76 (0, 0))) := hs8.at (by simp) HL7.out
                  clear hk8 hs8
                  go_wp2_with fail
                  refine Calls.mono (KAtL.recv HK8.out hsu (p := (j : Int)) (c := 0) (by unfold inR; omega) (by unfold inR; omega)) ?_
                  rw [recv_off HTO.out (by decide)]
                  rintro e w9 ⟨rfl, hk9, hs9⟩
                  have HK9 : Hid (KAtL I W1 [lb] a ⟨n, ps, cs⟩ U w9) := hk9
                  have HL9 : Hid (w9.heap[lb]? = some (.cells #[.bool false, .int .i64 sf, .int .i64 sr] 76 (0, 0))) := hs9.at (by simp) HL8.out
                  clear hk9 hs9
                  go_wp2_with fail
                  refine Calls.mono (KAtL.raise HK9.out hsu (p := (j : Int)) (by unfold inR; omega)) ?_
                  rw [raise_off HTO.out (by decide)]
                  rintro e wa ⟨rfl, hka, hsa⟩
                  have HKA2 : Hid (KAtL I W1 [lb] a ⟨n, ps, cs⟩ U wa) := hka
                  have HLA : Hid (wa.heap[lb]? = some (.cells #[.bool false, .int .i64 sf, .int .i64 sr] 76 (0, 0))) := hsa.at (by simp) HL9.out
                  clear hka hsa
                  go_wp2_with fail
                  refine Calls.mono (KAtL.state HKA2.out hsu (p := (j : Int)) (by unfold inR; omega)) ?_
                  rw [state_in (D := ⟨n, ps, cs⟩) hjl, HSE.out]
                  unfold stV
                  simp only []
                  rintro e wb ⟨rfl, hkb, hsb⟩
                  have HKB : Hid (KAtL I W1 [lb] a ⟨n, ps, cs⟩ U wb) := hkb
                  have hlb := hsb.at (by simp) HLA.out
                  have hlw : lb < wb.heap.size := lt_of_blk hlb
                  have z1 : wb.cell? ⟨lb, 0, none⟩ = some (.bool false) := by rw [cell_of_blk hlb]; rfl
                  have z2 : wb.cell? ⟨lb, 1, none⟩ = some (.int .i64 sf) := by rw [cell_of_blk hlb]; rfl
                  have z3 : wb.cell? ⟨lb, 2, none⟩ = some (.int .i64 sr) := by rw [cell_of_blk hlb]; rfl
                  clear hkb hsb hlb
                  go_wp2_with fail
                  exact ⟨⟨j + 1, U, by go_num, by omega, HUT, (HKB.out.alloc _).kat, HSU.out.mono (by omega)⟩, by simp [intOf]; omega⟩
                · have HTO : Hid (turnF ⟨n, ps, cs⟩ U j = 20) := by show _ = _; simpa using hto
                  rw [read_off HTO.out (by decide)] at HK6 HRT HRM ⊢
                  simp only [] at HK6
                  clear hto hrun HRT HRM
                  by_cases hwj : wh = (j : Int)
                  · subst hwj
                    go_wp2_with fail
                    refine Calls.mono (KAtL.write HK6.out hsu (p := (j : Int)) (x := 0) (b := 1) (by unfold inR; omega) (by unfold inR; omega) (by unfold inR; omega)) ?_
                    rw [write_off HTO.out (by decide)]
                    rintro e w7 ⟨rfl, hk7, hs7⟩
                    have HK7 : Hid (KAtL I W1 [lb] a ⟨n, ps, cs⟩ U w7) := hk7
                    have HL7 : Hid (w7.heap[lb]? = some (.cells #[.bool true, .int .i64 sf, .int .i64 sr] 76 (0, 0))) := hs7.at (by simp) HL6.out
                    clear hk7 hs7
                    go_wp2_with fail
                    refine Calls.mono (KAtL.send HK7.out hsu (p := (j : Int)) (c := 0) (s := ⟨#[]⟩) (by unfold inR; omega) (by unfold inR; omega) (by decide)) ?_
                    rw [send_off HTO.out (by decide)]
                    rintro e w8 ⟨rfl, hk8, hs8⟩
                    have HK8 : Hid (KAtL I W1 [lb] a ⟨n, ps, cs⟩ U w8) := hk8
                    have HL8 : Hid (w8.heap[lb]? = some (.cells #[.bool true, .int .i64 sf, .int .i64 sr] 76 (0, 0))) := hs8.at (by simp) HL7.out
                    clear hk8 hs8
                    go_wp2_with fail
                    refine Calls.mono (KAtL.recv HK8.out hsu (p := (j : Int)) (c := 0) (by unfold inR; omega) (by unfold inR; omega)) ?_
                    rw [recv_off HTO.out (by decide)]
                    rintro e w9 ⟨rfl, hk9, hs9⟩
                    have HK9 : Hid (KAtL I W1 [lb] a ⟨n, ps, cs⟩ U w9) := hk9
                    have HL9 : Hid (w9.heap[lb]? = some (.cells #[.bool true, .int .i64 sf, .int .i64 sr] 76 (0, 0))) := hs9.at (by simp) HL8.out
                    clear hk9 hs9
                    go_wp2_with fail
                    refine Calls.mono (KAtL.raise HK9.out hsu (p := (j : Int)) (by unfold inR; omega)) ?_
                    rw [raise_off HTO.out (by decide)]
                    rintro e wa ⟨rfl, hka, hsa⟩
                    have HKA2 : Hid (KAtL I W1 [lb] a ⟨n, ps, cs⟩ U wa) := hka
                    have HLA : Hid (wa.heap[lb]? = some (.cells #[.bool true, .int .i64 sf, .int .i64 sr] 76 (0, 0))) := hsa.at (by simp) HL9.out
                    clear hka hsa
                    go_wp2_with fail
                    refine Calls.mono (KAtL.state HKA2.out hsu (p := (j : Int)) (by unfold inR; omega)) ?_
                    rw [state_in (D := ⟨n, ps, cs⟩) hjl, HSE.out]
                    unfold stV
                    simp only []
                    rintro e wb ⟨rfl, hkb, hsb⟩
                    have HKB : Hid (KAtL I W1 [lb] a ⟨n, ps, cs⟩ U wb) := hkb
                    have hlb := hsb.at (by simp) HLA.out
                    have hlw : lb < wb.heap.size := lt_of_blk hlb
                    have z1 : wb.cell? ⟨lb, 0, none⟩ = some (.bool true) := by rw [cell_of_blk hlb]; rfl
                    have z2 : wb.cell? ⟨lb, 1, none⟩ = some (.int .i64 sf) := by rw [cell_of_blk hlb]; rfl
                    have z3 : wb.cell? ⟨lb, 2, none⟩ = some (.int .i64 sr) := by rw [cell_of_blk hlb]; rfl
                    clear hkb hsb hlb
                    go_wp2_with fail
                    exact ⟨⟨j + 1, U, by go_num, by omega, HUT, (HKB.out.alloc _).kat, HSU.out.mono (by omega)⟩, by simp [intOf]; omega⟩
                  · go_wp2_with fail
                    refine Calls.mono (KAtL.write HK6.out hsu (p := (j : Int)) (x := 0) (b := 1) (by unfold inR; omega) (by unfold inR; omega) (by unfold inR; omega)) ?_
                    rw [write_off HTO.out (by decide)]
                    rintro e w7 ⟨rfl, hk7, hs7⟩
                    have HK7 : Hid (KAtL I W1 [lb] a ⟨n, ps, cs⟩ U w7) := hk7
                    have HL7 : Hid (w7.heap[lb]? = some (.cells #[.bool true, .int .i64 sf, .int .i64 sr] 76 (0, 0))) := hs7.at (by simp) HL6.out
                    clear hk7 hs7
                    go_wp2_with fail
                    refine Calls.mono (KAtL.send HK7.out hsu (p := (j : Int)) (c := 0) (s := ⟨#[]⟩) (by unfold inR; omega) (by unfold inR; omega) (by decide)) ?_
                    rw [send_off HTO.out (by decide)]
                    rintro e w8 ⟨rfl, hk8, hs8⟩
                    have HK8 : Hid (KAtL I W1 [lb] a ⟨n, ps, cs⟩ U w8) := hk8
                    have HL8 : Hid (w8.heap[lb]? = some (.cells #[.bool true, .int .i64 sf, .int .i64 sr] 76 (0, 0))) := hs8.at (by simp) HL7.out
                    clear hk8 hs8
                    go_wp2_with fail
                    refine Calls.mono (KAtL.recv HK8.out hsu (p := (j : Int)) (c := 0) (by unfold inR; omega) (by unfold inR; omega)) ?_
                    rw [recv_off HTO.out (by decide)]
                    rintro e w9 ⟨rfl, hk9, hs9⟩
                    have HK9 : Hid (KAtL I W1 [lb] a ⟨n, ps, cs⟩ U w9) := hk9
                    have HL9 : Hid (w9.heap[lb]? = some (.cells #[.bool true, .int .i64 sf, .int .i64 sr] 76 (0, 0))) := hs9.at (by simp) HL8.out
                    clear hk9 hs9
                    go_wp2_with fail
                    refine Calls.mono (KAtL.raise HK9.out hsu (p := (j : Int)) (by unfold inR; omega)) ?_
                    rw [raise_off HTO.out (by decide)]
                    rintro e wa ⟨rfl, hka, hsa⟩
                    have HKA2 : Hid (KAtL I W1 [lb] a ⟨n, ps, cs⟩ U wa) := hka
                    have HLA : Hid (wa.heap[lb]? = some (.cells #[.bool true, .int .i64 sf, .int .i64 sr] 76 (0, 0))) := hsa.at (by simp) HL9.out
                    clear hka hsa
                    go_wp2_with fail
                    refine Calls.mono (KAtL.state HKA2.out hsu (p := (j : Int)) (by unfold inR; omega)) ?_
                    rw [state_in (D := ⟨n, ps, cs⟩) hjl, HSE.out]
                    unfold stV
                    simp only []
                    rintro e wb ⟨rfl, hkb, hsb⟩
                    have HKB : Hid (KAtL I W1 [lb] a ⟨n, ps, cs⟩ U wb) := hkb
                    have hlb := hsb.at (by simp) HLA.out
                    have hlw : lb < wb.heap.size := lt_of_blk hlb
                    have z1 : wb.cell? ⟨lb, 0, none⟩ = some (.bool true) := by rw [cell_of_blk hlb]; rfl
                    have z2 : wb.cell? ⟨lb, 1, none⟩ = some (.int .i64 sf) := by rw [cell_of_blk hlb]; rfl
                    have z3 : wb.cell? ⟨lb, 2, none⟩ = some (.int .i64 sr) := by rw [cell_of_blk hlb]; rfl
                    clear hkb hsb hlb
                    go_wp2_with fail
                    exact ⟨⟨j + 1, U, by go_num, by omega, HUT, (HKB.out.alloc _).kat, HSU.out.mono (by omega)⟩, by simp [intOf]; omega⟩
            · have hjl' : ¬ (j : Int) < (ps.length : Int) := by omega
              have hsu : SmallK bigK U := HSU.out.mono (by unfold bigK; omega)
              have hje : j ≤ 8 := by omega
              go_wp2_with fail
              refine Calls.mono (KAt.tick HKU.out hsu) ?_
              rintro e w4 ⟨rfl, hk4⟩
              have HK4 : Hid (KAt I W1 a ⟨n, ps, cs⟩ (tickK U) w4) := hk4
              clear hk4
              go_wp2_with fail
              refine ⟨⟨t + 1, tickK U, by go_num, ?_, by omega, HK4, (HSU.out.tick).mono (by omega)⟩, by simp [intOf]; omega⟩
              have := HUT.out
              simp [tickK, this]
        · have htl' : ¬ (t : Int) < (n : Int) := by omega
          go_wp2_with fail
          go_ret
          exact ⟨rfl, HBW.out.trans (HKT.out.bel.mono HBW.out.size)⟩
end Go.Proofs.YteioennfpkoagaaGreatDoor.C
namespace Go.Proofs.YteioennfpkoagaaGreatDoor.C
open Go.RowKit K
attribute [local go_sem ↓] Go.wp_at_zero Go.wp_at_succ

/- a list of texts, read from memory -/
def StrsV (w : World) (v : Value) (xs : List ByteArray) : Prop :=
  (∀ x ∈ xs, x.size ≤ 9223372036854775807) ∧ ∃ va cap, v = .slice va xs.length cap ∧ ∀ i (h : i < xs.length), ∃ b off, va = some ⟨b, off, none⟩ ∧ w.cell? ⟨b, off + i, none⟩ = some (.string xs[i])
theorem StrsV.below {w w' : World} {v : Value} {L : List ByteArray} (h : StrsV w v L) (hb : Below w.heap.size w w') : StrsV w' v L := by
  obtain ⟨h1, va, cap, e, hc⟩ := h
  refine ⟨h1, va, cap, e, fun i hi => ?_⟩
  obtain ⟨b, off, e1, h1⟩ := hc i hi
  have hlt := World.block_lt_of_cell? w _ h1
  exact ⟨b, off, e1, (hb.cell (by exact hlt)).trans h1⟩
/- the kernel, and beside it the list of what was sent -/
structure QM (I : KerI) (W1 : World) (a : Addr) (d : Nat) (sv : Value) (ss : List ByteArray) (S : KS) (w : World) : Prop where
  kat : KAtL I W1 sv.ownBlock.toList a ⟨4, qPs, qCs d⟩ S w
  own : w.ownsRow W1.heap.size 9 1 sv ss.length (ss.map .string)
theorem QM.bel {I : KerI} {W1 : World} {a : Addr} {d : Nat} {sv : Value} {ss : List ByteArray} {S : KS} {w : World} (h : QM I W1 a d sv ss S w) : Below W1.heap.size W1 w := h.kat.kat.bel
theorem QM.call {I : KerI} {W1 : World} {a : Addr} {d : Nat} {sv : Value} {ss : List ByteArray} {S T : KS} {w w' : World} (h : QM I W1 a d sv ss S w) (hk : KAtL I W1 sv.ownBlock.toList a ⟨4, qPs, qCs d⟩ T w') (hs : sameL sv.ownBlock.toList w w') : QM I W1 a d sv ss T w' := by
  refine ⟨hk, h.own.1, ?_⟩
  rcases h.own.2 with h0 | ⟨g, cap, cur, rfl, hb, hg, hr⟩
  · exact .inl h0
  · exact .inr ⟨g, cap, cur, rfl, hb, hs.at (by simp [Value.ownBlock]) hg, hr⟩
theorem QM.app {I : KerI} {W1 : World} {a : Addr} {d : Nat} {sv : Value} {ss : List ByteArray} {S : KS} {w w' : World} {x : Obj} {s : ByteArray} {g cap : Nat} (h : QM I W1 a d sv ss S w) (hgr : (w.alloc x).grownBy w' sv.ownBlock)
    (ho : w'.ownsRow W1.heap.size 9 1 (.slice (some ⟨g, 0, none⟩) (ss.length + 1) cap) (ss.length + 1) (ss.map .string ++ [.string s])) (hat : sv.ownBlock = some g ∨ g = w.heap.size + 1) (hlt : g < w'.heap.size) : QM I W1 a d (.slice (some ⟨g, 0, none⟩) (ss.length + 1) cap) (ss ++ [s]) S w' := by
  refine ⟨?_, by rw [List.map_append, List.length_append]; exact ho⟩
  obtain ⟨o, h1, h2, h3, h4⟩ := h.kat
  have hsz : w.heap.size + 1 ≤ w'.heap.size := by have := hgr.size; simpa using this
  have hrow : ∀ k, sv.ownBlock = some k → W1.heap.size ≤ k := fun k hk => (h.own.lt k hk).1
  have hkeep : ∀ b, b < w.heap.size → some b ≠ sv.ownBlock → w'.heap[b]? = w.heap[b]? := fun b hb hne => (hgr.block b (by simp; omega) hne).trans (Below.heap_alloc _ _ _ hb)
  have hno : ∀ b, o b → some b ≠ sv.ownBlock := fun b hb e => (h4 b (by rw [← e]; simp)).1 hb
  refine ⟨o, I.keep h1 fun b hb => hkeep b (I.low h1 b hb) (hno b hb), h2, ⟨hgr.os.trans h3.os, hgr.tape.trans h3.tape, hgr.output.trans h3.output, by have := h3.size; omega, fun k hk => ?_⟩, fun b hb => ?_⟩
  · rw [hkeep k (by have := h3.size; omega) (fun e => by have := hrow k e.symm; omega), h3.block k hk]
  · have e : b = g := by simpa [Value.ownBlock] using hb
    subst e
    refine ⟨fun hob => ?_, hlt⟩
    rcases hat with h5 | h5
    · exact hno b hob h5.symm
    · have := I.low h1 b hob
      omega
theorem QM.at {I : KerI} {W1 : World} {a : Addr} {d : Nat} {sv : Value} {ss : List ByteArray} {S : KS} {w : World} (h : QM I W1 a d sv ss S w) {i : Nat} (hi : i < ss.length) : ∃ g cap, sv = .slice (some ⟨g, 0, none⟩) ss.length cap ∧ w.cell? ⟨g, i, none⟩ = some (.string ss[i]) := by
  have ho := h.own
  rcases own_nil_or ho with ⟨h0, _⟩ | ⟨g, cap, rfl⟩
  · omega
  · refine ⟨g, cap, rfl, ?_⟩
    rw [own_cells ho i (by omega)]
    simp [hi]
def qW (w : World) (d : Nat) : World := ((w.alloc (.cells #[.string ⟨#[97]⟩, .int .i64 2, .int .i64 1, .int .i64 1, .slice none 0 0, .string ⟨#[98]⟩, .int .i64 4, .int .i64 2, .int .i64 1, .slice none 0 0] 42)).alloc (.cells #[.string ⟨#[113]⟩, .int .i64 0, .int .i64 1, .int .i64 1, .int .i64 32, .int .i64 (1 + (d : Int))] 92)).alloc (.cells #[.int .i64 4, .slice (some ⟨w.heap.size, 0, none⟩) 2 2, .slice (some ⟨w.heap.size + 1, 0, none⟩) 1 1] 34)
theorem qW_see (w : World) (d : Nat) : PartsV (qW w d) (.slice (some ⟨w.heap.size, 0, none⟩) 2 2) qPs ∧ PartsC (qW w d) (.slice (some ⟨w.heap.size, 0, none⟩) 2 2) qPs.length ∧ ChansV (qW w d) (.slice (some ⟨w.heap.size + 1, 0, none⟩) 1 1) (qCs d) ∧ Below w.heap.size w (qW w d) := by
  have g5 : (qW w d).heap[w.heap.size]? = some (.cells #[.string ⟨#[97]⟩, .int .i64 2, .int .i64 1, .int .i64 1, .slice none 0 0, .string ⟨#[98]⟩, .int .i64 4, .int .i64 2, .int .i64 1, .slice none 0 0] 42 (0, 0)) := heap_old _ _ (heap_old _ _ (heap_new w _))
  have g6 : (qW w d).heap[w.heap.size + 1]? = some (.cells #[.string ⟨#[113]⟩, .int .i64 0, .int .i64 1, .int .i64 1, .int .i64 32, .int .i64 (1 + (d : Int))] 92 (0, 0)) := heap_old _ _ (by
    have := heap_new (w.alloc (.cells #[.string ⟨#[97]⟩, .int .i64 2, .int .i64 1, .int .i64 1, .slice none 0 0, .string ⟨#[98]⟩, .int .i64 4, .int .i64 2, .int .i64 1, .slice none 0 0] 42)) (.cells #[.string ⟨#[113]⟩, .int .i64 0, .int .i64 1, .int .i64 1, .int .i64 32, .int .i64 (1 + (d : Int))] 92)
    simpa using this)
  refine ⟨⟨_, _, rfl, ?_⟩, ⟨⟨_, _, _, rfl, Nat.le_refl _⟩, ?_⟩, ⟨_, _, rfl, ?_⟩, ?_⟩
  · intro i hi
    have : i = 0 ∨ i = 1 := by have : i < 2 := hi; omega
    rcases this with rfl | rfl
    · refine ⟨_, _, _, rfl, by rw [cell_of_blk g5]; rfl, by rw [cell_of_blk g5]; rfl, by rw [cell_of_blk g5]; rfl, by rw [cell_of_blk g5]; rfl, by rw [cell_of_blk g5]; rfl, ⟨_, _, rfl, ?_⟩⟩
      intro j hj
      exact absurd hj (by simp [qPs])
    · refine ⟨_, _, _, rfl, by rw [cell_of_blk g5]; rfl, by rw [cell_of_blk g5]; rfl, by rw [cell_of_blk g5]; rfl, by rw [cell_of_blk g5]; rfl, by rw [cell_of_blk g5]; rfl, ⟨_, _, rfl, ?_⟩⟩
      intro j hj
      exact absurd hj (by simp [qPs])
  · intro i hi b off l c e rv hc
    cases e
    have : i = 0 ∨ i = 1 := by have : i < 2 := hi; omega
    rcases this with rfl | rfl
    · rw [cell_of_blk g5] at hc
      exact ⟨_, _, _, (Option.some.inj hc).symm, Nat.le_refl _⟩
    · rw [cell_of_blk g5] at hc
      exact ⟨_, _, _, (Option.some.inj hc).symm, Nat.le_refl _⟩
  · intro i hi
    have : i = 0 := by have : i < 1 := hi; omega
    subst this
    exact ⟨_, _, rfl, by rw [cell_of_blk g6]; rfl, by rw [cell_of_blk g6]; rfl, by rw [cell_of_blk g6]; rfl, by rw [cell_of_blk g6]; rfl, by rw [cell_of_blk g6]; rfl, by rw [cell_of_blk g6]; rfl⟩
  · exact ((((Below.refl _ w).alloc (Nat.le_refl _) _).alloc (by simp) _).alloc (by simp; omega) _)
theorem q_fst : ∀ x ∈ qPs, ∀ r : RegD, x.regs.head? = some r → r.rights = 2 := by
  intro x hx r hr
  simp only [qPs, List.mem_cons, List.not_mem_nil, or_false] at hx
  rcases hx with rfl | rfl <;> cases hr
end Go.Proofs.YteioennfpkoagaaGreatDoor.C
