import Derived.Test.YteioennfpkoagaaDoorCdfF
import Derived.Test.YteioennfpkoagaaDoorChkD
namespace Go.Proofs.YteioennfpkoagaaDoor.C
open Go.RowKit
attribute [local go_sem ↓] Go.wp_at_zero Go.wp_at_succ

set_option maxRecDepth 100000 in
set_option maxHeartbeats 8000000 in
theorem check_any (f : Int) (ps : List PartD) (cs : List ChanD) (pv cv : Value) (w : World) (hp : PartsV w pv ps) (hc : ChansV w cv cs) (hl : ps.length ≤ 4611686018427387903) :
    Calls Tryd.prog 12 #[.agg #[.int .i64 f, pv, cv]] w fun e w' => e = .returned (.int .i64 (checkF ⟨f, ps, cs⟩)) ∧ Below w.heap.size w w' := by
  have HP : Hid (PartsV w pv ps) := hp
  have HCV : Hid (ChansV w cv cs) := hc
  obtain ⟨pa, pcap, rfl, hpc⟩ := hp
  obtain ⟨ca, ccap, rfl, hcc⟩ := hc
  have HPC : Hid _ := hpc
  clear hpc hcc
  have HE : Hid (checkF ⟨f, ps, cs⟩ = checkF ⟨f, ps, cs⟩) := rfl
  by_cases hf1 : f < 1
  · have q1 : decide (f < 1) = true := by simp [hf1]
    go_enter Tryd.func12, Tryd.ntmps12
    go_wp2_with fail
    go_ret
    exact ⟨by unfold checkF; rw [if_pos (.inl hf1)]; rfl, (Below.refl _ _).alloc (Nat.le_refl _) _⟩
  have q1 : decide (f < 1) = false := by simp; omega
  by_cases hf2 : 240 < f
  · have q2 : decide (240 < f) = true := by simp [hf2]
    go_enter Tryd.func12, Tryd.ntmps12
    go_wp2_with fail
    go_ret
    exact ⟨by unfold checkF; rw [if_pos (.inr hf2)]; rfl, (Below.refl _ _).alloc (Nat.le_refl _) _⟩
  have q2 : decide (240 < f) = false := by simp; omega
  have hb0 : Below w.heap.size w (w.alloc (.cells #[.int .i64 f, .slice pa ps.length pcap, .slice ca cs.length ccap] 25)) := (Below.refl _ _).alloc (Nat.le_refl _) _
  have hm0 := heap_new w (.cells #[.int .i64 f, .slice pa ps.length pcap, .slice ca cs.length ccap] 25)
  by_cases hmany : ps.length < 1 ∨ 8 < ps.length ∨ 8 < cs.length
  · have hM := many_true (M := ⟨f, ps, cs⟩) hmany
    have HM : Hid (checkF ⟨f, ps, cs⟩ = 6) := by
      show _ = _
      unfold checkF; rw [if_neg (by simp only []; omega), if_pos hM]
    clear hM
    have hcase : decide ((ps.length : Int) < 1) = true ∨ (decide ((ps.length : Int) < 1) = false ∧ decide ((8 : Int) < (ps.length : Int)) = true) ∨ (decide ((ps.length : Int) < 1) = false ∧ decide ((8 : Int) < (ps.length : Int)) = false ∧ decide ((8 : Int) < (cs.length : Int)) = true) := by
      simp only [decide_eq_true_eq, decide_eq_false_iff_not]; omega
    clear hmany
    rcases hcase with r1 | ⟨r1, r2⟩ | ⟨r1, r2, r3⟩
    all_goals (
      go_enter Tryd.func12, Tryd.ntmps12
      go_wp2_with fail
      generalize w.alloc (.cells #[.int .i64 f, .slice pa ps.length pcap, .slice ca cs.length ccap] 25) = W0 at *
      go_loopw [3, 5] (fun m i wr => ∃ k : Nat, i = .int .i64 k ∧ m = .bool true ∧ k ≤ ps.length ∧ wr = W0) (fun _ i _ => ps.length - (intOf i).toNat)
      case atStart => exact ⟨0, rfl, rfl, by omega, rfl⟩
      case round =>
        obtain ⟨k, rfl, rfl, hk, rfl⟩ := hrel
        have x1 : wr.cell? ⟨w.heap.size, 1, none⟩ = some (.slice pa ps.length pcap) := by rw [cell_of_blk hm0]; rfl
        by_cases hlt : k < ps.length
        · have hlt' : (k : Int) < (ps.length : Int) := by omega
          go_wp2_with fail
          go_roundw
          case rel => exact ⟨k + 1, by go_num, rfl, by omega, trivial⟩
          case measure => simp [intOf]; omega
        · have hlt' : ¬ (k : Int) < (ps.length : Int) := by omega
          go_wp2_with fail
          go_ret
          exact ⟨by rw [HM.out]; rfl, hb0⟩)
  have r1 : decide ((ps.length : Int) < 1) = false := by simp; omega
  have r2 : decide ((8 : Int) < (ps.length : Int)) = false := by simp; omega
  have r3 : decide ((8 : Int) < (cs.length : Int)) = false := by simp; omega
  have HMW : Hid _ := many_wide (M := ⟨f, ps, cs⟩) hmany
  have hps8 : ps.length ≤ 8 := by omega
  have hcs8 : cs.length ≤ 8 := by omega
  clear hmany
  go_enter Tryd.func12, Tryd.ntmps12
  go_wp2_with fail
  generalize w.alloc (.cells #[.int .i64 f, .slice pa ps.length pcap, .slice ca cs.length ccap] 25) = W0 at *
  go_loopw [3, 5] (fun m i wr => ∃ (k : Nat) (c : Bool), i = .int .i64 k ∧ m = .bool c ∧ k ≤ ps.length ∧ Hid (c = wideB (ps.take k)) ∧ wr = W0) (fun _ i _ => ps.length - (intOf i).toNat)
  case atStart => exact ⟨0, false, rfl, rfl, by omega, rfl, rfl⟩
  case round =>
    obtain ⟨k, c, rfl, rfl, hk, HW, rfl⟩ := hrel
    have x1 : wr.cell? ⟨w.heap.size, 1, none⟩ = some (.slice pa ps.length pcap) := by rw [cell_of_blk hm0]; rfl
    by_cases hlt : k < ps.length
    · have hlt' : (k : Int) < (ps.length : Int) := by omega
      have hk0 : (0 : Int) ≤ (k : Int) := by omega
      obtain ⟨b, off, rv, rfl, c0, c1, c2, c3, c4, hrv⟩ := HPC.out k hlt
      obtain ⟨ra, rcap, rfl, hrx⟩ := hrv
      clear hrx c0 c1 c2 c3
      have hbl := World.block_lt_of_cell? w _ c4
      have d4 := (hb0.cell (by exact hbl)).trans c4
      clear c4
      generalize hrg : ps[k].regs.length = rl at *
      have HRG : Hid _ := hrg
      clear hrg
      cases c
      · go_wp2_with fail
        go_roundw
        case rel => exact ⟨k + 1, decide ((4 : Int) < (rl : Int)), by go_num, rfl, by omega, by show _ = _; rw [wideB_step hlt, ← HW.out, HRG.out]; rfl, trivial⟩
        case measure => simp [intOf]; omega
      · go_wp2_with fail
        go_roundw
        case rel => exact ⟨k + 1, true, by go_num, rfl, by omega, by show _ = _; rw [wideB_step hlt, ← HW.out]; rfl, trivial⟩
        case measure => simp [intOf]; omega
    · have hlt' : ¬ (k : Int) < (ps.length : Int) := by omega
      have hke : k = ps.length := by omega
      have HW2 : Hid (c = wideB ps) := by have := HW.out; rw [hke, List.take_length] at this; exact this
      clear hke hk hlt HW
      cases c
      · go_wp2_with fail
        have HNM : Hid (manyB ⟨f, ps, cs⟩ = false) := by show _ = _; rw [HMW.out]; exact HW2.out.symm
        have HWL : Hid _ := wide_len HW2.out.symm
        clear HMW HW2 x1 HE
        generalize wr = W1 at *
        go_loopw [4, 6, 7] (fun pg tk i wr => ∃ (k : Nat) (P T : Int), i = .int .i64 k ∧ pg = .int .i64 P ∧ tk = .int .i64 T ∧ k ≤ ps.length ∧ Hid (P = pagesF (ps.take k)) ∧ Hid (T = ticksF f (ps.take k)) ∧ 0 ≤ P ∧ P ≤ 256 * k ∧ 0 ≤ T ∧ T ≤ 240 * k ∧ Hid (firstNZ (partAt ⟨f, ps, cs⟩) k = 0) ∧ wr.heap[w.heap.size]? = some (.cells #[.int .i64 f, .slice pa ps.length pcap, .slice ca cs.length ccap] 25 (0, 0)) ∧ Below w.heap.size w wr) (fun _ _ i _ => ps.length - (intOf i).toNat)
        case atStart => exact ⟨0, 0, 0, rfl, rfl, rfl, by omega, by simp [Hid, pagesF], by simp [Hid, ticksF], by omega, by omega, by omega, by omega, rfl, hm0, hb0⟩
        case round =>
          obtain ⟨k, P, T, rfl, rfl, rfl, hk, HPG, HTK, hP0, hP1, hT0, hT1, HZ, hm1, b1⟩ := hrel
          have x0 : wr.cell? ⟨w.heap.size, 0, none⟩ = some (.int .i64 f) := by rw [cell_of_blk hm1]; rfl
          have x1 : wr.cell? ⟨w.heap.size, 1, none⟩ = some (.slice pa ps.length pcap) := by rw [cell_of_blk hm1]; rfl
          have x2 : wr.cell? ⟨w.heap.size, 2, none⟩ = some (.slice ca cs.length ccap) := by rw [cell_of_blk hm1]; rfl
          by_cases hlt : k < ps.length
          · have hlt' : (k : Int) < (ps.length : Int) := by omega
            have hk0 : (0 : Int) ≤ (k : Int) := by omega
            go_wp2_with fail
            refine (partWrong_any f ps k _ _ wr (PartsV.below HP.out b1) ⟨by omega, by omega⟩ hlt hl (by have := HWL.out k hlt; omega)).mono ?_
            rintro e V ⟨rfl, hbv⟩
            have hat : partAt ⟨f, ps, cs⟩ k = partErr f (ps.take k) ps[k] := dif_pos hlt
            have HAT : Hid _ := hat
            clear hat
            have b2 := b1.trans (hbv.mono b1.size)
            have hm2 := (hbv.block _ (lt_of_blk hm1)).trans hm1
            clear x0 x1 x2 hm1
            by_cases hz : partErr f (ps.take k) ps[k] = 0
            · have hok := partErr_ok hz
              rw [hz]
              obtain ⟨o1, o2, o3, o4, _, _, o7⟩ := hok
              have HOK : Hid _ := o7
              clear o7
              obtain ⟨b, off, rv, rfl, c0, c1, c2, c3, c4, hrv⟩ := HPC.out k hlt
              have HRV : Hid _ := hrv
              obtain ⟨ra, rcap, rfl, hrx⟩ := hrv
              clear hrx
              have hbl := World.block_lt_of_cell? w _ c4
              have d0 := (b2.cell (by exact hbl)).trans c0
              have d1 := (b2.cell (by exact hbl)).trans c1
              have d2 := (b2.cell (by exact hbl)).trans c2
              have d3 := (b2.cell (by exact hbl)).trans c3
              have d4 := (b2.cell (by exact hbl)).trans c4
              clear c0 c1 c2 c3 c4
              have x0 : V.cell? ⟨w.heap.size, 0, none⟩ = some (.int .i64 f) := by rw [cell_of_blk hm2]; rfl
              have x1 : V.cell? ⟨w.heap.size, 1, none⟩ = some (.slice (some ⟨b, off, none⟩) ps.length pcap) := by rw [cell_of_blk hm2]; rfl
              have hrl := HWL.out k hlt
              have HZ2 : Hid (firstNZ (partAt ⟨f, ps, cs⟩) (k + 1) = 0) := firstNZ_step HZ.out (HAT.out.trans hz)
              have HPS : Hid _ := pagesF_step hlt
              have HTS : Hid _ := ticksF_step f hlt
              clear hz HAT HZ
              generalize ps[k] = x at *
              obtain ⟨t1, t2, t3, t4⟩ := ticks_one o1 o2 o3 o4 (by omega)
              have w1 : IntKind.i64.wrap (f / x.period) = f / x.period := wrap_small _ (by omega) (by omega)
              have w2 : IntKind.i64.wrap (f / x.period * x.duration) = f / x.period * x.duration := wrap_small _ (by omega) (by omega)
              have w3 : IntKind.i64.wrap (T + f / x.period * x.duration) = T + f / x.period * x.duration := wrap_small _ (by omega) (by omega)
              have hpz : ¬ x.period = 0 := by omega
              have hf0 : 0 ≤ f := by omega
              go_wp2_with fail
              have hx3 := heap_new V (.cells #[.string x.name, .int .i64 x.period, .int .i64 x.duration, .int .i64 x.action, .slice ra x.regs.length rcap] 51)
              have hm3 := heap_old V (.cells #[.string x.name, .int .i64 x.period, .int .i64 x.duration, .int .i64 x.action, .slice ra x.regs.length rcap] 51) hm2
              have b3 := b2.alloc (o := (.cells #[.string x.name, .int .i64 x.period, .int .i64 x.duration, .int .i64 x.action, .slice ra x.regs.length rcap] 51)) b2.size
              have hxb : w.heap.size ≠ V.heap.size := by have := lt_of_blk hm2; omega
              clear d0 d1 d2 d3 d4 x0 x1 hm2 b2 hbv b1
              generalize V.alloc (.cells #[.string x.name, .int .i64 x.period, .int .i64 x.duration, .int .i64 x.action, .slice ra x.regs.length rcap] 51) = V2 at *
              generalize V.heap.size = xb at *
              have y0 : V2.cell? ⟨w.heap.size, 0, none⟩ = some (.int .i64 f) := by rw [cell_of_blk hm3]; rfl
              have y1 : V2.cell? ⟨xb, 1, none⟩ = some (.int .i64 x.period) := by rw [cell_of_blk hx3]; rfl
              have y2 : V2.cell? ⟨xb, 2, none⟩ = some (.int .i64 x.duration) := by rw [cell_of_blk hx3]; rfl
              go_quiet (fail)
              go_wp2_with fail
              have hm4 : (V2.drewN nq).heap[w.heap.size]? = _ := hm3
              have hx4 : (V2.drewN nq).heap[xb]? = _ := hx3
              have b4 := below_drewN b3 nq
              clear y0 y1 y2 w1 w2 w3 hm3 hx3 b3
              generalize V2.drewN nq = V3 at *
              have y4 : V3.cell? ⟨xb, 4, none⟩ = some (.slice ra x.regs.length rcap) := by rw [cell_of_blk hx4]; rfl
              obtain ⟨ra', rcap', hrr, hrc⟩ := RegsV.below HRV.out b4
              cases hrr
              have HRC : Hid _ := hrc
              clear hrc
              go_loopw [4, 10] (fun pg i wx => ∃ (q : Nat) (G : Int), i = .int .i64 q ∧ pg = .int .i64 G ∧ q ≤ x.regs.length ∧ Hid (G = P + regPages (x.regs.take q)) ∧ 0 ≤ G ∧ G ≤ P + 64 * q ∧ wx = V3) (fun _ i _ => x.regs.length - (intOf i).toNat)
              case atStart => exact ⟨0, P, rfl, rfl, by omega, by simp [Hid, regPages], by omega, by omega, rfl⟩
              case round =>
                obtain ⟨q, G, rfl, rfl, hq, HG, hG0, hG1, rfl⟩ := hrel
                by_cases hql : q < x.regs.length
                · have hql' : (q : Int) < (x.regs.length : Int) := by omega
                  have hq0 : (0 : Int) ≤ (q : Int) := by omega
                  obtain ⟨rb, ro, rfl, _, z1, _⟩ := HRC.out q hql
                  have hbd := HOK.out.1 x.regs[q] (List.getElem_mem _)
                  unfold regB at hbd
                  simp only [decide_eq_true_eq] at hbd
                  have HST : Hid _ := regPages_step hql
                  generalize x.regs[q].pages = pq at *
                  have wg : IntKind.i64.wrap (G + pq) = G + pq := wrap_small _ (by omega) (by omega)
                  go_wp2_with fail
                  go_roundw
                  case rel => exact ⟨q + 1, G + pq, by go_num, rfl, by omega, by show _ = _; rw [HST.out, HG.out]; omega, by omega, by omega, trivial⟩
                  case measure => simp [intOf]; omega
                · have hql' : ¬ (q : Int) < (x.regs.length : Int) := by omega
                  have hqe : q = x.regs.length := by omega
                  have HG2 : Hid (G = P + regPages x.regs) := by have := HG.out; rw [hqe, List.take_length] at this; exact this
                  clear HG
                  go_wp2_with fail
                  go_roundw
                  case rel => exact ⟨k + 1, G, T + f / x.period * x.duration, by go_num, rfl, rfl, by omega, by show _ = _; rw [HPS.out, HG2.out, HPG.out], by show _ = _; rw [HTS.out, HTK.out], by omega, by omega, by omega, by omega, HZ2, hm4, b4⟩
                  case measure => simp [intOf]; omega
            · have hzz : (partErr f (ps.take k) ps[k] != 0) = true := by simp [hz]
              have HR : Hid (checkF ⟨f, ps, cs⟩ = partErr f (ps.take k) ps[k]) := by
                have h1 : firstNZ (partAt ⟨f, ps, cs⟩) ps.length = partErr f (ps.take k) ps[k] := by
                  rw [← HAT.out]; exact firstNZ_stop HZ.out (by rw [HAT.out]; exact hz) hlt
                show _ = _
                unfold checkF
                rw [if_neg (by simp only []; omega), if_neg (by rw [HNM.out]; simp), if_pos (by rw [h1]; exact hz), h1]
              go_wp2_with fail
              go_ret
              exact ⟨by rw [HR.out]; rfl, b2⟩
          · have hlt' : ¬ (k : Int) < (ps.length : Int) := by omega
            have hke : k = ps.length := by omega
            have HP2 : Hid (P = pagesF ps) := by have := HPG.out; rw [hke, List.take_length] at this; exact this
            have HT2 : Hid (T = ticksF f ps) := by have := HTK.out; rw [hke, List.take_length] at this; exact this
            have HZ2 : Hid (firstNZ (partAt ⟨f, ps, cs⟩) ps.length = 0) := by have := HZ.out; rw [hke] at this; exact this
            clear HPG HTK HZ
            go_wp2_with fail
            clear x0 x1 x2
            generalize wr = W2 at *
            go_loopw [11] (fun i wr => ∃ (q : Nat), i = .int .i64 q ∧ q ≤ cs.length ∧ Hid (firstNZ (chanAt ⟨f, ps, cs⟩) q = 0) ∧ wr.heap[w.heap.size]? = some (.cells #[.int .i64 f, .slice pa ps.length pcap, .slice ca cs.length ccap] 25 (0, 0)) ∧ Below w.heap.size w wr) (fun i _ => cs.length - (intOf i).toNat)
            case atStart => exact ⟨0, rfl, by omega, rfl, hm1, b1⟩
            case round =>
              obtain ⟨q, rfl, hq, HC0, hm2, b2⟩ := hrel
              have x0 : wr.cell? ⟨w.heap.size, 0, none⟩ = some (.int .i64 f) := by rw [cell_of_blk hm2]; rfl
              have x1 : wr.cell? ⟨w.heap.size, 1, none⟩ = some (.slice pa ps.length pcap) := by rw [cell_of_blk hm2]; rfl
              have x2 : wr.cell? ⟨w.heap.size, 2, none⟩ = some (.slice ca cs.length ccap) := by rw [cell_of_blk hm2]; rfl
              by_cases hql : q < cs.length
              · have hql' : (q : Int) < (cs.length : Int) := by omega
                have hq0 : (0 : Int) ≤ (q : Int) := by omega
                go_wp2_with fail
                refine (chanWrong_any f cs q ps.length pcap pa _ wr (ChansV.below HCV.out b2) hql (by omega)).mono ?_
                rintro e V ⟨rfl, hbv⟩
                have HAT : Hid (chanAt ⟨f, ps, cs⟩ q = chanErr f ps.length (cs.take q) cs[q]) := dif_pos hql
                have b3 := b2.trans (hbv.mono b2.size)
                have hm3 := (hbv.block _ (lt_of_blk hm2)).trans hm2
                clear x0 x1 x2 hm2 hbv
                by_cases hz : chanErr f ps.length (cs.take q) cs[q] = 0
                · rw [hz]
                  have HC1 : Hid (firstNZ (chanAt ⟨f, ps, cs⟩) (q + 1) = 0) := firstNZ_step HC0.out (HAT.out.trans hz)
                  clear hz
                  go_wp2_with fail
                  go_roundw
                  case rel => exact ⟨q + 1, by go_num, by omega, HC1, hm3, b3⟩
                  case measure => simp [intOf]; omega
                · have hzz : (chanErr f ps.length (cs.take q) cs[q] != 0) = true := by simp [hz]
                  have HR : Hid (checkF ⟨f, ps, cs⟩ = chanErr f ps.length (cs.take q) cs[q]) := by
                    have h1 : firstNZ (chanAt ⟨f, ps, cs⟩) cs.length = chanErr f ps.length (cs.take q) cs[q] := by
                      rw [← HAT.out]; exact firstNZ_stop HC0.out (by rw [HAT.out]; exact hz) hql
                    show _ = _
                    unfold checkF
                    rw [if_neg (by simp only []; omega), if_neg (by rw [HNM.out]; simp), if_neg (by simp only []; rw [HZ2.out]; simp), if_pos (by simp only []; rw [h1]; exact hz)]
                    exact h1
                  go_wp2_with fail
                  go_ret
                  exact ⟨by rw [HR.out]; rfl, b3⟩
              · have hql' : ¬ (q : Int) < (cs.length : Int) := by omega
                have hqe : q = cs.length := by omega
                have HC2 : Hid (firstNZ (chanAt ⟨f, ps, cs⟩) cs.length = 0) := by have := HC0.out; rw [hqe] at this; exact this
                have HR : Hid (checkF ⟨f, ps, cs⟩ = if f < T then 16 else if 64 < P then 17 else 0) := by
                  show _ = _
                  unfold checkF
                  rw [if_neg (by simp only []; omega), if_neg (by rw [HNM.out]; simp), if_neg (by simp only []; rw [HZ2.out]; simp), if_neg (by simp only []; rw [HC2.out]; simp), ← HP2.out, ← HT2.out]
                by_cases h16 : f < T
                · have z1 : decide (f < T) = true := by simp [h16]
                  go_wp2_with fail
                  go_ret
                  exact ⟨by rw [HR.out, if_pos h16]; rfl, b2⟩
                have z1 : decide (f < T) = false := by rw [decide_eq_false_iff_not]; exact h16
                by_cases h17 : 64 < P
                · have z2 : decide (64 < P) = true := by simp [h17]
                  go_wp2_with fail
                  go_ret
                  exact ⟨by rw [HR.out, if_neg (by omega), if_pos h17]; rfl, b2⟩
                have z2 : decide (64 < P) = false := by rw [decide_eq_false_iff_not]; exact h17
                go_wp2_with fail
                go_ret
                exact ⟨by rw [HR.out, if_neg (by omega), if_neg (by omega)]; rfl, b2⟩
      · go_wp2_with fail
        go_ret
        refine ⟨?_, hb0⟩
        have : checkF ⟨f, ps, cs⟩ = 6 := by unfold checkF; rw [if_neg (by simp only []; omega), if_pos (by rw [HMW.out]; exact HW2.out.symm)]
        rw [this]; rfl
end Go.Proofs.YteioennfpkoagaaDoor.C
