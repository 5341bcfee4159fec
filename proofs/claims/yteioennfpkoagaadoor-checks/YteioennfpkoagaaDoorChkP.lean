import Derived.Test.YteioennfpkoagaaDoorChkO
namespace Go.Proofs.YteioennfpkoagaaDoor.C
open Go.RowKit
attribute [local go_sem ↓] Go.wp_at_zero Go.wp_at_succ

set_option maxRecDepth 100000 in
set_option maxHeartbeats 2000000 in
theorem checkChannels_any (f : Int) (ps : List PartD) (cs : List ChanD) (pv cv : Value) (w : World) (hpv : ∃ a k, pv = .slice a ps.length k) (hp : ChansV w cv cs) (hpc : capV cv) (hn : ps.length ≤ 4611686018427387903) (hl : cs.length ≤ 4611686018427387903) :
    Calls Tryd.prog 20 #[.agg #[.int .i64 f, pv, cv]] w fun e w' => e = .returned (.int .i64 (firstNZ (chanAt ⟨f, ps, cs⟩) cs.length)) ∧ Below w.heap.size w w' := by
  obtain ⟨pa, pcap, rfl⟩ := hpv
  have HP : Hid (ChansV w cv cs) := hp
  obtain ⟨va, cap, rfl, hc⟩ := hp
  have hlc := hpc.le
  clear hpc
  have HC : Hid _ := hc
  clear hc
  have b0 : Below w.heap.size w (w.alloc (.cells #[.int .i64 f, .slice pa ps.length pcap, .slice va cs.length cap] 25)) := (Below.refl _ w).alloc (Nat.le_refl _) _
  have h0 := heap_new w (.cells #[.int .i64 f, .slice pa ps.length pcap, .slice va cs.length cap] 25)
  go_enter Tryd.func20, Tryd.ntmps20
  go_wp2_with fail
  generalize w.alloc (.cells #[.int .i64 f, .slice pa ps.length pcap, .slice va cs.length cap] 25) = W0 at *
  go_loopw [10] (fun i wr => ∃ (k : Nat), i = .int .i64 k ∧ k ≤ cs.length ∧ Hid (firstNZ (chanAt ⟨f, ps, cs⟩) k = 0) ∧ wr.heap[w.heap.size]? = some (.cells #[.int .i64 f, .slice pa ps.length pcap, .slice va cs.length cap] 25 (0, 0)) ∧ Below w.heap.size w wr) (fun i _ => cs.length - (intOf i).toNat)
  case atStart => exact ⟨0, rfl, by omega, rfl, h0, b0⟩
  case round =>
    obtain ⟨k, rfl, hk, HZ, hm, hbel⟩ := hrel
    by_cases hlt : k < cs.length
    · have hlt' : (k : Int) < (cs.length : Int) := by omega
      have hk0 : (0 : Int) ≤ (k : Int) := by omega
      obtain ⟨b, off, rfl, c0, c1, c2, c3, c4, c5⟩ := HC.out k hlt
      have hbl := World.block_lt_of_cell? w _ c0
      have d0 := (hbel.cell (by exact hbl)).trans c0
      have d1 := (hbel.cell (by exact hbl)).trans c1
      have d2 := (hbel.cell (by exact hbl)).trans c2
      have d3 := (hbel.cell (by exact hbl)).trans c3
      have d4 := (hbel.cell (by exact hbl)).trans c4
      have d5 := (hbel.cell (by exact hbl)).trans c5
      clear c0 c1 c2 c3 c4 c5
      have HAT : Hid (chanAt ⟨f, ps, cs⟩ k = chanErr f ps.length (cs.take k) cs[k]) := dif_pos hlt
      have HTK : Hid _ := fun cap' (w' : World) (hb : Below w.heap.size w w') => (ChansV.below HP.out hb).take k hk cap'
      have HST : Hid _ := @firstNZ_stop (chanAt ⟨f, ps, cs⟩) k cs.length HZ.out
      have HSN : Hid _ := @firstNZ_step (chanAt ⟨f, ps, cs⟩) k HZ.out
      generalize cs[k] = x at *
      have hkc : (k : Int) ≤ (cap : Int) := by omega
      have b1 := hbel.alloc (o := .cells #[.string x.name, .int .i64 x.source, .int .i64 x.target, .int .i64 x.kind, .int .i64 x.size, .int .i64 x.depth] 53) hbel.size
      have h1 := heap_new wr (.cells #[.string x.name, .int .i64 x.source, .int .i64 x.target, .int .i64 x.kind, .int .i64 x.size, .int .i64 x.depth] 53)
      have m1 := heap_old wr (.cells #[.string x.name, .int .i64 x.source, .int .i64 x.target, .int .i64 x.kind, .int .i64 x.size, .int .i64 x.depth] 53) hm
      go_wp2_with fail
      clear d0 d1 d2 d3 d4 d5 hm hbel
      generalize wr.alloc (.cells #[.string x.name, .int .i64 x.source, .int .i64 x.target, .int .i64 x.kind, .int .i64 x.size, .int .i64 x.depth] 53) = W1 at *
      generalize wr.heap.size = nb at *
      have e0 : W1.cell? ⟨nb, 0, none⟩ = some (.string x.name) := by rw [cell_of_blk h1]; rfl
      have m2 : W1.cell? ⟨w.heap.size, 2, none⟩ = some (.slice (some ⟨b, off, none⟩) cs.length cap) := by rw [cell_of_blk m1]; rfl
      refine (isName_any _ _).mono ?_
      rintro e w2 ⟨rfl, rfl⟩
      have HPE : Hid _ := chanErr_eq f ps.length (cs.take k) x
      cases hN : nameF x.name.data.toList
      · have HX : Hid (firstNZ (chanAt ⟨f, ps, cs⟩) cs.length = 7) := by
          have h7 : chanAt ⟨f, ps, cs⟩ k = 7 := by rw [HAT.out, HPE.out, hN]; rfl
          show _ = _
          rw [HST.out (by rw [h7]; decide) hlt, h7]
        clear hN
        go_wp2_with fail
        go_ret
        exact ⟨by rw [HX.out]; rfl, b1⟩
      have HN : Hid _ := hN
      clear hN
      go_wp2_with fail
      refine (contains_cname nb x.name (cs.take k) _ w2 (HTK.out cap w2 b1) (by rw [List.length_take]; omega) e0).mono ?_
      rintro e w3 ⟨rfl, hb3⟩
      have h3 := (hb3.block _ (lt_of_blk h1)).trans h1
      have m3 := (hb3.block _ (lt_of_blk m1)).trans m1
      have b3 := b1.trans (hb3.mono b1.size)
      clear e0 m2 h1 m1 hb3 b1
      cases hF : (cs.take k).any (sameC x.name)
      · have HF : Hid _ := hF
        clear hF
        have g0 : w3.cell? ⟨nb, 0, none⟩ = some (.string x.name) := by rw [cell_of_blk h3]; rfl
        have g1 : w3.cell? ⟨nb, 1, none⟩ = some (.int .i64 x.source) := by rw [cell_of_blk h3]; rfl
        have g2 : w3.cell? ⟨nb, 2, none⟩ = some (.int .i64 x.target) := by rw [cell_of_blk h3]; rfl
        have g3 : w3.cell? ⟨nb, 3, none⟩ = some (.int .i64 x.kind) := by rw [cell_of_blk h3]; rfl
        have g4 : w3.cell? ⟨nb, 4, none⟩ = some (.int .i64 x.size) := by rw [cell_of_blk h3]; rfl
        have g5 : w3.cell? ⟨nb, 5, none⟩ = some (.int .i64 x.depth) := by rw [cell_of_blk h3]; rfl
        have k0 : w3.cell? ⟨w.heap.size, 0, none⟩ = some (.int .i64 f) := by rw [cell_of_blk m3]; rfl
        have k1 : w3.cell? ⟨w.heap.size, 1, none⟩ = some (.slice pa ps.length pcap) := by rw [cell_of_blk m3]; rfl
        have k2 : w3.cell? ⟨w.heap.size, 2, none⟩ = some (.slice (some ⟨b, off, none⟩) cs.length cap) := by rw [cell_of_blk m3]; rfl
        go_wp2_with fail
        refine (checkChannel_any f ps.length x pa pcap _ w3 hn ⟨_, _, _, rfl⟩).mono ?_
        rintro e w4 ⟨rfl, hb4⟩
        have m4 := (hb4.block _ (lt_of_blk m3)).trans m3
        have b4 := b3.trans (hb4.mono b3.size)
        have HVV : Hid (chanAt ⟨f, ps, cs⟩ k = chanE f ps.length x) := by
          show _ = _
          rw [HAT.out, HPE.out, HN.out, freshC_any, HF.out]; rfl
        clear g0 g1 g2 g3 g4 g5 k0 k1 k2 m3 h3 hb4 b3
        by_cases hz : chanE f ps.length x = 0
        · have HZ2 : Hid _ := HSN.out (HVV.out.trans hz)
          rw [hz]
          clear hz
          go_wp2_with fail
          go_roundw
          case rel => exact ⟨k + 1, by go_num, by omega, HZ2, m4, b4⟩
          case measure => simp [intOf]; omega
        · have hzz : (chanE f ps.length x != 0) = true := by simp [hz]
          have HX : Hid (firstNZ (chanAt ⟨f, ps, cs⟩) cs.length = chanE f ps.length x) := by show _ = _; rw [HST.out (by rw [HVV.out]; exact hz) hlt, HVV.out]
          go_wp2_with fail
          go_ret
          exact ⟨by rw [HX.out]; rfl, b4⟩
      · have HX : Hid (firstNZ (chanAt ⟨f, ps, cs⟩) cs.length = 7) := by
          have h7 : chanAt ⟨f, ps, cs⟩ k = 7 := by rw [HAT.out, HPE.out, freshC_any, hF]; simp
          show _ = _
          rw [HST.out (by rw [h7]; decide) hlt, h7]
        clear hF
        go_wp2_with fail
        go_ret
        exact ⟨by rw [HX.out]; rfl, b3⟩
    · have hlt' : ¬ (k : Int) < (cs.length : Int) := by omega
      have hke : k = cs.length := by omega
      have HF : Hid (firstNZ (chanAt ⟨f, ps, cs⟩) cs.length = 0) := by have := HZ.out; rw [hke] at this; exact this
      go_wp2_with fail
      go_ret
      exact ⟨by rw [HF.out]; rfl, hbel⟩

theorem wideB_any (ps : List PartD) : wideB ps = ps.any wideP := rfl
set_option maxRecDepth 100000 in
set_option maxHeartbeats 2000000 in
theorem tooMany_any (f : Int) (ps : List PartD) (cs : List ChanD) (pv cv : Value) (w : World) (hp : PartsV w pv ps) (hcv : ∃ a k, cv = .slice a cs.length k) (hl : ps.length ≤ 4611686018427387903) :
    Calls Tryd.prog 18 #[.agg #[.int .i64 f, pv, cv]] w fun e w' => e = .returned (.bool (manyB ⟨f, ps, cs⟩)) ∧ Below w.heap.size w w' := by
  obtain ⟨ca, ck, rfl⟩ := hcv
  have HP : Hid (PartsV w pv ps) := hp
  obtain ⟨va, cap, rfl, hc⟩ := hp
  clear hc
  have b0 : Below w.heap.size w (w.alloc (.cells #[.int .i64 f, .slice va ps.length cap, .slice ca cs.length ck] 25)) := (Below.refl _ w).alloc (Nat.le_refl _) _
  have h0 := heap_new w (.cells #[.int .i64 f, .slice va ps.length cap, .slice ca cs.length ck] 25)
  have HT : Hid _ := @many_true ⟨f, ps, cs⟩
  have HW : Hid _ := @many_wide ⟨f, ps, cs⟩
  go_enter Tryd.func18, Tryd.ntmps18
  go_wp2_with fail
  generalize w.alloc (.cells #[.int .i64 f, .slice va ps.length cap, .slice ca cs.length ck] 25) = W0 at *
  have y1 : W0.cell? ⟨w.heap.size, 1, none⟩ = some (.slice va ps.length cap) := by rw [cell_of_blk h0]; rfl
  have y2 : W0.cell? ⟨w.heap.size, 2, none⟩ = some (.slice ca cs.length ck) := by rw [cell_of_blk h0]; rfl
  refine (within_any _ _ _ _).mono ?_
  rintro e w1 ⟨rfl, rfl⟩
  cases hA : (decide ((1 : Int) ≤ (ps.length : Int)) && decide ((ps.length : Int) ≤ 8))
  · have HX : Hid (manyB ⟨f, ps, cs⟩ = true) := by
      rw [Bool.and_eq_false_iff] at hA
      exact HT.out (by simp only [decide_eq_false_iff_not] at hA ⊢; omega)
    clear hA
    go_wp2_with fail
    go_ret
    exact ⟨by rw [HX.out]; rfl, b0⟩
  have hA' : 1 ≤ ps.length ∧ ps.length ≤ 8 := by simp only [Bool.and_eq_true, decide_eq_true_eq] at hA; omega
  clear hA
  cases hB : decide ((8 : Int) < (cs.length : Int))
  · have hB' : ¬ 8 < cs.length := by simp only [decide_eq_false_iff_not] at hB; omega
    have HX : Hid (manyB ⟨f, ps, cs⟩ = ps.any wideP) := HW.out (by omega)
    go_wp2_with fail
    refine (contains_wide ps _ w1 (PartsV.below HP.out b0) hl).mono ?_
    rintro e w2 ⟨rfl, hb2⟩
    go_wp2_with fail
    go_ret
    exact ⟨by rw [HX.out]; rfl, b0.trans (hb2.mono b0.size)⟩
  · have HX : Hid (manyB ⟨f, ps, cs⟩ = true) := HT.out (by simp only [decide_eq_true_eq] at hB ⊢; omega)
    go_wp2_with fail
    go_ret
    exact ⟨by rw [HX.out]; rfl, b0⟩

/- the sums -/
set_option maxRecDepth 100000 in
set_option maxHeartbeats 2000000 in
theorem load_any (f : Int) (ps : List PartD) (pv cv : Value) (w : World) (hp : PartsV w pv ps) (hcv : ∃ a l k, cv = .slice a l k) (hf : 1 ≤ f ∧ f ≤ 240) (hl : ps.length ≤ 8) (hok : ∀ k (h : k < ps.length), 1 ≤ ps[k].period ∧ ps[k].period ≤ f ∧ 1 ≤ ps[k].duration ∧ ps[k].duration ≤ ps[k].period) :
    Calls Tryd.prog 21 #[.agg #[.int .i64 f, pv, cv]] w fun e w' => e = .returned (.int .i64 (ticksF f ps)) ∧ Below w.heap.size w w' := by
  obtain ⟨ca, cl, ck, rfl⟩ := hcv
  obtain ⟨va, cap, rfl, hc⟩ := hp
  have HC : Hid _ := hc
  have HK : Hid _ := hok
  clear hc hok
  have b0 : Below w.heap.size w (w.alloc (.cells #[.int .i64 f, .slice va ps.length cap, .slice ca cl ck] 25)) := (Below.refl _ w).alloc (Nat.le_refl _) _
  have h0 := heap_new w (.cells #[.int .i64 f, .slice va ps.length cap, .slice ca cl ck] 25)
  go_enter Tryd.func21, Tryd.ntmps21
  go_wp2_with fail
  generalize w.alloc (.cells #[.int .i64 f, .slice va ps.length cap, .slice ca cl ck] 25) = W0 at *
  go_loopw [3, 9] (fun t i wr => ∃ (k : Nat) (T : Int), i = .int .i64 k ∧ t = .int .i64 T ∧ k ≤ ps.length ∧ Hid (T = ticksF f (ps.take k)) ∧ 0 ≤ T ∧ T ≤ 240 * k ∧ wr.heap[w.heap.size]? = some (.cells #[.int .i64 f, .slice va ps.length cap, .slice ca cl ck] 25 (0, 0)) ∧ Below w.heap.size w wr) (fun _ i _ => ps.length - (intOf i).toNat)
  case atStart => exact ⟨0, 0, rfl, rfl, by omega, by simp [Hid, ticksF], by omega, by omega, h0, b0⟩
  case round =>
    obtain ⟨k, T, rfl, rfl, hk, HT, hT0, hT1, hm, hbel⟩ := hrel
    by_cases hlt : k < ps.length
    · have hlt' : (k : Int) < (ps.length : Int) := by omega
      have hk0 : (0 : Int) ≤ (k : Int) := by omega
      obtain ⟨b, off, rv, rfl, c0, c1, c2, c3, c4, hrv⟩ := HC.out k hlt
      obtain ⟨ra, rcap, rfl, hrx⟩ := hrv
      clear hrx
      have hbl := World.block_lt_of_cell? w _ c0
      have d0 := (hbel.cell (by exact hbl)).trans c0
      have d1 := (hbel.cell (by exact hbl)).trans c1
      have d2 := (hbel.cell (by exact hbl)).trans c2
      have d3 := (hbel.cell (by exact hbl)).trans c3
      have d4 := (hbel.cell (by exact hbl)).trans c4
      clear c0 c1 c2 c3 c4
      obtain ⟨o1, o2, o3, o4⟩ := HK.out k hlt
      have HTS : Hid _ := ticksF_step f hlt
      generalize ps[k] = x at *
      obtain ⟨t1, t2, t3, t4⟩ := ticks_one o1 o2 o3 o4 (by omega)
      have w1 : IntKind.i64.wrap (f / x.period) = f / x.period := wrap_small _ (by omega) (by omega)
      have w2 : IntKind.i64.wrap (f / x.period * x.duration) = f / x.period * x.duration := wrap_small _ (by omega) (by omega)
      have w3 : IntKind.i64.wrap (T + f / x.period * x.duration) = T + f / x.period * x.duration := wrap_small _ (by omega) (by omega)
      have hpz : ¬ x.period = 0 := by omega
      have hf0 : 0 ≤ f := by omega
      have b1 := hbel.alloc (o := .cells #[.string x.name, .int .i64 x.period, .int .i64 x.duration, .int .i64 x.action, .slice ra x.regs.length rcap] 51) hbel.size
      have h1 := heap_new wr (.cells #[.string x.name, .int .i64 x.period, .int .i64 x.duration, .int .i64 x.action, .slice ra x.regs.length rcap] 51)
      have m1 := heap_old wr (.cells #[.string x.name, .int .i64 x.period, .int .i64 x.duration, .int .i64 x.action, .slice ra x.regs.length rcap] 51) hm
      go_wp2_with fail
      clear d0 d1 d2 d3 d4 hm hbel
      generalize wr.alloc (.cells #[.string x.name, .int .i64 x.period, .int .i64 x.duration, .int .i64 x.action, .slice ra x.regs.length rcap] 51) = W1 at *
      generalize wr.heap.size = nb at *
      have e1 : W1.cell? ⟨nb, 1, none⟩ = some (.int .i64 x.period) := by rw [cell_of_blk h1]; rfl
      have e2 : W1.cell? ⟨nb, 2, none⟩ = some (.int .i64 x.duration) := by rw [cell_of_blk h1]; rfl
      have m2 : W1.cell? ⟨w.heap.size, 0, none⟩ = some (.int .i64 f) := by rw [cell_of_blk m1]; rfl
      go_quiet (fail)
      go_wp2_with fail
      go_roundw
      case rel => exact ⟨k + 1, T + f / x.period * x.duration, by go_num, rfl, by omega, by show _ = _; rw [HTS.out, HT.out], by omega, by omega, m1, below_drewN b1 _⟩
      case measure => simp [intOf]; omega
    · have hlt' : ¬ (k : Int) < (ps.length : Int) := by omega
      have hke : k = ps.length := by omega
      have HF : Hid (T = ticksF f ps) := by have := HT.out; rw [hke, List.take_length] at this; exact this
      go_wp2_with fail
      go_ret
      exact ⟨by rw [← HF.out]; rfl, hbel⟩
set_option maxRecDepth 100000 in
set_option maxHeartbeats 2000000 in
theorem pages_any (f : Int) (ps : List PartD) (pv cv : Value) (w : World) (hp : PartsV w pv ps) (hcv : ∃ a l k, cv = .slice a l k) (hl : ps.length ≤ 8) (hok : ∀ k (h : k < ps.length), ps[k].regs.length ≤ 4 ∧ RegsOK ps[k].regs) :
    Calls Tryd.prog 22 #[.agg #[.int .i64 f, pv, cv]] w fun e w' => e = .returned (.int .i64 (pagesF ps)) ∧ Below w.heap.size w w' := by
  obtain ⟨ca, cl, ck, rfl⟩ := hcv
  obtain ⟨va, cap, rfl, hc⟩ := hp
  have HC : Hid _ := hc
  have HK : Hid _ := hok
  clear hc hok
  have b0 : Below w.heap.size w (w.alloc (.cells #[.int .i64 f, .slice va ps.length cap, .slice ca cl ck] 25)) := (Below.refl _ w).alloc (Nat.le_refl _) _
  go_enter Tryd.func22, Tryd.ntmps22
  go_wp2_with fail
  generalize w.alloc (.cells #[.int .i64 f, .slice va ps.length cap, .slice ca cl ck] 25) = W0 at *
  go_loopw [3, 11] (fun t i wr => ∃ (k : Nat) (T : Int), i = .int .i64 k ∧ t = .int .i64 T ∧ k ≤ ps.length ∧ Hid (T = pagesF (ps.take k)) ∧ 0 ≤ T ∧ T ≤ 256 * k ∧ Below w.heap.size w wr) (fun _ i _ => ps.length - (intOf i).toNat)
  case atStart => exact ⟨0, 0, rfl, rfl, by omega, by simp [Hid, pagesF], by omega, by omega, b0⟩
  case round =>
    obtain ⟨k, T, rfl, rfl, hk, HT, hT0, hT1, hbel⟩ := hrel
    by_cases hlt : k < ps.length
    · have hlt' : (k : Int) < (ps.length : Int) := by omega
      have hk0 : (0 : Int) ≤ (k : Int) := by omega
      obtain ⟨b, off, rv, rfl, c0, c1, c2, c3, c4, hrv⟩ := HC.out k hlt
      have HRV : Hid (RegsV w rv ps[k].regs) := hrv
      obtain ⟨ra, rcap, rfl, hrx⟩ := hrv
      clear hrx
      have hbl := World.block_lt_of_cell? w _ c0
      have d0 := (hbel.cell (by exact hbl)).trans c0
      have d1 := (hbel.cell (by exact hbl)).trans c1
      have d2 := (hbel.cell (by exact hbl)).trans c2
      have d3 := (hbel.cell (by exact hbl)).trans c3
      have d4 := (hbel.cell (by exact hbl)).trans c4
      clear c0 c1 c2 c3 c4
      obtain ⟨o1, o2⟩ := HK.out k hlt
      have HOK : Hid _ := o2
      clear o2
      have HTS : Hid _ := pagesF_step hlt
      generalize ps[k] = x at *
      have b1 := hbel.alloc (o := .cells #[.string x.name, .int .i64 x.period, .int .i64 x.duration, .int .i64 x.action, .slice ra x.regs.length rcap] 51) hbel.size
      have h1 := heap_new wr (.cells #[.string x.name, .int .i64 x.period, .int .i64 x.duration, .int .i64 x.action, .slice ra x.regs.length rcap] 51)
      go_wp2_with fail
      clear d0 d1 d2 d3 d4 hbel
      generalize wr.alloc (.cells #[.string x.name, .int .i64 x.period, .int .i64 x.duration, .int .i64 x.action, .slice ra x.regs.length rcap] 51) = W1 at *
      obtain ⟨ra', rcap', hrr, hrc⟩ := RegsV.below HRV.out b1
      cases hrr
      have HRC : Hid _ := hrc
      clear hrc
      go_loopw [3, 18] (fun t i wx => ∃ (q : Nat) (G : Int), i = .int .i64 q ∧ t = .int .i64 G ∧ q ≤ x.regs.length ∧ Hid (G = T + regPages (x.regs.take q)) ∧ 0 ≤ G ∧ G ≤ T + 64 * q ∧ Below W1.heap.size W1 wx) (fun _ i _ => x.regs.length - (intOf i).toNat)
      case atStart => exact ⟨0, T, rfl, rfl, by omega, by simp [Hid, regPages], by omega, by omega, Below.refl _ _⟩
      case round =>
        obtain ⟨q, G, rfl, rfl, hq, HG, hG0, hG1, hbx⟩ := hrel
        by_cases hql : q < x.regs.length
        · have hql' : (q : Int) < (x.regs.length : Int) := by omega
          have hq0 : (0 : Int) ≤ (q : Int) := by omega
          obtain ⟨rb, ro, rfl, z0, z1, z2⟩ := HRC.out q hql
          have hzl := World.block_lt_of_cell? W1 _ z0
          have u0 := (hbx.cell (by exact hzl)).trans z0
          have u1 := (hbx.cell (by exact hzl)).trans z1
          have u2 := (hbx.cell (by exact hzl)).trans z2
          clear z0 z1 z2
          have hbd := HOK.out.1 x.regs[q] (List.getElem_mem _)
          unfold regB at hbd
          simp only [decide_eq_true_eq] at hbd
          have HST : Hid _ := regPages_step hql
          generalize x.regs[q] = r at *
          have wg : IntKind.i64.wrap (G + r.pages) = G + r.pages := wrap_small _ (by omega) (by omega)
          go_wp2_with fail
          go_roundw
          case rel => exact ⟨q + 1, G + r.pages, by go_num, rfl, by omega, by show _ = _; rw [HST.out, HG.out]; omega, by omega, by omega, hbx.alloc hbx.size _⟩
          case measure => simp [intOf]; omega
        · have hql' : ¬ (q : Int) < (x.regs.length : Int) := by omega
          have hqe : q = x.regs.length := by omega
          have HG2 : Hid (G = T + regPages x.regs) := by have := HG.out; rw [hqe, List.take_length] at this; exact this
          clear HG
          go_wp2_with fail
          go_roundw
          case rel => exact ⟨k + 1, G, by go_num, rfl, by omega, by show _ = _; rw [HTS.out, HG2.out, HT.out], by omega, by omega, b1.trans (hbx.mono b1.size)⟩
          case measure => simp [intOf]; omega
    · have hlt' : ¬ (k : Int) < (ps.length : Int) := by omega
      have hke : k = ps.length := by omega
      have HF : Hid (T = pagesF ps) := by have := HT.out; rw [hke, List.take_length] at this; exact this
      go_wp2_with fail
      go_ret
      exact ⟨by rw [← HF.out]; rfl, hbel⟩
end Go.Proofs.YteioennfpkoagaaDoor.C
