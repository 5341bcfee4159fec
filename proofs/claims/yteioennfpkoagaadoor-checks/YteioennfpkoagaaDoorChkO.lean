import Derived.Test.YteioennfpkoagaaDoorChkN
import Derived.Test.YteioennfpkoagaaDoorCdfF
namespace Go.Proofs.YteioennfpkoagaaDoor.C
open Go.RowKit
attribute [local go_sem ↓] Go.wp_at_zero Go.wp_at_succ

theorem freshP_any (bef : List PartD) (x : PartD) : freshP bef x = !(bef.any (sameP x.name)) := by
  unfold freshP sameP
  rw [List.not_any_eq_all_not]
  rfl
theorem freshC_any (bef : List ChanD) (x : ChanD) : freshC bef x = !(bef.any (sameC x.name)) := by
  unfold freshC sameC
  rw [List.not_any_eq_all_not]
  rfl
theorem PartsV.take {w : World} {b off cap : Nat} {ps : List PartD} (h : PartsV w (.slice (some ⟨b, off, none⟩) ps.length cap) ps) (k : Nat) (hk : k ≤ ps.length) (cap' : Nat) : PartsV w (.slice (some ⟨b, off, none⟩) k cap') (ps.take k) := by
  obtain ⟨va, c, e, hc⟩ := h
  cases e
  refine ⟨_, _, by rw [List.length_take, Nat.min_eq_left hk], fun i hi => ?_⟩
  have hi2 : i < ps.length := by rw [List.length_take] at hi; omega
  rw [List.getElem_take]
  exact hc i hi2
theorem ChansV.take {w : World} {b off cap : Nat} {ps : List ChanD} (h : ChansV w (.slice (some ⟨b, off, none⟩) ps.length cap) ps) (k : Nat) (hk : k ≤ ps.length) (cap' : Nat) : ChansV w (.slice (some ⟨b, off, none⟩) k cap') (ps.take k) := by
  obtain ⟨va, c, e, hc⟩ := h
  cases e
  refine ⟨_, _, by rw [List.length_take, Nat.min_eq_left hk], fun i hi => ?_⟩
  have hi2 : i < ps.length := by rw [List.length_take] at hi; omega
  rw [List.getElem_take]
  exact hc i hi2

set_option maxRecDepth 100000 in
set_option maxHeartbeats 2000000 in
theorem checkPartitions_any (f : Int) (ps : List PartD) (cs : List ChanD) (pv cv : Value) (w : World) (hp : PartsV w pv ps) (hpc : PartsC w pv ps.length) (hcv : ∃ a l k, cv = .slice a l k) (hf : 1 ≤ f ∧ f ≤ 240) (hl : ps.length ≤ 4611686018427387903) (hrl : ∀ k (h : k < ps.length), ps[k].regs.length ≤ 4611686018427387903) :
    Calls Tryd.prog 19 #[.agg #[.int .i64 f, pv, cv]] w fun e w' => e = .returned (.int .i64 (firstNZ (partAt ⟨f, ps, cs⟩) ps.length)) ∧ Below w.heap.size w w' := by
  obtain ⟨ca, cl, ck, rfl⟩ := hcv
  have HP : Hid (PartsV w pv ps) := hp
  have HPC : Hid (PartsC w pv ps.length) := hpc
  obtain ⟨va, cap, rfl, hc⟩ := hp
  have hlc := hpc.1.le
  clear hpc
  have HC : Hid _ := hc
  have HRL : Hid _ := hrl
  clear hc hrl
  have b0 : Below w.heap.size w (w.alloc (.cells #[.int .i64 f, .slice va ps.length cap, .slice ca cl ck] 25)) := (Below.refl _ w).alloc (Nat.le_refl _) _
  have h0 := heap_new w (.cells #[.int .i64 f, .slice va ps.length cap, .slice ca cl ck] 25)
  go_enter Tryd.func19, Tryd.ntmps19
  go_wp2_with fail
  generalize w.alloc (.cells #[.int .i64 f, .slice va ps.length cap, .slice ca cl ck] 25) = W0 at *
  go_loopw [10] (fun i wr => ∃ (k : Nat), i = .int .i64 k ∧ k ≤ ps.length ∧ Hid (firstNZ (partAt ⟨f, ps, cs⟩) k = 0) ∧ wr.heap[w.heap.size]? = some (.cells #[.int .i64 f, .slice va ps.length cap, .slice ca cl ck] 25 (0, 0)) ∧ Below w.heap.size w wr) (fun i _ => ps.length - (intOf i).toNat)
  case atStart => exact ⟨0, rfl, by omega, rfl, h0, b0⟩
  case round =>
    obtain ⟨k, rfl, hk, HZ, hm, hbel⟩ := hrel
    by_cases hlt : k < ps.length
    · have hlt' : (k : Int) < (ps.length : Int) := by omega
      have hk0 : (0 : Int) ≤ (k : Int) := by omega
      obtain ⟨b, off, rv, rfl, c0, c1, c2, c3, c4, hrv⟩ := HC.out k hlt
      have hbl := World.block_lt_of_cell? w _ c0
      have HCR : Hid (capV rv) := HPC.out.2 k hlt b off _ _ rfl rv c4
      have HRV : Hid (RegsV w rv ps[k].regs) := hrv
      obtain ⟨ra, rcap, rfl, hrx⟩ := hrv
      clear hrx
      have d0 := (hbel.cell (by exact hbl)).trans c0
      have d1 := (hbel.cell (by exact hbl)).trans c1
      have d2 := (hbel.cell (by exact hbl)).trans c2
      have d3 := (hbel.cell (by exact hbl)).trans c3
      have d4 := (hbel.cell (by exact hbl)).trans c4
      clear c0 c1 c2 c3 c4
      have HAT : Hid (partAt ⟨f, ps, cs⟩ k = partErr f (ps.take k) ps[k]) := dif_pos hlt
      have HTK : Hid _ := fun cap' (w' : World) (hb : Below w.heap.size w w') => (PartsV.below HP.out hb).take k hk cap'
      have hRL := HRL.out k hlt
      have HST : Hid _ := @firstNZ_stop (partAt ⟨f, ps, cs⟩) k ps.length HZ.out
      have HSN : Hid _ := @firstNZ_step (partAt ⟨f, ps, cs⟩) k HZ.out
      generalize ps[k] = x at *
      have hkc : (k : Int) ≤ (cap : Int) := by omega
      have b1 := hbel.alloc (o := .cells #[.string x.name, .int .i64 x.period, .int .i64 x.duration, .int .i64 x.action, .slice ra x.regs.length rcap] 51) hbel.size
      have h1 := heap_new wr (.cells #[.string x.name, .int .i64 x.period, .int .i64 x.duration, .int .i64 x.action, .slice ra x.regs.length rcap] 51)
      have m1 := heap_old wr (.cells #[.string x.name, .int .i64 x.period, .int .i64 x.duration, .int .i64 x.action, .slice ra x.regs.length rcap] 51) hm
      go_wp2_with fail
      clear d0 d1 d2 d3 d4 hm hbel
      generalize wr.alloc (.cells #[.string x.name, .int .i64 x.period, .int .i64 x.duration, .int .i64 x.action, .slice ra x.regs.length rcap] 51) = W1 at *
      generalize wr.heap.size = nb at *
      have e0 : W1.cell? ⟨nb, 0, none⟩ = some (.string x.name) := by rw [cell_of_blk h1]; rfl
      have m2 : W1.cell? ⟨w.heap.size, 1, none⟩ = some (.slice (some ⟨b, off, none⟩) ps.length cap) := by rw [cell_of_blk m1]; rfl
      refine (isName_any _ _).mono ?_
      rintro e w2 ⟨rfl, rfl⟩
      have HPE : Hid _ := partErr_eq f (ps.take k) x
      cases hN : nameF x.name.data.toList
      · have HX : Hid (firstNZ (partAt ⟨f, ps, cs⟩) ps.length = 7) := by
          have h7 : partAt ⟨f, ps, cs⟩ k = 7 := by rw [HAT.out, HPE.out, hN]; rfl
          show _ = _
          rw [HST.out (by rw [h7]; decide) hlt, h7]
        clear hN
        go_wp2_with fail
        go_ret
        exact ⟨by rw [HX.out]; rfl, b1⟩
      have HN : Hid _ := hN
      clear hN
      go_wp2_with fail
      refine (contains_name nb x.name (ps.take k) _ w2 (HTK.out cap w2 b1) (by rw [List.length_take]; omega) e0).mono ?_
      rintro e w3 ⟨rfl, hb3⟩
      have h3 := (hb3.block _ (lt_of_blk h1)).trans h1
      have m3 := (hb3.block _ (lt_of_blk m1)).trans m1
      have b3 := b1.trans (hb3.mono b1.size)
      clear e0 m2 h1 m1 hb3 b1
      cases hF : (ps.take k).any (sameP x.name)
      · have HF : Hid _ := hF
        clear hF
        have g0 : w3.cell? ⟨nb, 0, none⟩ = some (.string x.name) := by rw [cell_of_blk h3]; rfl
        have g1 : w3.cell? ⟨nb, 1, none⟩ = some (.int .i64 x.period) := by rw [cell_of_blk h3]; rfl
        have g2 : w3.cell? ⟨nb, 2, none⟩ = some (.int .i64 x.duration) := by rw [cell_of_blk h3]; rfl
        have g3 : w3.cell? ⟨nb, 3, none⟩ = some (.int .i64 x.action) := by rw [cell_of_blk h3]; rfl
        have g4 : w3.cell? ⟨nb, 4, none⟩ = some (.slice ra x.regs.length rcap) := by rw [cell_of_blk h3]; rfl
        have g5 : w3.cell? ⟨w.heap.size, 0, none⟩ = some (.int .i64 f) := by rw [cell_of_blk m3]; rfl
        go_wp2_with fail
        refine (checkPartition_any f x _ w3 (RegsV.below HRV.out b3) HCR.out hf hRL).mono ?_
        rintro e w4 ⟨rfl, hb4⟩
        have m4 := (hb4.block _ (lt_of_blk m3)).trans m3
        have b4 := b3.trans (hb4.mono b3.size)
        have HVV : Hid (partAt ⟨f, ps, cs⟩ k = partE f x) := by
          show _ = _
          rw [HAT.out, HPE.out, HN.out, freshP_any, HF.out]; rfl
        clear g0 g1 g2 g3 g4 g5 m3 h3 hb4 b3
        by_cases hz : partE f x = 0
        · have HZ2 : Hid _ := HSN.out (HVV.out.trans hz)
          rw [hz]
          clear hz
          go_wp2_with fail
          go_roundw
          case rel => exact ⟨k + 1, by go_num, by omega, HZ2, m4, b4⟩
          case measure => simp [intOf]; omega
        · have hzz : (partE f x != 0) = true := by simp [hz]
          have HX : Hid (firstNZ (partAt ⟨f, ps, cs⟩) ps.length = partE f x) := by show _ = _; rw [HST.out (by rw [HVV.out]; exact hz) hlt, HVV.out]
          go_wp2_with fail
          go_ret
          exact ⟨by rw [HX.out]; rfl, b4⟩
      · have HX : Hid (firstNZ (partAt ⟨f, ps, cs⟩) ps.length = 7) := by
          have h7 : partAt ⟨f, ps, cs⟩ k = 7 := by rw [HAT.out, HPE.out, freshP_any, hF]; simp
          show _ = _
          rw [HST.out (by rw [h7]; decide) hlt, h7]
        clear hF
        go_wp2_with fail
        go_ret
        exact ⟨by rw [HX.out]; rfl, b3⟩
    · have hlt' : ¬ (k : Int) < (ps.length : Int) := by omega
      have hke : k = ps.length := by omega
      have HF : Hid (firstNZ (partAt ⟨f, ps, cs⟩) ps.length = 0) := by have := HZ.out; rw [hke] at this; exact this
      go_wp2_with fail
      go_ret
      exact ⟨by rw [HF.out]; rfl, hbel⟩
end Go.Proofs.YteioennfpkoagaaDoor.C
