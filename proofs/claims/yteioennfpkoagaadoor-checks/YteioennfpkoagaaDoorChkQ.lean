import Derived.Test.YteioennfpkoagaaDoorChkP
import Derived.Test.YteioennfpkoagaaDoorCdfH
namespace Go.Proofs.YteioennfpkoagaaDoor.C
open Go.RowKit
attribute [local go_sem ↓] Go.wp_at_zero Go.wp_at_succ

set_option maxRecDepth 100000 in
set_option maxHeartbeats 4000000 in
theorem manCheck_any (f : Int) (ps : List PartD) (cs : List ChanD) (pv cv : Value) (w : World) (hp : PartsV w pv ps) (hpc : PartsC w pv ps.length) (hc : ChansV w cv cs) (hcc : capV cv) (hl : ps.length ≤ 4611686018427387903) (hrl : ∀ k (h : k < ps.length), ps[k].regs.length ≤ 4611686018427387903) (hcl : cs.length ≤ 4611686018427387903) :
    Calls Tryd.prog 8 #[.agg #[.int .i64 f, pv, cv]] w fun e w' => e = .returned (.int .i64 (checkF ⟨f, ps, cs⟩)) ∧ Below w.heap.size w w' := by
  have HP : Hid (PartsV w pv ps) := hp
  have HPC : Hid (PartsC w pv ps.length) := hpc
  have HCV : Hid (ChansV w cv cs) := hc
  have HCC : Hid (capV cv) := hcc
  have HRL : Hid _ := hrl
  clear hpc hcc hrl
  obtain ⟨va, cap, rfl, hx⟩ := hp
  clear hx
  obtain ⟨ca, ck, rfl, hx⟩ := hc
  clear hx
  have b0 : Below w.heap.size w (w.alloc (.cells #[.int .i64 f, .slice va ps.length cap, .slice ca cs.length ck] 25)) := (Below.refl _ w).alloc (Nat.le_refl _) _
  have h0 := heap_new w (.cells #[.int .i64 f, .slice va ps.length cap, .slice ca cs.length ck] 25)
  have HE : Hid (checkF ⟨f, ps, cs⟩ = checkF ⟨f, ps, cs⟩) := rfl
  conv at HE => arg 1; rhs; unfold checkF
  go_enter Tryd.func8, Tryd.ntmps8
  go_wp2_with fail
  generalize w.alloc (.cells #[.int .i64 f, .slice va ps.length cap, .slice ca cs.length ck] 25) = W0 at *
  refine (within_any _ _ _ _).mono ?_
  rintro e w1 ⟨rfl, rfl⟩
  cases hA : (decide (1 ≤ f) && decide (f ≤ 240))
  · have HX : Hid (checkF ⟨f, ps, cs⟩ = 5) := by
      rw [Bool.and_eq_false_iff] at hA
      simp only [decide_eq_false_iff_not] at hA
      show _ = _
      rw [HE.out, if_pos (by omega)]
    clear hA
    go_wp2_with fail
    go_ret
    exact ⟨by rw [HX.out]; rfl, b0⟩
  have hf : 1 ≤ f ∧ f ≤ 240 := by simp only [Bool.and_eq_true, decide_eq_true_eq] at hA; exact hA
  clear hA
  have y0 : w1.cell? ⟨w.heap.size, 0, none⟩ = some (.int .i64 f) := by rw [cell_of_blk h0]; rfl
  have y1 : w1.cell? ⟨w.heap.size, 1, none⟩ = some (.slice va ps.length cap) := by rw [cell_of_blk h0]; rfl
  have y2 : w1.cell? ⟨w.heap.size, 2, none⟩ = some (.slice ca cs.length ck) := by rw [cell_of_blk h0]; rfl
  go_wp2_with fail
  refine (tooMany_any f ps cs _ _ w1 (PartsV.below HP.out b0) ⟨_, _, rfl⟩ hl).mono ?_
  rintro e w2 ⟨rfl, hb⟩
  have h2 := (hb.block _ (lt_of_blk h0)).trans h0
  have b2 := b0.trans (hb.mono b0.size)
  clear y0 y1 y2 h0 hb b0
  cases hM : manyB ⟨f, ps, cs⟩
  · have HM : Hid _ := hM
    clear hM
    have HW : Hid (∀ k (hk : k < ps.length), ps[k].regs.length ≤ 4) := by
      have h := HM.out
      have hn : ¬ (ps.length < 1 ∨ 8 < ps.length ∨ 8 < cs.length) := fun hh => by rw [many_true (M := ⟨f, ps, cs⟩) hh] at h; cases h
      rw [many_wide (M := ⟨f, ps, cs⟩) hn] at h
      exact fun k hk => wide_len h k hk
    have hps8 : ps.length ≤ 8 := by
      rcases Nat.lt_or_ge 8 ps.length with h | h
      · have := many_true (M := ⟨f, ps, cs⟩) (.inr (.inl h)); rw [HM.out] at this; cases this
      · exact h
    have y0 : w2.cell? ⟨w.heap.size, 0, none⟩ = some (.int .i64 f) := by rw [cell_of_blk h2]; rfl
    have y1 : w2.cell? ⟨w.heap.size, 1, none⟩ = some (.slice va ps.length cap) := by rw [cell_of_blk h2]; rfl
    have y2 : w2.cell? ⟨w.heap.size, 2, none⟩ = some (.slice ca cs.length ck) := by rw [cell_of_blk h2]; rfl
    go_wp2_with fail
    refine (checkPartitions_any f ps cs _ _ w2 (PartsV.below HP.out b2) (PartsC.below HP.out HPC.out b2) ⟨_, _, _, rfl⟩ hf hl HRL.out).mono ?_
    rintro e w3 ⟨rfl, hb⟩
    have h3 := (hb.block _ (lt_of_blk h2)).trans h2
    have b3 := b2.trans (hb.mono b2.size)
    clear y0 y1 y2 h2 hb b2
    by_cases hz : firstNZ (partAt ⟨f, ps, cs⟩) ps.length = 0
    · rw [hz]
      have HZ : Hid _ := hz
      clear hz
      have y0 : w3.cell? ⟨w.heap.size, 0, none⟩ = some (.int .i64 f) := by rw [cell_of_blk h3]; rfl
      have y1 : w3.cell? ⟨w.heap.size, 1, none⟩ = some (.slice va ps.length cap) := by rw [cell_of_blk h3]; rfl
      have y2 : w3.cell? ⟨w.heap.size, 2, none⟩ = some (.slice ca cs.length ck) := by rw [cell_of_blk h3]; rfl
      go_wp2_with fail
      refine (checkChannels_any f ps cs _ _ w3 ⟨_, _, rfl⟩ (ChansV.below HCV.out b3) HCC.out hl hcl).mono ?_
      rintro e w4 ⟨rfl, hb⟩
      have h4 := (hb.block _ (lt_of_blk h3)).trans h3
      have b4 := b3.trans (hb.mono b3.size)
      clear y0 y1 y2 h3 hb b3
      have HAT : Hid (∀ k (hk : k < ps.length), partErr f (ps.take k) ps[k] = 0) := fun k hk => by
        have := firstNZ_all HZ.out hk
        unfold partAt at this
        rw [dif_pos hk] at this; exact this
      by_cases hy : firstNZ (chanAt ⟨f, ps, cs⟩) cs.length = 0
      · rw [hy]
        have HY : Hid _ := hy
        clear hy
        have HX : Hid (checkF ⟨f, ps, cs⟩ = if f < ticksF f ps then 16 else if 64 < pagesF ps then 17 else 0) := by
          show _ = _
          rw [HE.out, if_neg (by omega), if_neg (by rw [HM.out]; simp), if_neg (by rw [HZ.out]; simp), if_neg (by rw [HY.out]; simp)]
        have y0 : w4.cell? ⟨w.heap.size, 0, none⟩ = some (.int .i64 f) := by rw [cell_of_blk h4]; rfl
        have y1 : w4.cell? ⟨w.heap.size, 1, none⟩ = some (.slice va ps.length cap) := by rw [cell_of_blk h4]; rfl
        have y2 : w4.cell? ⟨w.heap.size, 2, none⟩ = some (.slice ca cs.length ck) := by rw [cell_of_blk h4]; rfl
        cases hT : decide (f < ticksF f ps)
        all_goals go_wp2_with fail
        all_goals (go_region_held3 (fun w' => w'.cell? ⟨w.heap.size, 0, none⟩ = some (.int .i64 f) ∧ w'.cell? ⟨w.heap.size, 1, none⟩ = some (.slice va ps.length cap) ∧ w'.cell? ⟨w.heap.size, 2, none⟩ = some (.slice ca cs.length ck) ∧ Below w.heap.size w w') (first | assumption | exact ⟨y0, y1, y2, b4.drew⟩ | exact keep3 (by assumption) hb2 (Nat.le_refl _)) ((first
          | (go_at_call 21; refine (load_any f ps _ _ _ (PartsV.below HP.out (by first | exact b4 | (exact (‹World.cell? _ ⟨w.heap.size, 0, none⟩ = _ ∧ _ ∧ _ ∧ Below w.heap.size w _›).2.2.2) | exact b4.drew)) ⟨_, _, _, rfl⟩ hf hps8 (fun k hk => have h := partErr_ok (HAT.out k hk); ⟨h.1, h.2.1, h.2.2.1, h.2.2.2.1⟩)).mono ?_; rintro e w5 ⟨rfl, hb2⟩))))
        all_goals (have hS := ‹World.cell? _ ⟨w.heap.size, 0, none⟩ = _ ∧ _ ∧ _ ∧ Below w.heap.size w _›)
        all_goals (obtain ⟨x0, x1, x2, b5⟩ := hS)
        all_goals clear y0 y1 y2 h4 b4
        · have hT' : ¬ f < ticksF f ps := by simpa using hT
          clear hT
          go_wp2_with fail
          refine (pages_any f ps _ _ _ (PartsV.below HP.out b5) ⟨_, _, _, rfl⟩ hps8 (fun k hk => ⟨HW.out k hk, (partErr_ok (HAT.out k hk)).2.2.2.2.2.2⟩)).mono ?_
          rintro e w6 ⟨rfl, hb6⟩
          have b6 := b5.trans (hb6.mono b5.size)
          cases hQ : decide (64 < pagesF ps)
          · go_wp2_with fail
            go_ret
            exact ⟨by rw [HX.out, if_neg (by omega), if_neg (by simpa using hQ)]; rfl, b6⟩
          · go_wp2_with fail
            go_ret
            exact ⟨by rw [HX.out, if_neg (by omega), if_pos (by simpa using hQ)]; rfl, b6⟩
        · have hT' : f < ticksF f ps := by simpa using hT
          go_wp2_with fail
          go_ret
          exact ⟨by rw [HX.out, if_pos hT']; rfl, b5⟩
      · have hyy : (firstNZ (chanAt ⟨f, ps, cs⟩) cs.length != 0) = true := by simp [hy]
        have HX : Hid (checkF ⟨f, ps, cs⟩ = firstNZ (chanAt ⟨f, ps, cs⟩) cs.length) := by
          show _ = _
          rw [HE.out, if_neg (by omega), if_neg (by rw [HM.out]; simp), if_neg (by rw [HZ.out]; simp), if_pos hy]
        go_wp2_with fail
        go_ret
        exact ⟨by rw [HX.out]; rfl, b4⟩
    · have hzz : (firstNZ (partAt ⟨f, ps, cs⟩) ps.length != 0) = true := by simp [hz]
      have HX : Hid (checkF ⟨f, ps, cs⟩ = firstNZ (partAt ⟨f, ps, cs⟩) ps.length) := by
        show _ = _
        rw [HE.out, if_neg (by omega), if_neg (by rw [HM.out]; simp), if_pos hz]
      go_wp2_with fail
      go_ret
      exact ⟨by rw [HX.out]; rfl, b3⟩
  · have HX : Hid (checkF ⟨f, ps, cs⟩ = 6) := by show _ = _; rw [HE.out, if_neg (by omega), if_pos hM]
    clear hM
    go_wp2_with fail
    go_ret
    exact ⟨by rw [HX.out]; rfl, b2⟩
end Go.Proofs.YteioennfpkoagaaDoor.C
