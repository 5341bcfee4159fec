import Derived.Test.YteioennfpkoagaaDoorCdfC
import Derived.Test.YteioennfpkoagaaDoorChkB
namespace Go.Proofs.YteioennfpkoagaaDoor.C
open Go.RowKit
attribute [local go_sem ↓] Go.wp_at_zero Go.wp_at_succ

set_option maxRecDepth 100000 in
set_option maxHeartbeats 4000000 in
theorem partWrong_any (f : Int) (ps : List PartD) (i : Nat) (pv cv : Value) (w : World) (hp : PartsV w pv ps) (hf : 1 ≤ f ∧ f ≤ 240) (hi : i < ps.length) (hl : ps.length ≤ 4611686018427387903) (hrl : ps[i].regs.length ≤ 4611686018427387903) :
    Calls Tryd.prog 29 #[.agg #[.int .i64 f, pv, cv], .int .i64 i] w fun e w' => e = .returned (.int .i64 (partErr f (ps.take i) ps[i])) ∧ Below w.heap.size w w' := by

  obtain ⟨va, cap, rfl, hc⟩ := hp
  obtain ⟨b, off, rv, rfl, c0, c1, c2, c3, c4, hrv⟩ := hc i hi
  have HC : Hid _ := hc
  have HRV : Hid _ := hrv
  obtain ⟨ra, rcap, rfl, hrx⟩ := hrv
  clear hrx
  clear hc
  have hbl := World.block_lt_of_cell? w _ c0
  have hb0 : Below w.heap.size w (w.alloc (.cells #[.int .i64 f, .slice (some ⟨b, off, none⟩) ps.length cap, cv] 25)) := (Below.refl _ _).alloc (Nat.le_refl _) _
  have d0 := (hb0.cell (by exact hbl)).trans c0
  have d1 := (hb0.cell (by exact hbl)).trans c1
  have d2 := (hb0.cell (by exact hbl)).trans c2
  have d3 := (hb0.cell (by exact hbl)).trans c3
  have d4 := (hb0.cell (by exact hbl)).trans c4
  have hi' : (i : Int) < (ps.length : Int) := by omega
  have hi0 : (0 : Int) ≤ (i : Int) := by omega
  have HX : Hid (ps[i] = ps[i]) := rfl
  generalize hx : ps[i] = x at *
  have HXE : Hid _ := hx
  clear hx HX
  go_enter Tryd.func29, Tryd.ntmps29
  go_wp2_with fail
  refine (nameOK_any _ _).mono ?_
  rintro e w1 ⟨rfl, rfl⟩
  have hm2 := heap_old _ (.cells #[.string x.name, .int .i64 x.period, .int .i64 x.duration, .int .i64 x.action, .slice ra x.regs.length rcap] 51) (heap_new w (.cells #[.int .i64 f, .slice (some ⟨b, off, none⟩) ps.length cap, cv] 25))
  have hx2 := heap_new (w.alloc (.cells #[.int .i64 f, .slice (some ⟨b, off, none⟩) ps.length cap, cv] 25)) (.cells #[.string x.name, .int .i64 x.period, .int .i64 x.duration, .int .i64 x.action, .slice ra x.regs.length rcap] 51)
  have hb2 := hb0.alloc (o := .cells #[.string x.name, .int .i64 x.period, .int .i64 x.duration, .int .i64 x.action, .slice ra x.regs.length rcap] 51) (by simp)
  simp only [World.size_alloc] at hx2
  clear hb0 d0 d1 d2 d3 d4 c0 c1 c2 c3 c4
  generalize hnm : nameF x.name.data.toList = nm at *
  have HNM : Hid _ := hnm
  clear hnm
  generalize (w.alloc (.cells #[.int .i64 f, .slice (some ⟨b, off, none⟩) ps.length cap, cv] 25)).alloc (.cells #[.string x.name, .int .i64 x.period, .int .i64 x.duration, .int .i64 x.action, .slice ra x.regs.length rcap] 51) = W2 at *
  go_wp2_with fail
  go_loopw [6, 7] (fun ok j wr => ∃ (k : Nat) (c : Bool), j = .int .i64 k ∧ ok = .bool c ∧ k ≤ i ∧ Hid (c = (nm && freshP (ps.take k) x)) ∧ Below W2.heap.size W2 wr) (fun _ j _ => i - (intOf j).toNat)
  case atStart => exact ⟨0, nm, rfl, rfl, by omega, by simp [Hid, freshP], Below.refl _ _⟩
  case round =>
    obtain ⟨k, c, rfl, rfl, hk, HCC, hbel⟩ := hrel
    have hm3 := (hbel.block _ (lt_of_blk hm2)).trans hm2
    have hx3 := (hbel.block _ (lt_of_blk hx2)).trans hx2
    by_cases hlt : k < i
    · have hlt' : (k : Int) < (i : Int) := by omega
      have hk0 : (0 : Int) ≤ (k : Int) := by omega
      obtain ⟨b', off', rv', hab, c0, _⟩ := HC.out k (by omega)
      cases hab
      have hkl : (k : Int) < (ps.length : Int) := by omega
      have e0 := (hbel.cell (by exact (Nat.lt_of_lt_of_le (World.block_lt_of_cell? w _ c0) hb2.size))).trans ((hb2.cell (by exact World.block_lt_of_cell? w _ c0)).trans c0)
      have e1 : wr.cell? ⟨w.heap.size, 1, none⟩ = some (.slice (some ⟨b, off, none⟩) ps.length cap) := by rw [cell_of_blk hm3]; rfl
      have e2 : wr.cell? ⟨w.heap.size + 1, 0, none⟩ = some (.string x.name) := by rw [cell_of_blk hx3]; rfl
      generalize hy : ps[k].name = y at *
      have HY : Hid _ := hy
      clear hy
      cases c
      · go_wp2_with fail
        go_quiet (fail)
        go_wp2_with fail
        go_roundw
        case rel => exact ⟨k + 1, false, by go_num, rfl, by omega, by show _ = _; rw [freshP_step (by omega) x, ← Bool.and_assoc, ← HCC.out]; rfl, below_drewN hbel _⟩
        case measure => simp [intOf]; omega
      · go_wp2_with fail
        go_quiet (fail)
        go_wp2_with fail
        go_roundw
        case rel => exact ⟨k + 1, (y.toList != x.name.toList), by go_num, rfl, by omega, by show _ = _; rw [freshP_step (by omega) x, ← Bool.and_assoc, ← HCC.out, HY.out]; simp, below_drewN hbel _⟩
        case measure => simp [intOf]; omega
    · have hke : k = i := by omega
      subst hke
      have e4 : wr.cell? ⟨w.heap.size + 1, 4, none⟩ = some (.slice ra x.regs.length rcap) := by rw [cell_of_blk hx3]; rfl
      have b3 : Below w.heap.size w wr := hb2.trans (hbel.mono hb2.size)
      go_wp2_with fail
      refine (regionsOK_any x.regs _ wr (RegsV.below HRV.out b3) hrl).mono ?_
      rintro e V ⟨rfl, hbv⟩
      have hm4 := (hbv.block _ (lt_of_blk hm3)).trans hm3
      have hx4 := (hbv.block _ (lt_of_blk hx3)).trans hx3
      have b4 := b3.trans (hbv.mono b3.size)
      have f0 : V.cell? ⟨w.heap.size, 0, none⟩ = some (.int .i64 f) := by rw [cell_of_blk hm4]; rfl
      have g1 : V.cell? ⟨w.heap.size + 1, 1, none⟩ = some (.int .i64 x.period) := by rw [cell_of_blk hx4]; rfl
      have g2 : V.cell? ⟨w.heap.size + 1, 2, none⟩ = some (.int .i64 x.duration) := by rw [cell_of_blk hx4]; rfl
      have g3 : V.cell? ⟨w.heap.size + 1, 3, none⟩ = some (.int .i64 x.action) := by rw [cell_of_blk hx4]; rfl
      clear e4 hm2 hm3 hx2 hx3 hbel hb2 b3 hbv hm4 hx4
      have hpe : partErr f (ps.take k) x = partErr f (ps.take k) x := rfl
      conv at hpe => rhs; unfold partErr; rw [HNM.out, ← HCC.out]
      have HPE : Hid _ := hpe
      clear hpe HC HRV HXE HCC HNM
      generalize regsF x.regs = rg at *
      cases c
      · go_wp2_with fail
        go_ret
        exact ⟨by rw [HPE.out]; rfl, b4⟩
      have hwr : 1 ≤ x.period → x.period ≤ f → IntKind.i64.wrap (f % x.period) = f % x.period := fun h h' => by
        have h1 := Int.emod_lt_of_pos f (show 0 < x.period by omega)
        have h2 := Int.emod_nonneg f (show x.period ≠ 0 by omega)
        exact wrap_small _ (by omega) (by omega)
      have hcase : (decide (x.period < 1) = true ∧ Hid (partErr f (ps.take k) x = 8)) ∨ (decide (x.period < 1) = false ∧ decide (f < x.period) = true ∧ Hid (partErr f (ps.take k) x = 8)) ∨ (decide (x.period < 1) = false ∧ decide (f < x.period) = false ∧ (f % x.period != 0) = true ∧ Hid (partErr f (ps.take k) x = 8)) ∨ ((decide (x.period < 1) = false ∧ decide (f < x.period) = false ∧ (f % x.period != 0) = false) ∧ ((decide (x.duration < 1) = true ∧ Hid (partErr f (ps.take k) x = 9)) ∨ (decide (x.duration < 1) = false ∧ decide (x.period < x.duration) = true ∧ Hid (partErr f (ps.take k) x = 9)) ∨ (decide (x.duration < 1) = false ∧ decide (x.period < x.duration) = false ∧ ((decide (x.action < 1) = true ∧ Hid (partErr f (ps.take k) x = 10)) ∨ (decide (x.action < 1) = false ∧ decide (3 < x.action) = true ∧ Hid (partErr f (ps.take k) x = 10)) ∨ (decide (x.action < 1) = false ∧ decide (3 < x.action) = false ∧ ((rg = false ∧ Hid (partErr f (ps.take k) x = 11)) ∨ (rg = true ∧ Hid (partErr f (ps.take k) x = 0)))))))) := by
        by_cases h1 : x.period < 1
        · exact .inl ⟨by simp [h1], by show _ = _; rw [HPE.out]; simp [h1]⟩
        by_cases h2 : f < x.period
        · exact .inr (.inl ⟨by simp [h1], by simp [h2], by show _ = _; rw [HPE.out]; simp [h2]⟩)
        by_cases h3 : f % x.period = 0
        · refine .inr (.inr (.inr ⟨⟨by simp [h1], by simp [h2], by simp [h3]⟩, ?_⟩))
          by_cases h4 : x.duration < 1
          · exact .inl ⟨by simp [h4], by show _ = _; rw [HPE.out]; simp [h1, h2, h3, h4]⟩
          by_cases h5 : x.period < x.duration
          · exact .inr (.inl ⟨by simp [h4], by simp [h5], by show _ = _; rw [HPE.out]; simp [h1, h2, h3, h5]⟩)
          refine .inr (.inr ⟨by simp [h4], by simp [h5], ?_⟩)
          by_cases h6 : x.action < 1
          · exact .inl ⟨by simp [h6], by show _ = _; rw [HPE.out]; simp [h1, h2, h3, h4, h5, h6]⟩
          by_cases h7 : 3 < x.action
          · exact .inr (.inl ⟨by simp [h6], by simp [h7], by show _ = _; rw [HPE.out]; simp [h1, h2, h3, h4, h5, h7]⟩)
          refine .inr (.inr ⟨by simp [h6], by simp [h7], ?_⟩)
          cases rg
          · exact .inl ⟨rfl, by show _ = _; rw [HPE.out]; simp [h1, h2, h3, h4, h5, h6, h7]⟩
          · exact .inr ⟨rfl, by show _ = _; rw [HPE.out]; simp [h1, h2, h3, h4, h5, h6, h7]⟩
        · exact .inr (.inr (.inl ⟨by simp [h1], by simp [h2], by simp [h3], by show _ = _; rw [HPE.out]; simp [h3]⟩))
      clear HPE
      rcases hcase with ⟨h1, HE⟩ | ⟨h1, h2, HE⟩ | ⟨h1, h2, h3, HE⟩ | ⟨⟨h1, h2, h3⟩, ⟨h4, HE⟩ | ⟨h4, h5, HE⟩ | ⟨h4, h5, ⟨h6, HE⟩ | ⟨h6, h7, HE⟩ | ⟨h6, h7, ⟨rfl, HE⟩ | ⟨rfl, HE⟩⟩⟩⟩
      all_goals (try have hw := hwr (by simp only [decide_eq_false_iff_not] at h1; omega) (by simp only [decide_eq_false_iff_not] at h2; omega))
      all_goals clear hwr
      all_goals (try have hpz : ¬ x.period = 0 := by (simp only [decide_eq_false_iff_not] at h1; omega))
      all_goals go_wp2_with fail
      all_goals go_ret
      all_goals exact ⟨by rw [HE.out]; rfl, b4⟩
end Go.Proofs.YteioennfpkoagaaDoor.C
