import Derived.Test.YteioennfpkoagaaDoorCdfB
import Derived.Test.YteioennfpkoagaaDoorChkA
namespace Go.Proofs.YteioennfpkoagaaDoor.C
open Go.RowKit
attribute [local go_sem ↓] Go.wp_at_zero Go.wp_at_succ

set_option maxRecDepth 100000 in
set_option maxHeartbeats 4000000 in
theorem regionsOK_any (rs : List RegD) (v : Value) (w : World) (hv : RegsV w v rs) (hl : rs.length ≤ 4611686018427387903) :
    Calls Tryd.prog 48 #[v] w fun e w' => e = .returned (.bool (regsF rs)) ∧ Below w.heap.size w w' := by
  obtain ⟨va, cap, rfl, hc⟩ := hv
  have HC : Hid _ := hc
  clear hc
  go_enter Tryd.func48, Tryd.ntmps48
  go_wp2_with fail
  have hu0 : (w.alloc (.cells #[.bool false, .bool false, .bool false, .bool false, .bool false, .bool false, .bool false, .bool false, .bool false, .bool false, .bool false, .bool false, .bool false, .bool false, .bool false, .bool false, .bool false, .bool false, .bool false, .bool false, .bool false, .bool false, .bool false, .bool false, .bool false, .bool false, .bool false, .bool false, .bool false, .bool false, .bool false, .bool false, .bool false, .bool false, .bool false, .bool false, .bool false, .bool false, .bool false, .bool false, .bool false, .bool false, .bool false, .bool false, .bool false, .bool false, .bool false, .bool false, .bool false, .bool false, .bool false, .bool false, .bool false, .bool false, .bool false, .bool false, .bool false, .bool false, .bool false, .bool false, .bool false, .bool false, .bool false, .bool false] 98)).heap[w.heap.size]? = some (.cells (usedV fun _ => false) 98 (0, 0)) := by rw [used_lit]; exact heap_new _ _
  have hb0 : Below w.heap.size w (w.alloc (.cells #[.bool false, .bool false, .bool false, .bool false, .bool false, .bool false, .bool false, .bool false, .bool false, .bool false, .bool false, .bool false, .bool false, .bool false, .bool false, .bool false, .bool false, .bool false, .bool false, .bool false, .bool false, .bool false, .bool false, .bool false, .bool false, .bool false, .bool false, .bool false, .bool false, .bool false, .bool false, .bool false, .bool false, .bool false, .bool false, .bool false, .bool false, .bool false, .bool false, .bool false, .bool false, .bool false, .bool false, .bool false, .bool false, .bool false, .bool false, .bool false, .bool false, .bool false, .bool false, .bool false, .bool false, .bool false, .bool false, .bool false, .bool false, .bool false, .bool false, .bool false, .bool false, .bool false, .bool false, .bool false] 98)) := (Below.refl _ _).alloc (Nat.le_refl _) _
  generalize w.alloc (.cells #[.bool false, .bool false, .bool false, .bool false, .bool false, .bool false, .bool false, .bool false, .bool false, .bool false, .bool false, .bool false, .bool false, .bool false, .bool false, .bool false, .bool false, .bool false, .bool false, .bool false, .bool false, .bool false, .bool false, .bool false, .bool false, .bool false, .bool false, .bool false, .bool false, .bool false, .bool false, .bool false, .bool false, .bool false, .bool false, .bool false, .bool false, .bool false, .bool false, .bool false, .bool false, .bool false, .bool false, .bool false, .bool false, .bool false, .bool false, .bool false, .bool false, .bool false, .bool false, .bool false, .bool false, .bool false, .bool false, .bool false, .bool false, .bool false, .bool false, .bool false, .bool false, .bool false, .bool false, .bool false] 98) = W0 at *
  go_loopw [4] (fun i wr => ∃ (k : Nat) (u : Nat → Bool), i = .int .i64 k ∧ k ≤ rs.length ∧ wr.heap[w.heap.size]? = some (.cells (usedV u) 98 (0, 0)) ∧ Below w.heap.size w wr ∧ Hid (RegsOK (rs.take k)) ∧ Hid (∀ q : Nat, q < 64 → (u q = true ↔ ∃ a ∈ rs.take k, hit a q))) (fun i _ => rs.length - (intOf i).toNat)
  case atStart => exact ⟨0, _, rfl, by omega, hu0, hb0, by simp [Hid, RegsOK], by simp [Hid]⟩
  case round =>
    obtain ⟨k, u, rfl, hk, hu, hbel, HO, HU⟩ := hrel
    by_cases hlt : k < rs.length
    · obtain ⟨b, off, rfl, c0, c1, c2⟩ := HC.out k hlt
      have hbl := World.block_lt_of_cell? w _ c0
      have d0 := (hbel.cell (by exact hbl)).trans c0
      have d1 := (hbel.cell (by exact hbl)).trans c1
      have d2 := (hbel.cell (by exact hbl)).trans c2
      have hlt' : (k : Int) < (rs.length : Int) := by omega
      have hk0 : (0 : Int) ≤ (k : Int) := by omega
      have hub := lt_of_blk hu
      by_cases hbad : regB rs[k] = false
      · have hF := regs_bad hlt hbad
        have hwr : 0 ≤ rs[k].page → rs[k].page ≤ 63 → 1 ≤ rs[k].pages → rs[k].pages ≤ 64 → IntKind.i64.wrap (rs[k].page + rs[k].pages) = rs[k].page + rs[k].pages := fun _ _ _ _ => wrap_small _ (by omega) (by omega)
        have HF : Hid _ := hF
        clear hF
        generalize rs[k] = r at *
        unfold regB at hbad
        simp only [decide_eq_false_iff_not] at hbad
        have hcase : r.page < 0 ∨ (¬ r.page < 0 ∧ 63 < r.page) ∨ (¬ r.page < 0 ∧ ¬ 63 < r.page ∧ r.pages < 1) ∨ (¬ r.page < 0 ∧ ¬ 63 < r.page ∧ ¬ r.pages < 1 ∧ 64 < r.pages) ∨ (¬ r.page < 0 ∧ ¬ 63 < r.page ∧ ¬ r.pages < 1 ∧ ¬ 64 < r.pages ∧ 64 < r.page + r.pages) ∨ (¬ r.page < 0 ∧ ¬ 63 < r.page ∧ ¬ r.pages < 1 ∧ ¬ 64 < r.pages ∧ ¬ 64 < r.page + r.pages ∧ ¬ r.rights = 1 ∧ ¬ r.rights = 2) := by omega
        clear hbad
        rcases hcase with h1 | ⟨h1, h2⟩ | ⟨h1, h2, h3⟩ | ⟨h1, h2, h3, h4⟩ | ⟨h1, h2, h3, h4, h5⟩ | ⟨h1, h2, h3, h4, h5, h6, h7⟩
        all_goals (try have hw := hwr (by omega) (by omega) (by omega) (by omega))
        all_goals clear hwr
        all_goals (try have hr1 : (r.rights != 1 && r.rights != 2) = true := by simp; omega)
        all_goals (try (have h6' : (r.rights != 1) = true := by simp; omega))
        all_goals (try (have h7' : (r.rights != 2) = true := by simp; omega))
        all_goals go_wp2_with fail
        all_goals go_ret
        all_goals exact ⟨by rw [HF.out]; rfl, hbel.alloc hbel.size _⟩
      · have hgood : regB rs[k] = true := by simpa using hbad
        clear hbad
        have HG : Hid _ := hgood
        have hpg : 0 ≤ rs[k].page ∧ rs[k].page ≤ 63 ∧ 1 ≤ rs[k].pages ∧ rs[k].pages ≤ 64 ∧ rs[k].page + rs[k].pages ≤ 64 ∧ (rs[k].rights = 1 ∨ rs[k].rights = 2) := by unfold regB at hgood; simpa using hgood
        clear hgood
        generalize hrk : rs[k] = r at *
        have HRK : Hid _ := hrk
        clear hrk
        generalize wr = wz at *
        obtain ⟨h1, h2, h3, h4, h5, h6⟩ := hpg
        have hr : (r.rights != 1) = false ∨ ((r.rights != 1) = true ∧ (r.rights != 2) = false) := by
          rcases h6 with h | h
          · left; rw [h]; rfl
          · right; rw [h]; exact ⟨rfl, rfl⟩
        clear h6
        have hw : IntKind.i64.wrap (r.page + r.pages) = r.page + r.pages := wrap_small _ (by omega) (by omega)
        have n1 : ¬ r.page < 0 := by omega
        have n2 : ¬ 63 < r.page := by omega
        have n3 : ¬ r.pages < 1 := by omega
        have n4 : ¬ 64 < r.pages := by omega
        have n5 : ¬ 64 < r.page + r.pages := by omega
        rcases hr with q1 | ⟨q1, q2⟩
        all_goals (
          go_wp2_with fail
          have hb1 := hbel.alloc hbel.size (.cells #[.int .i64 r.page, .int .i64 r.pages, .int .i64 r.rights] 48)
          have hu1 := heap_old wz (.cells #[.int .i64 r.page, .int .i64 r.pages, .int .i64 r.rights] 48) hu
          have hr1 := heap_new wz (.cells #[.int .i64 r.page, .int .i64 r.pages, .int .i64 r.rights] 48)
          have hne : wz.heap.size ≠ w.heap.size := by omega
          have hsz := hbel.size
          clear hbel hu hub d0 d1 d2 n1 n2 n3 n4 n5 hu0 hb0
          generalize wz.alloc (.cells #[.int .i64 r.page, .int .i64 r.pages, .int .i64 r.rights] 48) = W1 at *
          generalize wz.heap.size = rb at *
          go_loopw [6] (fun i wx => ∃ (q : Nat) (u' : Nat → Bool), i = .int .i64 q ∧ r.page ≤ q ∧ q ≤ r.page + r.pages ∧ wx.heap[w.heap.size]? = some (.cells (usedV u') 98 (0, 0)) ∧ wx.heap[rb]? = some (.cells #[.int .i64 r.page, .int .i64 r.pages, .int .i64 r.rights] 48 (0, 0)) ∧ Below w.heap.size w wx ∧ Hid (∀ j : Nat, j < 64 → (u' j = true ↔ u j = true ∨ (r.page ≤ j ∧ j < q))) ∧ Hid (∀ j : Nat, r.page ≤ j → j < q → u j = false)) (fun i _ => (r.page + r.pages).toNat - (intOf i).toNat)
          case atStart => exact ⟨r.page.toNat, u, by congr; omega, by omega, by omega, hu1, hr1, hb1, by intro j hj; constructor; exact fun h => .inl h; rintro (h | h); exact h; omega, by intro j h7 h8; omega⟩
          case round =>
            obtain ⟨q, u', rfl, hq1, hq2, hux, hrx, hbx, HU', HN⟩ := hrel
            have x0 : wr.cell? ⟨rb, 0, none⟩ = some (.int .i64 r.page) := by rw [cell_of_blk hrx]; rfl
            have x1 : wr.cell? ⟨rb, 1, none⟩ = some (.int .i64 r.pages) := by rw [cell_of_blk hrx]; rfl
            by_cases hqlt : (q : Int) < r.page + r.pages
            · have hq64 : q < 64 := by omega
              have hq64' : (q : Int) < 64 := by omega
              have hq0 : (0 : Int) ≤ (q : Int) := by omega
              have y0 : wr.cell? ⟨w.heap.size, q, none⟩ = some (.bool (u' q)) := by rw [cell_of_blk hux, usedV_at u' q hq64]
              have z0 := frozen_of_blk (i := q) hux
              cases hcu : u' q
              · rw [hcu] at y0
                go_wp2_with fail
                go_roundw
                case rel =>
                  refine ⟨q + 1, fun j => if j = q then true else u' j, by go_num, by omega, by omega, ?_, ?_, hbx.setCell (Nat.le_refl _) _, ?_, ?_⟩
                  · rw [blk_set q _ hux, usedV_set]
                  · rw [blk_far _ _ hne]; exact hrx
                  · intro j hj
                    by_cases e : j = q
                    · subst e; simp; omega
                    · simp only [if_neg e]; rw [HU'.out j hj]; constructor
                      · rintro (h | h)
                        · exact .inl h
                        · exact .inr (by omega)
                      · rintro (h | h)
                        · exact .inl h
                        · exact .inr (by omega)
                  · intro j h7 h8
                    by_cases e : j = q
                    · subst e
                      have := HU'.out j hq64
                      rw [hcu] at this
                      cases hu : u j
                      · rfl
                      · rw [hu] at this; simp at this
                    · exact HN.out j h7 (by omega)
                case measure => simp [intOf]; omega
              · rw [hcu] at y0
                go_wp2_with fail
                go_ret
                have hF : regsF rs = false := by
                  refine regs_hit (q := q) hlt (by rw [HRK.out]; exact ⟨hq1, hqlt⟩) ?_
                  rw [← HU.out q hq64]
                  have := (HU'.out q hq64).1 hcu
                  rcases this with h | h
                  · exact h
                  · omega
                exact ⟨by rw [hF]; rfl, hbx⟩
            · have hqe : (q : Int) = r.page + r.pages := by omega
              go_wp2_with fail
              go_roundw
              case rel =>
                refine ⟨k + 1, u', by go_num, by omega, hux, hbx, ?_, ?_⟩
                · refine regs_step hlt HO.out (by rw [HRK.out]; exact HG.out) ?_
                  rw [HRK.out]
                  intro j hj h7
                  rw [← HU.out j hj, HN.out j h7.1 (by have := h7.2; omega)]
                  simp
                · intro j hj
                  rw [HU'.out j hj, HU.out j hj, hit_step hlt, HRK.out]
                  unfold hit
                  constructor
                  · rintro (h | h)
                    · exact .inl h
                    · exact .inr (by omega)
                  · rintro (h | h)
                    · exact .inl h
                    · exact .inr (by omega)
              case measure => simp [intOf]; omega)
    · have hkn : k = rs.length := by omega
      subst hkn
      go_wp2_with fail
      go_ret
      exact ⟨by rw [(regsF_iff rs).2 (by have := HO.out; rwa [List.take_length] at this)]; rfl, hbel⟩
end Go.Proofs.YteioennfpkoagaaDoor.C
