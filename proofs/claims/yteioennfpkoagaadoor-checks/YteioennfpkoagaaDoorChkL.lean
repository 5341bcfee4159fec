import Derived.Test.YteioennfpkoagaaDoorChkK
namespace Go.Proofs.YteioennfpkoagaaDoor.C
open Go.RowKit
attribute [local go_sem ↓] Go.wp_at_zero Go.wp_at_succ

theorem regB_parts (r : RegD) : regB r = ((decide (1 ≤ r.pages) && decide (r.pages ≤ 64)) && (decide (0 ≤ r.page) && decide (r.page ≤ 64 - r.pages)) && rightL.any (sameO r.rights)) := by
  rw [right_is, Bool.eq_iff_iff]
  unfold regB
  simp
  omega
theorem keep3 {B : Nat} {W w1 w2 : World} {a0 a1 a2 : Addr} {v0 v1 v2 : Value} (h : w1.cell? a0 = some v0 ∧ w1.cell? a1 = some v1 ∧ w1.cell? a2 = some v2 ∧ Below B W w1) (hb : Below w1.heap.size w1 w2) (hB : B ≤ W.heap.size) : w2.cell? a0 = some v0 ∧ w2.cell? a1 = some v1 ∧ w2.cell? a2 = some v2 ∧ Below B W w2 := by
  obtain ⟨h0, h1, h2, hx⟩ := h
  have k : ∀ {a : Addr} {v : Value}, w1.cell? a = some v → w2.cell? a = some v := fun h => (hb.cell (World.block_lt_of_cell? w1 _ h)).trans h
  exact ⟨k h0, k h1, k h2, hx.trans (hb.mono (Nat.le_trans hB hx.size))⟩
theorem within_is (n lo hi : Int) (b : Bool) (h : (decide (lo ≤ n) && decide (n ≤ hi)) = b) (w : World) :
    Calls Tryd.prog 17 #[.int .i64 n, .int .i64 lo, .int .i64 hi] w fun e w' => e = .returned (.bool b) ∧ w' = w := by
  subst h; exact within_any n lo hi w
set_option maxRecDepth 100000 in
set_option maxHeartbeats 4000000 in
theorem isRegion_any (r : RegD) (w : World) :
    Calls Tryd.prog 67 #[.agg #[.int .i64 r.page, .int .i64 r.pages, .int .i64 r.rights]] w fun e w' => e = .returned (.bool (regB r)) ∧ Below w.heap.size w w' := by
  have HR : Hid _ := regB_parts r
  have b0 : Below w.heap.size w (w.alloc (.cells #[.int .i64 r.page, .int .i64 r.pages, .int .i64 r.rights] 48)) := (Below.refl _ w).alloc (Nat.le_refl _) _
  have h0 := heap_new w (.cells #[.int .i64 r.page, .int .i64 r.pages, .int .i64 r.rights] 48)
  cases h1 : (decide (1 ≤ r.pages) && decide (r.pages ≤ 64))
  · have H1 := within_is _ _ _ _ h1
    have HH : Hid (regB r = false) := by show _ = _; rw [HR.out, h1]; rfl
    clear h1
    go_enter Tryd.func67, Tryd.ntmps67
    go_wp2_with fail
    generalize w.alloc (.cells #[.int .i64 r.page, .int .i64 r.pages, .int .i64 r.rights] 48) = W0 at *
    have y0 : W0.cell? ⟨w.heap.size, 0, none⟩ = some (.int .i64 r.page) := by rw [cell_of_blk h0]; rfl
    have y1 : W0.cell? ⟨w.heap.size, 1, none⟩ = some (.int .i64 r.pages) := by rw [cell_of_blk h0]; rfl
    have y2 : W0.cell? ⟨w.heap.size, 2, none⟩ = some (.int .i64 r.rights) := by rw [cell_of_blk h0]; rfl
    go_quiet (first | (go_at_call 17; exact Calls.quiet_of_same (H1 _)))
    go_wp2_with fail
    go_ret
    exact ⟨by rw [HH.out]; rfl, below_drewN b0 _⟩
  have hpg : 1 ≤ r.pages ∧ r.pages ≤ 64 := by simpa using h1
  have hw : IntKind.i64.wrap (64 - r.pages) = 64 - r.pages := wrap_small _ (by omega) (by omega)
  cases h2 : (decide (0 ≤ r.page) && decide (r.page ≤ 64 - r.pages))
  · have H1 := within_is _ _ _ _ h1
    have H2 := within_is _ _ _ _ h2
    have HH : Hid (regB r = false) := by show _ = _; rw [HR.out, h1, h2]; rfl
    clear h1 h2
    go_enter Tryd.func67, Tryd.ntmps67
    go_wp2_with fail
    generalize w.alloc (.cells #[.int .i64 r.page, .int .i64 r.pages, .int .i64 r.rights] 48) = W0 at *
    have y0 : W0.cell? ⟨w.heap.size, 0, none⟩ = some (.int .i64 r.page) := by rw [cell_of_blk h0]; rfl
    have y1 : W0.cell? ⟨w.heap.size, 1, none⟩ = some (.int .i64 r.pages) := by rw [cell_of_blk h0]; rfl
    have y2 : W0.cell? ⟨w.heap.size, 2, none⟩ = some (.int .i64 r.rights) := by rw [cell_of_blk h0]; rfl
    go_quiet (first | (go_at_call_of 17 (Value.int .i64 r.pages); exact Calls.quiet_of_same (H1 _)) | (go_at_call_of 17 (Value.int .i64 r.page); exact Calls.quiet_of_same (H2 _)))
    go_wp2_with fail
    go_ret
    exact ⟨by rw [HH.out]; rfl, below_drewN b0 _⟩
  have H1 := within_is _ _ _ _ h1
  have H2 := within_is _ _ _ _ h2
  have HH : Hid (regB r = rightL.any (sameO r.rights)) := by show _ = _; rw [HR.out, h1, h2]; rfl
  clear h1 h2
  go_enter Tryd.func67, Tryd.ntmps67
  go_wp2_with fail
  generalize w.alloc (.cells #[.int .i64 r.page, .int .i64 r.pages, .int .i64 r.rights] 48) = W0 at *
  have y0 : W0.cell? ⟨w.heap.size, 0, none⟩ = some (.int .i64 r.page) := by rw [cell_of_blk h0]; rfl
  have y1 : W0.cell? ⟨w.heap.size, 1, none⟩ = some (.int .i64 r.pages) := by rw [cell_of_blk h0]; rfl
  have y2 : W0.cell? ⟨w.heap.size, 2, none⟩ = some (.int .i64 r.rights) := by rw [cell_of_blk h0]; rfl
  go_region_held3 (fun w' => w'.cell? ⟨w.heap.size, 0, none⟩ = some (.int .i64 r.page) ∧ w'.cell? ⟨w.heap.size, 1, none⟩ = some (.int .i64 r.pages) ∧ w'.cell? ⟨w.heap.size, 2, none⟩ = some (.int .i64 r.rights) ∧ Below w.heap.size w w') (first | assumption | exact ⟨y0, y1, y2, b0.drew⟩ | exact keep3 (by assumption) hb3 (Nat.le_refl _) | exact keep3 (by assumption) hb2 (Nat.le_refl _)) ((first
    | (go_at_call_of 17 (Value.int .i64 r.pages); refine (H1 _).mono ?_; rintro e w2 ⟨rfl, rfl⟩)
    | (go_at_call_of 17 (Value.int .i64 r.page); refine (H2 _).mono ?_; rintro e w2 ⟨rfl, rfl⟩)
    | (go_at_call 45; refine (rights_c _).mono ?_; rintro e w2 ⟨v, rfl, hv, hb2⟩)
    | (go_at_call 52; refine (isOption_any rightL v _ _ (by exact hv) (by decide)).mono ?_; rintro e w3 ⟨rfl, hb3⟩)))
  have hS := ‹World.cell? _ ⟨w.heap.size, 0, none⟩ = _ ∧ _ ∧ _ ∧ Below w.heap.size w _›
  go_wp2_with fail
  go_ret
  exact ⟨by rw [HH.out]; rfl, hS.2.2.2⟩

end Go.Proofs.YteioennfpkoagaaDoor.C
