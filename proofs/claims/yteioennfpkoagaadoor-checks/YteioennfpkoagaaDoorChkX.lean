import Derived.Test.YteioennfpkoagaaDoorCdfF
import Derived.Test.YteioennfpkoagaaDoorChkY
namespace Go.Proofs.YteioennfpkoagaaDoor.C
open Go.RowKit
attribute [local go_sem ↓] Go.wp_at_zero Go.wp_at_succ

def exPs : List PartD := [⟨⟨#[97]⟩, 2, 1, 2, [⟨0, 2, 2⟩]⟩, ⟨⟨#[98]⟩, 3, 1, 1, []⟩]
def exCs : List ChanD := [⟨⟨#[99]⟩, 0, 1, 1, 4, 2⟩]
theorem ex_ok : checkF ⟨6, exPs, exCs⟩ = 0 := by kernel_rfl
set_option maxRecDepth 100000 in
set_option maxHeartbeats 2000000 in
theorem example_any (w : World) : Calls Tryd.prog 5 #[] w fun e w' => ∃ pv cv, e = .returned (.agg #[.int .i64 6, pv, cv]) ∧ PartsV w' pv exPs ∧ ChansV w' cv exCs ∧ (PartsC w' pv exPs.length ∧ capV cv) ∧ Below w.heap.size w w' := by
  go_enter Tryd.func5, Tryd.ntmps5
  go_wp2_with fail
  refine bodyPost_ret (v := .agg #[.int .i64 6, .slice (some ⟨w.heap.size + 1 + 1 + 1 + 1, 0, none⟩) 2 2, .slice (some ⟨w.heap.size + 1 + 1 + 1 + 1 + 1, 0, none⟩) 1 1]) (by simp [results, Tryd.results5, go_sem]) rfl ?_
  have h2 := heap_new (w.alloc (.cells #[.int .i64 6, .slice (some ⟨w.heap.size + 1 + 1 + 1 + 1, 0, none⟩) 2 2, .slice (some ⟨w.heap.size + 1 + 1 + 1 + 1 + 1, 0, none⟩) 1 1] 25)) (.cells #[.int .i64 0, .int .i64 2, .int .i64 2] 48)
  have h5 := heap_new ((((w.alloc (.cells #[.int .i64 6, .slice (some ⟨w.heap.size + 1 + 1 + 1 + 1, 0, none⟩) 2 2, .slice (some ⟨w.heap.size + 1 + 1 + 1 + 1 + 1, 0, none⟩) 1 1] 25)).alloc (.cells #[.int .i64 0, .int .i64 2, .int .i64 2] 48)).alloc (.cells #[.string ⟨#[97]⟩, .int .i64 2, .int .i64 1, .int .i64 2, .slice (some ⟨w.heap.size + 1, 0, none⟩) 1 1] 51)).alloc (.cells #[.string ⟨#[98]⟩, .int .i64 3, .int .i64 1, .int .i64 1, .slice none 0 0] 51)) (.cells #[.string ⟨#[97]⟩, .int .i64 2, .int .i64 1, .int .i64 2, .slice (some ⟨w.heap.size + 1, 0, none⟩) 1 1, .string ⟨#[98]⟩, .int .i64 3, .int .i64 1, .int .i64 1, .slice none 0 0] 51)
  have h6 := heap_new (((((w.alloc (.cells #[.int .i64 6, .slice (some ⟨w.heap.size + 1 + 1 + 1 + 1, 0, none⟩) 2 2, .slice (some ⟨w.heap.size + 1 + 1 + 1 + 1 + 1, 0, none⟩) 1 1] 25)).alloc (.cells #[.int .i64 0, .int .i64 2, .int .i64 2] 48)).alloc (.cells #[.string ⟨#[97]⟩, .int .i64 2, .int .i64 1, .int .i64 2, .slice (some ⟨w.heap.size + 1, 0, none⟩) 1 1] 51)).alloc (.cells #[.string ⟨#[98]⟩, .int .i64 3, .int .i64 1, .int .i64 1, .slice none 0 0] 51)).alloc (.cells #[.string ⟨#[97]⟩, .int .i64 2, .int .i64 1, .int .i64 2, .slice (some ⟨w.heap.size + 1, 0, none⟩) 1 1, .string ⟨#[98]⟩, .int .i64 3, .int .i64 1, .int .i64 1, .slice none 0 0] 51)) (.cells #[.string ⟨#[99]⟩, .int .i64 0, .int .i64 1, .int .i64 1, .int .i64 4, .int .i64 2] 53)
  simp only [World.size_alloc] at h2 h5 h6
  have g2 := heap_old (((((w.alloc (.cells #[.int .i64 6, .slice (some ⟨w.heap.size + 1 + 1 + 1 + 1, 0, none⟩) 2 2, .slice (some ⟨w.heap.size + 1 + 1 + 1 + 1 + 1, 0, none⟩) 1 1] 25)).alloc (.cells #[.int .i64 0, .int .i64 2, .int .i64 2] 48)).alloc (.cells #[.string ⟨#[97]⟩, .int .i64 2, .int .i64 1, .int .i64 2, .slice (some ⟨w.heap.size + 1, 0, none⟩) 1 1] 51)).alloc (.cells #[.string ⟨#[98]⟩, .int .i64 3, .int .i64 1, .int .i64 1, .slice none 0 0] 51)).alloc (.cells #[.string ⟨#[97]⟩, .int .i64 2, .int .i64 1, .int .i64 2, .slice (some ⟨w.heap.size + 1, 0, none⟩) 1 1, .string ⟨#[98]⟩, .int .i64 3, .int .i64 1, .int .i64 1, .slice none 0 0] 51)) (.cells #[.string ⟨#[99]⟩, .int .i64 0, .int .i64 1, .int .i64 1, .int .i64 4, .int .i64 2] 53) (heap_old ((((w.alloc (.cells #[.int .i64 6, .slice (some ⟨w.heap.size + 1 + 1 + 1 + 1, 0, none⟩) 2 2, .slice (some ⟨w.heap.size + 1 + 1 + 1 + 1 + 1, 0, none⟩) 1 1] 25)).alloc (.cells #[.int .i64 0, .int .i64 2, .int .i64 2] 48)).alloc (.cells #[.string ⟨#[97]⟩, .int .i64 2, .int .i64 1, .int .i64 2, .slice (some ⟨w.heap.size + 1, 0, none⟩) 1 1] 51)).alloc (.cells #[.string ⟨#[98]⟩, .int .i64 3, .int .i64 1, .int .i64 1, .slice none 0 0] 51)) (.cells #[.string ⟨#[97]⟩, .int .i64 2, .int .i64 1, .int .i64 2, .slice (some ⟨w.heap.size + 1, 0, none⟩) 1 1, .string ⟨#[98]⟩, .int .i64 3, .int .i64 1, .int .i64 1, .slice none 0 0] 51) (heap_old (((w.alloc (.cells #[.int .i64 6, .slice (some ⟨w.heap.size + 1 + 1 + 1 + 1, 0, none⟩) 2 2, .slice (some ⟨w.heap.size + 1 + 1 + 1 + 1 + 1, 0, none⟩) 1 1] 25)).alloc (.cells #[.int .i64 0, .int .i64 2, .int .i64 2] 48)).alloc (.cells #[.string ⟨#[97]⟩, .int .i64 2, .int .i64 1, .int .i64 2, .slice (some ⟨w.heap.size + 1, 0, none⟩) 1 1] 51)) (.cells #[.string ⟨#[98]⟩, .int .i64 3, .int .i64 1, .int .i64 1, .slice none 0 0] 51) (heap_old ((w.alloc (.cells #[.int .i64 6, .slice (some ⟨w.heap.size + 1 + 1 + 1 + 1, 0, none⟩) 2 2, .slice (some ⟨w.heap.size + 1 + 1 + 1 + 1 + 1, 0, none⟩) 1 1] 25)).alloc (.cells #[.int .i64 0, .int .i64 2, .int .i64 2] 48)) (.cells #[.string ⟨#[97]⟩, .int .i64 2, .int .i64 1, .int .i64 2, .slice (some ⟨w.heap.size + 1, 0, none⟩) 1 1] 51) h2)))
  have g5 := heap_old (((((w.alloc (.cells #[.int .i64 6, .slice (some ⟨w.heap.size + 1 + 1 + 1 + 1, 0, none⟩) 2 2, .slice (some ⟨w.heap.size + 1 + 1 + 1 + 1 + 1, 0, none⟩) 1 1] 25)).alloc (.cells #[.int .i64 0, .int .i64 2, .int .i64 2] 48)).alloc (.cells #[.string ⟨#[97]⟩, .int .i64 2, .int .i64 1, .int .i64 2, .slice (some ⟨w.heap.size + 1, 0, none⟩) 1 1] 51)).alloc (.cells #[.string ⟨#[98]⟩, .int .i64 3, .int .i64 1, .int .i64 1, .slice none 0 0] 51)).alloc (.cells #[.string ⟨#[97]⟩, .int .i64 2, .int .i64 1, .int .i64 2, .slice (some ⟨w.heap.size + 1, 0, none⟩) 1 1, .string ⟨#[98]⟩, .int .i64 3, .int .i64 1, .int .i64 1, .slice none 0 0] 51)) (.cells #[.string ⟨#[99]⟩, .int .i64 0, .int .i64 1, .int .i64 1, .int .i64 4, .int .i64 2] 53) h5
  have hb : Below w.heap.size w ((((((w.alloc (.cells #[.int .i64 6, .slice (some ⟨w.heap.size + 1 + 1 + 1 + 1, 0, none⟩) 2 2, .slice (some ⟨w.heap.size + 1 + 1 + 1 + 1 + 1, 0, none⟩) 1 1] 25)).alloc (.cells #[.int .i64 0, .int .i64 2, .int .i64 2] 48)).alloc (.cells #[.string ⟨#[97]⟩, .int .i64 2, .int .i64 1, .int .i64 2, .slice (some ⟨w.heap.size + 1, 0, none⟩) 1 1] 51)).alloc (.cells #[.string ⟨#[98]⟩, .int .i64 3, .int .i64 1, .int .i64 1, .slice none 0 0] 51)).alloc (.cells #[.string ⟨#[97]⟩, .int .i64 2, .int .i64 1, .int .i64 2, .slice (some ⟨w.heap.size + 1, 0, none⟩) 1 1, .string ⟨#[98]⟩, .int .i64 3, .int .i64 1, .int .i64 1, .slice none 0 0] 51)).alloc (.cells #[.string ⟨#[99]⟩, .int .i64 0, .int .i64 1, .int .i64 1, .int .i64 4, .int .i64 2] 53)) := ((((((Below.refl _ _).alloc (Nat.le_refl _) _).alloc (by simp) _).alloc (by simp; omega) _).alloc (by simp; omega) _).alloc (by simp; omega) _).alloc (by simp; omega) _
  generalize ((((((w.alloc (.cells #[.int .i64 6, .slice (some ⟨w.heap.size + 1 + 1 + 1 + 1, 0, none⟩) 2 2, .slice (some ⟨w.heap.size + 1 + 1 + 1 + 1 + 1, 0, none⟩) 1 1] 25)).alloc (.cells #[.int .i64 0, .int .i64 2, .int .i64 2] 48)).alloc (.cells #[.string ⟨#[97]⟩, .int .i64 2, .int .i64 1, .int .i64 2, .slice (some ⟨w.heap.size + 1, 0, none⟩) 1 1] 51)).alloc (.cells #[.string ⟨#[98]⟩, .int .i64 3, .int .i64 1, .int .i64 1, .slice none 0 0] 51)).alloc (.cells #[.string ⟨#[97]⟩, .int .i64 2, .int .i64 1, .int .i64 2, .slice (some ⟨w.heap.size + 1, 0, none⟩) 1 1, .string ⟨#[98]⟩, .int .i64 3, .int .i64 1, .int .i64 1, .slice none 0 0] 51)).alloc (.cells #[.string ⟨#[99]⟩, .int .i64 0, .int .i64 1, .int .i64 1, .int .i64 4, .int .i64 2] 53)) = V at *
  refine ⟨_, _, rfl, ⟨_, _, rfl, ?_⟩, ⟨_, _, rfl, ?_⟩, ⟨⟨⟨_, _, _, rfl, Nat.le_refl _⟩, ?_⟩, ⟨_, _, _, rfl, Nat.le_refl _⟩⟩, hb⟩
  · intro i hi
    have : i = 0 ∨ i = 1 := by have : i < 2 := hi; omega
    rcases this with rfl | rfl
    · refine ⟨_, _, _, rfl, by rw [cell_of_blk g5]; rfl, by rw [cell_of_blk g5]; rfl, by rw [cell_of_blk g5]; rfl, by rw [cell_of_blk g5]; rfl, by rw [cell_of_blk g5]; rfl, ⟨_, _, rfl, ?_⟩⟩
      intro j hj
      have : j = 0 := by have : j < 1 := hj; omega
      subst this
      exact ⟨_, _, rfl, by rw [cell_of_blk g2]; rfl, by rw [cell_of_blk g2]; rfl, by rw [cell_of_blk g2]; rfl⟩
    · refine ⟨_, _, _, rfl, by rw [cell_of_blk g5]; rfl, by rw [cell_of_blk g5]; rfl, by rw [cell_of_blk g5]; rfl, by rw [cell_of_blk g5]; rfl, by rw [cell_of_blk g5]; rfl, ⟨_, _, rfl, ?_⟩⟩
      intro j hj
      exact absurd hj (by simp [exPs])
  · intro i hi
    have : i = 0 := by have : i < 1 := hi; omega
    subst this
    exact ⟨_, _, rfl, by rw [cell_of_blk h6]; rfl, by rw [cell_of_blk h6]; rfl, by rw [cell_of_blk h6]; rfl, by rw [cell_of_blk h6]; rfl, by rw [cell_of_blk h6]; rfl, by rw [cell_of_blk h6]; rfl⟩
  · intro i hi b off l c e rv hc
    cases e
    have : i = 0 ∨ i = 1 := by have : i < 2 := hi; omega
    rcases this with rfl | rfl
    · rw [cell_of_blk g5] at hc
      exact ⟨_, _, _, (Option.some.inj hc).symm, Nat.le_refl _⟩
    · rw [cell_of_blk g5] at hc
      exact ⟨_, _, _, (Option.some.inj hc).symm, Nat.le_refl _⟩
end Go.Proofs.YteioennfpkoagaaDoor.C
