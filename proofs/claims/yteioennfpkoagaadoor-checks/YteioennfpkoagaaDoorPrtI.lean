import Derived.Test.YteioennfpkoagaaDoorPrtH
namespace Go.Proofs.YteioennfpkoagaaDoor.C
open Go.RowKit
attribute [local go_sem ↓] Go.wp_at_zero Go.wp_at_succ

theorem ps_fresh (w : World) : PS w w.heap.size [] (w.alloc (.cells #[.pointer none, .slice none 0 0] 44)) := ⟨below_new _ _, Lib.IsBuilderF.of (Lib.fresh_isBuilder 44 5 w)⟩
theorem print_some (M : ManD) : printL M ≠ [] := by
  unfold printL headT
  simp
set_option maxHeartbeats 4000000 in
set_option maxRecDepth 100000 in
theorem manPrint_any (f : Int) (ps : List PartD) (cs : List ChanD) (pv cv : Value) (w : World) (ht : TB w) (hp : PartsV w pv ps) (hpc : PartsC w pv ps.length) (hc : ChansV w cv cs) (hcc : capV cv) (hl : ps.length ≤ 4611686018427387903) (hrl : ∀ k (h : k < ps.length), ps[k].regs.length ≤ 4611686018427387903) (hcl : cs.length ≤ 4611686018427387903) :
    Calls Tryd.prog 4 #[.agg #[.int .i64 f, pv, cv]] w fun e w' => (¬ checkF ⟨f, ps, cs⟩ = 0 ∧ e = .returned (.tuple #[.string ⟨#[]⟩, .int .i64 (checkF ⟨f, ps, cs⟩)]) ∨ checkF ⟨f, ps, cs⟩ = 0 ∧ e = .returned (.tuple #[.string (ba (printL ⟨f, ps, cs⟩)), .int .i64 0])) ∧ Below w.heap.size w w' := by
  have HP : Hid (PartsV w pv ps) := hp
  have HPC : Hid (PartsC w pv ps.length) := hpc
  have HCV : Hid (ChansV w cv cs) := hc
  have HCC : Hid (capV cv) := hcc
  have HRL : Hid _ := hrl
  clear hpc hcc hrl
  obtain ⟨va, cap, rfl, hx⟩ := hp
  clear hx
  obtain ⟨ca, ck, rfl, hx⟩ := hc
  clear hx
  have b0 := below_new w (.cells #[.int .i64 f, .slice va ps.length cap, .slice ca cs.length ck] 25)
  have h0 := heap_new w (.cells #[.int .i64 f, .slice va ps.length cap, .slice ca cs.length ck] 25)
  go_enter Tryd.func4, Tryd.ntmps4
  go_wp2_with fail
  generalize w.alloc (.cells #[.int .i64 f, .slice va ps.length cap, .slice ca cs.length ck] 25) = W0 at *
  refine (manCheck_any f ps cs _ _ W0 (PartsV.below HP.out b0) (PartsC.below HP.out HPC.out b0) (ChansV.below HCV.out b0) HCC.out hl HRL.out hcl).mono ?_
  rintro e w1 ⟨rfl, hb1⟩
  have b1 := b0.trans (hb1.mono b0.size)
  have h1 := keepL h0 hb1
  clear b0 h0 hb1
  by_cases hz : checkF ⟨f, ps, cs⟩ = 0
  · have HZ : Hid _ := hz
    rw [hz]
    clear hz
    have hP := ps_fresh w1
    have b2 := below_new w1 (.cells #[.pointer none, .slice none 0 0] 44)
    have h2 := keepL h1 b2
    have y0 : (w1.alloc (.cells #[.pointer none, .slice none 0 0] 44)).cell? ⟨w.heap.size, 0, none⟩ = some (.int .i64 f) := by rw [cell_of_blk h2]; rfl
    have y1 : (w1.alloc (.cells #[.pointer none, .slice none 0 0] 44)).cell? ⟨w.heap.size, 1, none⟩ = some (.slice va ps.length cap) := by rw [cell_of_blk h2]; rfl
    have y2 : (w1.alloc (.cells #[.pointer none, .slice none 0 0] 44)).cell? ⟨w.heap.size, 2, none⟩ = some (.slice ca cs.length ck) := by rw [cell_of_blk h2]; rfl
    have u0 : w1.cell? ⟨w.heap.size, 0, none⟩ = some (.int .i64 f) := by rw [cell_of_blk h1]; rfl
    have u1 : w1.cell? ⟨w.heap.size, 1, none⟩ = some (.slice va ps.length cap) := by rw [cell_of_blk h1]; rfl
    have u2 : w1.cell? ⟨w.heap.size, 2, none⟩ = some (.slice ca cs.length ck) := by rw [cell_of_blk h1]; rfl
    go_wp2_with fail
    clear y0 y1 y2 u0 u1 u2 h2 b2
    refine (manifest_any w1 w1.heap.size f ps cs _ _ _ hP (ht.below b1) (PartsV.below HP.out b1) (ChansV.below HCV.out b1) HZ.out).mono ?_
    rintro e w2 ⟨rfl, hP2, _⟩
    go_wp2_with fail
    refine (string_any w1 w1.heap.size (printL ⟨f, ps, cs⟩) w2 hP2 (print_some _)).mono ?_
    rintro e w3 ⟨rfl, hb3⟩
    go_wp2_with fail
    go_ret2
    exact ⟨.inr ⟨HZ.out, rfl⟩, b1.trans (hb3.mono b1.size)⟩
  · have hzz : (checkF ⟨f, ps, cs⟩ != 0) = true := by simp [hz]
    go_wp2_with fail
    go_ret2
    exact ⟨.inl ⟨hz, rfl⟩, b1⟩
end Go.Proofs.YteioennfpkoagaaDoor.C
