import Derived.Test.YteioennfpkoagaaPlnF
namespace Go.Proofs.Yteioennfpkoagaa.C
open Go.RowKit
attribute [local go_sem ↓] Go.wp_at_zero Go.wp_at_succ

/- a list of manifests in memory -/
def MansV (w : World) (v : Value) (n : Nat) : Prop :=
  ∃ va cap, v = .slice va n cap ∧ ∀ i, i < n → ∃ b off f pv cv ps cs, va = some ⟨b, off, none⟩ ∧
    w.cell? ⟨b, off + i * 3, none⟩ = some (.int .i64 f) ∧ w.cell? ⟨b, off + i * 3 + 1, none⟩ = some pv ∧ w.cell? ⟨b, off + i * 3 + 2, none⟩ = some cv ∧ PartsV w pv ps ∧ ChansV w cv cs ∧ ps.length ≤ 1048576 ∧ cs.length ≤ 1048576 ∧ ∀ j (hj : j < ps.length), ps[j].regs.length ≤ 1048576
theorem ex_low : ∀ k (h : k < exPs.length), exPs[k].regs.length ≤ 1048576 := by
  intro k h
  have : k = 0 ∨ k = 1 := by have : k < 2 := h; omega
  rcases this with rfl | rfl
  · show 1 ≤ 1048576; omega
  · show 0 ≤ 1048576; omega
set_option maxRecDepth 100000 in
set_option maxHeartbeats 2000000 in
theorem plans_true (hPlan : PlanC) (w : World) (v : Value) (n : Nat) (hv : MansV w v n) (hn : n ≤ 1048576) :
    Calls Try.prog 3 #[v] w fun e w' => e = .returned (.bool true) ∧ Below w.heap.size w w' := by
  have HPL : Hid PlanC := hPlan
  obtain ⟨va, cap, rfl, hvc⟩ := hv
  have HV : Hid _ := hvc
  clear hvc hPlan
  go_enter Try.func3, Try.ntmps3
  go_wp2_with fail
  have hb0 := newB w (.cells #[.slice none 0 0, .slice none 0 0, .slice none 0 0, .slice none 0 0] 29)
  have hk0 : BookT (w.alloc (.cells #[.slice none 0 0, .slice none 0 0, .slice none 0 0, .slice none 0 0] 29)) w.heap.size w.heap.size (.slice none 0 0) [] :=
    ⟨heap_new _ _, Nat.le_refl _, World.ownsRow_nil _ _ _ _, fun i h => absurd h (by simp), rfl⟩
  generalize w.alloc (.cells #[.slice none 0 0, .slice none 0 0, .slice none 0 0, .slice none 0 0] 29) = W0 at *
  refine (example_any _).mono ?_
  rintro e W1 ⟨pv, cv, rfl, hp, hc, _, hb1⟩
  have b1 := hb0.trans (hb1.mono hb0.size)
  have hk1 := hk0.below hb1
  clear hk0 hb1 hb0
  go_wp2_with fail
  refine (planned_any HPL.out W1 w.heap.size w.heap.size _ [] 6 exPs exCs pv cv hk1 b1.size (by simp) hp hc (by decide) (by decide) ex_low).mono ?_
  rintro e W2 ⟨rfl, ⟨tv2, T2, hk2, hT2⟩, hb2⟩
  have b2 := b1.trans hb2
  clear hk1 hp hc b1 hb2
  go_wp2_with fail
  have hw2 : IntKind.i64.wrap (2 * (n : Int)) = 2 * (n : Int) := wrap_small _ (by omega) (by omega)
  go_loopw [5] (fun i wr => ∃ (k : Nat) (tv : Value) (T : List Value), i = .int .i64 k ∧ k ≤ 2 * n ∧ BookT wr w.heap.size w.heap.size tv T ∧ T.length = 4 * (k + 1) ∧ Below w.heap.size w wr) (fun i _ => 2 * n - (intOf i).toNat)
  case atStart => exact ⟨0, tv2, T2, rfl, by omega, hk2, by simpa using hT2, b2⟩
  case round =>
    obtain ⟨k, tv, T, rfl, hk, hbk, hT, hbel⟩ := hrel
    by_cases hlt : k < 2 * n
    · have hn0 : 0 < n := by omega
      have hmod : k % n < n := Nat.mod_lt _ hn0
      obtain ⟨b, off, f, pv, cv, ps, cs, rfl, c0, c1, c2, hp, hc, q1, q2, q3⟩ := HV.out (k % n) hmod
      have hq : Int.tmod (k : Int) (n : Int) = ((k % n : Nat) : Int) := by rw [Int.tmod_eq_emod_of_nonneg (by omega)]; omega
      have hbl := World.block_lt_of_cell? w _ c0
      have d0 := (hbel.cell (by exact hbl)).trans c0
      have d1 := (hbel.cell (by exact hbl)).trans c1
      have d2 := (hbel.cell (by exact hbl)).trans c2
      clear c0 c1 c2
      have HPV : Hid (PartsV w pv ps) := hp
      have HCV : Hid (ChansV w cv cs) := hc
      obtain ⟨xa, xc, rfl, hx⟩ := hp
      clear hx
      obtain ⟨ya, yc, rfl, hx⟩ := hc
      clear hx
      have HQ3 : Hid _ := q3
      clear q3
      have hlt' : (k : Int) < 2 * (n : Int) := by omega
      have hk0 : (0 : Int) ≤ (k : Int) := by omega
      have hnn : ((n : Int) == 0) = false := by simp; omega
      generalize k % n = r at *
      have hr' : (r : Int) < (n : Int) := by omega
      have hr0 : (0 : Int) ≤ (r : Int) := by omega
      go_wp2_with fail
      refine (planned_any HPL.out wr w.heap.size w.heap.size tv T f ps cs _ _ hbk hbel.size (by omega) (PartsV.below HPV.out hbel) (ChansV.below HCV.out hbel) q1 q2 HQ3.out).mono ?_
      rintro e V1 ⟨rfl, ⟨tv1, T1, hk1, hT1⟩, hb1⟩
      clear d0 d1 d2
      go_wp2_with fail
      refine (wholeT_true V1 _ _ tv1 T1 hk1 (by omega)).mono ?_
      rintro e V2 ⟨rfl, hb2⟩
      have b3 := hbel.trans (hb1.trans (hb2.mono (Nat.le_trans hbel.size hb1.size)))
      have hk3 := hk1.below hb2
      go_wp2_with fail
      go_roundw
      case rel => exact ⟨k + 1, tv1, T1, by go_num, by omega, hk3, by omega, b3⟩
      case measure => simp [intOf]; omega
    · have hlt' : ¬ (k : Int) < 2 * (n : Int) := by omega
      go_wp2_with fail
      refine (wholeT_true wr _ _ tv T hbk (by omega)).mono ?_
      rintro e V2 ⟨rfl, hb2⟩
      go_wp2_with fail
      go_ret
      exact ⟨rfl, hbel.trans (hb2.mono hbel.size)⟩
end Go.Proofs.Yteioennfpkoagaa.C
