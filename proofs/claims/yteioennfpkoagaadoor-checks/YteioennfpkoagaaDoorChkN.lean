import Derived.Test.YteioennfpkoagaaDoorChkM
import Derived.Test.YteioennfpkoagaaDoorCdfE
namespace Go.Proofs.YteioennfpkoagaaDoor.C
open Go.RowKit
attribute [local go_sem ↓] Go.wp_at_zero Go.wp_at_succ

/- what the program asks of one partition, its name apart -/
def partE (f : Int) (x : PartD) : Int :=
  if (decide (1 ≤ x.period) && decide (x.period ≤ f)) = false then 8
  else if (f % x.period != 0) = true then 8
  else if (decide (1 ≤ x.duration) && decide (x.duration ≤ x.period)) = false then 9
  else if actL.any (sameO x.action) = false then 10
  else if regsF x.regs = false then 11 else 0
theorem partErr_eq (f : Int) (bef : List PartD) (x : PartD) : partErr f bef x = if (nameF x.name.data.toList && freshP bef x) = false then 7 else partE f x := by
  unfold partErr partE
  rw [act_is]
  by_cases h0 : (nameF x.name.data.toList && freshP bef x) = false
  · rw [if_pos h0, if_pos h0]
  rw [if_neg h0, if_neg h0]
  by_cases h1 : x.period < 1 ∨ f < x.period
  · rw [if_pos (by omega), if_pos (by rw [Bool.and_eq_false_iff]; simp; omega)]
  have n1 : ¬ (decide (1 ≤ x.period) && decide (x.period ≤ f)) = false := by rw [Bool.and_eq_false_iff]; simp; omega
  by_cases h2 : f % x.period = 0
  · have n2 : ¬ (f % x.period != 0) = true := by simp [h2]
    rw [if_neg (by omega), if_neg n1, if_neg n2]
    by_cases h3 : x.duration < 1 ∨ x.period < x.duration
    · rw [if_pos h3, if_pos (by rw [Bool.and_eq_false_iff]; simp; omega)]
    have n3 : ¬ (decide (1 ≤ x.duration) && decide (x.duration ≤ x.period)) = false := by rw [Bool.and_eq_false_iff]; simp; omega
    rw [if_neg h3, if_neg n3]
    by_cases h4 : x.action < 1 ∨ 3 < x.action
    · rw [if_pos h4, if_pos (by rw [Bool.and_eq_false_iff]; simp; omega)]
    · have n4 : ¬ (decide (1 ≤ x.action) && decide (x.action ≤ 3)) = false := by rw [Bool.and_eq_false_iff]; simp; omega
      rw [if_neg h4, if_neg n4]
  · rw [if_pos (by omega), if_neg n1, if_pos (by simp [h2])]
theorem isOption_is (os : List (ByteArray × Int)) (v : Value) (n : Int) (w : World) (hv : OptsV w v os) (hl : os.length ≤ 9) (b : Bool) (hb : os.any (sameO n) = b) :
    Calls Tryd.prog 52 #[v, .int .i64 n] w fun e w' => e = .returned (.bool b) ∧ Below w.heap.size w w' := by
  subst hb; exact isOption_any os v n w hv hl
theorem keep2 {B : Nat} {W w1 w2 : World} {a0 a1 : Addr} {v0 v1 : Value} (h : w1.cell? a0 = some v0 ∧ w1.cell? a1 = some v1 ∧ Below B W w1) (hb : Below w1.heap.size w1 w2) (hB : B ≤ W.heap.size) : w2.cell? a0 = some v0 ∧ w2.cell? a1 = some v1 ∧ Below B W w2 := by
  obtain ⟨h0, h1, hx⟩ := h
  have k : ∀ {a : Addr} {v : Value}, w1.cell? a = some v → w2.cell? a = some v := fun h => (hb.cell (World.block_lt_of_cell? w1 _ h)).trans h
  exact ⟨k h0, k h1, hx.trans (hb.mono (Nat.le_trans hB hx.size))⟩
theorem keep4c {B : Nat} {W w1 w2 : World} {a0 a1 a2 a3 : Addr} {v0 v1 v2 v3 : Value} (h : w1.cell? a0 = some v0 ∧ w1.cell? a1 = some v1 ∧ w1.cell? a2 = some v2 ∧ w1.cell? a3 = some v3 ∧ Below B W w1) (hb : Below w1.heap.size w1 w2) (hB : B ≤ W.heap.size) : w2.cell? a0 = some v0 ∧ w2.cell? a1 = some v1 ∧ w2.cell? a2 = some v2 ∧ w2.cell? a3 = some v3 ∧ Below B W w2 := by
  obtain ⟨h0, h1, h2, h3, hx⟩ := h
  have k : ∀ {a : Addr} {v : Value}, w1.cell? a = some v → w2.cell? a = some v := fun h => (hb.cell (World.block_lt_of_cell? w1 _ h)).trans h
  exact ⟨k h0, k h1, k h2, k h3, hx.trans (hb.mono (Nat.le_trans hB hx.size))⟩
set_option maxRecDepth 100000 in
set_option maxHeartbeats 2000000 in
theorem checkPartition_any (f : Int) (x : PartD) (rv : Value) (w : World) (hrv : RegsV w rv x.regs) (hcap : capV rv) (hf : 1 ≤ f ∧ f ≤ 240) (hrl : x.regs.length ≤ 4611686018427387903) :
    Calls Tryd.prog 35 #[.agg #[.string x.name, .int .i64 x.period, .int .i64 x.duration, .int .i64 x.action, rv], .int .i64 f] w fun e w' => e = .returned (.int .i64 (partE f x)) ∧ Below w.heap.size w w' := by
  have HRV : Hid (RegsV w rv x.regs) := hrv
  have HCP : Hid (capV rv) := hcap
  clear hcap
  obtain ⟨ra, rcap, rfl, hrx⟩ := hrv
  clear hrx
  have b0 : Below w.heap.size w (w.alloc (.cells #[.string x.name, .int .i64 x.period, .int .i64 x.duration, .int .i64 x.action, .slice ra x.regs.length rcap] 51)) := (Below.refl _ w).alloc (Nat.le_refl _) _
  have h0 := heap_new w (.cells #[.string x.name, .int .i64 x.period, .int .i64 x.duration, .int .i64 x.action, .slice ra x.regs.length rcap] 51)
  have HE : Hid (partE f x = partE f x) := rfl
  conv at HE => arg 1; rhs; unfold partE
  go_enter Tryd.func35, Tryd.ntmps35
  go_wp2_with fail
  generalize w.alloc (.cells #[.string x.name, .int .i64 x.period, .int .i64 x.duration, .int .i64 x.action, .slice ra x.regs.length rcap] 51) = W0 at *
  have y1 : W0.cell? ⟨w.heap.size, 1, none⟩ = some (.int .i64 x.period) := by rw [cell_of_blk h0]; rfl
  have y2 : W0.cell? ⟨w.heap.size, 2, none⟩ = some (.int .i64 x.duration) := by rw [cell_of_blk h0]; rfl
  have y3 : W0.cell? ⟨w.heap.size, 3, none⟩ = some (.int .i64 x.action) := by rw [cell_of_blk h0]; rfl
  have y4 : W0.cell? ⟨w.heap.size, 4, none⟩ = some (.slice ra x.regs.length rcap) := by rw [cell_of_blk h0]; rfl
  refine (within_any _ _ _ _).mono ?_
  rintro e w1 ⟨rfl, rfl⟩
  cases hA : (decide (1 ≤ x.period) && decide (x.period ≤ f))
  · have HX : Hid (partE f x = 8) := by show _ = _; rw [HE.out, if_pos hA]
    clear hA
    go_wp2_with fail
    go_ret
    exact ⟨by rw [HX.out]; rfl, b0⟩
  have hA' := hA
  simp only [Bool.and_eq_true, decide_eq_true_eq] at hA'
  have HA : Hid _ := hA
  clear hA
  have hpz : ¬ x.period = 0 := by omega
  have hf0 : 0 ≤ f := by omega
  have hw : IntKind.i64.wrap (f % x.period) = f % x.period := by
    have h1 := Int.emod_lt_of_pos f (show 0 < x.period by omega)
    have h2 := Int.emod_nonneg f (show x.period ≠ 0 by omega)
    exact wrap_small _ (by omega) (by omega)
  cases hR : (f % x.period != 0)
  · have HRR : Hid _ := hR
    go_wp2_with fail
    clear hR hw hpz hf0 hA'
    refine (within_any _ _ _ _).mono ?_
    rintro e w1 ⟨rfl, rfl⟩
    cases hD : (decide (1 ≤ x.duration) && decide (x.duration ≤ x.period))
    · have HX : Hid (partE f x = 9) := by show _ = _; rw [HE.out, if_neg (by rw [HA.out]; simp), if_neg (by rw [HRR.out]; simp), if_pos hD]
      clear hD
      go_wp2_with fail
      go_ret
      exact ⟨by rw [HX.out]; rfl, b0⟩
    have HD : Hid _ := hD
    clear hD
    cases hO : actL.any (sameO x.action)
    · have HX : Hid (partE f x = 10) := by show _ = _; rw [HE.out, if_neg (by rw [HA.out]; simp), if_neg (by rw [HRR.out]; simp), if_neg (by rw [HD.out]; simp), if_pos hO]
      have HO : Hid _ := hO
      clear hO
      go_wp2_with fail
      go_region_held3 (fun w' => w'.cell? ⟨w.heap.size, 3, none⟩ = some (.int .i64 x.action) ∧ w'.cell? ⟨w.heap.size, 4, none⟩ = some (.slice ra x.regs.length rcap) ∧ Below w.heap.size w w') (first | assumption | exact ⟨y3, y4, b0.drew⟩ | exact keep2 (by assumption) hb3 (Nat.le_refl _) | exact keep2 (by assumption) hb2 (Nat.le_refl _)) ((first
        | (go_at_call 44; refine (actions_c _).mono ?_; rintro e w2 ⟨v, rfl, hv, hb2⟩)
        | (go_at_call 52; refine (isOption_is actL v _ _ (by exact hv) (by decide) false HO.out).mono ?_; rintro e w3 ⟨rfl, hb3⟩)))
      have hS := ‹World.cell? _ ⟨w.heap.size, 3, none⟩ = _ ∧ _ ∧ Below w.heap.size w _›
      go_wp2_with fail
      go_ret
      exact ⟨by rw [HX.out]; rfl, hS.2.2⟩
    have HO : Hid _ := hO
    clear hO
    go_wp2_with fail
    go_region_held3 (fun w' => w'.cell? ⟨w.heap.size, 3, none⟩ = some (.int .i64 x.action) ∧ w'.cell? ⟨w.heap.size, 4, none⟩ = some (.slice ra x.regs.length rcap) ∧ Below w.heap.size w w') (first | assumption | exact ⟨y3, y4, b0.drew⟩ | exact keep2 (by assumption) hb3 (Nat.le_refl _) | exact keep2 (by assumption) hb2 (Nat.le_refl _)) ((first
      | (go_at_call 44; refine (actions_c _).mono ?_; rintro e w2 ⟨v, rfl, hv, hb2⟩)
      | (go_at_call 52; refine (isOption_is actL v _ _ (by exact hv) (by decide) true HO.out).mono ?_; rintro e w3 ⟨rfl, hb3⟩)))
    have hS := ‹World.cell? _ ⟨w.heap.size, 3, none⟩ = _ ∧ _ ∧ Below w.heap.size w _›
    obtain ⟨_, z4, b1⟩ := hS
    clear y1 y2 y3 y4
    go_wp2_with fail
    refine (areRegions_any x.regs _ _ (RegsV.below HRV.out b1) HCP.out hrl).mono ?_
    rintro e w4 ⟨rfl, hb4⟩
    have b2 := b1.trans (hb4.mono b1.size)
    have HX : Hid (partE f x = if regsF x.regs = false then 11 else 0) := by show _ = _; rw [HE.out, if_neg (by rw [HA.out]; simp), if_neg (by rw [HRR.out]; simp), if_neg (by rw [HD.out]; simp), if_neg (by rw [HO.out]; simp)]
    cases hG : regsF x.regs
    · go_wp2_with fail
      go_ret
      exact ⟨by rw [HX.out, hG]; rfl, b2⟩
    · go_wp2_with fail
      go_ret
      exact ⟨by rw [HX.out, hG]; rfl, b2⟩
  · have HX : Hid (partE f x = 8) := by show _ = _; rw [HE.out, if_neg (by rw [HA.out]; simp), if_pos hR]
    go_wp2_with fail
    go_ret
    exact ⟨by rw [HX.out]; rfl, b0⟩

/- and of one channel -/
def maxD (k f : Int) : Int := if k = 2 then f else 8
def chanE (f : Int) (n : Nat) (c : ChanD) : Int :=
  if (decide (0 ≤ c.source) && decide (c.source ≤ (n : Int) - 1)) = false then 12
  else if (decide (0 ≤ c.target) && decide (c.target ≤ (n : Int) - 1)) = false then 12
  else if (c.source == c.target) = true then 12
  else if kindL.any (sameO c.kind) = false then 13
  else if (decide (1 ≤ c.size) && decide (c.size ≤ 32)) = false then 14
  else if (decide (1 ≤ c.depth) && decide (c.depth ≤ maxD c.kind f)) = false then 15 else 0
theorem chanErr_eq (f : Int) (n : Nat) (bef : List ChanD) (c : ChanD) : chanErr f n bef c = if (nameF c.name.data.toList && freshC bef c) = false then 7 else chanE f n c := by
  unfold chanErr chanE
  rw [kind_is]
  by_cases h0 : (nameF c.name.data.toList && freshC bef c) = false
  · rw [if_pos h0, if_pos h0]
  rw [if_neg h0, if_neg h0]
  by_cases h1 : c.source < 0 ∨ (n : Int) ≤ c.source
  · rw [if_pos (by omega), if_pos (by rw [Bool.and_eq_false_iff]; simp; omega)]
  have n1 : ¬ (decide (0 ≤ c.source) && decide (c.source ≤ (n : Int) - 1)) = false := by rw [Bool.and_eq_false_iff]; simp; omega
  rw [if_neg n1]
  by_cases h2 : c.target < 0 ∨ (n : Int) ≤ c.target
  · rw [if_pos (by omega), if_pos (by rw [Bool.and_eq_false_iff]; simp; omega)]
  have n2 : ¬ (decide (0 ≤ c.target) && decide (c.target ≤ (n : Int) - 1)) = false := by rw [Bool.and_eq_false_iff]; simp; omega
  rw [if_neg n2]
  by_cases h3 : c.source = c.target
  · rw [if_pos (by omega), if_pos (by simp [h3])]
  have n3 : ¬ (c.source == c.target) = true := by simp [h3]
  rw [if_neg (by omega), if_neg n3]
  by_cases h4 : ¬ c.kind = 1 ∧ ¬ c.kind = 2
  · rw [if_pos h4, if_pos (by rw [Bool.or_eq_false_iff]; simp; omega)]
  have n4 : ¬ (decide (c.kind = 1) || decide (c.kind = 2)) = false := by rw [Bool.or_eq_false_iff]; simp; omega
  rw [if_neg h4, if_neg n4]
  by_cases h5 : c.size < 1 ∨ 32 < c.size
  · rw [if_pos h5, if_pos (by rw [Bool.and_eq_false_iff]; simp; omega)]
  have n5 : ¬ (decide (1 ≤ c.size) && decide (c.size ≤ 32)) = false := by rw [Bool.and_eq_false_iff]; simp; omega
  rw [if_neg h5, if_neg n5]
  have e : (if c.kind = 1 then (8 : Int) else f) = maxD c.kind f := by
    unfold maxD
    by_cases hk : c.kind = 1
    · rw [if_pos hk, if_neg (by omega)]
    · rw [if_neg hk, if_pos (by omega)]
  rw [e]
  by_cases h6 : c.depth < 1 ∨ maxD c.kind f < c.depth
  · rw [if_pos h6, if_pos (by rw [Bool.and_eq_false_iff]; simp; omega)]
  · have n6 : ¬ (decide (1 ≤ c.depth) && decide (c.depth ≤ maxD c.kind f)) = false := by rw [Bool.and_eq_false_iff]; simp; omega
    rw [if_neg h6, if_neg n6]
set_option maxRecDepth 100000 in
theorem maxDepth_any (k f : Int) (w : World) :
    Calls Tryd.prog 55 #[.int .i64 k, .int .i64 f] w fun e w' => e = .returned (.int .i64 (maxD k f)) ∧ w' = w := by
  unfold maxD
  go_enter Tryd.func55, Tryd.ntmps55
  by_cases h : k = 2
  · subst h
    go_wp2_with fail
    go_ret
    exact ⟨rfl, rfl⟩
  · have hb : (k == 2) = false := by simp [h]
    go_wp2_with fail
    go_ret
    exact ⟨rfl, rfl⟩
set_option maxRecDepth 100000 in
set_option maxHeartbeats 2000000 in
theorem checkChannel_any (f : Int) (n : Nat) (c : ChanD) (pa : Option Addr) (pcap : Nat) (cv : Value) (w : World) (hn : n ≤ 4611686018427387903) (hcv : ∃ a l k, cv = .slice a l k) :
    Calls Tryd.prog 38 #[.agg #[.string c.name, .int .i64 c.source, .int .i64 c.target, .int .i64 c.kind, .int .i64 c.size, .int .i64 c.depth], .agg #[.int .i64 f, .slice pa n pcap, cv]] w fun e w' => e = .returned (.int .i64 (chanE f n c)) ∧ Below w.heap.size w w' := by
  obtain ⟨ca, cl, ck, rfl⟩ := hcv
  have b0 : Below w.heap.size w ((w.alloc (.cells #[.string c.name, .int .i64 c.source, .int .i64 c.target, .int .i64 c.kind, .int .i64 c.size, .int .i64 c.depth] 53)).alloc (.cells #[.int .i64 f, .slice pa n pcap, .slice ca cl ck] 25)) := ((Below.refl _ w).alloc (Nat.le_refl _) _).alloc (by simp) _
  have h0 := heap_old _ (.cells #[.int .i64 f, .slice pa n pcap, .slice ca cl ck] 25) (heap_new w (.cells #[.string c.name, .int .i64 c.source, .int .i64 c.target, .int .i64 c.kind, .int .i64 c.size, .int .i64 c.depth] 53))
  have h1 := heap_new (w.alloc (.cells #[.string c.name, .int .i64 c.source, .int .i64 c.target, .int .i64 c.kind, .int .i64 c.size, .int .i64 c.depth] 53)) (.cells #[.int .i64 f, .slice pa n pcap, .slice ca cl ck] 25)
  simp only [World.size_alloc] at h1
  have hw : IntKind.i64.wrap ((n : Int) - 1) = (n : Int) - 1 := wrap_small _ (by omega) (by omega)
  have HE : Hid (chanE f n c = chanE f n c) := rfl
  conv at HE => arg 1; rhs; unfold chanE
  go_enter Tryd.func38, Tryd.ntmps38
  go_wp2_with fail
  generalize (w.alloc (.cells #[.string c.name, .int .i64 c.source, .int .i64 c.target, .int .i64 c.kind, .int .i64 c.size, .int .i64 c.depth] 53)).alloc (.cells #[.int .i64 f, .slice pa n pcap, .slice ca cl ck] 25) = W0 at *
  have y1 : W0.cell? ⟨w.heap.size, 1, none⟩ = some (.int .i64 c.source) := by rw [cell_of_blk h0]; rfl
  have y2 : W0.cell? ⟨w.heap.size, 2, none⟩ = some (.int .i64 c.target) := by rw [cell_of_blk h0]; rfl
  have y3 : W0.cell? ⟨w.heap.size, 3, none⟩ = some (.int .i64 c.kind) := by rw [cell_of_blk h0]; rfl
  have y4 : W0.cell? ⟨w.heap.size, 4, none⟩ = some (.int .i64 c.size) := by rw [cell_of_blk h0]; rfl
  have y5 : W0.cell? ⟨w.heap.size, 5, none⟩ = some (.int .i64 c.depth) := by rw [cell_of_blk h0]; rfl
  have z0 : W0.cell? ⟨w.heap.size + 1, 0, none⟩ = some (.int .i64 f) := by rw [cell_of_blk h1]; rfl
  clear hw h0 h1
  refine (within_any _ _ _ _).mono ?_
  rintro e w1 ⟨rfl, rfl⟩
  cases hA : (decide (0 ≤ c.source) && decide (c.source ≤ (n : Int) - 1))
  · have HX : Hid (chanE f n c = 12) := by show _ = _; rw [HE.out, if_pos hA]
    clear hA
    go_wp2_with fail
    go_ret
    exact ⟨by rw [HX.out]; rfl, b0⟩
  have HA : Hid _ := hA
  clear hA
  go_wp2_with fail
  refine (within_any _ _ _ _).mono ?_
  rintro e w1 ⟨rfl, rfl⟩
  cases hB : (decide (0 ≤ c.target) && decide (c.target ≤ (n : Int) - 1))
  · have HX : Hid (chanE f n c = 12) := by show _ = _; rw [HE.out, if_neg (by rw [HA.out]; simp), if_pos hB]
    clear hB
    go_wp2_with fail
    go_ret
    exact ⟨by rw [HX.out]; rfl, b0⟩
  have HB : Hid _ := hB
  clear hB
  cases hC : (c.source == c.target)
  · have HC : Hid _ := hC
    cases hO : kindL.any (sameO c.kind)
    all_goals (have HO : Hid _ := hO)
    all_goals clear hO
    all_goals go_wp2_with fail
    · have HX : Hid (chanE f n c = 13) := by show _ = _; rw [HE.out, if_neg (by rw [HA.out]; simp), if_neg (by rw [HB.out]; simp), if_neg (by rw [HC.out]; simp), if_pos HO.out]
      go_region_held3 (fun w' => w'.cell? ⟨w.heap.size, 3, none⟩ = some (.int .i64 c.kind) ∧ w'.cell? ⟨w.heap.size, 4, none⟩ = some (.int .i64 c.size) ∧ w'.cell? ⟨w.heap.size, 5, none⟩ = some (.int .i64 c.depth) ∧ w'.cell? ⟨w.heap.size + 1, 0, none⟩ = some (.int .i64 f) ∧ Below w.heap.size w w') (first | assumption | exact ⟨y3, y4, y5, z0, b0.drew⟩ | exact keep4c (by assumption) hb3 (Nat.le_refl _) | exact keep4c (by assumption) hb2 (Nat.le_refl _)) ((first
        | (go_at_call 46; refine (kinds_c _).mono ?_; rintro e w2 ⟨v, rfl, hv, hb2⟩)
        | (go_at_call 52; refine (isOption_is kindL v _ _ (by exact hv) (by decide) false HO.out).mono ?_; rintro e w3 ⟨rfl, hb3⟩)))
      have hS := ‹World.cell? _ ⟨w.heap.size, 3, none⟩ = _ ∧ _ ∧ _ ∧ _ ∧ Below w.heap.size w _›
      go_wp2_with fail
      go_ret
      exact ⟨by rw [HX.out]; rfl, hS.2.2.2.2⟩
    · go_region_held3 (fun w' => w'.cell? ⟨w.heap.size, 3, none⟩ = some (.int .i64 c.kind) ∧ w'.cell? ⟨w.heap.size, 4, none⟩ = some (.int .i64 c.size) ∧ w'.cell? ⟨w.heap.size, 5, none⟩ = some (.int .i64 c.depth) ∧ w'.cell? ⟨w.heap.size + 1, 0, none⟩ = some (.int .i64 f) ∧ Below w.heap.size w w') (first | assumption | exact ⟨y3, y4, y5, z0, b0.drew⟩ | exact keep4c (by assumption) hb3 (Nat.le_refl _) | exact keep4c (by assumption) hb2 (Nat.le_refl _)) ((first
        | (go_at_call 46; refine (kinds_c _).mono ?_; rintro e w2 ⟨v, rfl, hv, hb2⟩)
        | (go_at_call 52; refine (isOption_is kindL v _ _ (by exact hv) (by decide) true HO.out).mono ?_; rintro e w3 ⟨rfl, hb3⟩)))
      have hS := ‹World.cell? _ ⟨w.heap.size, 3, none⟩ = _ ∧ _ ∧ _ ∧ _ ∧ Below w.heap.size w _›
      obtain ⟨x3, x4, x5, x0, b1⟩ := hS
      clear y1 y2 y3 y4 y5 z0 hC
      go_wp2_with fail
      refine (within_any _ _ _ _).mono ?_
      rintro e w4 ⟨rfl, rfl⟩
      cases hD : (decide (1 ≤ c.size) && decide (c.size ≤ 32))
      · have HX : Hid (chanE f n c = 14) := by show _ = _; rw [HE.out, if_neg (by rw [HA.out]; simp), if_neg (by rw [HB.out]; simp), if_neg (by rw [HC.out]; simp), if_neg (by rw [HO.out]; simp), if_pos hD]
        clear hD
        go_wp2_with fail
        go_ret
        exact ⟨by rw [HX.out]; rfl, b1⟩
      have HD : Hid _ := hD
      clear hD
      have HX : Hid (chanE f n c = if (decide (1 ≤ c.depth) && decide (c.depth ≤ maxD c.kind f)) = false then 15 else 0) := by show _ = _; rw [HE.out, if_neg (by rw [HA.out]; simp), if_neg (by rw [HB.out]; simp), if_neg (by rw [HC.out]; simp), if_neg (by rw [HO.out]; simp), if_neg (by rw [HD.out]; simp)]
      cases hF : (decide (1 ≤ c.depth) && decide (c.depth ≤ maxD c.kind f))
      all_goals (have HF := within_is _ _ _ _ hF; rw [hF] at HX; clear hF)
      all_goals go_wp2_with fail
      all_goals go_quiet (first | (go_at_call 55; exact Calls.quiet_of_same (maxDepth_any _ _ _)) | (go_at_call 17; exact Calls.quiet_of_same (HF _)))
      all_goals go_wp2_with fail
      all_goals go_ret
      all_goals exact ⟨by rw [HX.out]; rfl, below_drewN b1 _⟩
  · have HX : Hid (chanE f n c = 12) := by show _ = _; rw [HE.out, if_neg (by rw [HA.out]; simp), if_neg (by rw [HB.out]; simp), if_pos hC]
    go_wp2_with fail
    go_ret
    exact ⟨by rw [HX.out]; rfl, b0⟩
end Go.Proofs.YteioennfpkoagaaDoor.C
