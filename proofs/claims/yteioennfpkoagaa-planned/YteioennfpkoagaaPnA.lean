import Derived.Test.YteioennfpkoagaaPlnV
import Derived.Test.YteioennfpkoagaaPlnM
import Derived.Test.YteioennfpkoagaaMkB
namespace Go.Proofs.Yteioennfpkoagaa.C
open Go.RowKit
attribute [local go_sem ↓] Go.wp_at_zero Go.wp_at_succ

theorem next_in {k m P : Nat} (h : k * P < m * P) : k * P + P ≤ m * P := by
  have h1 : k < m := Nat.lt_of_mul_lt_mul_right h
  have h2 := Nat.mul_le_mul_right P (show k + 1 ≤ m by omega)
  rw [Nat.succ_mul] at h2
  exact h2
theorem cnt_bd (ps : List PartD) (i a r : Nat) : 0 ≤ cntF ps i a r ∧ cntF ps i a r ≤ r := by
  induction r with
  | zero => simp [cntF]
  | succ r ih => simp only [cntF]; split <;> omega
set_option maxRecDepth 100000 in
set_option maxHeartbeats 4000000 in
theorem planned_law (hMade : MadeK) (w : World) (u : Value) (L : List Int) (hL : IntsV w u L) :
    Calls Try.prog 4 #[u] w fun e w' => e = .returned (.bool true) ∧ Below w.heap.size w w' := by
  have HM : Hid _ := hMade w u L hL
  clear hMade hL
  go_enter Try.func4, Try.ntmps4
  go_wp2_with fail
  refine Calls.mono HM.out ?_
  rintro e w1 ⟨F, ps, cs, pv, cv, rfl, hpv, hcv, hpc, hcc, hF, ⟨i0, left, hLI, hi0⟩, hne, hCI, hcl, hb1⟩
  have hz : checkF ⟨F, ps, cs⟩ = 0 := made_chk hF hLI hi0 hne hCI hcl
  obtain ⟨hT, hS⟩ := check_fit hz
  have hco := check_ok hz
  simp only [] at hT hS
  have hpl : ps.length ≤ 8 := hco.2.2.1
  have hrl : ∀ i (hi : i < ps.length), ps[i].regs.length ≤ 1048576 := fun i hi => by have := (hco.2.2.2.2.1 i hi).1; simp only [] at this; omega
  have HPV : Hid _ := hpv
  have HCV : Hid _ := hcv
  obtain ⟨va, cap, rfl, hx⟩ := hpv
  clear hx
  obtain ⟨ca, ck, rfl, hx⟩ := hcv
  clear hx
  obtain ⟨n, rfl⟩ : ∃ n : Nat, F = n := ⟨F.toNat, by omega⟩
  have b0 := newB w1 (.cells #[.int .i64 n, .slice va ps.length cap, .slice ca cs.length ck] 34)
  have h0 := heap_new w1 (.cells #[.int .i64 n, .slice va ps.length cap, .slice ca cs.length ck] 34)
  have HPLAN : Hid _ := planC_true n ps cs _ _ _ (PartsV.below HPV.out b0) (PartsC.below HPV.out hpc b0) (ChansV.below HCV.out b0) hcc (by omega) (by omega) hrl
  have HT : Hid _ := hT
  have HS : Hid _ := hS
  have HZ : Hid _ := hz
  have HB0 : Hid _ := b0
  have HH0 : Hid _ := h0
  clear hpc hcc hLI hne hCI hco hrl hT hS hz b0 h0
  go_wp2_with fail
  generalize w1.alloc (.cells #[.int .i64 n, .slice va ps.length cap, .slice ca cs.length ck] 34) = W0 at *
  refine Calls.mono HPLAN.out ?_
  rintro e w2 hor
  obtain ⟨_, hb2, v, rfl, hown⟩ : checkF ⟨n, ps, cs⟩ = 0 ∧ Below W0.heap.size W0 w2 ∧ ∃ v, e = .returned (.tuple #[v, .int .i64 0]) ∧ w2.ownsRow W0.heap.size 3 1 v (planF ⟨n, ps, cs⟩).length (intsC (planF ⟨n, ps, cs⟩)) := by
    rcases hor with ⟨h, _⟩ | h
    · exact absurd HZ.out h
    · exact h
  have epl : planF ⟨n, ps, cs⟩ = (planN ps n).1 := rfl
  rw [epl, (planN_len ps n).1] at hown
  obtain ⟨g, gc, rfl, _⟩ : ∃ g cap, v = .slice (some ⟨g, 0, none⟩) n cap ∧ n ≤ cap := by
    rcases own_form hown with ⟨h, _⟩ | h
    · omega
    · exact h
  have HTK : Hid (∀ t, t < n → w2.cell? ⟨g, t, none⟩ = some (.int .i64 (tickF ps t))) := fun t ht => by
    rw [World.ownsRow.cellAt hown t (by omega), intsC_at _ _ (by rw [(planN_len ps n).1]; exact ht), plan_at ps n t ht]
  have HMB : Hid (w2.heap[w1.heap.size]? = some (.cells #[.int .i64 n, .slice va ps.length cap, .slice ca cs.length ck] 34 (0, 0))) := keepN HH0.out hb2
  have HPV2 : Hid (PartsV w2 (.slice va ps.length cap) ps) := PartsV.below (PartsV.below HPV.out HB0.out) hb2
  have HBW : Hid (Below w.heap.size w w2) := (hb1.trans (HB0.out.mono hb1.size)).trans (hb2.mono (Nat.le_trans hb1.size HB0.out.size))
  have y0 : w2.cell? ⟨w1.heap.size, 0, none⟩ = some (.int .i64 n) := by rw [cell_of_blk HMB.out]; rfl
  have y1 : w2.cell? ⟨w1.heap.size, 1, none⟩ = some (.slice va ps.length cap) := by rw [cell_of_blk HMB.out]; rfl
  have hmw : w1.heap.size < w2.heap.size := lt_of_blk HMB.out
  have hgw : g < w2.heap.size := by
    have := HTK.out 0 (by omega)
    exact World.block_lt_of_cell? w2 _ this
  clear hown hor hb1 hb2
  have h00 : (0 : Int) = 0 := rfl
  go_wp2_with fail
  go_loopw [6] (fun i wr => ∃ k : Nat, i = .int .i64 k ∧ k ≤ ps.length ∧ Hid (Below w2.heap.size w2 wr)) (fun i _ => ps.length - (intOf i).toNat)
  case atStart => exact ⟨0, rfl, by omega, Below.refl _ _⟩
  case round =>
    obtain ⟨i, rfl, hi, HB⟩ := hrel
    have q0 : wr.cell? ⟨w1.heap.size, 0, none⟩ = some (.int .i64 n) := (HB.out.cell hmw).trans y0
    have q1 : wr.cell? ⟨w1.heap.size, 1, none⟩ = some (.slice va ps.length cap) := (HB.out.cell hmw).trans y1
    by_cases hlt : i < ps.length
    · have hlt' : (i : Int) < (ps.length : Int) := by omega
      have hi0 : (0 : Int) ≤ (i : Int) := by omega
      have HC := HPV2.out
      obtain ⟨va', cap', eva, hc⟩ := HC
      simp only [Value.slice.injEq, true_and] at eva
      obtain ⟨rfl, rfl⟩ := eva
      obtain ⟨b, off, rv, rfl, c0, c1, c2, c3, c4, hrv⟩ := hc i hlt
      obtain ⟨ra, rcap, rfl, hrx⟩ := hrv
      clear hrx hc
      have hbl := World.block_lt_of_cell? w2 _ c0
      have d0 := (HB.out.cell (by exact hbl)).trans c0
      have d1 := (HB.out.cell (by exact hbl)).trans c1
      have d2 := (HB.out.cell (by exact hbl)).trans c2
      have d3 := (HB.out.cell (by exact hbl)).trans c3
      have d4 := (HB.out.cell (by exact hbl)).trans c4
      clear c0 c1 c2 c3 c4
      obtain ⟨o1, o2⟩ := HS.out.per i hlt
      obtain ⟨o3, o4⟩ := HS.out.dur i hlt
      have HPE : Hid (perF ps i = ps[i].period) := by show _ = _; unfold perF; rw [dif_pos hlt]
      have HDE : Hid (durF ps i = ps[i].duration) := by show _ = _; unfold durF; rw [dif_pos hlt]
      have HDV : Hid ((n : Int) % ps[i].period = 0) := (HT.out.per i hlt).2
      generalize ps[i] = x at *
      obtain ⟨xn, xper, xdur, xact, xreg⟩ := x
      simp only [] at d0 d1 d2 d3 d4 o1 o2 o3 o4 HPE HDE HDV
      obtain ⟨P, rfl⟩ : ∃ P : Nat, xper = P := ⟨xper.toNat, by omega⟩
      have HMP : Hid (∃ m, n = m * P) := ⟨n / P, by
        have h1 : n % P = 0 := by have := HDV.out; exact_mod_cast this
        have h2 := Nat.div_add_mod n P
        rw [h1, Nat.add_zero, Nat.mul_comm] at h2
        exact h2.symm⟩
      have ba : Below wr.heap.size wr (wr.alloc (.cells #[.string xn, .int .i64 P, .int .i64 xdur, .int .i64 xact, .slice ra xreg.length rcap] 45)) := newB _ _
      have h1 := heap_new wr (.cells #[.string xn, .int .i64 P, .int .i64 xdur, .int .i64 xact, .slice ra xreg.length rcap] 45)
      have HB3 : Hid (Below w2.heap.size w2 (wr.alloc (.cells #[.string xn, .int .i64 P, .int .i64 xdur, .int .i64 xact, .slice ra xreg.length rcap] 45))) := HB.out.trans (ba.mono HB.out.size)
      have h100 : (0 : Int) < (n : Int) := by omega
      clear ba
      go_wp2_with fail
      clear d0 d1 d2 d3 d4 q0 q1
      generalize wr.alloc (.cells #[.string xn, .int .i64 P, .int .i64 xdur, .int .i64 xact, .slice ra xreg.length rcap] 45) = W3 at *
      generalize wr.heap.size = nb at *
      have e1 : W3.cell? ⟨nb, 1, none⟩ = some (.int .i64 P) := by rw [cell_of_blk h1]; rfl
      have e2 : W3.cell? ⟨nb, 2, none⟩ = some (.int .i64 xdur) := by rw [cell_of_blk h1]; rfl
      have q0 : W3.cell? ⟨w1.heap.size, 0, none⟩ = some (.int .i64 n) := (HB3.out.cell hmw).trans y0
      have HTK3 : Hid (∀ t, t < n → W3.cell? ⟨g, t, none⟩ = some (.int .i64 (tickF ps t))) := fun t ht => (HB3.out.cell (by exact hgw)).trans (HTK.out t ht)
      clear h1
      go_loopw [8] (fun fr wr2 => ∃ (a k : Nat), fr = .int .i64 a ∧ Hid (a = k * P) ∧ a ≤ n ∧ wr2 = W3) (fun fr _ => n - (intOf fr).toNat)
      case atStart => exact ⟨0, 0, rfl, by show _ = _; simp, by omega, rfl⟩
      case round =>
        obtain ⟨a, k, rfl, HA, ha, hwe⟩ := hrel
        have hwe2 := hwe.symm
        clear hwe
        subst hwe2
        by_cases hal : a < n
        · have hal' : (a : Int) < (n : Int) := by omega
          have hnx : a + P ≤ n := by
            obtain ⟨m, hm⟩ := HMP.out
            have h2 := HA.out
            rw [h2, hm]
            exact next_in (by rw [← h2, ← hm]; exact hal)
          go_wp2_with fail
          go_loopw [9, 10] (fun c tt wr3 => ∃ r : Nat, tt = .int .i64 ((a + r : Nat) : Int) ∧ c = .int .i64 (cntF ps i a r) ∧ r ≤ P ∧ wr3 = W3) (fun _ tt _ => a + P - (intOf tt).toNat)
          case atStart => exact ⟨0, rfl, rfl, by omega, rfl⟩
          case round =>
            obtain ⟨r, rfl, rfl, hr, hwe⟩ := hrel
            have hwe2 := hwe.symm
            clear hwe
            subst hwe2
            have hcb := cnt_bd ps i a r
            by_cases hrl : r < P
            · have hrl' : ((a + r : Nat) : Int) < (a : Int) + (P : Int) := by omega
              have htn : ((a + r : Nat) : Int) < (n : Int) := by omega
              have ht0 : (0 : Int) ≤ ((a + r : Nat) : Int) := by omega
              have tk := HTK3.out (a + r) (by omega)
              obtain ⟨c, hc⟩ : ∃ c, cntF ps i a r = c := ⟨_, rfl⟩
              have HCC : Hid (cntF ps i a r = c) := hc
              rw [hc] at hcb ⊢
              clear hc
              obtain ⟨s, hs⟩ : ∃ s : Nat, a + r = s := ⟨_, rfl⟩
              have HSS : Hid (a + r = s) := hs
              rw [hs] at tk htn ht0 hrl' ⊢
              clear hs
              by_cases htk : tickF ps s = (i : Int)
              · have HNX : Hid (cntF ps i a (r + 1) = c + 1) := by
                  show cntF ps i a r + (if tickF ps (a + r) = (i : Int) then 1 else 0) = c + 1
                  rw [HSS.out, if_pos htk, HCC.out]
                rw [htk] at tk
                clear htk
                go_wp2_with fail
                refine ⟨⟨r + 1, ?_, by rw [HNX.out], by omega, trivial⟩, by have := HSS.out; simp [intOf]; omega⟩
                rw [← Nat.add_assoc, HSS.out]; rfl
              · have HNX : Hid (cntF ps i a (r + 1) = c) := by
                  show cntF ps i a r + (if tickF ps (a + r) = (i : Int) then 1 else 0) = c
                  rw [HSS.out, if_neg htk, HCC.out, Int.add_zero]
                generalize tickF ps s = tv at *
                go_wp2_with fail
                refine ⟨⟨r + 1, ?_, by rw [HNX.out], by omega, trivial⟩, by have := HSS.out; simp [intOf]; omega⟩
                rw [← Nat.add_assoc, HSS.out]; rfl
            · have hre : r = P := by omega
              have hrl' : ¬ ((a + r : Nat) : Int) < (a : Int) + (P : Int) := by omega
              have hcw : cntF ps i a r = xdur := by
                rw [hre, HA.out, cnt_whole HT.out hlt HPE.out, HDE.out]
              rw [hcw]
              clear hcw hcb
              obtain ⟨s, hs⟩ : ∃ s : Nat, a + r = s := ⟨_, rfl⟩
              have HSS : Hid (a + r = s) := hs
              rw [hs] at hrl' ⊢
              have HRE : Hid (r = P) := hre
              clear hs hre
              have hxd : (xdur != xdur) = false := by simp
              go_wp2_with fail
              refine ⟨⟨a + P, k + 1, by go_num, ?_, hnx, trivial⟩, by simp [intOf]; omega⟩
              show a + P = (k + 1) * P
              rw [Nat.succ_mul, ← HA.out]
        · have hal' : ¬ (a : Int) < (n : Int) := by omega
          go_wp2_with fail
          exact ⟨⟨i + 1, by go_num, by omega, HB3⟩, by simp [intOf]; omega⟩
    · have hlt' : ¬ (i : Int) < (ps.length : Int) := by omega
      go_wp2_with fail
      generalize wr = W4 at *
      go_loopw [11] (fun tt wr => ∃ t : Nat, tt = .int .i64 t ∧ t ≤ n ∧ Hid (Below w2.heap.size w2 wr)) (fun tt _ => n - (intOf tt).toNat)
      case atStart => exact ⟨0, rfl, by omega, HB⟩
      case round =>
        obtain ⟨t, rfl, ht, HB5⟩ := hrel
        by_cases htl : t < n
        · have htl' : (t : Int) < (n : Int) := by omega
          have ht0 : (0 : Int) ≤ (t : Int) := by omega
          have tk : wr.cell? ⟨g, t, none⟩ = some (.int .i64 (tickF ps t)) := (HB5.out.cell (by exact hgw)).trans (HTK.out t htl)
          have q5 : wr.cell? ⟨w1.heap.size, 1, none⟩ = some (.slice va ps.length cap) := (HB5.out.cell hmw).trans y1
          obtain ⟨tb1, tb2⟩ := tick_in ps t
          generalize tickF ps t = tv at *
          have g1 : decide (tv < -1) = false := decide_eq_false (by omega)
          have g1' : ¬ tv < -1 := by omega
          have g2 : ¬ (ps.length : Int) ≤ tv := by omega
          have g2' : decide ((ps.length : Int) ≤ tv) = false := decide_eq_false g2
          go_wp2_with fail
          go_quiet (fail)
          go_wp2_with fail
          exact ⟨⟨t + 1, by go_num, by omega, below_drewN HB5.out _⟩, by simp [intOf]; omega⟩
        · have htl' : ¬ (t : Int) < (n : Int) := by omega
          go_wp2_with fail
          go_ret
          exact ⟨rfl, HBW.out.trans (HB5.out.mono HBW.out.size)⟩
end Go.Proofs.Yteioennfpkoagaa.C
