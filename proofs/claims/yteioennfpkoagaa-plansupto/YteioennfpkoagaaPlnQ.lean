import Derived.Test.YteioennfpkoagaaPlnP
namespace Go.Proofs.Yteioennfpkoagaa.C
open Go.RowKit
attribute [local go_sem ↓] Go.wp_at_zero Go.wp_at_succ

set_option maxRecDepth 100000 in
set_option maxHeartbeats 4000000 in
theorem down_any (w : World) (tb : Nat) (q : List TurnD) (n : Nat) (hq : TQ w tb q) (hd : DnI q n 0) (hn : q.length ≤ 100000) :
    Calls Try.prog 61 #[.iface 84 (.pointer (some ⟨tb, 0, none⟩)), .int .i64 0, .int .i64 n] w fun e w' => (∃ b, e = .returned (.bool b)) ∧ (∃ q', TQ w' tb q' ∧ HeapQ q' n ∧ q'.Perm q ∧ ∀ k, n ≤ k → atQ q' k = atQ q k) ∧ KF tb w w' := by
  have HQ : Hid (TQ w tb q) := hq
  have HU : Hid (DnI q n 0) := hd
  have hnl := hd.le
  clear hq hd
  go_enter Try.func61, Try.ntmps61
  go_wp2_with fail
  go_loopw [7] (fun iv wr => ∃ (i : Nat) (q1 : List TurnD), iv = .int .i64 i ∧ Hid (TQ wr tb q1) ∧ Hid (DnI q1 n i) ∧ Hid (q1.Perm q) ∧ Hid (∀ k, n ≤ k → atQ q1 k = atQ q k) ∧ i ≤ n ∧ Hid (KF tb w wr)) (fun iv _ => n - (intOf iv).toNat)
  case atStart => exact ⟨0, q, rfl, HQ, HU, List.Perm.refl _, fun _ _ => rfl, by omega, KF.refl _ _⟩
  case round =>
    obtain ⟨i, q1, rfl, HT, HD, HP, HS, hi, HB⟩ := hrel
    by_cases h1 : 2 * i + 1 < n
    · have h1' : 2 * (i : Int) + 1 < (n : Int) := by omega
      have h1n : ¬ (n : Int) ≤ 2 * (i : Int) + 1 := by omega
      have h1p : ¬ 2 * (i : Int) + 1 < 0 := by omega
      have hl1 : q1.length = q.length := HP.out.length_eq
      have hnq : n ≤ q1.length := by omega
      have hq1 : q1.length ≤ 100000 := by omega
      clear hl1
      obtain ⟨g, cap, b0, hg, hcap, hr⟩ := TQ.ne HT.out (by omega)
      obtain ⟨c0, f0⟩ := TQ.cell b0
      have ml := m_less c0
      have HR : Hid _ := hr
      have B0 : Hid _ := b0
      have hbl := lt_of_blk b0
      clear hr b0
      obtain ⟨a, ha, han⟩ : ∃ a : Nat, 2 * (i : Int) + 1 = (a : Int) ∧ a = 2 * i + 1 := ⟨2 * i + 1, by omega, rfl⟩
      have HA : Hid (a = 2 * i + 1) := han
      have k1 : (a : Int) < (n : Int) := by omega
      have k2 : ¬ (n : Int) ≤ (a : Int) := by omega
      have k3 : ¬ (a : Int) < 0 := by omega
      clear h1' h1n h1p
      by_cases h2 : 2 * i + 2 < n
      · have h2' : (a : Int) + 1 < (n : Int) := by omega
        obtain ⟨b, hb, hbn⟩ : ∃ b : Nat, (a : Int) + 1 = (b : Int) ∧ b = 2 * i + 2 := ⟨2 * i + 2, by omega, rfl⟩
        have HBN : Hid (b = 2 * i + 2) := hbn
        have h2'' : (b : Int) < (n : Int) := by omega
        clear han hbn h2'
        go_wp2_with fail
        refine Calls.mono (less_any wr (tb + 1) g cap q1 b a (by have := HBN.out; omega) (by have := HA.out; omega) HR.out) ?_
        rintro e w2 ⟨rfl, hb2⟩
        have HT2 : TQ w2 tb q1 := HT.out.below hb2
        obtain ⟨g2, cap2, b2, hg2, hcap2, hr2⟩ := TQ.ne HT2 (by omega)
        obtain ⟨c2, f2⟩ := TQ.cell b2
        have ml2 := m_less c2
        have hbw2 : KF tb w w2 := HB.out.trans (KF.all hb2 hbl)
        have hbl2 := lt_of_blk b2
        have R2 : Hid _ := hr2
        clear hr2 b2 ml c0 f0
        cases hlk : lessB (atQ q1 b) (atQ q1 a)
        · have HK : Hid (kidQ q1 n i = a) := by
            have e1 := HA.out
            have e2 := HBN.out
            subst e1 e2
            show kidQ q1 n i = _
            unfold kidQ
            rw [if_neg (fun h => by rw [hlk] at h; exact absurd h.2 (by simp))]
          clear hlk
          go_wp2_with fail
          refine Calls.mono (less_any w2 (tb + 1) g2 cap2 q1 a i (by have := HA.out; omega) (by have := HA.out; omega) R2.out) ?_
          rintro e w4 ⟨rfl, hb4⟩
          have HT4 : TQ w4 tb q1 := HT2.below hb4
          obtain ⟨g4, cap4, b4, hg4, hcap4, hr4⟩ := TQ.ne HT4 (by have := HA.out; omega)
          obtain ⟨c4, f4⟩ := TQ.cell b4
          have ms := m_swap c4
          have hbw4 : KF tb w w4 := hbw2.trans (KF.all hb4 hbl2)
          have HSW : Hid _ := swap_any w4 tb g4 cap4 q1 i a (by have := HA.out; omega) (by have := HA.out; omega) hg4 b4 hr4
          clear hr4 b4
          cases hls : lessB (atQ q1 a) (atQ q1 i)
          · have HLS : Hid _ := hls
            clear hls
            go_wp2_with fail
            go_ret
            exact ⟨⟨_, rfl⟩, ⟨q1, HT4, HD.out.stop (by have := HA.out; omega) (by rw [HK.out]; exact HLS.out), HP.out, HS.out⟩, hbw4⟩
          · have HLS : Hid _ := hls
            clear hls
            go_wp2_with fail
            refine Calls.mono HSW.out ?_
            rintro e w5 ⟨rfl, ht5, hb5⟩
            go_wp2_with fail
            refine ⟨⟨a, swapQ q1 i a, rfl, ht5, ?_, (swapQ_perm (by have := HA.out; omega) (by have := HA.out; omega)).trans HP.out, ?_, by have := HA.out; omega, hbw4.trans hb5⟩, by have := HA.out; simp [intOf]; omega⟩
            · have hs := HD.out.step (by have := HA.out; omega) (by rw [HK.out]; exact HLS.out)
              rw [HK.out] at hs
              exact hs
            · intro k hk
              rw [atQ_swap (by have := HA.out; omega) (by have := HA.out; omega), if_neg (by have := HA.out; omega), if_neg (by have := HA.out; omega)]
              exact HS.out k hk
        · have HK : Hid (kidQ q1 n i = b) := by
            have e1 := HA.out
            have e2 := HBN.out
            subst e1 e2
            show kidQ q1 n i = _
            unfold kidQ
            rw [if_pos ⟨h2, hlk⟩]
          clear hlk
          go_wp2_with fail
          refine Calls.mono (less_any w2 (tb + 1) g2 cap2 q1 b i (by have := HBN.out; omega) (by have := HBN.out; omega) R2.out) ?_
          rintro e w4 ⟨rfl, hb4⟩
          have HT4 : TQ w4 tb q1 := HT2.below hb4
          obtain ⟨g4, cap4, b4, hg4, hcap4, hr4⟩ := TQ.ne HT4 (by have := HBN.out; omega)
          obtain ⟨c4, f4⟩ := TQ.cell b4
          have ms := m_swap c4
          have hbw4 : KF tb w w4 := hbw2.trans (KF.all hb4 hbl2)
          have HSW : Hid _ := swap_any w4 tb g4 cap4 q1 i b (by have := HBN.out; omega) (by have := HBN.out; omega) hg4 b4 hr4
          clear hr4 b4
          cases hls : lessB (atQ q1 b) (atQ q1 i)
          · have HLS : Hid _ := hls
            clear hls
            go_wp2_with fail
            go_ret
            exact ⟨⟨_, rfl⟩, ⟨q1, HT4, HD.out.stop (by have := HBN.out; omega) (by rw [HK.out]; exact HLS.out), HP.out, HS.out⟩, hbw4⟩
          · have HLS : Hid _ := hls
            clear hls
            go_wp2_with fail
            refine Calls.mono HSW.out ?_
            rintro e w5 ⟨rfl, ht5, hb5⟩
            go_wp2_with fail
            refine ⟨⟨b, swapQ q1 i b, rfl, ht5, ?_, (swapQ_perm (by have := HBN.out; omega) (by have := HBN.out; omega)).trans HP.out, ?_, by have := HBN.out; omega, hbw4.trans hb5⟩, by have := HBN.out; simp [intOf]; omega⟩
            · have hs := HD.out.step (by have := HBN.out; omega) (by rw [HK.out]; exact HLS.out)
              rw [HK.out] at hs
              exact hs
            · intro k hk
              rw [atQ_swap (by have := HBN.out; omega) (by have := HBN.out; omega), if_neg (by have := HBN.out; omega), if_neg (by have := HBN.out; omega)]
              exact HS.out k hk
      · have h2' : ¬ (a : Int) + 1 < (n : Int) := by omega
        have h2d : decide ((a : Int) + 1 < (n : Int)) = false := decide_eq_false h2'
        clear han
        go_wp2_with fail
        have HK : Hid (kidQ q1 n i = a) := by
          have e1 := HA.out
          subst e1
          show kidQ q1 n i = _
          unfold kidQ
          rw [if_neg (fun h => h2 h.1)]
        have HT2 := HT.out
        have hbl2 := hbl
        have hbw2 := HB.out
        refine Calls.mono (less_any wr (tb + 1) g cap q1 a i (by have := HA.out; omega) (by have := HA.out; omega) HR.out) ?_
        rintro e w4 ⟨rfl, hb4⟩
        have HT4 : TQ w4 tb q1 := HT2.below hb4
        obtain ⟨g4, cap4, b4, hg4, hcap4, hr4⟩ := TQ.ne HT4 (by have := HA.out; omega)
        obtain ⟨c4, f4⟩ := TQ.cell b4
        have ms := m_swap c4
        have hbw4 : KF tb w w4 := hbw2.trans (KF.all hb4 hbl2)
        have HSW : Hid _ := swap_any w4 tb g4 cap4 q1 i a (by have := HA.out; omega) (by have := HA.out; omega) hg4 b4 hr4
        clear hr4 b4
        cases hls : lessB (atQ q1 a) (atQ q1 i)
        · have HLS : Hid _ := hls
          clear hls
          go_wp2_with fail
          go_ret
          exact ⟨⟨_, rfl⟩, ⟨q1, HT4, HD.out.stop (by have := HA.out; omega) (by rw [HK.out]; exact HLS.out), HP.out, HS.out⟩, hbw4⟩
        · have HLS : Hid _ := hls
          clear hls
          go_wp2_with fail
          refine Calls.mono HSW.out ?_
          rintro e w5 ⟨rfl, ht5, hb5⟩
          go_wp2_with fail
          refine ⟨⟨a, swapQ q1 i a, rfl, ht5, ?_, (swapQ_perm (by have := HA.out; omega) (by have := HA.out; omega)).trans HP.out, ?_, by have := HA.out; omega, hbw4.trans hb5⟩, by have := HA.out; simp [intOf]; omega⟩
          · have hs := HD.out.step (by have := HA.out; omega) (by rw [HK.out]; exact HLS.out)
            rw [HK.out] at hs
            exact hs
          · intro k hk
            rw [atQ_swap (by have := HA.out; omega) (by have := HA.out; omega), if_neg (by have := HA.out; omega), if_neg (by have := HA.out; omega)]
            exact HS.out k hk
    · have h1' : (n : Int) ≤ 2 * (i : Int) + 1 := by omega
      go_wp2_with fail
      go_ret
      exact ⟨⟨_, rfl⟩, ⟨q1, HT.out, HD.out.stop0 (by omega), HP.out, HS.out⟩, HB.out⟩
end Go.Proofs.Yteioennfpkoagaa.C
