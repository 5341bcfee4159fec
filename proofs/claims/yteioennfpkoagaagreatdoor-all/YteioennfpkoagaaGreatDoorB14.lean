import Derived.Test.YteioennfpkoagaaGreatDoorB13
import Derived.Deep.LoopGhost
import Derived.Test.YteioennfpkoagaaGreatDoorB05
namespace Go.Proofs.YteioennfpkoagaaGreatDoor.C
open Go.RowKit
attribute [local go_sem ↓] Go.wp_at_zero Go.wp_at_succ

theorem m_push (a : Addr) (w : World) : (method 488 255 (.pointer (some a)) "Push").run Tryz.prog w = .ok (309, .pointer (some a)) w := by kernel_rfl
theorem m_pop (a : Addr) (w : World) : (method 488 255 (.pointer (some a)) "Pop").run Tryz.prog w = .ok (308, .pointer (some a)) w := by kernel_rfl
theorem load_run {α : Type} {a : Addr} {w : World} {v : Value} (h : w.cell? a = some v) (k : Value → Sem α) : (Sem.load .plain a k).run Tryz.prog w = (k v).run Tryz.prog w := by
  conv => lhs; unfold Sem.run
  rw [h]
theorem m_len0 (a : Addr) (w : World) : (method 488 255 (.pointer (some a)) "Len").run Tryz.prog w = (Sem.load .plain a fun v => .pure (173, v)).run Tryz.prog w := by kernel_rfl
theorem m_len {a : Addr} {w : World} {v : Value} (h : w.cell? a = some v) : (method 488 255 (.pointer (some a)) "Len").run Tryz.prog w = .ok (173, v) w := by rw [m_len0, load_run h]; rfl
theorem m_less0 (a : Addr) (w : World) : (method 488 255 (.pointer (some a)) "Less").run Tryz.prog w = (Sem.load .plain a fun v => .pure (302, v)).run Tryz.prog w := by kernel_rfl
theorem m_less {a : Addr} {w : World} {v : Value} (h : w.cell? a = some v) : (method 488 255 (.pointer (some a)) "Less").run Tryz.prog w = .ok (302, v) w := by rw [m_less0, load_run h]; rfl
theorem m_swap0 (a : Addr) (w : World) : (method 488 255 (.pointer (some a)) "Swap").run Tryz.prog w = (Sem.load .plain a fun v => .pure (303, v)).run Tryz.prog w := by kernel_rfl
theorem m_swap {a : Addr} {w : World} {v : Value} (h : w.cell? a = some v) : (method 488 255 (.pointer (some a)) "Swap").run Tryz.prog w = .ok (303, v) w := by rw [m_swap0, load_run h]; rfl
set_option maxRecDepth 100000 in
set_option maxHeartbeats 4000000 in
theorem up_any (w : World) (tb : Nat) (q : List TurnD) (j : Nat) (hq : TQ w tb q) (hu : UpI q j) (hn : q.length ≤ 100000) :
    Calls Tryz.prog 218 #[.iface 255 (.pointer (some ⟨tb, 0, none⟩)), .int .i64 j] w fun e w' => e = .returned (.tuple #[]) ∧ (∃ q', TQ w' tb q' ∧ HeapQ q' q'.length ∧ q'.Perm q) ∧ KF tb w w' := by
  have HQ : Hid (TQ w tb q) := hq
  have HU : Hid (UpI q j) := hu
  clear hq hu
  go_enter Tryz.func218, Tryz.ntmps218
  go_wp2_with fail
  go_loopw [1] (fun jv wr => ∃ (k : Nat) (q1 : List TurnD), jv = .int .i64 k ∧ Hid (TQ wr tb q1) ∧ Hid (UpI q1 k) ∧ Hid (q1.Perm q) ∧ k < q.length ∧ Hid (KF tb w wr)) (fun jv _ => (intOf jv).toNat)
  case atStart => exact ⟨j, q, rfl, HQ, HU, List.Perm.refl _, HU.out.lt, KF.refl _ _⟩
  case round =>
    obtain ⟨k, q1, rfl, HT, HI, HP, hk, HB⟩ := hrel
    rcases Nat.eq_zero_or_pos k with h0 | h0
    · subst h0
      go_wp2_with fail
      go_end0
      exact ⟨rfl, ⟨q1, HT.out, HI.out.stop (.inl rfl), HP.out⟩, HB.out⟩
    · have hl1 : q1.length = q.length := HP.out.length_eq
      obtain ⟨g, cap, b0, hg, hcap, hr⟩ := TQ.ne HT.out (by omega)
      obtain ⟨c0, f0⟩ := TQ.cell b0
      have ml := m_less c0
      obtain ⟨p, hp, hpn, hpk⟩ : ∃ p : Nat, ((k : Int) - 1) / 2 = (p : Int) ∧ (k - 1) / 2 = p ∧ p < k := ⟨(k - 1) / 2, by omega, rfl, by omega⟩
      have hpe : ¬ (p : Int) = (k : Int) := by omega
      have HPN : Hid ((k - 1) / 2 = p) := hpn
      have HL1 : Hid (q1.length = q.length) := hl1
      have HR : Hid _ := hr
      have B0 : Hid _ := b0
      have hk1 : k < q1.length := by omega
      clear hpn b0 hr hl1
      go_wp2_with fail
      refine Calls.mono (less_any wr (tb + 1) g cap q1 k p (by omega) (by omega) HR.out) ?_
      rintro e w2 ⟨rfl, hb2⟩
      have HT2 : TQ w2 tb q1 := HT.out.below hb2
      obtain ⟨g2, cap2, b2, hg2, hcap2, hr2⟩ := TQ.ne HT2 (by omega)
      obtain ⟨c2, f2⟩ := TQ.cell b2
      have ms := m_swap c2
      have hbw : KF tb w w2 := HB.out.trans (KF.all hb2 (lt_of_blk B0.out))
      cases hls : lessB (atQ q1 k) (atQ q1 p)
      · have HLS : Hid _ := hls
        clear hls
        go_wp2_with fail
        go_end0
        refine ⟨rfl, ⟨q1, HT2, HI.out.stop (.inr ?_), HP.out⟩, hbw⟩
        rw [HPN.out]; exact HLS.out
      · have HLS : Hid _ := hls
        clear hls
        go_wp2_with fail
        refine Calls.mono (swap_any w2 tb g2 cap2 q1 p k (by omega) (by omega) hg2 b2 hr2) ?_
        rintro e w3 ⟨rfl, ht3, hb3⟩
        go_wp2_with fail
        refine ⟨⟨p, swapQ q1 p k, rfl, ht3, ?_, (swapQ_perm (by omega) hk1).trans HP.out, by omega, hbw.trans hb3⟩, by simp [intOf]; omega⟩
        have hs := HI.out.step h0 (by rw [HPN.out]; exact HLS.out)
        rw [HPN.out] at hs
        exact hs
end Go.Proofs.YteioennfpkoagaaGreatDoor.C
namespace Go.Proofs.YteioennfpkoagaaGreatDoor.C
open Go.RowKit
attribute [local go_sem ↓] Go.wp_at_zero Go.wp_at_succ

set_option maxRecDepth 100000 in
set_option maxHeartbeats 4000000 in
theorem down_any (w : World) (tb : Nat) (q : List TurnD) (n : Nat) (hq : TQ w tb q) (hd : DnI q n 0) (hn : q.length ≤ 100000) :
    Calls Tryz.prog 219 #[.iface 255 (.pointer (some ⟨tb, 0, none⟩)), .int .i64 0, .int .i64 n] w fun e w' => (∃ b, e = .returned (.bool b)) ∧ (∃ q', TQ w' tb q' ∧ HeapQ q' n ∧ q'.Perm q ∧ ∀ k, n ≤ k → atQ q' k = atQ q k) ∧ KF tb w w' := by
  have HQ : Hid (TQ w tb q) := hq
  have HU : Hid (DnI q n 0) := hd
  have hnl := hd.le
  clear hq hd
  go_enter Tryz.func219, Tryz.ntmps219
  go_wp2_with fail
  go_loopw [7] (fun iv wr => ∃ (i : Nat) (q1 : List TurnD), iv = .int .i64 i ∧ Hid (TQ wr tb q1) ∧ Hid (DnI q1 n i) ∧ Hid (q1.Perm q) ∧ Hid (∀ k, n ≤ k → atQ q1 k = atQ q k) ∧ i ≤ n ∧ Hid (KF tb w wr)) (fun iv _ => n - (intOf iv).toNat)
  case atStart => exact ⟨0, q, rfl, HQ, HU, List.Perm.refl _, fun _ _ => rfl, by omega, KF.refl _ _⟩
  case round =>
    obtain ⟨i, q1, rfl, HT, HD, HP, HS, hi, HB⟩ := hrel
    by_cases h1 : 2 * i + 1 < n
    · have h1' : 2 * (i : Int) + 1 < (n : Int) := by omega
      have h1n : ¬ (n : Int) ≤ 2 * (i : Int) + 1 := by omega
      have h1p : ¬ 2 * (i : Int) + 1 < 0 := by omega
      have hl1 : q1.length = q.length := HP.out.length_eq
      have hnq : n ≤ q1.length := by omega
      have hq1 : q1.length ≤ 100000 := by omega
      clear hl1
      obtain ⟨g, cap, b0, hg, hcap, hr⟩ := TQ.ne HT.out (by omega)
      obtain ⟨c0, f0⟩ := TQ.cell b0
      have ml := m_less c0
      have HR : Hid _ := hr
      have B0 : Hid _ := b0
      have hbl := lt_of_blk b0
      clear hr b0
      obtain ⟨a, ha, han⟩ : ∃ a : Nat, 2 * (i : Int) + 1 = (a : Int) ∧ a = 2 * i + 1 := ⟨2 * i + 1, by omega, rfl⟩
      have HA : Hid (a = 2 * i + 1) := han
      have k1 : (a : Int) < (n : Int) := by omega
      have k2 : ¬ (n : Int) ≤ (a : Int) := by omega
      have k3 : ¬ (a : Int) < 0 := by omega
      clear h1' h1n h1p
      by_cases h2 : 2 * i + 2 < n
      · have h2' : (a : Int) + 1 < (n : Int) := by omega
        obtain ⟨b, hb, hbn⟩ : ∃ b : Nat, (a : Int) + 1 = (b : Int) ∧ b = 2 * i + 2 := ⟨2 * i + 2, by omega, rfl⟩
        have HBN : Hid (b = 2 * i + 2) := hbn
        have h2'' : (b : Int) < (n : Int) := by omega
        clear han hbn h2'
        go_wp2_with fail
        refine Calls.mono (less_any wr (tb + 1) g cap q1 b a (by have := HBN.out; omega) (by have := HA.out; omega) HR.out) ?_
        rintro e w2 ⟨rfl, hb2⟩
        have HT2 : TQ w2 tb q1 := HT.out.below hb2
        obtain ⟨g2, cap2, b2, hg2, hcap2, hr2⟩ := TQ.ne HT2 (by omega)
        obtain ⟨c2, f2⟩ := TQ.cell b2
        have ml2 := m_less c2
        have hbw2 : KF tb w w2 := HB.out.trans (KF.all hb2 hbl)
        have hbl2 := lt_of_blk b2
        have R2 : Hid _ := hr2
        clear hr2 b2 ml c0 f0
        cases hlk : lessB (atQ q1 b) (atQ q1 a)
        · have HK : Hid (kidQ q1 n i = a) := by
            have e1 := HA.out
            have e2 := HBN.out
            subst e1 e2
            show kidQ q1 n i = _
            unfold kidQ
            rw [if_neg (fun h => by rw [hlk] at h; exact absurd h.2 (by simp))]
          clear hlk
          go_wp2_with fail
          refine Calls.mono (less_any w2 (tb + 1) g2 cap2 q1 a i (by have := HA.out; omega) (by have := HA.out; omega) R2.out) ?_
          rintro e w4 ⟨rfl, hb4⟩
          have HT4 : TQ w4 tb q1 := HT2.below hb4
          obtain ⟨g4, cap4, b4, hg4, hcap4, hr4⟩ := TQ.ne HT4 (by have := HA.out; omega)
          obtain ⟨c4, f4⟩ := TQ.cell b4
          have ms := m_swap c4
          have hbw4 : KF tb w w4 := hbw2.trans (KF.all hb4 hbl2)
          have HSW : Hid _ := swap_any w4 tb g4 cap4 q1 i a (by have := HA.out; omega) (by have := HA.out; omega) hg4 b4 hr4
          clear hr4 b4
          cases hls : lessB (atQ q1 a) (atQ q1 i)
          · have HLS : Hid _ := hls
            clear hls
            go_wp2_with fail
            go_ret
            exact ⟨⟨_, rfl⟩, ⟨q1, HT4, HD.out.stop (by have := HA.out; omega) (by rw [HK.out]; exact HLS.out), HP.out, HS.out⟩, hbw4⟩
          · have HLS : Hid _ := hls
            clear hls
            go_wp2_with fail
            refine Calls.mono HSW.out ?_
            rintro e w5 ⟨rfl, ht5, hb5⟩
            go_wp2_with fail
            refine ⟨⟨a, swapQ q1 i a, rfl, ht5, ?_, (swapQ_perm (by have := HA.out; omega) (by have := HA.out; omega)).trans HP.out, ?_, by have := HA.out; omega, hbw4.trans hb5⟩, by have := HA.out; simp [intOf]; omega⟩
            · have hs := HD.out.step (by have := HA.out; omega) (by rw [HK.out]; exact HLS.out)
              rw [HK.out] at hs
              exact hs
            · intro k hk
              rw [atQ_swap (by have := HA.out; omega) (by have := HA.out; omega), if_neg (by have := HA.out; omega), if_neg (by have := HA.out; omega)]
              exact HS.out k hk
        · have HK : Hid (kidQ q1 n i = b) := by
            have e1 := HA.out
            have e2 := HBN.out
            subst e1 e2
            show kidQ q1 n i = _
            unfold kidQ
            rw [if_pos ⟨h2, hlk⟩]
          clear hlk
          go_wp2_with fail
          refine Calls.mono (less_any w2 (tb + 1) g2 cap2 q1 b i (by have := HBN.out; omega) (by have := HBN.out; omega) R2.out) ?_
          rintro e w4 ⟨rfl, hb4⟩
          have HT4 : TQ w4 tb q1 := HT2.below hb4
          obtain ⟨g4, cap4, b4, hg4, hcap4, hr4⟩ := TQ.ne HT4 (by have := HBN.out; omega)
          obtain ⟨c4, f4⟩ := TQ.cell b4
          have ms := m_swap c4
          have hbw4 : KF tb w w4 := hbw2.trans (KF.all hb4 hbl2)
          have HSW : Hid _ := swap_any w4 tb g4 cap4 q1 i b (by have := HBN.out; omega) (by have := HBN.out; omega) hg4 b4 hr4
          clear hr4 b4
          cases hls : lessB (atQ q1 b) (atQ q1 i)
          · have HLS : Hid _ := hls
            clear hls
            go_wp2_with fail
            go_ret
            exact ⟨⟨_, rfl⟩, ⟨q1, HT4, HD.out.stop (by have := HBN.out; omega) (by rw [HK.out]; exact HLS.out), HP.out, HS.out⟩, hbw4⟩
          · have HLS : Hid _ := hls
            clear hls
            go_wp2_with fail
            refine Calls.mono HSW.out ?_
            rintro e w5 ⟨rfl, ht5, hb5⟩
            go_wp2_with fail
            refine ⟨⟨b, swapQ q1 i b, rfl, ht5, ?_, (swapQ_perm (by have := HBN.out; omega) (by have := HBN.out; omega)).trans HP.out, ?_, by have := HBN.out; omega, hbw4.trans hb5⟩, by have := HBN.out; simp [intOf]; omega⟩
            · have hs := HD.out.step (by have := HBN.out; omega) (by rw [HK.out]; exact HLS.out)
              rw [HK.out] at hs
              exact hs
            · intro k hk
              rw [atQ_swap (by have := HBN.out; omega) (by have := HBN.out; omega), if_neg (by have := HBN.out; omega), if_neg (by have := HBN.out; omega)]
              exact HS.out k hk
      · have h2' : ¬ (a : Int) + 1 < (n : Int) := by omega
        have h2d : decide ((a : Int) + 1 < (n : Int)) = false := decide_eq_false h2'
        clear han
        go_wp2_with fail
        have HK : Hid (kidQ q1 n i = a) := by
          have e1 := HA.out
          subst e1
          show kidQ q1 n i = _
          unfold kidQ
          rw [if_neg (fun h => h2 h.1)]
        have HT2 := HT.out
        have hbl2 := hbl
        have hbw2 := HB.out
        refine Calls.mono (less_any wr (tb + 1) g cap q1 a i (by have := HA.out; omega) (by have := HA.out; omega) HR.out) ?_
        rintro e w4 ⟨rfl, hb4⟩
        have HT4 : TQ w4 tb q1 := HT2.below hb4
        obtain ⟨g4, cap4, b4, hg4, hcap4, hr4⟩ := TQ.ne HT4 (by have := HA.out; omega)
        obtain ⟨c4, f4⟩ := TQ.cell b4
        have ms := m_swap c4
        have hbw4 : KF tb w w4 := hbw2.trans (KF.all hb4 hbl2)
        have HSW : Hid _ := swap_any w4 tb g4 cap4 q1 i a (by have := HA.out; omega) (by have := HA.out; omega) hg4 b4 hr4
        clear hr4 b4
        cases hls : lessB (atQ q1 a) (atQ q1 i)
        · have HLS : Hid _ := hls
          clear hls
          go_wp2_with fail
          go_ret
          exact ⟨⟨_, rfl⟩, ⟨q1, HT4, HD.out.stop (by have := HA.out; omega) (by rw [HK.out]; exact HLS.out), HP.out, HS.out⟩, hbw4⟩
        · have HLS : Hid _ := hls
          clear hls
          go_wp2_with fail
          refine Calls.mono HSW.out ?_
          rintro e w5 ⟨rfl, ht5, hb5⟩
          go_wp2_with fail
          refine ⟨⟨a, swapQ q1 i a, rfl, ht5, ?_, (swapQ_perm (by have := HA.out; omega) (by have := HA.out; omega)).trans HP.out, ?_, by have := HA.out; omega, hbw4.trans hb5⟩, by have := HA.out; simp [intOf]; omega⟩
          · have hs := HD.out.step (by have := HA.out; omega) (by rw [HK.out]; exact HLS.out)
            rw [HK.out] at hs
            exact hs
          · intro k hk
            rw [atQ_swap (by have := HA.out; omega) (by have := HA.out; omega), if_neg (by have := HA.out; omega), if_neg (by have := HA.out; omega)]
            exact HS.out k hk
    · have h1' : (n : Int) ≤ 2 * (i : Int) + 1 := by omega
      go_wp2_with fail
      go_ret
      exact ⟨⟨_, rfl⟩, ⟨q1, HT.out, HD.out.stop0 (by omega), HP.out, HS.out⟩, HB.out⟩
end Go.Proofs.YteioennfpkoagaaGreatDoor.C
namespace Go.Proofs.YteioennfpkoagaaGreatDoor.C
open Go.RowKit
attribute [local go_sem ↓] Go.wp_at_zero Go.wp_at_succ

set_option maxRecDepth 100000 in
set_option maxHeartbeats 4000000 in
theorem hpush_any (w : World) (tb : Nat) (q : List TurnD) (x : TurnD) (hq : TQ w tb q) (hn : q.length ≤ 90000) (hh : HeapQ q q.length) :
    Calls Tryz.prog 172 #[.iface 255 (.pointer (some ⟨tb, 0, none⟩)), .iface 258 (.agg #[.int .i64 x.place, .int .i64 x.fin, .int .i64 x.left])] w fun e w' => e = .returned (.tuple #[]) ∧ (∃ q', TQ w' tb q' ∧ HeapQ q' q'.length ∧ q'.Perm (q ++ [x])) ∧ KF tb w w' := by
  have mp := m_push ⟨tb, 0, none⟩
  have HH : Hid _ := hh
  have HQ : Hid _ := hq
  clear hh hq
  go_enter Tryz.func172, Tryz.ntmps172
  go_wp2_with fail
  refine Calls.mono (tpush_any w tb q x HQ.out (by omega)) ?_
  rintro e w2 ⟨rfl, hq2, hb2⟩
  have hl : (q ++ [x]).length = q.length + 1 := by simp
  obtain ⟨g, cap, b0, hg, hcap, hr⟩ := TQ.ne hq2 (by omega)
  rw [hl] at b0
  obtain ⟨c0, f0⟩ := TQ.cell b0
  have ml := m_len c0
  have HQ2 : Hid _ := hq2
  clear hr b0 hl hq2 hcap
  go_wp2_with fail
  refine Calls.mono (tlen_any w2 _ _ _) ?_
  rintro e w3 ⟨rfl, rfl⟩
  have n1 : ((q.length + 1 : Nat) : Int) - 1 = (q.length : Int) := by omega
  have n2 : ((q.length : Nat) : Int) + 1 - 1 = (q.length : Int) := by omega
  go_wp2_with fail
  refine Calls.mono (up_any w3 tb (q ++ [x]) q.length HQ2.out (UpI.push HH.out x) (by simp; omega)) ?_
  rintro e w4 ⟨rfl, h4, hb4⟩
  go_wp2_with fail
  go_end0
  exact ⟨rfl, h4, hb2.trans hb4⟩
set_option maxRecDepth 100000 in
set_option maxHeartbeats 4000000 in
theorem hpop_any (w : World) (tb : Nat) (q : List TurnD) (hq : TQ w tb q) (hn : q.length ≤ 90000) (h0 : 0 < q.length) (hh : HeapQ q q.length) :
    Calls Tryz.prog 174 #[.iface 255 (.pointer (some ⟨tb, 0, none⟩))] w fun e w' => e = .returned (.iface 258 (.agg #[.int .i64 (atQ q 0).place, .int .i64 (atQ q 0).fin, .int .i64 (atQ q 0).left])) ∧ (∃ q', TQ w' tb q' ∧ HeapQ q' q'.length ∧ (q' ++ [atQ q 0]).Perm q) ∧ KF tb w w' := by
  have mp := m_pop ⟨tb, 0, none⟩
  obtain ⟨n, hl⟩ : ∃ n, q.length = n + 1 := ⟨q.length - 1, by omega⟩
  obtain ⟨g, cap, b0, hg, hcap, hr⟩ := TQ.ne hq h0
  have HSW : Hid _ := fun w => swap_any w tb g cap q 0 n (by omega) (by omega) hg
  have HH : Hid _ := hh
  have HQ : Hid _ := hq
  have HB0 : Hid _ := b0
  have HR : Hid _ := hr
  rw [hl] at b0
  obtain ⟨c0, f0⟩ := TQ.cell b0
  have ml := m_len c0
  have ms := m_swap c0
  have HL : Hid (q.length = n + 1) := hl
  have hn9 : n < 90000 := by omega
  have n1 : ((n + 1 : Nat) : Int) - 1 = (n : Int) := by omega
  have n2 : (n : Int) + 1 - 1 = (n : Int) := by omega
  clear hr b0 hl hq hcap hh hn h0
  go_enter Tryz.func174, Tryz.ntmps174
  go_wp2_with fail
  refine Calls.mono (tlen_any w _ _ _) ?_
  rintro e w3 ⟨rfl, rfl⟩
  go_wp2_with fail
  have hsw := HSW.out w3 HB0.out HR.out
  rw [HL.out, show ((0 : Nat) : Int) = 0 from rfl] at hsw
  refine Calls.mono hsw ?_
  clear hsw
  rintro e w4 ⟨rfl, ht4, hb4⟩
  clear ml ms c0 f0
  go_wp2_with fail
  refine Calls.mono (down_any w4 tb (swapQ q 0 n) n ht4 (DnI.first (by rw [← HL.out]; exact HH.out) HL.out.symm) (by rw [swapQ_len, HL.out]; omega)) ?_
  rintro e w5 ⟨⟨bb, rfl⟩, ⟨q5, ht5, hh5, hp5, hs5⟩, hb5⟩
  have hl5 : q5.length = n + 1 := by rw [hp5.length_eq, swapQ_len]; exact HL.out
  have hlast : atQ q5 n = atQ q 0 := by
    rw [hs5 n (Nat.le_refl _), atQ_swap (by rw [HL.out]; omega) (by rw [HL.out]; omega), if_pos rfl]
  have hsplit : q5.take n ++ [atQ q 0] = q5 := by
    rw [← hlast, atQ_eq (by omega), List.take_append_getElem, ← hl5, List.take_length]
  have HT5 : Hid (TQ w5 tb (q5.take n ++ [atQ q 0])) := by rw [hsplit]; exact ht5
  have HP5 : Hid ((q5.take n ++ [atQ q 0]).Perm q) := by rw [hsplit]; exact hp5.trans (swapQ_perm (by rw [HL.out]; omega) (by rw [HL.out]; omega))
  have HH5 : Hid (HeapQ (q5.take n) (q5.take n).length) := hh5.take (by omega)
  have HL5 : Hid ((q5.take n).length ≤ 100000) := by show _ ≤ _; rw [List.length_take]; omega
  clear hsplit hlast hl5 hs5 hp5 hh5 ht5
  generalize q5.take n = q6 at *
  go_wp2_with fail
  refine Calls.mono (tpop_any w5 tb q6 (atQ q 0) HT5.out HL5.out) ?_
  rintro e w6 ⟨rfl, ht6, hb6⟩
  go_wp2_with fail
  go_ret
  exact ⟨rfl, ⟨q6, ht6, HH5.out, HP5.out⟩, (hb4.trans hb5).trans hb6⟩
end Go.Proofs.YteioennfpkoagaaGreatDoor.C
namespace Go.Proofs.YteioennfpkoagaaGreatDoor.C
open Go.RowKit
attribute [local go_sem ↓] Go.wp_at_zero Go.wp_at_succ

/- the heap at work: what it holds is what has to run -/
structure QI (w : World) (tb : Nat) (ps : List PartD) (t : Nat) (R : Nat → Int) (q : List TurnD) : Prop where
  mem : TQ w tb q
  hp : HeapQ q q.length
  qd : QD ps t R q
theorem TQ.lt {w : World} {tb : Nat} {q : List TurnD} (h : TQ w tb q) : tb < w.heap.size := by
  obtain ⟨v, h1, _⟩ := h
  exact lt_of_blk h1
theorem TQ.row_lt {w : World} {tb : Nat} {q : List TurnD} (h : TQ w tb q) : ∀ k, rowOf w tb = some k → tb + 1 ≤ k ∧ k < w.heap.size := by
  obtain ⟨v, h1, h2⟩ := h
  intro k hk
  rw [rowOf_at h1] at hk
  exact h2.lt k hk
theorem QI.bound {w : World} {tb : Nat} {ps : List PartD} {t : Nat} {R : Nat → Int} {q : List TurnD} (h : QI w tb ps t R q) (h0 : 0 < q.length) : ∃ j, j < ps.length ∧ atQ q 0 = ⟨j, endF ps t j, R j⟩ ∧ 0 < R j := by
  have hm : atQ q 0 ∈ q := by rw [atQ_eq h0]; exact List.getElem_mem h0
  obtain ⟨j, hj, hp, he⟩ := (h.qd.mem _).1 hm
  exact ⟨j, hj, he, hp⟩
set_option maxRecDepth 100000 in
set_option maxHeartbeats 4000000 in
theorem runOne_any (w : World) (tb : Nat) (ps : List PartD) (t : Nat) (q : List TurnD) (hq : QI w tb ps t (nowF ps t) q) (hn : q.length ≤ 80000) (hR : ∀ j, j < ps.length → nowF ps t j ≤ 1000) :
    Calls Tryz.prog 108 #[.pointer (some ⟨tb, 0, none⟩)] w fun e w' => e = .returned (.int .i64 (tickF ps t)) ∧ (∃ q', QI w' tb ps t (lefF ps (t + 1)) q' ∧ q'.length ≤ q.length) ∧ KF tb w w' := by
  have HQ : Hid _ := hq
  clear hq
  rcases TQ.form HQ.out.mem with ⟨he, b0⟩ | ⟨g, cap, b0, hg, hcap, hr⟩
  · obtain ⟨c0, f0⟩ := TQ.cell b0
    have hqd := HQ.out.qd
    rw [he] at hqd
    have hid := hqd.idle
    go_enter Tryz.func108, Tryz.ntmps108
    go_wp2_with fail
    refine Calls.mono (tlen_any w _ _ _) ?_
    rintro e w3 ⟨rfl, rfl⟩
    go_wp2_with fail
    go_ret
    refine ⟨by rw [hid.1]; rfl, ⟨q, ⟨HQ.out.mem, HQ.out.hp, ?_⟩, Nat.le_refl _⟩, KF.refl _ _⟩
    rw [he]; exact hid.2
  · by_cases h0 : q.length = 0
    · have he : q = [] := List.eq_nil_of_length_eq_zero h0
      obtain ⟨c0, f0⟩ := TQ.cell b0
      have hqd := HQ.out.qd
      rw [he] at hqd
      have hid := hqd.idle
      rw [h0] at c0
      clear b0 hr hcap
      go_enter Tryz.func108, Tryz.ntmps108
      go_wp2_with fail
      refine Calls.mono (tlen_any w _ _ _) ?_
      rintro e w3 ⟨rfl, rfl⟩
      go_wp2_with fail
      go_ret
      refine ⟨by rw [hid.1]; rfl, ⟨q, ⟨HQ.out.mem, HQ.out.hp, ?_⟩, Nat.le_refl _⟩, KF.refl _ _⟩
      rw [he]; exact hid.2
    · obtain ⟨c0, f0⟩ := TQ.cell b0
      obtain ⟨j, hj, hx, hpos⟩ := HQ.out.bound (by omega)
      have HX : Hid (∀ q1 : List TurnD, (q1 ++ [atQ q 0]).Perm q → tickF ps t = (atQ q 0).place ∧ 1 ≤ (atQ q 0).left ∧ ((atQ q 0).left - 1 ≤ 0 → QD ps t (lefF ps (t + 1)) q1) ∧ (0 < (atQ q 0).left - 1 → QD ps t (lefF ps (t + 1)) (q1 ++ [⟨(atQ q 0).place, (atQ q 0).fin, (atQ q 0).left - 1⟩]))) := fun q1 hp => QD.runs HQ.out.qd HQ.out.hp (by omega) hp
      have hl1 : (atQ q 0).left ≤ 1000 := by rw [hx]; exact hR j hj
      have hl2 : 0 < (atQ q 0).left := by rw [hx]; exact hpos
      have hz : ¬ (q.length : Int) = 0 := by omega
      have hzb : ((q.length : Int) == 0) = false := beq_false_of_ne hz
      have ta := assert_turn
      have HPOP : Hid _ := hpop_any w tb q HQ.out.mem (by omega) (by omega) HQ.out.hp
      have hbl := lt_of_blk b0
      have hlp : 0 < q.length := by omega
      clear hx hpos hR b0 hr h0 hcap
      generalize hx : atQ q 0 = x at *
      clear hx
      obtain ⟨xp, xf, xl⟩ := x
      simp only [] at hl1 hl2
      go_enter Tryz.func108, Tryz.ntmps108
      go_wp2_with fail
      refine Calls.mono (tlen_any w _ _ _) ?_
      rintro e w3 ⟨rfl, rfl⟩
      go_wp2_with fail
      refine Calls.mono HPOP.out ?_
      rintro e w4 ⟨rfl, ⟨q4, ht4, hh4, hp4⟩, hb4⟩
      obtain ⟨r1, r2, r3, r4⟩ := HX.out q4 hp4
      have hl4 : q4.length + 1 = q.length := by rw [← hp4.length_eq]; simp
      have R1 : Hid _ := r1
      have R3 : Hid _ := r3
      have R4 : Hid _ := r4
      have HL4 : Hid _ := hl4
      have HH4 : Hid _ := hh4
      clear r1 r2 r3 r4 hl4 hp4 hh4
      have ba : Below w4.heap.size w4 (w4.alloc (.cells #[.int .i64 xp, .int .i64 xf, .int .i64 (xl - 1)] 258)) := (Below.refl _ _).alloc (Nat.le_refl _) _
      have hnew := heap_new w4 (.cells #[.int .i64 xp, .int .i64 xf, .int .i64 (xl - 1)] 258)
      have HTL : Hid _ := ht4.row_lt
      have hbl4 := ht4.lt
      have ht5 := ht4.below ba
      have kf5 := hb4.trans (KF.all ba hbl4)
      have HNW : Hid _ := hnew
      have HT5 : Hid _ := ht5
      have HK5 : Hid _ := kf5
      have HRW : Hid (rowOf (w4.alloc (.cells #[.int .i64 xp, .int .i64 xf, .int .i64 (xl - 1)] 258)) tb = rowOf w4 tb) := rowOf_same (ba.block tb hbl4)
      have hsz : (w4.alloc (.cells #[.int .i64 xp, .int .i64 xf, .int .i64 (xl - 1)] 258)).heap.size = w4.heap.size + 1 := by simp
      have HSZ : Hid _ := hsz
      clear hnew ht5 kf5 ba ht4 hb4 hsz
      by_cases hm : 0 < xl - 1
      · go_wp2_with fail
        generalize w4.alloc (.cells #[.int .i64 xp, .int .i64 xf, .int .i64 (xl - 1)] 258) = W5 at *
        refine Calls.mono (hpush_any W5 tb q4 ⟨xp, xf, xl - 1⟩ HT5.out (by have := HL4.out; omega) HH4.out) ?_
        rintro e w6 ⟨rfl, ⟨q6, ht6, hh6, hp6⟩, hb6⟩
        have hnb := (hb6.far w4.heap.size (by rw [HSZ.out]; omega) (by omega) (by
          rw [HRW.out]
          intro e
          have := (HTL.out _ e).2
          omega)).1.trans HNW.out
        have x0 : w6.cell? ⟨w4.heap.size, 0, none⟩ = some (.int .i64 xp) := by rw [cell_of_blk hnb]; rfl
        go_wp2_with fail
        go_ret
        refine ⟨by rw [R1.out]; rfl, ⟨q6, ⟨ht6, hh6, (R4.out hm).perm hp6⟩, ?_⟩, HK5.out.trans hb6⟩
        rw [hp6.length_eq, List.length_append]
        exact Nat.le_of_eq HL4.out
      · go_wp2_with fail
        go_ret
        exact ⟨by rw [R1.out]; rfl, ⟨q4, ⟨HT5.out, HH4.out, R3.out (show xl - 1 ≤ 0 by omega)⟩, by have := HL4.out; omega⟩, HK5.out⟩
end Go.Proofs.YteioennfpkoagaaGreatDoor.C
namespace Go.Proofs.YteioennfpkoagaaGreatDoor.C
open Go.RowKit
attribute [local go_sem ↓] Go.wp_at_zero Go.wp_at_succ

structure SmallP (ps : List PartD) : Prop where
  per : ∀ j (h : j < ps.length), 1 ≤ ps[j].period ∧ ps[j].period ≤ 240
  dur : ∀ j (h : j < ps.length), 1 ≤ ps[j].duration ∧ ps[j].duration ≤ 240
set_option maxRecDepth 100000 in
set_option maxHeartbeats 4000000 in
theorem begin_any (w0 w : World) (tb : Nat) (F : Int) (ps : List PartD) (pv : Value) (t : Nat) (q : List TurnD) (hP : PartsV w0 pv ps) (h0 : w0.heap.size ≤ tb) (hb0 : Below w0.heap.size w0 w) (hps : PartsT F ps) (hsm : SmallP ps) (ht : t ≤ 240) (hpl : ps.length ≤ 8) (hq : QI w tb ps t (midF ps t 0) q) (hn : q.length ≤ 70000) :
    Calls Tryz.prog 107 #[.pointer (some ⟨tb, 0, none⟩), pv, .int .i64 t] w fun e w' => e = .returned (.tuple #[]) ∧ (∃ q', QI w' tb ps t (nowF ps t) q' ∧ q'.length ≤ q.length + ps.length) ∧ KF tb w w' := by
  obtain ⟨va, cap, rfl, hc⟩ := hP
  have HC : Hid _ := hc
  have HPT : Hid (PartsT F ps) := hps
  have HSM : Hid (SmallP ps) := hsm
  have HQ : Hid _ := hq
  have HB0 : Hid _ := hb0
  clear hc hps hsm hq hb0
  go_enter Tryz.func107, Tryz.ntmps107
  go_wp2_with fail
  go_loopw [10] (fun i wr => ∃ (k : Nat) (q1 : List TurnD), i = .int .i64 k ∧ k ≤ ps.length ∧ Hid (QI wr tb ps t (midF ps t k) q1) ∧ Hid (q1.length ≤ q.length + k) ∧ Hid (KF tb w wr)) (fun i _ => ps.length - (intOf i).toNat)
  case atStart => exact ⟨0, q, rfl, by omega, HQ, by show _ ≤ _; omega, KF.refl _ _⟩
  case round =>
    obtain ⟨k, q1, rfl, hk, HI, HL, HK⟩ := hrel
    by_cases hlt : k < ps.length
    · have hlt' : (k : Int) < (ps.length : Int) := by omega
      have hk0 : (0 : Int) ≤ (k : Int) := by omega
      have hbel : Below w0.heap.size w0 wr := HB0.out.trans (HK.out.bel.mono h0)
      obtain ⟨b, off, rv, rfl, c0, c1, c2, c3, c4, hrv⟩ := HC.out k hlt
      obtain ⟨ra, rcap, rfl, hrx⟩ := hrv
      clear hrx
      have hbl := World.block_lt_of_cell? w0 _ c0
      have d0 := (hbel.cell (by exact hbl)).trans c0
      have d1 := (hbel.cell (by exact hbl)).trans c1
      have d2 := (hbel.cell (by exact hbl)).trans c2
      have d3 := (hbel.cell (by exact hbl)).trans c3
      have d4 := (hbel.cell (by exact hbl)).trans c4
      clear c0 c1 c2 c3 c4 hbel
      obtain ⟨o1, o2⟩ := HSM.out.per k hlt
      obtain ⟨o3, o4⟩ := HSM.out.dur k hlt
      have HPE : Hid (perF ps k = ps[k].period) := by show _ = _; unfold perF; rw [dif_pos hlt]
      have HDE : Hid (durF ps k = ps[k].duration) := by show _ = _; unfold durF; rw [dif_pos hlt]
      generalize ps[k] = x at *
      have hpz : ¬ x.period = 0 := by omega
      have hpn : ¬ x.period = -1 := by omega
      have ht0 : (0 : Int) ≤ (t : Int) := by omega
      have w1 : IntKind.i64.wrap ((t : Int) + x.period) = (t : Int) + x.period := wrap_small _ (by omega) (by omega)
      have hlw := HI.out.mem.lt
      have ba : Below wr.heap.size wr (wr.alloc (.cells #[.string x.name, .int .i64 x.period, .int .i64 x.duration, .int .i64 x.action, .slice ra x.regs.length rcap] 42)) := (Below.refl _ _).alloc (Nat.le_refl _) _
      have h1 := heap_new wr (.cells #[.string x.name, .int .i64 x.period, .int .i64 x.duration, .int .i64 x.action, .slice ra x.regs.length rcap] 42)
      have HI2 : Hid _ := HI.out.mem.below ba
      have HK2 : Hid _ := HK.out.trans (KF.all ba hlw)
      clear ba
      by_cases hm : (t : Int) % x.period = 0
      · go_wp2_with fail
        refine Calls.mono (hpush_any _ tb q1 ⟨k, t + x.period, x.duration⟩ HI2.out (by have := HL.out; omega) HI.out.hp) ?_
        rintro e w6 ⟨rfl, ⟨q6, ht6, hh6, hp6⟩, hb6⟩
        have HQ6 : Hid (QD ps t (midF ps t (k + 1)) q6) := by
          have hmm : (t : Int) % perF ps k = 0 := by rw [HPE.out]; exact hm
          have := QD.begin HPT.out hlt HI.out.qd hmm
          rw [HPE.out, HDE.out] at this
          exact this.perm hp6
        have HL6 : Hid (q6.length ≤ q.length + (k + 1)) := by
          have := HL.out
          show _ ≤ _
          rw [hp6.length_eq, List.length_append]
          show q1.length + 1 ≤ _
          omega
        clear hp6
        go_wp2_with fail
        exact ⟨⟨k + 1, q6, by go_num, by omega, ⟨ht6, hh6, HQ6.out⟩, HL6, HK2.out.trans hb6⟩, by simp [intOf]; omega⟩
      · go_wp2_with fail
        have hmm : ¬ (t : Int) % perF ps k = 0 := by rw [HPE.out]; exact hm
        exact ⟨⟨k + 1, q1, by go_num, by omega, ⟨HI2.out, HI.out.hp, QD.pass HI.out.qd hmm⟩, by have := HL.out; show _ ≤ _; omega, HK2.out⟩, by simp [intOf]; omega⟩
    · have hlt' : ¬ (k : Int) < (ps.length : Int) := by omega
      have hke : k = ps.length := by omega
      go_wp2_with fail
      go_end0
      subst hke
      exact ⟨rfl, ⟨q1, ⟨HI.out.mem, HI.out.hp, HI.out.qd.full⟩, HL.out⟩, HK.out⟩
end Go.Proofs.YteioennfpkoagaaGreatDoor.C
namespace Go.Proofs.YteioennfpkoagaaGreatDoor.C
open Go.RowKit
attribute [local go_sem ↓] Go.wp_at_zero Go.wp_at_succ

/- the ticks while they are planned -/
def tkL (ps : List PartD) (n t : Nat) : List Int := (planN ps t).1 ++ List.replicate (n - t) 0
theorem tkL_len {ps : List PartD} {n t : Nat} (h : t ≤ n) : (tkL ps n t).length = n := by
  unfold tkL; rw [List.length_append, (planN_len ps t).1, List.length_replicate]; omega
theorem tkL_next {ps : List PartD} {n t : Nat} (h : t < n) : (tkL ps n t).set t (tickF ps t) = tkL ps n (t + 1) := by
  unfold tkL
  have hl := (planN_len ps t).1
  rw [planN_succ, List.set_append_right _ _ (by omega), hl, Nat.sub_self, show n - t = (n - (t + 1)) + 1 by omega, List.replicate_succ]
  simp
theorem TQ.low {w : World} {tb : Nat} {q : List TurnD} (h : TQ w tb q) {b : Nat} (hb : b < tb) (k : Nat) (u : Value) : TQ (w.setCell ⟨b, k, none⟩ u) tb q := by
  obtain ⟨v, h1, h2⟩ := h
  exact ⟨v, (Below.heap_setCell _ _ _ _ (show tb ≠ b by omega)).trans h1, own_setCell h2 (by omega) _ _⟩
structure PL (w : World) (f : Int) (pv cv : Value) (n : Nat) (ps : List PartD) (t : Nat) (q : List TurnD) (V : World) : Prop where
  man : V.heap[w.heap.size]? = some (.cells #[.int .i64 f, pv, cv] 34 (0, 0))
  tks : V.heap[w.heap.size + 1]? = some (.cells (intsC (tkL ps n t)).toArray 3 (0, 0))
  que : QI V (w.heap.size + 1 + 1) ps t (midF ps t 0) q
  few : q.length ≤ 8 * t
  bel : Below w.heap.size w V
theorem mid_start (ps : List PartD) : QD ps 0 (midF ps 0 0) [] := by
  apply QD.nil
  intro j hj
  unfold midF lefF
  rw [if_neg (by omega)]
  show (List.replicate ps.length (0 : Int)).getD j 0 ≤ 0
  simp only [List.getD, List.getElem?_replicate]
  split <;> simp
theorem now_le {ps : List PartD} (hsm : SmallP ps) (t j : Nat) (hj : j < ps.length) : nowF ps t j ≤ 1000 := by
  have h1 := planN_in ps (fun k hk => by have := hsm.dur k hk; omega) t j (by rw [(planN_len ps t).2]; exact hj)
  have h2 := hsm.dur j hj
  unfold nowF lefF durF
  rw [dif_pos hj]
  split <;> omega
set_option maxRecDepth 100000 in
set_option maxHeartbeats 4000000 in
theorem plan_any (n : Nat) (ps : List PartD) (pv cv : Value) (w : World) (hP : PartsV w pv ps) (hcv : ∃ a l k, cv = .slice a l k) (hT : PartsT n ps) (hsm : SmallP ps) (hn : n ≤ 240) (hpl : ps.length ≤ 8) :
    Calls Tryz.prog 56 #[.agg #[.int .i64 n, pv, cv]] w fun e w' => ∃ v, e = .returned v ∧ w'.ownsRow w.heap.size 3 1 v n (intsC (planN ps n).1) ∧ Below w.heap.size w w' := by
  have HP : Hid _ := hP
  obtain ⟨va, cap, rfl, hx⟩ := hP
  clear hx
  obtain ⟨ca, cl, ck, rfl⟩ := hcv
  have HT : Hid (PartsT n ps) := hT
  have HSM : Hid (SmallP ps) := hsm
  clear hT hsm
  have hmk := make_ints (w.alloc (.cells #[.int .i64 n, .slice va ps.length cap, .slice ca cl ck] 34)) n (by omega)
  go_enter Tryz.func56, Tryz.ntmps56
  go_wp2_with fail
  have P0 : PL w n (.slice va ps.length cap) (.slice ca cl ck) n ps 0 [] (((w.alloc (.cells #[.int .i64 n, .slice va ps.length cap, .slice ca cl ck] 34)).alloc (.cells (intsC (List.replicate n 0)).toArray 3)).alloc (.cells #[.slice none 0 0] 204)) := by
    have g1 := heap_new w (.cells #[.int .i64 n, .slice va ps.length cap, .slice ca cl ck] 34)
    have g2 := heap_new (w.alloc (.cells #[.int .i64 n, .slice va ps.length cap, .slice ca cl ck] 34)) (.cells (intsC (List.replicate n 0)).toArray 3)
    have g3 := heap_new ((w.alloc (.cells #[.int .i64 n, .slice va ps.length cap, .slice ca cl ck] 34)).alloc (.cells (intsC (List.replicate n 0)).toArray 3)) (.cells #[.slice none 0 0] 204)
    simp only [World.size_alloc] at g2 g3
    refine ⟨heap_old _ _ (heap_old _ _ g1), heap_old _ _ g2, ⟨⟨.slice none 0 0, g3, World.ownsRow_nil _ _ _ _⟩, fun k h0 hk => absurd hk (by simp), mid_start ps⟩, by simp, (((Below.refl _ _).alloc (Nat.le_refl _) _).alloc (by simp) _).alloc (by simp; omega) _⟩
  generalize ((w.alloc (.cells #[.int .i64 n, .slice va ps.length cap, .slice ca cl ck] 34)).alloc (.cells (intsC (List.replicate n 0)).toArray 3)).alloc (.cells #[.slice none 0 0] 204) = W at *
  have HP0 : Hid _ := P0
  clear P0 hmk
  go_loopw [11] (fun i wr => ∃ (t : Nat) (q : List TurnD), i = .int .i64 t ∧ t ≤ n ∧ Hid (PL w n (.slice va ps.length cap) (.slice ca cl ck) n ps t q wr)) (fun i _ => n - (intOf i).toNat)
  case atStart => exact ⟨0, [], rfl, by omega, HP0⟩
  case round =>
    obtain ⟨t, q, rfl, ht, HL⟩ := hrel
    by_cases hlt : t < n
    · have hlt' : (t : Int) < (n : Int) := by omega
      have ht0 : (0 : Int) ≤ (t : Int) := by omega
      have y1 : wr.cell? ⟨w.heap.size, 1, none⟩ = some (.slice va ps.length cap) := by rw [cell_of_blk HL.out.man]; rfl
      go_wp2_with fail
      refine Calls.mono (begin_any w wr (w.heap.size + 1 + 1) n ps _ t q HP.out (by omega) HL.out.bel HT.out HSM.out (by omega) hpl HL.out.que (by have := HL.out.few; omega)) ?_
      rintro e w2 ⟨rfl, ⟨q2, hq2, hl2⟩, hk2⟩
      have HQ2 : Hid _ := hq2
      have HL2 : Hid _ := hl2
      clear hq2 hl2 y1
      go_wp2_with fail
      refine Calls.mono (runOne_any w2 (w.heap.size + 1 + 1) ps t q2 HQ2.out (by have := HL2.out; have := HL.out.few; omega) (fun j hj => now_le HSM.out t j hj)) ?_
      rintro e w3 ⟨rfl, ⟨q3, hq3, hl3⟩, hk3⟩
      have hk := hk2.trans hk3
      have tk3 := (hk.bel.block (w.heap.size + 1) (by omega)).trans HL.out.tks
      have mn3 := (hk.bel.block w.heap.size (by omega)).trans HL.out.man
      have bl3 := HL.out.bel.trans (hk.bel.mono (show w.heap.size ≤ w.heap.size + 1 + 1 by omega))
      have x1 : w3.cell? ⟨w.heap.size + 1, t, none⟩ = some (.int .i64 ((tkL ps n t).getD t 0)) := by
        rw [cell_of_blk tk3]
        simp only [List.getElem?_toArray]
        exact intsC_at _ _ (by rw [tkL_len ht]; exact hlt)
      have x2 : w3.frozen? ⟨w.heap.size + 1, t, none⟩ = false := frozen_of_row w3 _ t _ _ tk3
      have HQ3 : Hid _ := hq3
      have HL3 : Hid _ := hl3
      have HTK : Hid _ := tk3
      have HMN : Hid _ := mn3
      have HBL : Hid _ := bl3
      clear hq3 hl3 tk3 mn3 bl3 hk hk2 hk3
      go_wp2_with fail
      refine ⟨⟨t + 1, q3, by go_num, by omega, ?_⟩, by simp [intOf]; omega⟩
      refine ⟨(Below.heap_setCell _ _ _ _ (show w.heap.size ≠ w.heap.size + 1 by omega)).trans HMN.out, ?_, ⟨HQ3.out.mem.low (by omega) _ _, HQ3.out.hp, QD.mid0 HT.out HQ3.out.qd⟩, by have := HL2.out; have := HL3.out; have := HL.out.few; omega, HBL.out.setCell (show w.heap.size ≤ w.heap.size + 1 by omega) _⟩
      have hs := heap_setCell_same w3 (w.heap.size + 1) t _ _ (.int .i64 (tickF ps t)) HTK.out
      rw [hs, ← tkL_next hlt, ← intsC_set, List.setIfInBounds_toArray]
    · have hlt' : ¬ (t : Int) < (n : Int) := by omega
      have hte : t = n := by omega
      subst hte
      go_wp2_with fail
      go_ret
      refine ⟨_, rfl, ⟨?_, .inr ⟨w.heap.size + 1, t, (intsC (tkL ps t t)).toArray, rfl, by omega, HL.out.tks, Nat.le_refl _, by unfold maxLen; omega, ?_, ?_⟩⟩, HL.out.bel⟩
      · rw [intsC_len, (planN_len ps t).1, Nat.mul_one]
      · simp [intsC_len, tkL_len (Nat.le_refl t)]
      · rw [List.toList_toArray, Nat.mul_one]
        have e : tkL ps t t = (planN ps t).1 := by unfold tkL; simp
        rw [e]
        exact List.take_of_length_le (by rw [intsC_len, (planN_len ps t).1]; exact Nat.le_refl _)
end Go.Proofs.YteioennfpkoagaaGreatDoor.C
