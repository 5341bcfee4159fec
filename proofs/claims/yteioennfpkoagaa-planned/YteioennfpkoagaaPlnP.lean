import Derived.Test.YteioennfpkoagaaPlnO
import Derived.Deep.LoopGhost
namespace Go.Proofs.Yteioennfpkoagaa.C
open Go.RowKit
attribute [local go_sem ↓] Go.wp_at_zero Go.wp_at_succ

theorem m_push (a : Addr) (w : World) : (method 231 84 (.pointer (some a)) "Push").run Try.prog w = .ok (94, .pointer (some a)) w := by kernel_rfl
theorem m_pop (a : Addr) (w : World) : (method 231 84 (.pointer (some a)) "Pop").run Try.prog w = .ok (93, .pointer (some a)) w := by kernel_rfl
theorem load_run {α : Type} {a : Addr} {w : World} {v : Value} (h : w.cell? a = some v) (k : Value → Sem α) : (Sem.load .plain a k).run Try.prog w = (k v).run Try.prog w := by
  conv => lhs; unfold Sem.run
  rw [h]
theorem m_len0 (a : Addr) (w : World) : (method 231 84 (.pointer (some a)) "Len").run Try.prog w = (Sem.load .plain a fun v => .pure (47, v)).run Try.prog w := by kernel_rfl
theorem m_len {a : Addr} {w : World} {v : Value} (h : w.cell? a = some v) : (method 231 84 (.pointer (some a)) "Len").run Try.prog w = .ok (47, v) w := by rw [m_len0, load_run h]; rfl
theorem m_less0 (a : Addr) (w : World) : (method 231 84 (.pointer (some a)) "Less").run Try.prog w = (Sem.load .plain a fun v => .pure (91, v)).run Try.prog w := by kernel_rfl
theorem m_less {a : Addr} {w : World} {v : Value} (h : w.cell? a = some v) : (method 231 84 (.pointer (some a)) "Less").run Try.prog w = .ok (91, v) w := by rw [m_less0, load_run h]; rfl
theorem m_swap0 (a : Addr) (w : World) : (method 231 84 (.pointer (some a)) "Swap").run Try.prog w = (Sem.load .plain a fun v => .pure (92, v)).run Try.prog w := by kernel_rfl
theorem m_swap {a : Addr} {w : World} {v : Value} (h : w.cell? a = some v) : (method 231 84 (.pointer (some a)) "Swap").run Try.prog w = .ok (92, v) w := by rw [m_swap0, load_run h]; rfl
set_option maxRecDepth 100000 in
set_option maxHeartbeats 4000000 in
theorem up_any (w : World) (tb : Nat) (q : List TurnD) (j : Nat) (hq : TQ w tb q) (hu : UpI q j) (hn : q.length ≤ 100000) :
    Calls Try.prog 60 #[.iface 84 (.pointer (some ⟨tb, 0, none⟩)), .int .i64 j] w fun e w' => e = .returned (.tuple #[]) ∧ (∃ q', TQ w' tb q' ∧ HeapQ q' q'.length ∧ q'.Perm q) ∧ KF tb w w' := by
  have HQ : Hid (TQ w tb q) := hq
  have HU : Hid (UpI q j) := hu
  clear hq hu
  go_enter Try.func60, Try.ntmps60
  go_wp2_with fail
  go_loopw [1] (fun jv wr => ∃ (k : Nat) (q1 : List TurnD), jv = .int .i64 k ∧ Hid (TQ wr tb q1) ∧ Hid (UpI q1 k) ∧ Hid (q1.Perm q) ∧ k < q.length ∧ Hid (KF tb w wr)) (fun jv _ => (intOf jv).toNat)
  case atStart => exact ⟨j, q, rfl, HQ, HU, List.Perm.refl _, HU.out.lt, KF.refl _ _⟩
  case round =>
    obtain ⟨k, q1, rfl, HT, HI, HP, hk, HB⟩ := hrel
    rcases Nat.eq_zero_or_pos k with h0 | h0
    · subst h0
      go_wp2_with fail
      go_end0
      exact ⟨rfl, ⟨q1, HT.out, HI.out.stop (.inl rfl), HP.out⟩, HB.out⟩
    · have hl1 : q1.length = q.length := HP.out.length_eq
      obtain ⟨g, cap, b0, hg, hcap, hr⟩ := TQ.ne HT.out (by omega)
      obtain ⟨c0, f0⟩ := TQ.cell b0
      have ml := m_less c0
      obtain ⟨p, hp, hpn, hpk⟩ : ∃ p : Nat, ((k : Int) - 1) / 2 = (p : Int) ∧ (k - 1) / 2 = p ∧ p < k := ⟨(k - 1) / 2, by omega, rfl, by omega⟩
      have hpe : ¬ (p : Int) = (k : Int) := by omega
      have HPN : Hid ((k - 1) / 2 = p) := hpn
      have HL1 : Hid (q1.length = q.length) := hl1
      have HR : Hid _ := hr
      have B0 : Hid _ := b0
      have hk1 : k < q1.length := by omega
      clear hpn b0 hr hl1
      go_wp2_with fail
      refine Calls.mono (less_any wr (tb + 1) g cap q1 k p (by omega) (by omega) HR.out) ?_
      rintro e w2 ⟨rfl, hb2⟩
      have HT2 : TQ w2 tb q1 := HT.out.below hb2
      obtain ⟨g2, cap2, b2, hg2, hcap2, hr2⟩ := TQ.ne HT2 (by omega)
      obtain ⟨c2, f2⟩ := TQ.cell b2
      have ms := m_swap c2
      have hbw : KF tb w w2 := HB.out.trans (KF.all hb2 (lt_of_blk B0.out))
      cases hls : lessB (atQ q1 k) (atQ q1 p)
      · have HLS : Hid _ := hls
        clear hls
        go_wp2_with fail
        go_end0
        refine ⟨rfl, ⟨q1, HT2, HI.out.stop (.inr ?_), HP.out⟩, hbw⟩
        rw [HPN.out]; exact HLS.out
      · have HLS : Hid _ := hls
        clear hls
        go_wp2_with fail
        refine Calls.mono (swap_any w2 tb g2 cap2 q1 p k (by omega) (by omega) hg2 b2 hr2) ?_
        rintro e w3 ⟨rfl, ht3, hb3⟩
        go_wp2_with fail
        refine ⟨⟨p, swapQ q1 p k, rfl, ht3, ?_, (swapQ_perm (by omega) hk1).trans HP.out, by omega, hbw.trans hb3⟩, by simp [intOf]; omega⟩
        have hs := HI.out.step h0 (by rw [HPN.out]; exact HLS.out)
        rw [HPN.out] at hs
        exact hs
end Go.Proofs.Yteioennfpkoagaa.C
