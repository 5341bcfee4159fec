import Derived.Test.YteioennfpkoagaaPlnQ
namespace Go.Proofs.Yteioennfpkoagaa.C
open Go.RowKit
attribute [local go_sem ↓] Go.wp_at_zero Go.wp_at_succ

set_option maxRecDepth 100000 in
set_option maxHeartbeats 4000000 in
theorem hpush_any (w : World) (tb : Nat) (q : List TurnD) (x : TurnD) (hq : TQ w tb q) (hn : q.length ≤ 90000) (hh : HeapQ q q.length) :
    Calls Try.prog 46 #[.iface 84 (.pointer (some ⟨tb, 0, none⟩)), .iface 87 (.agg #[.int .i64 x.place, .int .i64 x.fin, .int .i64 x.left])] w fun e w' => e = .returned (.tuple #[]) ∧ (∃ q', TQ w' tb q' ∧ HeapQ q' q'.length ∧ q'.Perm (q ++ [x])) ∧ KF tb w w' := by
  have mp := m_push ⟨tb, 0, none⟩
  have HH : Hid _ := hh
  have HQ : Hid _ := hq
  clear hh hq
  go_enter Try.func46, Try.ntmps46
  go_wp2_with fail
  refine Calls.mono (tpush_any w tb q x HQ.out (by omega)) ?_
  rintro e w2 ⟨rfl, hq2, hb2⟩
  have hl : (q ++ [x]).length = q.length + 1 := by simp
  obtain ⟨g, cap, b0, hg, hcap, hr⟩ := TQ.ne hq2 (by omega)
  rw [hl] at b0
  obtain ⟨c0, f0⟩ := TQ.cell b0
  have ml := m_len c0
  have HQ2 : Hid _ := hq2
  clear hr b0 hl hq2 hcap
  go_wp2_with fail
  refine Calls.mono (tlen_any w2 _ _ _) ?_
  rintro e w3 ⟨rfl, rfl⟩
  have n1 : ((q.length + 1 : Nat) : Int) - 1 = (q.length : Int) := by omega
  have n2 : ((q.length : Nat) : Int) + 1 - 1 = (q.length : Int) := by omega
  go_wp2_with fail
  refine Calls.mono (up_any w3 tb (q ++ [x]) q.length HQ2.out (UpI.push HH.out x) (by simp; omega)) ?_
  rintro e w4 ⟨rfl, h4, hb4⟩
  go_wp2_with fail
  go_end0
  exact ⟨rfl, h4, hb2.trans hb4⟩
set_option maxRecDepth 100000 in
set_option maxHeartbeats 4000000 in
theorem hpop_any (w : World) (tb : Nat) (q : List TurnD) (hq : TQ w tb q) (hn : q.length ≤ 90000) (h0 : 0 < q.length) (hh : HeapQ q q.length) :
    Calls Try.prog 48 #[.iface 84 (.pointer (some ⟨tb, 0, none⟩))] w fun e w' => e = .returned (.iface 87 (.agg #[.int .i64 (atQ q 0).place, .int .i64 (atQ q 0).fin, .int .i64 (atQ q 0).left])) ∧ (∃ q', TQ w' tb q' ∧ HeapQ q' q'.length ∧ (q' ++ [atQ q 0]).Perm q) ∧ KF tb w w' := by
  have mp := m_pop ⟨tb, 0, none⟩
  obtain ⟨n, hl⟩ : ∃ n, q.length = n + 1 := ⟨q.length - 1, by omega⟩
  obtain ⟨g, cap, b0, hg, hcap, hr⟩ := TQ.ne hq h0
  have HSW : Hid _ := fun w => swap_any w tb g cap q 0 n (by omega) (by omega) hg
  have HH : Hid _ := hh
  have HQ : Hid _ := hq
  have HB0 : Hid _ := b0
  have HR : Hid _ := hr
  rw [hl] at b0
  obtain ⟨c0, f0⟩ := TQ.cell b0
  have ml := m_len c0
  have ms := m_swap c0
  have HL : Hid (q.length = n + 1) := hl
  have hn9 : n < 90000 := by omega
  have n1 : ((n + 1 : Nat) : Int) - 1 = (n : Int) := by omega
  have n2 : (n : Int) + 1 - 1 = (n : Int) := by omega
  clear hr b0 hl hq hcap hh hn h0
  go_enter Try.func48, Try.ntmps48
  go_wp2_with fail
  refine Calls.mono (tlen_any w _ _ _) ?_
  rintro e w3 ⟨rfl, rfl⟩
  go_wp2_with fail
  have hsw := HSW.out w3 HB0.out HR.out
  rw [HL.out, show ((0 : Nat) : Int) = 0 from rfl] at hsw
  refine Calls.mono hsw ?_
  clear hsw
  rintro e w4 ⟨rfl, ht4, hb4⟩
  clear ml ms c0 f0
  go_wp2_with fail
  refine Calls.mono (down_any w4 tb (swapQ q 0 n) n ht4 (DnI.first (by rw [← HL.out]; exact HH.out) HL.out.symm) (by rw [swapQ_len, HL.out]; omega)) ?_
  rintro e w5 ⟨⟨bb, rfl⟩, ⟨q5, ht5, hh5, hp5, hs5⟩, hb5⟩
  have hl5 : q5.length = n + 1 := by rw [hp5.length_eq, swapQ_len]; exact HL.out
  have hlast : atQ q5 n = atQ q 0 := by
    rw [hs5 n (Nat.le_refl _), atQ_swap (by rw [HL.out]; omega) (by rw [HL.out]; omega), if_pos rfl]
  have hsplit : q5.take n ++ [atQ q 0] = q5 := by
    rw [← hlast, atQ_eq (by omega), List.take_append_getElem, ← hl5, List.take_length]
  have HT5 : Hid (TQ w5 tb (q5.take n ++ [atQ q 0])) := by rw [hsplit]; exact ht5
  have HP5 : Hid ((q5.take n ++ [atQ q 0]).Perm q) := by rw [hsplit]; exact hp5.trans (swapQ_perm (by rw [HL.out]; omega) (by rw [HL.out]; omega))
  have HH5 : Hid (HeapQ (q5.take n) (q5.take n).length) := hh5.take (by omega)
  have HL5 : Hid ((q5.take n).length ≤ 100000) := by show _ ≤ _; rw [List.length_take]; omega
  clear hsplit hlast hl5 hs5 hp5 hh5 ht5
  generalize q5.take n = q6 at *
  go_wp2_with fail
  refine Calls.mono (tpop_any w5 tb q6 (atQ q 0) HT5.out HL5.out) ?_
  rintro e w6 ⟨rfl, ht6, hb6⟩
  go_wp2_with fail
  go_ret
  exact ⟨rfl, ⟨q6, ht6, HH5.out, HP5.out⟩, (hb4.trans hb5).trans hb6⟩
end Go.Proofs.Yteioennfpkoagaa.C
