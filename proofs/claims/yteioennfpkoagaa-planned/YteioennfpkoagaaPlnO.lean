import Derived.Test.YteioennfpkoagaaPlnN
import Derived.Deep.RegionLaw
namespace Go.Proofs.Yteioennfpkoagaa.C
open Go.RowKit
attribute [local go_sem ↓] Go.wp_at_zero Go.wp_at_succ

theorem infoTurn : (Try.prog.info? 87).map (fun i => (i.zero, i.size, i.bytes)) = some (some (.agg #[.int .i64 0, .int .i64 0, .int .i64 0]), 3, 24) := by kernel_rfl
theorem turn_parts : ∃ i, Try.prog.info? 87 = some i ∧ i.zero = some (.agg #[.int .i64 0, .int .i64 0, .int .i64 0]) ∧ i.size = 3 ∧ i.bytes = 24 := by
  have h := infoTurn
  rcases hi : Try.prog.info? 87 with _ | i
  · rw [hi] at h; cases h
  · rw [hi] at h
    simp only [Option.map_some, Option.some.injEq, Prod.mk.injEq] at h
    exact ⟨i, rfl, h.1, h.2.1, h.2.2⟩
theorem assert_turn (a b c : Int) (w : World) : (Instr.typeAssert (.iface 87 (.agg #[.int .i64 a, .int .i64 b, .int .i64 c])) 20 87 false).run Try.prog w = .ok (.agg #[.int .i64 a, .int .i64 b, .int .i64 c]) w := by kernel_rfl
theorem TQ.cell {w : World} {tb : Nat} {v : Value} (h : w.heap[tb]? = some (.cells #[v] 72 (0, 0))) : w.cell? ⟨tb, 0, none⟩ = some v ∧ w.frozen? ⟨tb, 0, none⟩ = false := by
  constructor
  · rw [cell_of_blk h]; rfl
  · exact frozen_of_row w tb 0 _ _ h
theorem own_setCell {w : World} {B e s n : Nat} {v : Value} {xs : List Value} (h : w.ownsRow B e s v n xs) {b : Nat} (hb : b < B) (k : Nat) (u : Value) : (w.setCell ⟨b, k, none⟩ u).ownsRow B e s v n xs := by
  refine ⟨h.1, ?_⟩
  rcases h.2 with hn | ⟨g, cap, cur, hv, hB, hg, rest⟩
  · exact .inl hn
  · exact .inr ⟨g, cap, cur, hv, hB, (Below.heap_setCell _ _ _ _ (show g ≠ b by omega)).trans hg, rest⟩
theorem own_pop {w : World} {B e s n g cap : Nat} {xs ys : List Value} (hx : xs.length = n * s) (h : w.ownsRow B e s (.slice (some ⟨g, 0, none⟩) (n + 1) cap) (n + 1) (xs ++ ys)) : w.ownsRow B e s (.slice (some ⟨g, 0, none⟩) n cap) n xs := by
  refine ⟨hx, ?_⟩
  rcases h.2 with ⟨hv, _⟩ | ⟨g', cap', cur, hv, hB, hg, hle, hm, hsz, ht⟩
  · simp at hv
  · simp only [Value.slice.injEq, Option.some.injEq, Addr.mk.injEq, and_true, true_and] at hv
    obtain ⟨rfl, rfl⟩ := hv
    refine .inr ⟨g, cap, cur, rfl, hB, hg, by omega, hm, hsz, ?_⟩
    have h2 := congrArg (List.take (n * s)) ht
    rw [List.take_take, Nat.min_eq_left (Nat.mul_le_mul_right _ (by omega)), ← hx, List.take_left] at h2
    rw [← hx]; exact h2
theorem turnC_snoc (q : List TurnD) (x : TurnD) : turnC (q ++ [x]) = turnC q ++ [.int .i64 x.place, .int .i64 x.fin, .int .i64 x.left] := by simp [turnC, turnC1]
set_option maxRecDepth 100000 in
set_option maxHeartbeats 4000000 in
theorem tlen_any (w : World) (va : Option Addr) (n cap : Nat) :
    Calls Try.prog 47 #[.slice va n cap] w fun e w' => e = .returned (.int .i64 n) ∧ w' = w := by
  go_enter Try.func47, Try.ntmps47
  go_wp2_with fail
  go_ret
  exact ⟨rfl, rfl⟩
set_option maxRecDepth 100000 in
set_option maxHeartbeats 4000000 in
theorem tpush_any (w : World) (tb : Nat) (q : List TurnD) (x : TurnD) (hq : TQ w tb q) (hn : q.length ≤ 100000) :
    Calls Try.prog 94 #[.pointer (some ⟨tb, 0, none⟩), .iface 87 (.agg #[.int .i64 x.place, .int .i64 x.fin, .int .i64 x.left])] w fun e w' => e = .returned (.tuple #[]) ∧ TQ w' tb (q ++ [x]) ∧ KF tb w w' := by
  obtain ⟨v, h0, hown⟩ := hq
  obtain ⟨c0, f0⟩ := TQ.cell h0
  have hlt := lt_of_blk h0
  obtain ⟨i0, hi0, hz0, hz1, hz2⟩ := turn_parts
  have ta := assert_turn x.place x.fin x.left
  go_enter Try.func94, Try.ntmps94
  go_wp2_with fail
  go_region_law (first
    | (refine step_append_lies _ (by rfl) _ _ _ (by rfl) (tb + 1) 87 i0 _ 3 24 Try.underlying72 hi0 hz0 hz1 hz2 rfl (by omega) v q.length (turnC q) (by rfl) (hown.alloc _) ⟨w.heap.size, 0, none⟩ 1 1 [.int .i64 x.place, .int .i64 x.fin, .int .i64 x.left] (by rfl) (by rfl) (World.news_of_block (cs := #[.int .i64 x.place, .int .i64 x.fin, .int .i64 x.left]) (t := 87) (fr := (0, 0)) (heap_new w _)) (by simp [Value.oneCell']) (by omega) (by unfold maxLen; omega) (by omega) (by simp; omega) (w.heap.size + 1) (by simp) ?_; intro g9 c9 V9 hown3 hgrow hat9 hlt9
       have t9 : V9.heap[tb]? = some (.cells #[v] 72 (0, 0)) := (hgrow.block _ (by simp; omega) (fun e => absurd (hown.lt tb e.symm).1 (by omega))).trans (heap_old _ _ h0)
       obtain ⟨c9', f9⟩ := TQ.cell t9))
  all_goals
    go_wp2_with fail
    have bl : Below tb w V9 := (((Below.refl _ _).alloc (by omega) _).drew).grown hgrow (by simp; omega) (fun k hk => by have := (hown.lt k hk).1; omega)
    have hg9 := (hown3.lt g9 rfl).1
    go_end0
    refine ⟨rfl, TQ.mk (g := g9) (cap := c9) ?_ ?_, ⟨bl.setCell (Nat.le_refl _) _, fun k hk hne hrk => ?_⟩⟩
    · rw [List.length_append]
      exact heap_setCell_same V9 tb 0 #[v] _ _ t9
    · unfold TRow
      rw [turnC_snoc, List.length_append]
      exact own_setCell hown3 (Nat.lt_succ_self _) _ _
    · have hrk' : v.ownBlock ≠ some k := by rw [← rowOf_at h0]; exact hrk
      refine ⟨(Below.heap_setCell _ _ _ _ (show k ≠ tb from hne)).trans ((hgrow.block _ (by simp; omega) (fun e => hrk' e.symm)).trans (Below.heap_alloc _ _ _ hk)), ?_⟩
      have t10 := heap_setCell_same V9 tb 0 #[v] _ (Value.slice (some ⟨g9, 0, none⟩) (q.length + 1) c9) t9
      rw [rowOf_at (v := .slice (some ⟨g9, 0, none⟩) (q.length + 1) c9) t10]
      intro e
      have e9 : g9 = k := by simpa [Value.ownBlock] using e
      rcases hat9 with h9 | h9
      · exact hrk' (by rw [h9, e9])
      · omega
set_option maxRecDepth 100000 in
set_option maxHeartbeats 4000000 in
theorem tpop_any (w : World) (tb : Nat) (q : List TurnD) (x : TurnD) (hq : TQ w tb (q ++ [x])) (hn : q.length ≤ 100000) :
    Calls Try.prog 93 #[.pointer (some ⟨tb, 0, none⟩)] w fun e w' => e = .returned (.iface 87 (.agg #[.int .i64 x.place, .int .i64 x.fin, .int .i64 x.left])) ∧ TQ w' tb q ∧ KF tb w w' := by
  obtain ⟨g, cap, h0, hg, hcap, hr⟩ := TQ.ne hq (by simp)
  have e1 : atQ (q ++ [x]) q.length = x := by simp [atQ, List.getD]
  obtain ⟨a1, a2, a3⟩ := hr.at q.length (by simp)
  rw [e1] at a1 a2 a3
  have hlen : (q ++ [x]).length = q.length + 1 := by simp
  rw [hlen] at h0 hcap
  have HR : Hid _ := hr
  clear hr hq e1 hlen
  obtain ⟨c0, f0⟩ := TQ.cell h0
  have hlt := lt_of_blk h0
  obtain ⟨xp, xf, xl⟩ := x
  simp only [] at a1 a2 a3
  obtain ⟨n, hnn⟩ : ∃ n, q.length = n := ⟨_, rfl⟩
  have HN : Hid (q.length = n) := hnn
  rw [hnn] at a1 a2 a3 h0 hcap c0 hn
  clear hnn
  have n1 : ((n + 1 : Nat) : Int) = (n : Int) + 1 := by omega
  have n2 : (n : Int) < (n : Int) + 1 := by omega
  have n3 : (n : Int) ≤ (cap : Int) := by omega
  go_enter Try.func93, Try.ntmps93
  go_wp2_with fail
  go_ret
  have hl := HN.out
  subst hl
  refine ⟨rfl, ⟨.slice (some ⟨g, 0, none⟩) q.length cap, ?_, ?_⟩, ⟨Below.alloc (B := tb) ((Below.refl tb w).setCell (p := ⟨tb, 0, none⟩) (Nat.le_refl _) _) (by simp; omega) _, fun k hk hne hrk => ?_⟩⟩
  · exact heap_old _ _ (heap_setCell_same w tb 0 _ _ _ h0)
  · have hr := HR.out
    rw [turnC_snoc, List.length_append] at hr
    exact (own_setCell (own_pop (turnC_len q) hr) (Nat.lt_succ_self _) _ _).alloc _
  · refine ⟨(Below.heap_alloc _ _ _ (by simpa using hk)).trans (Below.heap_setCell _ _ _ _ (show k ≠ tb from hne)), ?_⟩
    have t10 := heap_setCell_same w tb 0 _ _ (Value.slice (some ⟨g, 0, none⟩) q.length cap) h0
    rw [rowOf_same (Below.heap_alloc _ _ _ (by simpa using hlt)), rowOf_at (v := .slice (some ⟨g, 0, none⟩) q.length cap) t10]
    rw [rowOf_at h0] at hrk
    exact hrk
end Go.Proofs.Yteioennfpkoagaa.C
