import Derived.Test.YteioennfpkoagaaPlnT
import Derived.Test.YteioennfpkoagaaPlnX
namespace Go.Proofs.Yteioennfpkoagaa.C
open Go.RowKit
attribute [local go_sem ↓] Go.wp_at_zero Go.wp_at_succ

/- the ticks while they are planned -/
def tkL (ps : List PartD) (n t : Nat) : List Int := (planN ps t).1 ++ List.replicate (n - t) 0
theorem tkL_len {ps : List PartD} {n t : Nat} (h : t ≤ n) : (tkL ps n t).length = n := by
  unfold tkL; rw [List.length_append, (planN_len ps t).1, List.length_replicate]; omega
theorem tkL_next {ps : List PartD} {n t : Nat} (h : t < n) : (tkL ps n t).set t (tickF ps t) = tkL ps n (t + 1) := by
  unfold tkL
  have hl := (planN_len ps t).1
  rw [planN_succ, List.set_append_right _ _ (by omega), hl, Nat.sub_self, show n - t = (n - (t + 1)) + 1 by omega, List.replicate_succ]
  simp
theorem TQ.low {w : World} {tb : Nat} {q : List TurnD} (h : TQ w tb q) {b : Nat} (hb : b < tb) (k : Nat) (u : Value) : TQ (w.setCell ⟨b, k, none⟩ u) tb q := by
  obtain ⟨v, h1, h2⟩ := h
  exact ⟨v, (Below.heap_setCell _ _ _ _ (show tb ≠ b by omega)).trans h1, own_setCell h2 (by omega) _ _⟩
structure PL (w : World) (f : Int) (pv cv : Value) (n : Nat) (ps : List PartD) (t : Nat) (q : List TurnD) (V : World) : Prop where
  man : V.heap[w.heap.size]? = some (.cells #[.int .i64 f, pv, cv] 34 (0, 0))
  tks : V.heap[w.heap.size + 1]? = some (.cells (intsC (tkL ps n t)).toArray 3 (0, 0))
  que : QI V (w.heap.size + 1 + 1) ps t (midF ps t 0) q
  few : q.length ≤ 8 * t
  bel : Below w.heap.size w V
theorem mid_start (ps : List PartD) : QD ps 0 (midF ps 0 0) [] := by
  apply QD.nil
  intro j hj
  unfold midF lefF
  rw [if_neg (by omega)]
  show (List.replicate ps.length (0 : Int)).getD j 0 ≤ 0
  simp only [List.getD, List.getElem?_replicate]
  split <;> simp
theorem now_le {ps : List PartD} (hsm : SmallP ps) (t j : Nat) (hj : j < ps.length) : nowF ps t j ≤ 1000 := by
  have h1 := planN_in ps (fun k hk => by have := hsm.dur k hk; omega) t j (by rw [(planN_len ps t).2]; exact hj)
  have h2 := hsm.dur j hj
  unfold nowF lefF durF
  rw [dif_pos hj]
  split <;> omega
set_option maxRecDepth 100000 in
set_option maxHeartbeats 4000000 in
theorem plan_any (n : Nat) (ps : List PartD) (pv cv : Value) (w : World) (hP : PartsV w pv ps) (hcv : ∃ a l k, cv = .slice a l k) (hT : PartsT n ps) (hsm : SmallP ps) (hn : n ≤ 240) (hpl : ps.length ≤ 8) :
    Calls Try.prog 23 #[.agg #[.int .i64 n, pv, cv]] w fun e w' => ∃ v, e = .returned v ∧ w'.ownsRow w.heap.size 3 1 v n (intsC (planN ps n).1) ∧ Below w.heap.size w w' := by
  have HP : Hid _ := hP
  obtain ⟨va, cap, rfl, hx⟩ := hP
  clear hx
  obtain ⟨ca, cl, ck, rfl⟩ := hcv
  have HT : Hid (PartsT n ps) := hT
  have HSM : Hid (SmallP ps) := hsm
  clear hT hsm
  have hmk := make_ints (w.alloc (.cells #[.int .i64 n, .slice va ps.length cap, .slice ca cl ck] 34)) n (by omega)
  go_enter Try.func23, Try.ntmps23
  go_wp2_with fail
  have P0 : PL w n (.slice va ps.length cap) (.slice ca cl ck) n ps 0 [] (((w.alloc (.cells #[.int .i64 n, .slice va ps.length cap, .slice ca cl ck] 34)).alloc (.cells (intsC (List.replicate n 0)).toArray 3)).alloc (.cells #[.slice none 0 0] 72)) := by
    have g1 := heap_new w (.cells #[.int .i64 n, .slice va ps.length cap, .slice ca cl ck] 34)
    have g2 := heap_new (w.alloc (.cells #[.int .i64 n, .slice va ps.length cap, .slice ca cl ck] 34)) (.cells (intsC (List.replicate n 0)).toArray 3)
    have g3 := heap_new ((w.alloc (.cells #[.int .i64 n, .slice va ps.length cap, .slice ca cl ck] 34)).alloc (.cells (intsC (List.replicate n 0)).toArray 3)) (.cells #[.slice none 0 0] 72)
    simp only [World.size_alloc] at g2 g3
    refine ⟨heap_old _ _ (heap_old _ _ g1), heap_old _ _ g2, ⟨⟨.slice none 0 0, g3, World.ownsRow_nil _ _ _ _⟩, fun k h0 hk => absurd hk (by simp), mid_start ps⟩, by simp, (((Below.refl _ _).alloc (Nat.le_refl _) _).alloc (by simp) _).alloc (by simp; omega) _⟩
  generalize ((w.alloc (.cells #[.int .i64 n, .slice va ps.length cap, .slice ca cl ck] 34)).alloc (.cells (intsC (List.replicate n 0)).toArray 3)).alloc (.cells #[.slice none 0 0] 72) = W at *
  have HP0 : Hid _ := P0
  clear P0 hmk
  go_loopw [11] (fun i wr => ∃ (t : Nat) (q : List TurnD), i = .int .i64 t ∧ t ≤ n ∧ Hid (PL w n (.slice va ps.length cap) (.slice ca cl ck) n ps t q wr)) (fun i _ => n - (intOf i).toNat)
  case atStart => exact ⟨0, [], rfl, by omega, HP0⟩
  case round =>
    obtain ⟨t, q, rfl, ht, HL⟩ := hrel
    by_cases hlt : t < n
    · have hlt' : (t : Int) < (n : Int) := by omega
      have ht0 : (0 : Int) ≤ (t : Int) := by omega
      have y1 : wr.cell? ⟨w.heap.size, 1, none⟩ = some (.slice va ps.length cap) := by rw [cell_of_blk HL.out.man]; rfl
      go_wp2_with fail
      refine Calls.mono (begin_any w wr (w.heap.size + 1 + 1) n ps _ t q HP.out (by omega) HL.out.bel HT.out HSM.out (by omega) hpl HL.out.que (by have := HL.out.few; omega)) ?_
      rintro e w2 ⟨rfl, ⟨q2, hq2, hl2⟩, hk2⟩
      have HQ2 : Hid _ := hq2
      have HL2 : Hid _ := hl2
      clear hq2 hl2 y1
      go_wp2_with fail
      refine Calls.mono (runOne_any w2 (w.heap.size + 1 + 1) ps t q2 HQ2.out (by have := HL2.out; have := HL.out.few; omega) (fun j hj => now_le HSM.out t j hj)) ?_
      rintro e w3 ⟨rfl, ⟨q3, hq3, hl3⟩, hk3⟩
      have hk := hk2.trans hk3
      have tk3 := (hk.bel.block (w.heap.size + 1) (by omega)).trans HL.out.tks
      have mn3 := (hk.bel.block w.heap.size (by omega)).trans HL.out.man
      have bl3 := HL.out.bel.trans (hk.bel.mono (show w.heap.size ≤ w.heap.size + 1 + 1 by omega))
      have x1 : w3.cell? ⟨w.heap.size + 1, t, none⟩ = some (.int .i64 ((tkL ps n t).getD t 0)) := by
        rw [cell_of_blk tk3]
        simp only [List.getElem?_toArray]
        exact intsC_at _ _ (by rw [tkL_len ht]; exact hlt)
      have x2 : w3.frozen? ⟨w.heap.size + 1, t, none⟩ = false := frozen_of_row w3 _ t _ _ tk3
      have HQ3 : Hid _ := hq3
      have HL3 : Hid _ := hl3
      have HTK : Hid _ := tk3
      have HMN : Hid _ := mn3
      have HBL : Hid _ := bl3
      clear hq3 hl3 tk3 mn3 bl3 hk hk2 hk3
      go_wp2_with fail
      refine ⟨⟨t + 1, q3, by go_num, by omega, ?_⟩, by simp [intOf]; omega⟩
      refine ⟨(Below.heap_setCell _ _ _ _ (show w.heap.size ≠ w.heap.size + 1 by omega)).trans HMN.out, ?_, ⟨HQ3.out.mem.low (by omega) _ _, HQ3.out.hp, QD.mid0 HT.out HQ3.out.qd⟩, by have := HL2.out; have := HL3.out; have := HL.out.few; omega, HBL.out.setCell (show w.heap.size ≤ w.heap.size + 1 by omega) _⟩
      have hs := heap_setCell_same w3 (w.heap.size + 1) t _ _ (.int .i64 (tickF ps t)) HTK.out
      rw [hs, ← tkL_next hlt, ← intsC_set, List.setIfInBounds_toArray]
    · have hlt' : ¬ (t : Int) < (n : Int) := by omega
      have hte : t = n := by omega
      subst hte
      go_wp2_with fail
      go_ret
      refine ⟨_, rfl, ⟨?_, .inr ⟨w.heap.size + 1, t, (intsC (tkL ps t t)).toArray, rfl, by omega, HL.out.tks, Nat.le_refl _, by unfold maxLen; omega, ?_, ?_⟩⟩, HL.out.bel⟩
      · rw [intsC_len, (planN_len ps t).1, Nat.mul_one]
      · simp [intsC_len, tkL_len (Nat.le_refl t)]
      · rw [List.toList_toArray, Nat.mul_one]
        have e : tkL ps t t = (planN ps t).1 := by unfold tkL; simp
        rw [e]
        exact List.take_of_length_le (by rw [intsC_len, (planN_len ps t).1]; exact Nat.le_refl _)
end Go.Proofs.Yteioennfpkoagaa.C
