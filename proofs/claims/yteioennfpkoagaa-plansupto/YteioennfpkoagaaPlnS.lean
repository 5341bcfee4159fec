import Derived.Test.YteioennfpkoagaaPlnR
namespace Go.Proofs.Yteioennfpkoagaa.C
open Go.RowKit
attribute [local go_sem ↓] Go.wp_at_zero Go.wp_at_succ

/- the heap at work: what it holds is what has to run -/
structure QI (w : World) (tb : Nat) (ps : List PartD) (t : Nat) (R : Nat → Int) (q : List TurnD) : Prop where
  mem : TQ w tb q
  hp : HeapQ q q.length
  qd : QD ps t R q
theorem TQ.lt {w : World} {tb : Nat} {q : List TurnD} (h : TQ w tb q) : tb < w.heap.size := by
  obtain ⟨v, h1, _⟩ := h
  exact lt_of_blk h1
theorem TQ.row_lt {w : World} {tb : Nat} {q : List TurnD} (h : TQ w tb q) : ∀ k, rowOf w tb = some k → tb + 1 ≤ k ∧ k < w.heap.size := by
  obtain ⟨v, h1, h2⟩ := h
  intro k hk
  rw [rowOf_at h1] at hk
  exact h2.lt k hk
theorem QI.bound {w : World} {tb : Nat} {ps : List PartD} {t : Nat} {R : Nat → Int} {q : List TurnD} (h : QI w tb ps t R q) (h0 : 0 < q.length) : ∃ j, j < ps.length ∧ atQ q 0 = ⟨j, endF ps t j, R j⟩ ∧ 0 < R j := by
  have hm : atQ q 0 ∈ q := by rw [atQ_eq h0]; exact List.getElem_mem h0
  obtain ⟨j, hj, hp, he⟩ := (h.qd.mem _).1 hm
  exact ⟨j, hj, he, hp⟩
set_option maxRecDepth 100000 in
set_option maxHeartbeats 4000000 in
theorem runOne_any (w : World) (tb : Nat) (ps : List PartD) (t : Nat) (q : List TurnD) (hq : QI w tb ps t (nowF ps t) q) (hn : q.length ≤ 80000) (hR : ∀ j, j < ps.length → nowF ps t j ≤ 1000) :
    Calls Try.prog 34 #[.pointer (some ⟨tb, 0, none⟩)] w fun e w' => e = .returned (.int .i64 (tickF ps t)) ∧ (∃ q', QI w' tb ps t (lefF ps (t + 1)) q' ∧ q'.length ≤ q.length) ∧ KF tb w w' := by
  have HQ : Hid _ := hq
  clear hq
  rcases TQ.form HQ.out.mem with ⟨he, b0⟩ | ⟨g, cap, b0, hg, hcap, hr⟩
  · obtain ⟨c0, f0⟩ := TQ.cell b0
    have hqd := HQ.out.qd
    rw [he] at hqd
    have hid := hqd.idle
    go_enter Try.func34, Try.ntmps34
    go_wp2_with fail
    refine Calls.mono (tlen_any w _ _ _) ?_
    rintro e w3 ⟨rfl, rfl⟩
    go_wp2_with fail
    go_ret
    refine ⟨by rw [hid.1]; rfl, ⟨q, ⟨HQ.out.mem, HQ.out.hp, ?_⟩, Nat.le_refl _⟩, KF.refl _ _⟩
    rw [he]; exact hid.2
  · by_cases h0 : q.length = 0
    · have he : q = [] := List.eq_nil_of_length_eq_zero h0
      obtain ⟨c0, f0⟩ := TQ.cell b0
      have hqd := HQ.out.qd
      rw [he] at hqd
      have hid := hqd.idle
      rw [h0] at c0
      clear b0 hr hcap
      go_enter Try.func34, Try.ntmps34
      go_wp2_with fail
      refine Calls.mono (tlen_any w _ _ _) ?_
      rintro e w3 ⟨rfl, rfl⟩
      go_wp2_with fail
      go_ret
      refine ⟨by rw [hid.1]; rfl, ⟨q, ⟨HQ.out.mem, HQ.out.hp, ?_⟩, Nat.le_refl _⟩, KF.refl _ _⟩
      rw [he]; exact hid.2
    · obtain ⟨c0, f0⟩ := TQ.cell b0
      obtain ⟨j, hj, hx, hpos⟩ := HQ.out.bound (by omega)
      have HX : Hid (∀ q1 : List TurnD, (q1 ++ [atQ q 0]).Perm q → tickF ps t = (atQ q 0).place ∧ 1 ≤ (atQ q 0).left ∧ ((atQ q 0).left - 1 ≤ 0 → QD ps t (lefF ps (t + 1)) q1) ∧ (0 < (atQ q 0).left - 1 → QD ps t (lefF ps (t + 1)) (q1 ++ [⟨(atQ q 0).place, (atQ q 0).fin, (atQ q 0).left - 1⟩]))) := fun q1 hp => QD.runs HQ.out.qd HQ.out.hp (by omega) hp
      have hl1 : (atQ q 0).left ≤ 1000 := by rw [hx]; exact hR j hj
      have hl2 : 0 < (atQ q 0).left := by rw [hx]; exact hpos
      have hz : ¬ (q.length : Int) = 0 := by omega
      have hzb : ((q.length : Int) == 0) = false := beq_false_of_ne hz
      have ta := assert_turn
      have HPOP : Hid _ := hpop_any w tb q HQ.out.mem (by omega) (by omega) HQ.out.hp
      have hbl := lt_of_blk b0
      have hlp : 0 < q.length := by omega
      clear hx hpos hR b0 hr h0 hcap
      generalize hx : atQ q 0 = x at *
      clear hx
      obtain ⟨xp, xf, xl⟩ := x
      simp only [] at hl1 hl2
      go_enter Try.func34, Try.ntmps34
      go_wp2_with fail
      refine Calls.mono (tlen_any w _ _ _) ?_
      rintro e w3 ⟨rfl, rfl⟩
      go_wp2_with fail
      refine Calls.mono HPOP.out ?_
      rintro e w4 ⟨rfl, ⟨q4, ht4, hh4, hp4⟩, hb4⟩
      obtain ⟨r1, r2, r3, r4⟩ := HX.out q4 hp4
      have hl4 : q4.length + 1 = q.length := by rw [← hp4.length_eq]; simp
      have R1 : Hid _ := r1
      have R3 : Hid _ := r3
      have R4 : Hid _ := r4
      have HL4 : Hid _ := hl4
      have HH4 : Hid _ := hh4
      clear r1 r2 r3 r4 hl4 hp4 hh4
      have ba : Below w4.heap.size w4 (w4.alloc (.cells #[.int .i64 xp, .int .i64 xf, .int .i64 (xl - 1)] 87)) := (Below.refl _ _).alloc (Nat.le_refl _) _
      have hnew := heap_new w4 (.cells #[.int .i64 xp, .int .i64 xf, .int .i64 (xl - 1)] 87)
      have HTL : Hid _ := ht4.row_lt
      have hbl4 := ht4.lt
      have ht5 := ht4.below ba
      have kf5 := hb4.trans (KF.all ba hbl4)
      have HNW : Hid _ := hnew
      have HT5 : Hid _ := ht5
      have HK5 : Hid _ := kf5
      have HRW : Hid (rowOf (w4.alloc (.cells #[.int .i64 xp, .int .i64 xf, .int .i64 (xl - 1)] 87)) tb = rowOf w4 tb) := rowOf_same (ba.block tb hbl4)
      have hsz : (w4.alloc (.cells #[.int .i64 xp, .int .i64 xf, .int .i64 (xl - 1)] 87)).heap.size = w4.heap.size + 1 := by simp
      have HSZ : Hid _ := hsz
      clear hnew ht5 kf5 ba ht4 hb4 hsz
      by_cases hm : 0 < xl - 1
      · go_wp2_with fail
        generalize w4.alloc (.cells #[.int .i64 xp, .int .i64 xf, .int .i64 (xl - 1)] 87) = W5 at *
        refine Calls.mono (hpush_any W5 tb q4 ⟨xp, xf, xl - 1⟩ HT5.out (by have := HL4.out; omega) HH4.out) ?_
        rintro e w6 ⟨rfl, ⟨q6, ht6, hh6, hp6⟩, hb6⟩
        have hnb := (hb6.far w4.heap.size (by rw [HSZ.out]; omega) (by omega) (by
          rw [HRW.out]
          intro e
          have := (HTL.out _ e).2
          omega)).1.trans HNW.out
        have x0 : w6.cell? ⟨w4.heap.size, 0, none⟩ = some (.int .i64 xp) := by rw [cell_of_blk hnb]; rfl
        go_wp2_with fail
        go_ret
        refine ⟨by rw [R1.out]; rfl, ⟨q6, ⟨ht6, hh6, (R4.out hm).perm hp6⟩, ?_⟩, HK5.out.trans hb6⟩
        rw [hp6.length_eq, List.length_append]
        exact Nat.le_of_eq HL4.out
      · go_wp2_with fail
        go_ret
        exact ⟨by rw [R1.out]; rfl, ⟨q4, ⟨HT5.out, HH4.out, R3.out (show xl - 1 ≤ 0 by omega)⟩, by have := HL4.out; omega⟩, HK5.out⟩
end Go.Proofs.Yteioennfpkoagaa.C
