import Derived.Test.YteioennfpkoagaaGreatDoorT11
namespace Go.Proofs.YteioennfpkoagaaGreatDoor.C
open Go.RowKit K
attribute [local go_sem ↓] Go.wp_at_zero Go.wp_at_succ

section
variable {I : KerI} {M : MnS} {w0 w : World} {wb n q k i : Nat} {f : Nat → PRc} {L : List Nat}
set_option maxRecDepth 100000 in
set_option maxHeartbeats 4000000 in
theorem moves_recv (h : WP I M w0 wb n q k f L w) (hi : i < k) (hg : AllG k f) (hn : n ≤ 3999999999999999990) (hq : q ≤ 4398046511000) (ki kr p a b tk : Int) (t : ByteArray) (hp : inR p) (ha : inR a) (hb : inR b) (ht : t.size ≤ 9223372036854775807) (hk : ki = 7) :
    Calls Tryz.prog 102 #[ptrV (f i).pb, .agg (opC ⟨ki, kr, p, a, b, t, tk⟩)] w fun e w' => e = .returned (.bool true) ∧ ∃ f', WP I M w0 wb (n + 2) (q + 1) k f' L w' ∧ AllG k f' := by
  have HW : Hid (WP I M w0 wb n q k f L w) := h
  have HP : Hid (inR p ∧ inR a ∧ inR b ∧ t.size ≤ 9223372036854775807) := ⟨hp, ha, hb, ht⟩
  have HGI : Hid ((f i).S = (f i).T) := hg i hi
  clear h hp ha hb ht
  subst hk
  unfold ptrV opC
  go_enter Tryz.func102, Tryz.ntmps102
  have bo := newB w (.cells #[.int .i64 7, .int .i64 kr, .int .i64 p, .int .i64 a, .int .i64 b, .string t, .int .i64 tk] 117)
  have ho := heap_new w (.cells #[.int .i64 7, .int .i64 kr, .int .i64 p, .int .i64 a, .int .i64 b, .string t, .int .i64 tk] 117)
  have HW0 : Hid (WP I M w0 wb n q k f (w.heap.size :: L) (w.alloc (.cells #[.int .i64 7, .int .i64 kr, .int .i64 p, .int .i64 a, .int .i64 b, .string t, .int .i64 tk] 117))) := HW.out.add _
  have c0 : (w.alloc (.cells #[.int .i64 7, .int .i64 kr, .int .i64 p, .int .i64 a, .int .i64 b, .string t, .int .i64 tk] 117)).cell? ⟨(f i).pb, 0, none⟩ = some (.pointer (some (f i).x)) := by rw [cell_of_blk (HW0.out.pair hi)]; rfl
  have HX := ((HW0.out.below ((Below.refl _ _).drew)).xrecv hi (by omega) HP.out.1 HP.out.2.1)
  have q2 : (w.alloc (.cells #[.int .i64 7, .int .i64 kr, .int .i64 p, .int .i64 a, .int .i64 b, .string t, .int .i64 tk] 117)).cell? ⟨w.heap.size, 2, none⟩ = some (.int .i64 p) := by rw [cell_of_blk ho]; rfl
  have q3 : (w.alloc (.cells #[.int .i64 7, .int .i64 kr, .int .i64 p, .int .i64 a, .int .i64 b, .string t, .int .i64 tk] 117)).cell? ⟨w.heap.size, 3, none⟩ = some (.int .i64 a) := by rw [cell_of_blk ho]; rfl
  have q4 : (w.alloc (.cells #[.int .i64 7, .int .i64 kr, .int .i64 p, .int .i64 a, .int .i64 b, .string t, .int .i64 tk] 117)).cell? ⟨w.heap.size, 4, none⟩ = some (.int .i64 b) := by rw [cell_of_blk ho]; rfl
  have q5 : (w.alloc (.cells #[.int .i64 7, .int .i64 kr, .int .i64 p, .int .i64 a, .int .i64 b, .string t, .int .i64 tk] 117)).cell? ⟨w.heap.size, 5, none⟩ = some (.string t) := by rw [cell_of_blk ho]; rfl
  go_wp2_with fail
  clear bo
  generalize hV : w.alloc (.cells #[.int .i64 7, .int .i64 kr, .int .i64 p, .int .i64 a, .int .i64 b, .string t, .int .i64 tk] 117) = V at *
  go_region_law (go_simp; go_at_call 32; refine Calls.mono HX ?_; rintro e w1 ⟨rfl, h1, hst1⟩; have HW1 : Hid _ := h1; have HS1 : Hid _ := hst1; clear h1 hst1)
  all_goals
    have c1 : w1.cell? ⟨(f i).pb, 1, none⟩ = some (.pointer (some ⟨(f i).y, 0, none⟩)) := by
      have := HW1.out.pair hi
      simp only [setS_pb, setS_x, setS_y] at this
      rw [cell_of_blk this]; rfl
    have ho1 := (HS1.out _ (by simp)).trans ho
    have o2 : w1.cell? ⟨w.heap.size, 2, none⟩ = some (.int .i64 p) := by rw [cell_of_blk ho1]; rfl
    have o3 : w1.cell? ⟨w.heap.size, 3, none⟩ = some (.int .i64 a) := by rw [cell_of_blk ho1]; rfl
    have o4 : w1.cell? ⟨w.heap.size, 4, none⟩ = some (.int .i64 b) := by rw [cell_of_blk ho1]; rfl
    have o5 : w1.cell? ⟨w.heap.size, 5, none⟩ = some (.string t) := by rw [cell_of_blk ho1]; rfl
    clear c0 q2 q3 q4 q5 ho1 HX
    have HY := ((HW1.out.below ((Below.refl _ _).drew)).yrecv hi (by omega) hq HP.out.1 HP.out.2.1)
    simp only [setS_y, setS_T, setS_j] at HY
    rw [← HGI.out] at HY
    unfold ptrV at HY
    go_wp2_with fail
    go_region_law (go_simp; go_at_call 164; refine Calls.mono HY ?_; rintro e w2 ⟨rfl, h2, _⟩; have HW2 : Hid _ := h2; clear h2)
    all_goals
      clear HY HW1 HW0
      have HF : Hid (AllG k (setT (setS f i (recvF (M.D (f i).j) (f i).S p a).2) i (recvF (M.D (f i).j) (f i).S p a).2)) := AllG.set hg i _
      generalize recvF (M.D (f i).j) (f i).S p a = r at *
      go_wp2_with fail
      go_ret
      exact ⟨by simp, _, HW2.out.less fun c hc => by simp [hc], HF.out⟩
end
end Go.Proofs.YteioennfpkoagaaGreatDoor.C
