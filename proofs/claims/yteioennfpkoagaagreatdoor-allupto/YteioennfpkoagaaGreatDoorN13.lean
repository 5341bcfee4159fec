import Derived.Test.YteioennfpkoagaaGreatDoorN10
namespace Go.Proofs.YteioennfpkoagaaGreatDoor.C
open Go.RowKit K
attribute [local go_sem ↓] Go.wp_at_zero Go.wp_at_succ

section
variable {I : KerI} {M : MnS} {w0 w : World} {wb n k : Nat} {f : Nat → PRc} {L : List Nat}
set_option maxRecDepth 100000 in
set_option maxHeartbeats 4000000 in
theorem step_running (h : WP I M w0 wb n k f L w) (hg : AllG k f) (hk1 : 1 ≤ k) (hk2 : k ≤ 1099511627776) (hn : n ≤ 1099511627700) (ki kr p a b tk : Int) (t : ByteArray) (hkr : inR kr) (hp : inR p) (ha : inR a) (hb : inR b) (ht : t.size ≤ 9223372036854775807) (htk : inR tk) (hkk : ki = 3) :
    Calls Tryz.prog 49 #[ptrV wb, .agg #[.int .i64 ki, .int .i64 kr, .int .i64 p, .int .i64 a, .int .i64 b, .string t, .int .i64 tk]] w fun e w' => e = .returned (.bool true) ∧ ∃ f', WP I M w0 wb (n + 20) k f' L w' ∧ AllG k f' := by
  have HP : Hid (inR p ∧ inR a ∧ inR b ∧ t.size ≤ 9223372036854775807 ∧ inR tk) := ⟨hp, ha, hb, ht, htk⟩
  clear hp ha hb ht htk
  subst hkk
  have bo := newB w (.cells #[.int .i64 3, .int .i64 kr, .int .i64 p, .int .i64 a, .int .i64 b, .string t, .int .i64 tk] 117)
  have hob := heap_new w (.cells #[.int .i64 3, .int .i64 kr, .int .i64 p, .int .i64 a, .int .i64 b, .string t, .int .i64 tk] 117)
  have HW0 : Hid (WP I M w0 wb n k f (w.heap.size :: L) (w.alloc (.cells #[.int .i64 3, .int .i64 kr, .int .i64 p, .int .i64 a, .int .i64 b, .string t, .int .i64 tk] 117))) := h.add _
  obtain ⟨rv, hwb, va, cap, rfl, hpr⟩ := HW0.out.world
  have c8 : (w.alloc (.cells #[.int .i64 3, .int .i64 kr, .int .i64 p, .int .i64 a, .int .i64 b, .string t, .int .i64 tk] 117)).cell? ⟨wb, 8, none⟩ = some (.slice va k cap) := by rw [cell_of_blk hwb]; rfl
  have HPI : Hid (∀ V, Calls Tryz.prog 97 #[.int .i64 kr, .int .i64 k] V fun e w' => e = .returned (.int .i64 (pickF kr k)) ∧ w' = V) := fun V => lpick_any kr k hkr ⟨by omega, by omega⟩ V
  obtain ⟨i, hi, hi1⟩ : ∃ i : Nat, pickF kr k = i ∧ i < k := by
    have := pickF_lt (c := kr) (n := k) (by omega)
    exact ⟨(pickF kr k).toNat, by omega, by omega⟩
  rw [hi] at HPI
  obtain ⟨g, rfl, cg⟩ := hpr i hi1
  have HGI : Hid ((f i).S = (f i).T) := hg i hi1
  have hi2 : (0 : Int) ≤ (i : Int) := by omega
  have hi3 : (i : Int) < (k : Int) := by omega
  have y1 : (w.alloc (.cells #[.int .i64 3, .int .i64 kr, .int .i64 p, .int .i64 a, .int .i64 b, .string t, .int .i64 tk] 117)).cell? ⟨w.heap.size, 1, none⟩ = some (.int .i64 kr) := by rw [cell_of_blk hob]; rfl
  clear hpr hi hkr h bo hwb
  unfold ptrV at *
  go_enter Tryz.func49, Tryz.ntmps49
  go_wp2_with fail
  go_quiet (first | (go_at_call 97; exact Calls.quiet_of_same (HPI.out _)))
  have HW1 : Hid (WP I M w0 wb n k f (w.heap.size :: L) ((w.alloc (.cells #[.int .i64 3, .int .i64 kr, .int .i64 p, .int .i64 a, .int .i64 b, .string t, .int .i64 tk] 117)).drewN nq)) := HW0.out.below (below_drewN (Below.refl _ _) nq)
  have hob1 : ((w.alloc (.cells #[.int .i64 3, .int .i64 kr, .int .i64 p, .int .i64 a, .int .i64 b, .string t, .int .i64 tk] 117)).drewN nq).heap[w.heap.size]? = _ := hob
  clear HPI HW0 hob c8 cg y1
  generalize (w.alloc (.cells #[.int .i64 3, .int .i64 kr, .int .i64 p, .int .i64 a, .int .i64 b, .string t, .int .i64 tk] 117)).drewN nq = V at *
  have y0 : V.cell? ⟨w.heap.size, 0, none⟩ = some (.int .i64 3) := by rw [cell_of_blk hob1]; rfl
  have y2 : V.cell? ⟨w.heap.size, 2, none⟩ = some (.int .i64 p) := by rw [cell_of_blk hob1]; rfl
  have HR : Hid _ := lrunning_any HW1.out hi1 HGI.out (by omega)
  unfold ptrV at HR
  go_wp2_with fail
  refine Calls.mono HR.out ?_
  rintro e w2 ⟨rfl, hx⟩
  have HX : Hid _ := hx
  clear HR hx
  go_wp2_with fail
  go_ret
  exact ⟨rfl, f, (HX.out.mono (by omega)).less fun c hc => by simp [hc], hg⟩
set_option maxRecDepth 100000 in
set_option maxHeartbeats 4000000 in
theorem step_state (h : WP I M w0 wb n k f L w) (hg : AllG k f) (hk1 : 1 ≤ k) (hk2 : k ≤ 1099511627776) (hn : n ≤ 1099511627700) (ki kr p a b tk : Int) (t : ByteArray) (hkr : inR kr) (hp : inR p) (ha : inR a) (hb : inR b) (ht : t.size ≤ 9223372036854775807) (htk : inR tk) (hkk : ki = 9) :
    Calls Tryz.prog 49 #[ptrV wb, .agg #[.int .i64 ki, .int .i64 kr, .int .i64 p, .int .i64 a, .int .i64 b, .string t, .int .i64 tk]] w fun e w' => e = .returned (.bool true) ∧ ∃ f', WP I M w0 wb (n + 20) k f' L w' ∧ AllG k f' := by
  have HP : Hid (inR p ∧ inR a ∧ inR b ∧ t.size ≤ 9223372036854775807 ∧ inR tk) := ⟨hp, ha, hb, ht, htk⟩
  clear hp ha hb ht htk
  subst hkk
  have bo := newB w (.cells #[.int .i64 9, .int .i64 kr, .int .i64 p, .int .i64 a, .int .i64 b, .string t, .int .i64 tk] 117)
  have hob := heap_new w (.cells #[.int .i64 9, .int .i64 kr, .int .i64 p, .int .i64 a, .int .i64 b, .string t, .int .i64 tk] 117)
  have HW0 : Hid (WP I M w0 wb n k f (w.heap.size :: L) (w.alloc (.cells #[.int .i64 9, .int .i64 kr, .int .i64 p, .int .i64 a, .int .i64 b, .string t, .int .i64 tk] 117))) := h.add _
  obtain ⟨rv, hwb, va, cap, rfl, hpr⟩ := HW0.out.world
  have c8 : (w.alloc (.cells #[.int .i64 9, .int .i64 kr, .int .i64 p, .int .i64 a, .int .i64 b, .string t, .int .i64 tk] 117)).cell? ⟨wb, 8, none⟩ = some (.slice va k cap) := by rw [cell_of_blk hwb]; rfl
  have HPI : Hid (∀ V, Calls Tryz.prog 97 #[.int .i64 kr, .int .i64 k] V fun e w' => e = .returned (.int .i64 (pickF kr k)) ∧ w' = V) := fun V => lpick_any kr k hkr ⟨by omega, by omega⟩ V
  obtain ⟨i, hi, hi1⟩ : ∃ i : Nat, pickF kr k = i ∧ i < k := by
    have := pickF_lt (c := kr) (n := k) (by omega)
    exact ⟨(pickF kr k).toNat, by omega, by omega⟩
  rw [hi] at HPI
  obtain ⟨g, rfl, cg⟩ := hpr i hi1
  have HGI : Hid ((f i).S = (f i).T) := hg i hi1
  have hi2 : (0 : Int) ≤ (i : Int) := by omega
  have hi3 : (i : Int) < (k : Int) := by omega
  have y1 : (w.alloc (.cells #[.int .i64 9, .int .i64 kr, .int .i64 p, .int .i64 a, .int .i64 b, .string t, .int .i64 tk] 117)).cell? ⟨w.heap.size, 1, none⟩ = some (.int .i64 kr) := by rw [cell_of_blk hob]; rfl
  clear hpr hi hkr h bo hwb
  unfold ptrV at *
  go_enter Tryz.func49, Tryz.ntmps49
  go_wp2_with fail
  go_quiet (first | (go_at_call 97; exact Calls.quiet_of_same (HPI.out _)))
  have HW1 : Hid (WP I M w0 wb n k f (w.heap.size :: L) ((w.alloc (.cells #[.int .i64 9, .int .i64 kr, .int .i64 p, .int .i64 a, .int .i64 b, .string t, .int .i64 tk] 117)).drewN nq)) := HW0.out.below (below_drewN (Below.refl _ _) nq)
  have hob1 : ((w.alloc (.cells #[.int .i64 9, .int .i64 kr, .int .i64 p, .int .i64 a, .int .i64 b, .string t, .int .i64 tk] 117)).drewN nq).heap[w.heap.size]? = _ := hob
  clear HPI HW0 hob c8 cg y1
  generalize (w.alloc (.cells #[.int .i64 9, .int .i64 kr, .int .i64 p, .int .i64 a, .int .i64 b, .string t, .int .i64 tk] 117)).drewN nq = V at *
  have y0 : V.cell? ⟨w.heap.size, 0, none⟩ = some (.int .i64 9) := by rw [cell_of_blk hob1]; rfl
  have y2 : V.cell? ⟨w.heap.size, 2, none⟩ = some (.int .i64 p) := by rw [cell_of_blk hob1]; rfl
  have HR : Hid _ := lstate_any HW1.out hi1 HGI.out (by omega) p HP.out.1
  unfold ptrV at HR
  go_wp2_with fail
  refine Calls.mono HR.out ?_
  rintro e w2 ⟨rfl, hx⟩
  have HX : Hid _ := hx
  clear HR hx
  go_wp2_with fail
  go_ret
  exact ⟨rfl, f, (HX.out.mono (by omega)).less fun c hc => by simp [hc], hg⟩
set_option maxRecDepth 100000 in
set_option maxHeartbeats 4000000 in
theorem step_raise (h : WP I M w0 wb n k f L w) (hg : AllG k f) (hk1 : 1 ≤ k) (hk2 : k ≤ 1099511627776) (hn : n ≤ 1099511627700) (ki kr p a b tk : Int) (t : ByteArray) (hkr : inR kr) (hp : inR p) (ha : inR a) (hb : inR b) (ht : t.size ≤ 9223372036854775807) (htk : inR tk) (hkk : ki = 8) :
    Calls Tryz.prog 49 #[ptrV wb, .agg #[.int .i64 ki, .int .i64 kr, .int .i64 p, .int .i64 a, .int .i64 b, .string t, .int .i64 tk]] w fun e w' => e = .returned (.bool true) ∧ ∃ f', WP I M w0 wb (n + 20) k f' L w' ∧ AllG k f' := by
  have HP : Hid (inR p ∧ inR a ∧ inR b ∧ t.size ≤ 9223372036854775807 ∧ inR tk) := ⟨hp, ha, hb, ht, htk⟩
  clear hp ha hb ht htk
  subst hkk
  have bo := newB w (.cells #[.int .i64 8, .int .i64 kr, .int .i64 p, .int .i64 a, .int .i64 b, .string t, .int .i64 tk] 117)
  have hob := heap_new w (.cells #[.int .i64 8, .int .i64 kr, .int .i64 p, .int .i64 a, .int .i64 b, .string t, .int .i64 tk] 117)
  have HW0 : Hid (WP I M w0 wb n k f (w.heap.size :: L) (w.alloc (.cells #[.int .i64 8, .int .i64 kr, .int .i64 p, .int .i64 a, .int .i64 b, .string t, .int .i64 tk] 117))) := h.add _
  obtain ⟨rv, hwb, va, cap, rfl, hpr⟩ := HW0.out.world
  have c8 : (w.alloc (.cells #[.int .i64 8, .int .i64 kr, .int .i64 p, .int .i64 a, .int .i64 b, .string t, .int .i64 tk] 117)).cell? ⟨wb, 8, none⟩ = some (.slice va k cap) := by rw [cell_of_blk hwb]; rfl
  have HPI : Hid (∀ V, Calls Tryz.prog 97 #[.int .i64 kr, .int .i64 k] V fun e w' => e = .returned (.int .i64 (pickF kr k)) ∧ w' = V) := fun V => lpick_any kr k hkr ⟨by omega, by omega⟩ V
  obtain ⟨i, hi, hi1⟩ : ∃ i : Nat, pickF kr k = i ∧ i < k := by
    have := pickF_lt (c := kr) (n := k) (by omega)
    exact ⟨(pickF kr k).toNat, by omega, by omega⟩
  rw [hi] at HPI
  obtain ⟨g, rfl, cg⟩ := hpr i hi1
  have HGI : Hid ((f i).S = (f i).T) := hg i hi1
  have hi2 : (0 : Int) ≤ (i : Int) := by omega
  have hi3 : (i : Int) < (k : Int) := by omega
  have y1 : (w.alloc (.cells #[.int .i64 8, .int .i64 kr, .int .i64 p, .int .i64 a, .int .i64 b, .string t, .int .i64 tk] 117)).cell? ⟨w.heap.size, 1, none⟩ = some (.int .i64 kr) := by rw [cell_of_blk hob]; rfl
  clear hpr hi hkr h bo hwb
  unfold ptrV at *
  go_enter Tryz.func49, Tryz.ntmps49
  go_wp2_with fail
  go_quiet (first | (go_at_call 97; exact Calls.quiet_of_same (HPI.out _)))
  have HW1 : Hid (WP I M w0 wb n k f (w.heap.size :: L) ((w.alloc (.cells #[.int .i64 8, .int .i64 kr, .int .i64 p, .int .i64 a, .int .i64 b, .string t, .int .i64 tk] 117)).drewN nq)) := HW0.out.below (below_drewN (Below.refl _ _) nq)
  have hob1 : ((w.alloc (.cells #[.int .i64 8, .int .i64 kr, .int .i64 p, .int .i64 a, .int .i64 b, .string t, .int .i64 tk] 117)).drewN nq).heap[w.heap.size]? = _ := hob
  clear HPI HW0 hob c8 cg y1
  generalize (w.alloc (.cells #[.int .i64 8, .int .i64 kr, .int .i64 p, .int .i64 a, .int .i64 b, .string t, .int .i64 tk] 117)).drewN nq = V at *
  have y0 : V.cell? ⟨w.heap.size, 0, none⟩ = some (.int .i64 8) := by rw [cell_of_blk hob1]; rfl
  have y2 : V.cell? ⟨w.heap.size, 2, none⟩ = some (.int .i64 p) := by rw [cell_of_blk hob1]; rfl
  have HR := (HW1.out.below ((Below.refl _ _).drew)).xraise hi1 (by omega) HP.out.1
  have c0 : V.cell? ⟨(f i).pb, 0, none⟩ = some (.pointer (some (f i).x)) := by rw [cell_of_blk (HW1.out.pair hi1)]; rfl
  go_wp2_with fail
  go_region_law (go_simp; go_at_call 33; refine Calls.mono HR ?_; rintro e w2 ⟨rfl, hx, hst⟩; have HX : Hid _ := hx; have HST : Hid _ := hst; clear hx hst)
  all_goals
    have c1 : w2.cell? ⟨(f i).pb, 1, none⟩ = some (.pointer (some ⟨(f i).y, 0, none⟩)) := by
      have := HX.out.pair hi1
      simp only [setS_pb, setS_x, setS_y] at this
      rw [cell_of_blk this]; rfl
    have y22 : w2.cell? ⟨w.heap.size, 2, none⟩ = some (.int .i64 p) := by rw [cell_of_blk ((HST.out _ (by simp)).trans hob1)]; rfl
    have HY := (HX.out.below ((Below.refl _ _).drew)).yraise hi1 (by omega) HP.out.1
    simp only [setS_y, setS_T, setS_j] at HY
    rw [← HGI.out] at HY
    clear HR c0 y0 y2
    unfold ptrV at HY
    go_wp2_with fail
    go_region_law (go_simp; go_at_call 100; refine Calls.mono HY ?_; rintro e w3 ⟨rfl, hx2, _⟩; have HX2 : Hid _ := hx2; clear hx2)
    all_goals
      clear HY
      have HF : Hid (AllG k (setT (setS f i (raiseF (M.D (f i).j) (f i).S p).2) i (raiseF (M.D (f i).j) (f i).S p).2)) := AllG.set hg i _
      generalize raiseF (M.D (f i).j) (f i).S p = r at *
      go_wp2_with fail
      go_ret
      exact ⟨by simp, _, (HX2.out.mono (by omega)).less fun c hc => by simp [hc], HF.out⟩
end
end Go.Proofs.YteioennfpkoagaaGreatDoor.C
namespace Go.Proofs.YteioennfpkoagaaGreatDoor.C
open Go.RowKit K
attribute [local go_sem ↓] Go.wp_at_zero Go.wp_at_succ

section
variable {I : KerI} {M : MnS} {w0 w : World} {wb n k i : Nat} {f : Nat → PRc} {L : List Nat}
set_option maxRecDepth 100000 in
set_option maxHeartbeats 4000000 in
theorem moves_recv (h : WP I M w0 wb n k f L w) (hi : i < k) (hg : AllG k f) (hn : n ≤ 1099511627770) (ki kr p a b tk : Int) (t : ByteArray) (hp : inR p) (ha : inR a) (hb : inR b) (ht : t.size ≤ 9223372036854775807) (hk : ki = 7) :
    Calls Tryz.prog 102 #[ptrV (f i).pb, .agg (opC ⟨ki, kr, p, a, b, t, tk⟩)] w fun e w' => e = .returned (.bool true) ∧ ∃ f', WP I M w0 wb (n + 2) k f' L w' ∧ AllG k f' := by
  have HW : Hid (WP I M w0 wb n k f L w) := h
  have HP : Hid (inR p ∧ inR a ∧ inR b ∧ t.size ≤ 9223372036854775807) := ⟨hp, ha, hb, ht⟩
  have HGI : Hid ((f i).S = (f i).T) := hg i hi
  clear h hp ha hb ht
  subst hk
  unfold ptrV opC
  go_enter Tryz.func102, Tryz.ntmps102
  have bo := newB w (.cells #[.int .i64 7, .int .i64 kr, .int .i64 p, .int .i64 a, .int .i64 b, .string t, .int .i64 tk] 117)
  have ho := heap_new w (.cells #[.int .i64 7, .int .i64 kr, .int .i64 p, .int .i64 a, .int .i64 b, .string t, .int .i64 tk] 117)
  have HW0 : Hid (WP I M w0 wb n k f (w.heap.size :: L) (w.alloc (.cells #[.int .i64 7, .int .i64 kr, .int .i64 p, .int .i64 a, .int .i64 b, .string t, .int .i64 tk] 117))) := HW.out.add _
  have c0 : (w.alloc (.cells #[.int .i64 7, .int .i64 kr, .int .i64 p, .int .i64 a, .int .i64 b, .string t, .int .i64 tk] 117)).cell? ⟨(f i).pb, 0, none⟩ = some (.pointer (some (f i).x)) := by rw [cell_of_blk (HW0.out.pair hi)]; rfl
  have HX := ((HW0.out.below ((Below.refl _ _).drew)).xrecv hi (by omega) HP.out.1 HP.out.2.1)
  have q2 : (w.alloc (.cells #[.int .i64 7, .int .i64 kr, .int .i64 p, .int .i64 a, .int .i64 b, .string t, .int .i64 tk] 117)).cell? ⟨w.heap.size, 2, none⟩ = some (.int .i64 p) := by rw [cell_of_blk ho]; rfl
  have q3 : (w.alloc (.cells #[.int .i64 7, .int .i64 kr, .int .i64 p, .int .i64 a, .int .i64 b, .string t, .int .i64 tk] 117)).cell? ⟨w.heap.size, 3, none⟩ = some (.int .i64 a) := by rw [cell_of_blk ho]; rfl
  have q4 : (w.alloc (.cells #[.int .i64 7, .int .i64 kr, .int .i64 p, .int .i64 a, .int .i64 b, .string t, .int .i64 tk] 117)).cell? ⟨w.heap.size, 4, none⟩ = some (.int .i64 b) := by rw [cell_of_blk ho]; rfl
  have q5 : (w.alloc (.cells #[.int .i64 7, .int .i64 kr, .int .i64 p, .int .i64 a, .int .i64 b, .string t, .int .i64 tk] 117)).cell? ⟨w.heap.size, 5, none⟩ = some (.string t) := by rw [cell_of_blk ho]; rfl
  go_wp2_with fail
  clear bo
  generalize hV : w.alloc (.cells #[.int .i64 7, .int .i64 kr, .int .i64 p, .int .i64 a, .int .i64 b, .string t, .int .i64 tk] 117) = V at *
  go_region_law (go_simp; go_at_call 32; refine Calls.mono HX ?_; rintro e w1 ⟨rfl, h1, hst1⟩; have HW1 : Hid _ := h1; have HS1 : Hid _ := hst1; clear h1 hst1)
  all_goals
    have c1 : w1.cell? ⟨(f i).pb, 1, none⟩ = some (.pointer (some ⟨(f i).y, 0, none⟩)) := by
      have := HW1.out.pair hi
      simp only [setS_pb, setS_x, setS_y] at this
      rw [cell_of_blk this]; rfl
    have ho1 := (HS1.out _ (by simp)).trans ho
    have o2 : w1.cell? ⟨w.heap.size, 2, none⟩ = some (.int .i64 p) := by rw [cell_of_blk ho1]; rfl
    have o3 : w1.cell? ⟨w.heap.size, 3, none⟩ = some (.int .i64 a) := by rw [cell_of_blk ho1]; rfl
    have o4 : w1.cell? ⟨w.heap.size, 4, none⟩ = some (.int .i64 b) := by rw [cell_of_blk ho1]; rfl
    have o5 : w1.cell? ⟨w.heap.size, 5, none⟩ = some (.string t) := by rw [cell_of_blk ho1]; rfl
    clear c0 q2 q3 q4 q5 ho1 HX
    have HY := ((HW1.out.below ((Below.refl _ _).drew)).yrecv hi (by omega) HP.out.1 HP.out.2.1)
    simp only [setS_y, setS_T, setS_j] at HY
    rw [← HGI.out] at HY
    unfold ptrV at HY
    go_wp2_with fail
    go_region_law (go_simp; go_at_call 164; refine Calls.mono HY ?_; rintro e w2 ⟨rfl, h2, _⟩; have HW2 : Hid _ := h2; clear h2)
    all_goals
      clear HY HW1 HW0
      have HF : Hid (AllG k (setT (setS f i (recvF (M.D (f i).j) (f i).S p a).2) i (recvF (M.D (f i).j) (f i).S p a).2)) := AllG.set hg i _
      generalize recvF (M.D (f i).j) (f i).S p a = r at *
      go_wp2_with fail
      go_ret
      exact ⟨by simp, _, HW2.out.less fun c hc => by simp [hc], HF.out⟩
end
end Go.Proofs.YteioennfpkoagaaGreatDoor.C
namespace Go.Proofs.YteioennfpkoagaaGreatDoor.C
open Go.RowKit K
attribute [local go_sem ↓] Go.wp_at_zero Go.wp_at_succ

section
variable {I : KerI} {M : MnS} {w0 w : World} {wb n k : Nat} {f : Nat → PRc} {L : List Nat}
set_option maxRecDepth 100000 in
set_option maxHeartbeats 4000000 in
theorem step_tick (h : WP I M w0 wb n k f L w) (hg : AllG k f) (hk1 : 1 ≤ k) (hk2 : k ≤ 1099511627776) (hn : n ≤ 1099511627700) (ki kr p a b tk : Int) (t : ByteArray) (hkr : inR kr) (hp : inR p) (ha : inR a) (hb : inR b) (ht : t.size ≤ 9223372036854775807) (htk : inR tk) (hkk : ki = 2) :
    Calls Tryz.prog 49 #[ptrV wb, .agg #[.int .i64 ki, .int .i64 kr, .int .i64 p, .int .i64 a, .int .i64 b, .string t, .int .i64 tk]] w fun e w' => e = .returned (.bool true) ∧ ∃ f', WP I M w0 wb (n + 20) k f' L w' ∧ AllG k f' := by
  have HP : Hid (inR p ∧ inR a ∧ inR b ∧ t.size ≤ 9223372036854775807 ∧ inR tk) := ⟨hp, ha, hb, ht, htk⟩
  clear hp ha hb ht htk
  subst hkk
  have bo := newB w (.cells #[.int .i64 2, .int .i64 kr, .int .i64 p, .int .i64 a, .int .i64 b, .string t, .int .i64 tk] 117)
  have hob := heap_new w (.cells #[.int .i64 2, .int .i64 kr, .int .i64 p, .int .i64 a, .int .i64 b, .string t, .int .i64 tk] 117)
  have HW0 : Hid (WP I M w0 wb n k f (w.heap.size :: L) (w.alloc (.cells #[.int .i64 2, .int .i64 kr, .int .i64 p, .int .i64 a, .int .i64 b, .string t, .int .i64 tk] 117))) := h.add _
  obtain ⟨rv, hwb, va, cap, rfl, hpr⟩ := HW0.out.world
  have c8 : (w.alloc (.cells #[.int .i64 2, .int .i64 kr, .int .i64 p, .int .i64 a, .int .i64 b, .string t, .int .i64 tk] 117)).cell? ⟨wb, 8, none⟩ = some (.slice va k cap) := by rw [cell_of_blk hwb]; rfl
  have HPI : Hid (∀ V, Calls Tryz.prog 97 #[.int .i64 kr, .int .i64 k] V fun e w' => e = .returned (.int .i64 (pickF kr k)) ∧ w' = V) := fun V => lpick_any kr k hkr ⟨by omega, by omega⟩ V
  obtain ⟨i, hi, hi1⟩ : ∃ i : Nat, pickF kr k = i ∧ i < k := by
    have := pickF_lt (c := kr) (n := k) (by omega)
    exact ⟨(pickF kr k).toNat, by omega, by omega⟩
  rw [hi] at HPI
  obtain ⟨g, rfl, cg⟩ := hpr i hi1
  have HGI : Hid ((f i).S = (f i).T) := hg i hi1
  have hi2 : (0 : Int) ≤ (i : Int) := by omega
  have hi3 : (i : Int) < (k : Int) := by omega
  have y1 : (w.alloc (.cells #[.int .i64 2, .int .i64 kr, .int .i64 p, .int .i64 a, .int .i64 b, .string t, .int .i64 tk] 117)).cell? ⟨w.heap.size, 1, none⟩ = some (.int .i64 kr) := by rw [cell_of_blk hob]; rfl
  clear hpr hi hkr h bo hwb
  unfold ptrV at *
  go_enter Tryz.func49, Tryz.ntmps49
  go_wp2_with fail
  go_quiet (first | (go_at_call 97; exact Calls.quiet_of_same (HPI.out _)))
  have HW1 : Hid (WP I M w0 wb n k f (w.heap.size :: L) ((w.alloc (.cells #[.int .i64 2, .int .i64 kr, .int .i64 p, .int .i64 a, .int .i64 b, .string t, .int .i64 tk] 117)).drewN nq)) := HW0.out.below (below_drewN (Below.refl _ _) nq)
  have hob1 : ((w.alloc (.cells #[.int .i64 2, .int .i64 kr, .int .i64 p, .int .i64 a, .int .i64 b, .string t, .int .i64 tk] 117)).drewN nq).heap[w.heap.size]? = _ := hob
  clear HPI HW0 hob c8 cg y1
  generalize (w.alloc (.cells #[.int .i64 2, .int .i64 kr, .int .i64 p, .int .i64 a, .int .i64 b, .string t, .int .i64 tk] 117)).drewN nq = V at *
  have y0 : V.cell? ⟨w.heap.size, 0, none⟩ = some (.int .i64 2) := by rw [cell_of_blk hob1]; rfl
  have y2 : V.cell? ⟨w.heap.size, 2, none⟩ = some (.int .i64 p) := by rw [cell_of_blk hob1]; rfl
  have y6 : V.cell? ⟨w.heap.size, 6, none⟩ = some (.int .i64 tk) := by rw [cell_of_blk hob1]; rfl
  have HP8 : Hid _ := lpick_any tk 8 HP.out.2.2.2.2 (by omega) V
  obtain ⟨tq, htq, htq1⟩ : ∃ q : Nat, pickF tk 8 = q ∧ q < 8 := by
    have := pickF_lt (c := tk) (n := 8) (by omega)
    exact ⟨(pickF tk 8).toNat, by omega, by omega⟩
  rw [htq] at HP8
  clear htq
  go_wp2_with fail
  refine Calls.mono HP8.out ?_
  rintro e w2 ⟨rfl, hw2⟩
  have hw2b := hw2.symm
  subst hw2b
  clear hw2 HP8
  go_wp2_with fail
  clear y0 y2 y6 hob1
  generalize V = V0 at *
  go_loopw [6] (fun nv wr => ∃ (m : Nat) (f' : Nat → PRc), nv = .int .i64 ((m : Int) - 1) ∧ m ≤ 8 ∧ Hid (WP I M w0 wb (n + 2 * (8 - m)) k f' (w.heap.size :: L) wr) ∧ Hid (AllG k f') ∧ Hid ((f' i).pb = (f i).pb)) (fun nv _ => (intOf nv + 1).toNat)
  case atStart => exact ⟨tq + 1, f, by go_num, by omega, HW1.out.mono (by omega), hg, rfl⟩
  case round =>
    obtain ⟨m, f', rfl, hm, HR, HG', HPB⟩ := hrel
    by_cases hlt : 0 < m
    · obtain ⟨q, rfl⟩ : ∃ q, m = q + 1 := ⟨m - 1, by omega⟩
      have ei : ((q + 1 : Nat) : Int) - 1 = (q : Int) := by omega
      rw [ei]
      have hq0 : (0 : Int) ≤ (q : Int) := by omega
      have w1 : IntKind.i64.wrap ((q : Int) - 1) = (q : Int) - 1 := wrap_small _ (by omega) (by omega)
      have c0 : wr.cell? ⟨(f i).pb, 0, none⟩ = some (.pointer (some (f' i).x)) := by rw [← HPB.out, cell_of_blk (HR.out.pair hi1)]; rfl
      have HT : Hid _ := HR.out.xtick hi1 (by omega)
      go_wp2_with fail
      refine Calls.mono HT.out ?_
      rintro e w2 ⟨rfl, h2, _⟩
      have h3 := h2.ytick hi1
      have hpp := h2.pair hi1
      obtain ⟨c4, f4, htm, _⟩ := h2.ycells hi1
      simp only [setS_y, setS_T, setS_pb, setS_x] at h3 hpp c4 f4 htm
      rw [HPB.out] at hpp
      have c1 : w2.cell? ⟨(f i).pb, 1, none⟩ = some (.pointer (some ⟨(f' i).y, 0, none⟩)) := by rw [cell_of_blk hpp]; rfl
      have HGI2 : (f' i).S = (f' i).T := HG'.out i hi1
      rw [← HGI2] at h3
      have HW3 : Hid (WP I M w0 wb (n + 2 * (8 - (q + 1)) + 1 + 1) k (setT (setS f' i (tickK (f' i).S)) i (tickK (f' i).S)) (w.heap.size :: L) (w2.setCell ⟨(f' i).y, 4, none⟩ (.int .i64 (((f' i).S.time : Int) + 1)))) := h3
      rw [← HGI2] at c4 htm
      have HG3 : Hid (AllG k (setT (setS f' i (tickK (f' i).S)) i (tickK (f' i).S))) := AllG.set HG'.out i _
      have HPB3 : Hid ((setT (setS f' i (tickK (f' i).S)) i (tickK (f' i).S) i).pb = (f i).pb) := by show _ = _; rw [setT_pb, setS_pb]; exact HPB.out
      clear h2 h3 hpp HT c0 HGI2
      generalize (f' i).S.time = tm at *
      have w2' : IntKind.i64.wrap ((tm : Int) + 1) = (tm : Int) + 1 := wrap_small _ (by omega) (by omega)
      go_wp2_with fail
      exact ⟨⟨q, _, by go_num, by omega, HW3.out.mono (by omega), HG3, HPB3⟩, by simp [intOf]⟩
    · have hm0 : m = 0 := by omega
      subst hm0
      go_wp2_with fail
      go_ret
      exact ⟨rfl, f', (HR.out.mono (by omega)).less fun c hc => by simp [hc], HG'.out⟩
end
end Go.Proofs.YteioennfpkoagaaGreatDoor.C
