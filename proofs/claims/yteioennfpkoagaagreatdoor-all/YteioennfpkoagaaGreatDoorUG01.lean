import Derived.Test.YteioennfpkoagaaGreatDoorT11
namespace Go.Proofs.YteioennfpkoagaaGreatDoor.C
open Go.RowKit K
attribute [local go_sem ↓] Go.wp_at_zero Go.wp_at_succ

section
variable {I : KerI} {M : MnS} {w0 w : World} {wb n q k : Nat} {f : Nat → PRc} {L : List Nat}
set_option maxRecDepth 100000 in
set_option maxHeartbeats 4000000 in
theorem step_running (h : WP I M w0 wb n q k f L w) (hg : AllG k f) (hk1 : 1 ≤ k) (hk2 : k ≤ 4398046511000) (hn : n ≤ 3999999999999999900) (hq : q ≤ 4398046510990) (ki kr p a b tk : Int) (t : ByteArray) (hkr : inR kr) (hp : inR p) (ha : inR a) (hb : inR b) (ht : t.size ≤ 9223372036854775807) (htk : inR tk) (hkk : ki = 3) :
    Calls Tryz.prog 49 #[ptrV wb, .agg #[.int .i64 ki, .int .i64 kr, .int .i64 p, .int .i64 a, .int .i64 b, .string t, .int .i64 tk]] w fun e w' => e = .returned (.bool true) ∧ ∃ f', WP I M w0 wb (n + 20) (q + 1) k f' L w' ∧ AllG k f' := by
  have HP : Hid (inR p ∧ inR a ∧ inR b ∧ t.size ≤ 9223372036854775807 ∧ inR tk) := ⟨hp, ha, hb, ht, htk⟩
  clear hp ha hb ht htk
  subst hkk
  have bo := newB w (.cells #[.int .i64 3, .int .i64 kr, .int .i64 p, .int .i64 a, .int .i64 b, .string t, .int .i64 tk] 117)
  have hob := heap_new w (.cells #[.int .i64 3, .int .i64 kr, .int .i64 p, .int .i64 a, .int .i64 b, .string t, .int .i64 tk] 117)
  have HW0 : Hid (WP I M w0 wb n q k f (w.heap.size :: L) (w.alloc (.cells #[.int .i64 3, .int .i64 kr, .int .i64 p, .int .i64 a, .int .i64 b, .string t, .int .i64 tk] 117))) := h.add _
  obtain ⟨rv, hwb, va, cap, rfl, hpr⟩ := HW0.out.world
  have c8 : (w.alloc (.cells #[.int .i64 3, .int .i64 kr, .int .i64 p, .int .i64 a, .int .i64 b, .string t, .int .i64 tk] 117)).cell? ⟨wb, 8, none⟩ = some (.slice va k cap) := by rw [cell_of_blk hwb]; rfl
  have HPI : Hid (∀ V, Calls Tryz.prog 97 #[.int .i64 kr, .int .i64 k] V fun e w' => e = .returned (.int .i64 (pickF kr k)) ∧ w' = V) := fun V => lpick_any kr k hkr ⟨by omega, by omega⟩ V
  obtain ⟨i, hi, hi1⟩ : ∃ i : Nat, pickF kr k = i ∧ i < k := by
    have := pickF_lt (c := kr) (n := k) (by omega)
    exact ⟨(pickF kr k).toNat, by omega, by omega⟩
  rw [hi] at HPI
  obtain ⟨g, rfl, cg⟩ := hpr i hi1
  have HGI : Hid ((f i).S = (f i).T) := hg i hi1
  have hi2 : (0 : Int) ≤ (i : Int) := by omega
  have hi3 : (i : Int) < (k : Int) := by omega
  have y1 : (w.alloc (.cells #[.int .i64 3, .int .i64 kr, .int .i64 p, .int .i64 a, .int .i64 b, .string t, .int .i64 tk] 117)).cell? ⟨w.heap.size, 1, none⟩ = some (.int .i64 kr) := by rw [cell_of_blk hob]; rfl
  clear hpr hi hkr h bo hwb
  unfold ptrV at *
  go_enter Tryz.func49, Tryz.ntmps49
  go_wp2_with fail
  go_quiet (first | (go_at_call 97; exact Calls.quiet_of_same (HPI.out _)))
  have HW1 : Hid (WP I M w0 wb n q k f (w.heap.size :: L) ((w.alloc (.cells #[.int .i64 3, .int .i64 kr, .int .i64 p, .int .i64 a, .int .i64 b, .string t, .int .i64 tk] 117)).drewN nq)) := HW0.out.below (below_drewN (Below.refl _ _) nq)
  have hob1 : ((w.alloc (.cells #[.int .i64 3, .int .i64 kr, .int .i64 p, .int .i64 a, .int .i64 b, .string t, .int .i64 tk] 117)).drewN nq).heap[w.heap.size]? = _ := hob
  clear HPI HW0 hob c8 cg y1
  generalize (w.alloc (.cells #[.int .i64 3, .int .i64 kr, .int .i64 p, .int .i64 a, .int .i64 b, .string t, .int .i64 tk] 117)).drewN nq = V at *
  have y0 : V.cell? ⟨w.heap.size, 0, none⟩ = some (.int .i64 3) := by rw [cell_of_blk hob1]; rfl
  have y2 : V.cell? ⟨w.heap.size, 2, none⟩ = some (.int .i64 p) := by rw [cell_of_blk hob1]; rfl
  have HR : Hid _ := lrunning_any HW1.out hi1 HGI.out (by omega) (by omega)
  unfold ptrV at HR
  go_wp2_with fail
  refine Calls.mono HR.out ?_
  rintro e w2 ⟨rfl, hx⟩
  have HX : Hid _ := hx
  clear HR hx
  go_wp2_with fail
  go_ret
  exact ⟨rfl, f, (HX.out.mono (by omega) (by omega)).less fun c hc => by simp [hc], hg⟩
set_option maxRecDepth 100000 in
set_option maxHeartbeats 4000000 in
theorem step_state (h : WP I M w0 wb n q k f L w) (hg : AllG k f) (hk1 : 1 ≤ k) (hk2 : k ≤ 4398046511000) (hn : n ≤ 3999999999999999900) (hq : q ≤ 4398046510990) (ki kr p a b tk : Int) (t : ByteArray) (hkr : inR kr) (hp : inR p) (ha : inR a) (hb : inR b) (ht : t.size ≤ 9223372036854775807) (htk : inR tk) (hkk : ki = 9) :
    Calls Tryz.prog 49 #[ptrV wb, .agg #[.int .i64 ki, .int .i64 kr, .int .i64 p, .int .i64 a, .int .i64 b, .string t, .int .i64 tk]] w fun e w' => e = .returned (.bool true) ∧ ∃ f', WP I M w0 wb (n + 20) (q + 1) k f' L w' ∧ AllG k f' := by
  have HP : Hid (inR p ∧ inR a ∧ inR b ∧ t.size ≤ 9223372036854775807 ∧ inR tk) := ⟨hp, ha, hb, ht, htk⟩
  clear hp ha hb ht htk
  subst hkk
  have bo := newB w (.cells #[.int .i64 9, .int .i64 kr, .int .i64 p, .int .i64 a, .int .i64 b, .string t, .int .i64 tk] 117)
  have hob := heap_new w (.cells #[.int .i64 9, .int .i64 kr, .int .i64 p, .int .i64 a, .int .i64 b, .string t, .int .i64 tk] 117)
  have HW0 : Hid (WP I M w0 wb n q k f (w.heap.size :: L) (w.alloc (.cells #[.int .i64 9, .int .i64 kr, .int .i64 p, .int .i64 a, .int .i64 b, .string t, .int .i64 tk] 117))) := h.add _
  obtain ⟨rv, hwb, va, cap, rfl, hpr⟩ := HW0.out.world
  have c8 : (w.alloc (.cells #[.int .i64 9, .int .i64 kr, .int .i64 p, .int .i64 a, .int .i64 b, .string t, .int .i64 tk] 117)).cell? ⟨wb, 8, none⟩ = some (.slice va k cap) := by rw [cell_of_blk hwb]; rfl
  have HPI : Hid (∀ V, Calls Tryz.prog 97 #[.int .i64 kr, .int .i64 k] V fun e w' => e = .returned (.int .i64 (pickF kr k)) ∧ w' = V) := fun V => lpick_any kr k hkr ⟨by omega, by omega⟩ V
  obtain ⟨i, hi, hi1⟩ : ∃ i : Nat, pickF kr k = i ∧ i < k := by
    have := pickF_lt (c := kr) (n := k) (by omega)
    exact ⟨(pickF kr k).toNat, by omega, by omega⟩
  rw [hi] at HPI
  obtain ⟨g, rfl, cg⟩ := hpr i hi1
  have HGI : Hid ((f i).S = (f i).T) := hg i hi1
  have hi2 : (0 : Int) ≤ (i : Int) := by omega
  have hi3 : (i : Int) < (k : Int) := by omega
  have y1 : (w.alloc (.cells #[.int .i64 9, .int .i64 kr, .int .i64 p, .int .i64 a, .int .i64 b, .string t, .int .i64 tk] 117)).cell? ⟨w.heap.size, 1, none⟩ = some (.int .i64 kr) := by rw [cell_of_blk hob]; rfl
  clear hpr hi hkr h bo hwb
  unfold ptrV at *
  go_enter Tryz.func49, Tryz.ntmps49
  go_wp2_with fail
  go_quiet (first | (go_at_call 97; exact Calls.quiet_of_same (HPI.out _)))
  have HW1 : Hid (WP I M w0 wb n q k f (w.heap.size :: L) ((w.alloc (.cells #[.int .i64 9, .int .i64 kr, .int .i64 p, .int .i64 a, .int .i64 b, .string t, .int .i64 tk] 117)).drewN nq)) := HW0.out.below (below_drewN (Below.refl _ _) nq)
  have hob1 : ((w.alloc (.cells #[.int .i64 9, .int .i64 kr, .int .i64 p, .int .i64 a, .int .i64 b, .string t, .int .i64 tk] 117)).drewN nq).heap[w.heap.size]? = _ := hob
  clear HPI HW0 hob c8 cg y1
  generalize (w.alloc (.cells #[.int .i64 9, .int .i64 kr, .int .i64 p, .int .i64 a, .int .i64 b, .string t, .int .i64 tk] 117)).drewN nq = V at *
  have y0 : V.cell? ⟨w.heap.size, 0, none⟩ = some (.int .i64 9) := by rw [cell_of_blk hob1]; rfl
  have y2 : V.cell? ⟨w.heap.size, 2, none⟩ = some (.int .i64 p) := by rw [cell_of_blk hob1]; rfl
  have HR : Hid _ := lstate_any HW1.out hi1 HGI.out (by omega) (by omega) p HP.out.1
  unfold ptrV at HR
  go_wp2_with fail
  refine Calls.mono HR.out ?_
  rintro e w2 ⟨rfl, hx⟩
  have HX : Hid _ := hx
  clear HR hx
  go_wp2_with fail
  go_ret
  exact ⟨rfl, f, (HX.out.mono (by omega) (by omega)).less fun c hc => by simp [hc], hg⟩
set_option maxRecDepth 100000 in
set_option maxHeartbeats 4000000 in
theorem step_raise (h : WP I M w0 wb n q k f L w) (hg : AllG k f) (hk1 : 1 ≤ k) (hk2 : k ≤ 4398046511000) (hn : n ≤ 3999999999999999900) (hq : q ≤ 4398046510990) (ki kr p a b tk : Int) (t : ByteArray) (hkr : inR kr) (hp : inR p) (ha : inR a) (hb : inR b) (ht : t.size ≤ 9223372036854775807) (htk : inR tk) (hkk : ki = 8) :
    Calls Tryz.prog 49 #[ptrV wb, .agg #[.int .i64 ki, .int .i64 kr, .int .i64 p, .int .i64 a, .int .i64 b, .string t, .int .i64 tk]] w fun e w' => e = .returned (.bool true) ∧ ∃ f', WP I M w0 wb (n + 20) (q + 1) k f' L w' ∧ AllG k f' := by
  have HP : Hid (inR p ∧ inR a ∧ inR b ∧ t.size ≤ 9223372036854775807 ∧ inR tk) := ⟨hp, ha, hb, ht, htk⟩
  clear hp ha hb ht htk
  subst hkk
  have bo := newB w (.cells #[.int .i64 8, .int .i64 kr, .int .i64 p, .int .i64 a, .int .i64 b, .string t, .int .i64 tk] 117)
  have hob := heap_new w (.cells #[.int .i64 8, .int .i64 kr, .int .i64 p, .int .i64 a, .int .i64 b, .string t, .int .i64 tk] 117)
  have HW0 : Hid (WP I M w0 wb n q k f (w.heap.size :: L) (w.alloc (.cells #[.int .i64 8, .int .i64 kr, .int .i64 p, .int .i64 a, .int .i64 b, .string t, .int .i64 tk] 117))) := h.add _
  obtain ⟨rv, hwb, va, cap, rfl, hpr⟩ := HW0.out.world
  have c8 : (w.alloc (.cells #[.int .i64 8, .int .i64 kr, .int .i64 p, .int .i64 a, .int .i64 b, .string t, .int .i64 tk] 117)).cell? ⟨wb, 8, none⟩ = some (.slice va k cap) := by rw [cell_of_blk hwb]; rfl
  have HPI : Hid (∀ V, Calls Tryz.prog 97 #[.int .i64 kr, .int .i64 k] V fun e w' => e = .returned (.int .i64 (pickF kr k)) ∧ w' = V) := fun V => lpick_any kr k hkr ⟨by omega, by omega⟩ V
  obtain ⟨i, hi, hi1⟩ : ∃ i : Nat, pickF kr k = i ∧ i < k := by
    have := pickF_lt (c := kr) (n := k) (by omega)
    exact ⟨(pickF kr k).toNat, by omega, by omega⟩
  rw [hi] at HPI
  obtain ⟨g, rfl, cg⟩ := hpr i hi1
  have HGI : Hid ((f i).S = (f i).T) := hg i hi1
  have hi2 : (0 : Int) ≤ (i : Int) := by omega
  have hi3 : (i : Int) < (k : Int) := by omega
  have y1 : (w.alloc (.cells #[.int .i64 8, .int .i64 kr, .int .i64 p, .int .i64 a, .int .i64 b, .string t, .int .i64 tk] 117)).cell? ⟨w.heap.size, 1, none⟩ = some (.int .i64 kr) := by rw [cell_of_blk hob]; rfl
  clear hpr hi hkr h bo hwb
  unfold ptrV at *
  go_enter Tryz.func49, Tryz.ntmps49
  go_wp2_with fail
  go_quiet (first | (go_at_call 97; exact Calls.quiet_of_same (HPI.out _)))
  have HW1 : Hid (WP I M w0 wb n q k f (w.heap.size :: L) ((w.alloc (.cells #[.int .i64 8, .int .i64 kr, .int .i64 p, .int .i64 a, .int .i64 b, .string t, .int .i64 tk] 117)).drewN nq)) := HW0.out.below (below_drewN (Below.refl _ _) nq)
  have hob1 : ((w.alloc (.cells #[.int .i64 8, .int .i64 kr, .int .i64 p, .int .i64 a, .int .i64 b, .string t, .int .i64 tk] 117)).drewN nq).heap[w.heap.size]? = _ := hob
  clear HPI HW0 hob c8 cg y1
  generalize (w.alloc (.cells #[.int .i64 8, .int .i64 kr, .int .i64 p, .int .i64 a, .int .i64 b, .string t, .int .i64 tk] 117)).drewN nq = V at *
  have y0 : V.cell? ⟨w.heap.size, 0, none⟩ = some (.int .i64 8) := by rw [cell_of_blk hob1]; rfl
  have y2 : V.cell? ⟨w.heap.size, 2, none⟩ = some (.int .i64 p) := by rw [cell_of_blk hob1]; rfl
  have HR := (HW1.out.below ((Below.refl _ _).drew)).xraise hi1 (by omega) HP.out.1
  have c0 : V.cell? ⟨(f i).pb, 0, none⟩ = some (.pointer (some (f i).x)) := by rw [cell_of_blk (HW1.out.pair hi1)]; rfl
  go_wp2_with fail
  go_region_law (go_simp; go_at_call 33; refine Calls.mono HR ?_; rintro e w2 ⟨rfl, hx, hst⟩; have HX : Hid _ := hx; have HST : Hid _ := hst; clear hx hst)
  all_goals
    have c1 : w2.cell? ⟨(f i).pb, 1, none⟩ = some (.pointer (some ⟨(f i).y, 0, none⟩)) := by
      have := HX.out.pair hi1
      simp only [setS_pb, setS_x, setS_y] at this
      rw [cell_of_blk this]; rfl
    have y22 : w2.cell? ⟨w.heap.size, 2, none⟩ = some (.int .i64 p) := by rw [cell_of_blk ((HST.out _ (by simp)).trans hob1)]; rfl
    have HY := (HX.out.below ((Below.refl _ _).drew)).yraise hi1 (by omega) (by omega) HP.out.1
    simp only [setS_y, setS_T, setS_j] at HY
    rw [← HGI.out] at HY
    clear HR c0 y0 y2
    unfold ptrV at HY
    go_wp2_with fail
    go_region_law (go_simp; go_at_call 100; refine Calls.mono HY ?_; rintro e w3 ⟨rfl, hx2, _⟩; have HX2 : Hid _ := hx2; clear hx2)
    all_goals
      clear HY
      have HF : Hid (AllG k (setT (setS f i (raiseF (M.D (f i).j) (f i).S p).2) i (raiseF (M.D (f i).j) (f i).S p).2)) := AllG.set hg i _
      generalize raiseF (M.D (f i).j) (f i).S p = r at *
      go_wp2_with fail
      go_ret
      exact ⟨by simp, _, (HX2.out.mono (by omega) (by omega)).less fun c hc => by simp [hc], HF.out⟩
end
end Go.Proofs.YteioennfpkoagaaGreatDoor.C
namespace Go.Proofs.YteioennfpkoagaaGreatDoor.C
open Go.RowKit K
attribute [local go_sem ↓] Go.wp_at_zero Go.wp_at_succ

section
variable {I : KerI} {M : MnS} {w0 w : World} {wb n q k : Nat} {f : Nat → PRc} {L : List Nat}
set_option maxRecDepth 100000 in
set_option maxHeartbeats 4000000 in
theorem step_tick (h : WP I M w0 wb n q k f L w) (hg : AllG k f) (hk1 : 1 ≤ k) (hk2 : k ≤ 4398046511000) (hn : n ≤ 3999999999999999900) (_hq : q ≤ 4398046510990) (ki kr p a b tk : Int) (t : ByteArray) (hkr : inR kr) (hp : inR p) (ha : inR a) (hb : inR b) (ht : t.size ≤ 9223372036854775807) (htk : inR tk) (hkk : ki = 2) :
    Calls Tryz.prog 49 #[ptrV wb, .agg #[.int .i64 ki, .int .i64 kr, .int .i64 p, .int .i64 a, .int .i64 b, .string t, .int .i64 tk]] w fun e w' => e = .returned (.bool true) ∧ ∃ f', WP I M w0 wb (n + 20) (q + 1) k f' L w' ∧ AllG k f' := by
  have HP : Hid (inR p ∧ inR a ∧ inR b ∧ t.size ≤ 9223372036854775807 ∧ inR tk) := ⟨hp, ha, hb, ht, htk⟩
  clear hp ha hb ht htk
  subst hkk
  have bo := newB w (.cells #[.int .i64 2, .int .i64 kr, .int .i64 p, .int .i64 a, .int .i64 b, .string t, .int .i64 tk] 117)
  have hob := heap_new w (.cells #[.int .i64 2, .int .i64 kr, .int .i64 p, .int .i64 a, .int .i64 b, .string t, .int .i64 tk] 117)
  have HW0 : Hid (WP I M w0 wb n q k f (w.heap.size :: L) (w.alloc (.cells #[.int .i64 2, .int .i64 kr, .int .i64 p, .int .i64 a, .int .i64 b, .string t, .int .i64 tk] 117))) := h.add _
  obtain ⟨rv, hwb, va, cap, rfl, hpr⟩ := HW0.out.world
  have c8 : (w.alloc (.cells #[.int .i64 2, .int .i64 kr, .int .i64 p, .int .i64 a, .int .i64 b, .string t, .int .i64 tk] 117)).cell? ⟨wb, 8, none⟩ = some (.slice va k cap) := by rw [cell_of_blk hwb]; rfl
  have HPI : Hid (∀ V, Calls Tryz.prog 97 #[.int .i64 kr, .int .i64 k] V fun e w' => e = .returned (.int .i64 (pickF kr k)) ∧ w' = V) := fun V => lpick_any kr k hkr ⟨by omega, by omega⟩ V
  obtain ⟨i, hi, hi1⟩ : ∃ i : Nat, pickF kr k = i ∧ i < k := by
    have := pickF_lt (c := kr) (n := k) (by omega)
    exact ⟨(pickF kr k).toNat, by omega, by omega⟩
  rw [hi] at HPI
  obtain ⟨g, rfl, cg⟩ := hpr i hi1
  have HGI : Hid ((f i).S = (f i).T) := hg i hi1
  have hi2 : (0 : Int) ≤ (i : Int) := by omega
  have hi3 : (i : Int) < (k : Int) := by omega
  have y1 : (w.alloc (.cells #[.int .i64 2, .int .i64 kr, .int .i64 p, .int .i64 a, .int .i64 b, .string t, .int .i64 tk] 117)).cell? ⟨w.heap.size, 1, none⟩ = some (.int .i64 kr) := by rw [cell_of_blk hob]; rfl
  clear hpr hi hkr h bo hwb
  unfold ptrV at *
  go_enter Tryz.func49, Tryz.ntmps49
  go_wp2_with fail
  go_quiet (first | (go_at_call 97; exact Calls.quiet_of_same (HPI.out _)))
  have HW1 : Hid (WP I M w0 wb n q k f (w.heap.size :: L) ((w.alloc (.cells #[.int .i64 2, .int .i64 kr, .int .i64 p, .int .i64 a, .int .i64 b, .string t, .int .i64 tk] 117)).drewN nq)) := HW0.out.below (below_drewN (Below.refl _ _) nq)
  have hob1 : ((w.alloc (.cells #[.int .i64 2, .int .i64 kr, .int .i64 p, .int .i64 a, .int .i64 b, .string t, .int .i64 tk] 117)).drewN nq).heap[w.heap.size]? = _ := hob
  clear HPI HW0 hob c8 cg y1
  generalize (w.alloc (.cells #[.int .i64 2, .int .i64 kr, .int .i64 p, .int .i64 a, .int .i64 b, .string t, .int .i64 tk] 117)).drewN nq = V at *
  have y0 : V.cell? ⟨w.heap.size, 0, none⟩ = some (.int .i64 2) := by rw [cell_of_blk hob1]; rfl
  have y2 : V.cell? ⟨w.heap.size, 2, none⟩ = some (.int .i64 p) := by rw [cell_of_blk hob1]; rfl
  have y6 : V.cell? ⟨w.heap.size, 6, none⟩ = some (.int .i64 tk) := by rw [cell_of_blk hob1]; rfl
  have HP8 : Hid _ := lpick_any tk 8 HP.out.2.2.2.2 (by omega) V
  obtain ⟨tq, htq, htq1⟩ : ∃ q : Nat, pickF tk 8 = q ∧ q < 8 := by
    have := pickF_lt (c := tk) (n := 8) (by omega)
    exact ⟨(pickF tk 8).toNat, by omega, by omega⟩
  rw [htq] at HP8
  clear htq
  go_wp2_with fail
  refine Calls.mono HP8.out ?_
  rintro e w2 ⟨rfl, hw2⟩
  have hw2b := hw2.symm
  subst hw2b
  clear hw2 HP8
  go_wp2_with fail
  clear y0 y2 y6 hob1
  generalize V = V0 at *
  go_loopw [6] (fun nv wr => ∃ (m : Nat) (f' : Nat → PRc), nv = .int .i64 ((m : Int) - 1) ∧ m ≤ 8 ∧ Hid (WP I M w0 wb (n + 2 * (8 - m)) (q + 1) k f' (w.heap.size :: L) wr) ∧ Hid (AllG k f') ∧ Hid ((f' i).pb = (f i).pb)) (fun nv _ => (intOf nv + 1).toNat)
  case atStart => exact ⟨tq + 1, f, by go_num, by omega, HW1.out.mono (by omega) (by omega), hg, rfl⟩
  case round =>
    obtain ⟨m, f', rfl, hm, HR, HG', HPB⟩ := hrel
    by_cases hlt : 0 < m
    · obtain ⟨r, rfl⟩ : ∃ r, m = r + 1 := ⟨m - 1, by omega⟩
      have ei : ((r + 1 : Nat) : Int) - 1 = (r : Int) := by omega
      rw [ei]
      have hq0 : (0 : Int) ≤ (r : Int) := by omega
      have w1 : IntKind.i64.wrap ((r : Int) - 1) = (r : Int) - 1 := wrap_small _ (by omega) (by omega)
      have c0 : wr.cell? ⟨(f i).pb, 0, none⟩ = some (.pointer (some (f' i).x)) := by rw [← HPB.out, cell_of_blk (HR.out.pair hi1)]; rfl
      have HT : Hid _ := HR.out.xtick hi1 (by omega)
      go_wp2_with fail
      refine Calls.mono HT.out ?_
      rintro e w2 ⟨rfl, h2, _⟩
      have h3 := h2.ytick hi1
      have hpp := h2.pair hi1
      obtain ⟨c4, f4, htm, _⟩ := h2.ycells hi1
      simp only [setS_y, setS_T, setS_pb, setS_x] at h3 hpp c4 f4 htm
      rw [HPB.out] at hpp
      have c1 : w2.cell? ⟨(f i).pb, 1, none⟩ = some (.pointer (some ⟨(f' i).y, 0, none⟩)) := by rw [cell_of_blk hpp]; rfl
      have HGI2 : (f' i).S = (f' i).T := HG'.out i hi1
      rw [← HGI2] at h3
      have HW3 : Hid (WP I M w0 wb (n + 2 * (8 - (r + 1)) + 1 + 1) (q + 1) k (setT (setS f' i (tickK (f' i).S)) i (tickK (f' i).S)) (w.heap.size :: L) (w2.setCell ⟨(f' i).y, 4, none⟩ (.int .i64 (((f' i).S.time : Int) + 1)))) := h3
      rw [← HGI2] at c4 htm
      have HG3 : Hid (AllG k (setT (setS f' i (tickK (f' i).S)) i (tickK (f' i).S))) := AllG.set HG'.out i _
      have HPB3 : Hid ((setT (setS f' i (tickK (f' i).S)) i (tickK (f' i).S) i).pb = (f i).pb) := by show _ = _; rw [setT_pb, setS_pb]; exact HPB.out
      clear h2 h3 hpp HT c0 HGI2
      generalize (f' i).S.time = tm at *
      have w2' : IntKind.i64.wrap ((tm : Int) + 1) = (tm : Int) + 1 := wrap_small _ (by omega) (by omega)
      go_wp2_with fail
      exact ⟨⟨r, _, by go_num, by omega, HW3.out.mono (by omega) (by omega), HG3, HPB3⟩, by simp [intOf]⟩
    · have hm0 : m = 0 := by omega
      subst hm0
      go_wp2_with fail
      go_ret
      exact ⟨rfl, f', (HR.out.mono (by omega) (by omega)).less fun c hc => by simp [hc], HG'.out⟩
end
end Go.Proofs.YteioennfpkoagaaGreatDoor.C
namespace Go.Proofs.YteioennfpkoagaaGreatDoor.C
open Go.RowKit K
attribute [local go_sem ↓] Go.wp_at_zero Go.wp_at_succ

section
variable {I : KerI} {M : MnS} {w0 w : World} {wb n q k : Nat} {f : Nat → PRc} {L : List Nat}
set_option maxRecDepth 100000 in
set_option maxHeartbeats 4000000 in
theorem asked_any (h : WP I M w0 wb n q k f L w) (hg : AllG k f) (hk2 : k ≤ 4398046511000) (hn : n ≤ 3999999999999999900) (hq : q ≤ 4398046511000) :
    Calls Tryz.prog 50 #[ptrV wb] w fun e w' => e = .returned (.bool true) ∧ WP I M w0 wb n q k f L w' := by
  have HW : Hid (WP I M w0 wb n q k f L w) := h
  have HG : Hid (AllG k f) := hg
  clear h hg
  unfold ptrV
  go_enter Tryz.func50, Tryz.ntmps50
  go_wp2_with fail
  go_loopw [3] (fun iv wr => ∃ i : Nat, iv = .int .i64 i ∧ i ≤ k ∧ Hid (WP I M w0 wb n q k f L wr)) (fun iv _ => k - (intOf iv).toNat)
  case atStart => exact ⟨0, rfl, by omega, HW⟩
  case round =>
    obtain ⟨i, rfl, hi, HR⟩ := hrel
    obtain ⟨rv, hwb, va, cap, rfl, hpr⟩ := HR.out.world
    have c8 : wr.cell? ⟨wb, 8, none⟩ = some (.slice va k cap) := by rw [cell_of_blk hwb]; rfl
    have HPR : Hid _ := hpr
    clear hpr hwb
    have w1 : IntKind.i64.wrap ((i : Int) + 1) = (i : Int) + 1 := wrap_small _ (by omega) (by omega)
    by_cases hlt : i < k
    · have hlt' : (i : Int) < (k : Int) := by omega
      have hi0 : (0 : Int) ≤ (i : Int) := by omega
      obtain ⟨g, rfl, cg⟩ := HPR.out i hlt
      have HRU : Hid _ := lrunning_any HR.out hlt (HG.out i hlt) (by omega) (by omega)
      unfold ptrV at cg HRU
      go_wp2_with fail
      refine Calls.mono HRU.out ?_
      rintro e w2 ⟨rfl, h2⟩
      have HW2 : Hid (WP I M w0 wb n q k f L w2) := h2
      have HP8 : Hid ((M.D (f i).j).parts.length ≤ 8) := (h2.ycells hlt).2.2.2.choose_spec.choose_spec.2
      clear h2 HRU cg c8 HPR
      generalize hpn : (M.D (f i).j).parts.length = pn at *
      have HPN : Hid ((M.D (f i).j).parts.length = pn) := hpn
      have hp8 := HP8.out
      clear hpn
      generalize wr = wq at *
      go_wp2_with fail
      go_loopw [5, 6] (fun ov nv wr => ∃ m : Nat, ov = .bool true ∧ nv = .int .i64 ((m : Int) - 1) ∧ m ≤ pn + 2 ∧ Hid (WP I M w0 wb n q k f L wr)) (fun _ nv _ => pn + 2 - (intOf nv + 1).toNat)
      case atStart => exact ⟨0, rfl, by go_num, by omega, HW2⟩
      case round =>
        obtain ⟨m, rfl, rfl, hm, HR2⟩ := hrel
        have w2' : IntKind.i64.wrap ((m : Int) - 1 + 1) = ((m + 1 : Nat) : Int) - 1 := by rw [wrap_small _ (by omega) (by omega)]; omega
        have c1 : wr.cell? ⟨(f i).pb, 1, none⟩ = some (.pointer (some ⟨(f i).y, 0, none⟩)) := by rw [cell_of_blk (HR2.out.pair hlt)]; rfl
        obtain ⟨_, _, _, va5, cap5, c5, _⟩ := HR2.out.ycells hlt
        rw [HPN.out] at c5
        by_cases hmt : m ≤ pn + 1
        · have hle : (m : Int) - 1 ≤ (pn : Int) := by omega
          have HST : Hid _ := lstate_any HR2.out hlt (HG.out i hlt) (by omega) (by omega) ((m : Int) - 1) ⟨by omega, by omega⟩
          unfold ptrV at HST
          go_wp2_with fail
          refine Calls.mono HST.out ?_
          rintro e w3 ⟨rfl, h3⟩
          have HW3 : Hid (WP I M w0 wb n q k f L w3) := h3
          clear h3 HST c1 c5
          go_wp2_with fail
          exact ⟨⟨m + 1, rfl, by go_num, by omega, HW3⟩, by simp [intOf]; omega⟩
        · have hle : ¬ (m : Int) - 1 ≤ (pn : Int) := by omega
          go_wp2_with fail
          exact ⟨⟨i + 1, by go_num, by omega, HR2⟩, by simp [intOf]; omega⟩
    · have hlt' : ¬ (i : Int) < (k : Int) := by omega
      go_wp2_with fail
      go_ret
      exact ⟨rfl, HR.out⟩
end
end Go.Proofs.YteioennfpkoagaaGreatDoor.C
