import Derived.Test.YteioennfpkoagaaGreatDoorN13
import Derived.Test.YteioennfpkoagaaGreatDoorN14
import Derived.Test.YteioennfpkoagaaGreatDoorN12
namespace Go.Proofs.YteioennfpkoagaaGreatDoor.C
open Go.RowKit K
attribute [local go_sem ↓] Go.wp_at_zero Go.wp_at_succ

section
variable {I : KerI} {M : MnS} {w0 w : World} {wb n k : Nat} {f : Nat → PRc} {L : List Nat}
set_option maxRecDepth 100000 in
set_option maxHeartbeats 4000000 in
theorem step_boot (htb : TB w0) (h : WP I M w0 wb n k f L w) (hg : AllG k f) (hk2 : k ≤ 1099511627776) (kr p a b tk : Int) (t : ByteArray) (ha : inR a) :
    Calls Tryz.prog 49 #[ptrV wb, .agg #[.int .i64 1, .int .i64 kr, .int .i64 p, .int .i64 a, .int .i64 b, .string t, .int .i64 tk]] w fun e w' => e = .returned (.bool true) ∧ ∃ f', WP I M w0 wb n (k + 1) f' [] w' ∧ AllG (k + 1) f' := by
  have HB : Hid _ := booted_any htb (h.below (newB w (.cells #[.int .i64 1, .int .i64 kr, .int .i64 p, .int .i64 a, .int .i64 b, .string t, .int .i64 tk] 117))) hg hk2 a ha
  clear h hg htb
  unfold ptrV at *
  go_enter Tryz.func49, Tryz.ntmps49
  go_wp2_with fail
  refine Calls.mono HB.out ?_
  rintro e w2 ⟨rfl, hx⟩
  have HX : Hid _ := hx
  clear hx HB
  go_wp2_with fail
  go_ret
  exact ⟨rfl, HX.out⟩
set_option maxRecDepth 100000 in
set_option maxHeartbeats 4000000 in
theorem step_none (h : WP I M w0 wb n k f L w) (ki kr p a b tk : Int) (t : ByteArray) (hki : inR ki) (hno : ki < 1 ∨ 9 < ki) :
    Calls Tryz.prog 49 #[ptrV wb, .agg #[.int .i64 ki, .int .i64 kr, .int .i64 p, .int .i64 a, .int .i64 b, .string t, .int .i64 tk]] w fun e w' => e = .returned (.bool true) ∧ WP I M w0 wb n k f L w' := by
  have HB : Hid (WP I M w0 wb n k f L (w.alloc (.cells #[.int .i64 ki, .int .i64 kr, .int .i64 p, .int .i64 a, .int .i64 b, .string t, .int .i64 tk] 117))) := h.below (newB w _)
  clear h
  have k1 : (ki == 1) = false := by simp; omega
  obtain ⟨hk1, hk2⟩ := hki
  unfold ptrV at *
  by_cases h1 : ki < 1
  · clear hno
    go_enter Tryz.func49, Tryz.ntmps49
    go_wp2_with fail
    go_ret
    exact ⟨rfl, HB.out⟩
  · have h2 : 9 < ki := by omega
    clear hno
    go_enter Tryz.func49, Tryz.ntmps49
    go_wp2_with fail
    go_ret
    exact ⟨rfl, HB.out⟩
theorem step_any (htb : TB w0) (h : WP I M w0 wb n k f [] w) (hg : AllG k f) (hk1 : 1 ≤ k) (hk2 : k ≤ 1099511627776) (hn : n ≤ 1099511627700) (o : OpD) (ho : OpR o) :
    Calls Tryz.prog 49 #[ptrV wb, .agg (opC o)] w fun e w' => e = .returned (.bool true) ∧ ∃ k' f', WP I M w0 wb (n + 20) k' f' [] w' ∧ AllG k' f' ∧ k ≤ k' ∧ k' ≤ k + 1 := by
  obtain ⟨ki, kr, p, a, b, t, tk⟩ := o
  obtain ⟨r1, r2, r3, r4, r5, r6, r7⟩ := ho
  simp only [] at r1 r2 r3 r4 r5 r6 r7
  unfold opC
  simp only []
  have same : ∀ {e : Ending} {w' : World}, (e = .returned (.bool true) ∧ ∃ f', WP I M w0 wb (n + 20) k f' [] w' ∧ AllG k f') → (e = .returned (.bool true) ∧ ∃ k' f', WP I M w0 wb (n + 20) k' f' [] w' ∧ AllG k' f' ∧ k ≤ k' ∧ k' ≤ k + 1) := fun ⟨h1, f', h2, h3⟩ => ⟨h1, k, f', h2, h3, Nat.le_refl _, Nat.le_succ _⟩
  by_cases hno : ki < 1 ∨ 9 < ki
  · exact (step_none h ki kr p a b tk t r1 hno).mono fun e w' ⟨h1, h2⟩ => same ⟨h1, f, h2.mono (by omega), hg⟩
  · rcases (show ki = 1 ∨ ki = 2 ∨ ki = 3 ∨ (ki = 4 ∨ ki = 5 ∨ ki = 6 ∨ ki = 7) ∨ ki = 8 ∨ ki = 9 by omega) with e | e | e | e | e | e
    · subst e
      exact (step_boot htb h hg hk2 kr p a b tk t r4).mono fun e w' ⟨h1, f', h2, h3⟩ => ⟨h1, k + 1, f', h2.mono (by omega), h3, by omega, Nat.le_refl _⟩
    · exact (step_tick h hg hk1 hk2 hn ki kr p a b tk t r2 r3 r4 r5 r6 r7 e).mono fun e w' hx => same hx
    · exact (step_running h hg hk1 hk2 hn ki kr p a b tk t r2 r3 r4 r5 r6 r7 e).mono fun e w' hx => same hx
    · exact (step_moves h hg hk1 hk2 hn ki kr p a b tk t r2 r3 r4 r5 r6 r7 e).mono fun e w' hx => same hx
    · exact (step_raise h hg hk1 hk2 hn ki kr p a b tk t r2 r3 r4 r5 r6 r7 e).mono fun e w' hx => same hx
    · exact (step_state h hg hk1 hk2 hn ki kr p a b tk t r2 r3 r4 r5 r6 r7 e).mono fun e w' hx => same hx
end
end Go.Proofs.YteioennfpkoagaaGreatDoor.C
namespace Go.Proofs.YteioennfpkoagaaGreatDoor.C
open Go.RowKit K
attribute [local go_sem ↓] Go.wp_at_zero Go.wp_at_succ

theorem lawC_true (I : KerI) : LawC I where
  boot htb h hg hk c hc := booted_any htb h hg hk c hc
  step htb h hg hk1 hk2 hn o ho := step_any htb h hg hk1 hk2 hn o ho
  ask h hg hk hn := asked_any h hg hk hn
theorem OpsV.below {w w' : World} {v : Value} {os : List OpD} (h : OpsV w v os) (hb : Below w.heap.size w w') : OpsV w' v os := by
  obtain ⟨h1, va, cap, e, h2⟩ := h
  refine ⟨h1, va, cap, e, fun i hi => ?_⟩
  obtain ⟨b, off, e1, y0, y1, y2, y3, y4, y5, y6⟩ := h2 i hi
  have hlt : b < w.heap.size := World.block_lt_of_cell? w _ y0
  have hs : ∀ j, w'.cell? ⟨b, j, none⟩ = w.cell? ⟨b, j, none⟩ := fun j => hb.cell (by exact hlt)
  exact ⟨b, off, e1, (hs _).trans y0, (hs _).trans y1, (hs _).trans y2, (hs _).trans y3, (hs _).trans y4, (hs _).trans y5, (hs _).trans y6⟩
set_option maxRecDepth 100000 in
set_option maxHeartbeats 4000000 in
theorem all_law (I : KerI) (w : World) (htb : TB w) (f0 : Int) (ps0 : List PartD) (cs0 : List ChanD) (pv0 cv0 : Value) (f1 : Int) (ps1 : List PartD) (cs1 : List ChanD) (pv1 cv1 : Value) (u : Value) (os : List OpD)
    (hp0 : PartsV w pv0 ps0) (hc0 : ChansV w cv0 cs0) (hn0 : ps0.length ≤ 1048576) (hm0 : cs0.length ≤ 1048576) (hr0 : ∀ i (hi : i < ps0.length), ps0[i].regs.length ≤ 1048576)
    (hp1 : PartsV w pv1 ps1) (hc1 : ChansV w cv1 cs1) (hn1 : ps1.length ≤ 1048576) (hm1 : cs1.length ≤ 1048576) (hr1 : ∀ i (hi : i < ps1.length), ps1[i].regs.length ≤ 1048576) (ho : OpsV w u os) (hn : os.length ≤ 1048576) :
    Calls Tryz.prog 4 #[.agg #[.int .i64 f0, pv0, cv0], .agg #[.int .i64 f1, pv1, cv1], u] w fun e w' => e = .returned (.bool true) ∧ Below w.heap.size w w' := by
  have HUP : Hid (∀ V, Below w.heap.size w V → Calls Tryz.prog 15 #[.agg #[.int .i64 f0, pv0, cv0], .agg #[.int .i64 f1, pv1, cv1], u] V fun e w' => e = .returned (.int .i64 (-1)) ∧ Below V.heap.size V w') := fun V hV =>
    upto_any I (lawC_true I) V (htb.below hV) ⟨f0, ps0, cs0⟩ ⟨f1, ps1, cs1⟩ pv0 cv0 pv1 cv1 u os ⟨hp0.below hV, hc0.below hV, hn0, hm0, hr0⟩ ⟨hp1.below hV, hc1.below hV, hn1, hm1, hr1⟩ (ho.below hV) hn
  clear hp0 hc0 hr0 hp1 hc1 hr1 ho htb
  go_enter Tryz.func4, Tryz.ntmps4
  have n1 := newB w (.cells #[.int .i64 f0, pv0, cv0] 34)
  have n2 := n1.trans ((newB (w.alloc (.cells #[.int .i64 f0, pv0, cv0] 34)) (.cells #[.int .i64 f1, pv1, cv1] 34)).mono n1.size)
  have HN : Hid (Below w.heap.size w ((w.alloc (.cells #[.int .i64 f0, pv0, cv0] 34)).alloc (.cells #[.int .i64 f1, pv1, cv1] 34))) := n2
  clear n1 n2
  go_wp2_with fail
  refine Calls.mono (HUP.out _ HN.out) ?_
  rintro e w1 ⟨rfl, hb0⟩
  have hb := HN.out.trans (hb0.mono HN.out.size)
  clear hb0
  go_wp2_with fail
  go_ret
  exact ⟨rfl, hb⟩
end Go.Proofs.YteioennfpkoagaaGreatDoor.C
