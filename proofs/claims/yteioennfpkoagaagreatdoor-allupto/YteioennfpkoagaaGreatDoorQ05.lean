import Derived.Test.YteioennfpkoagaaGreatDoorN13
import Derived.Test.YteioennfpkoagaaGreatDoorQ04
import Derived.Test.YteioennfpkoagaaGreatDoorQ03
namespace Go.Proofs.YteioennfpkoagaaGreatDoor.C
open Go.RowKit K
attribute [local go_sem ↓] Go.wp_at_zero Go.wp_at_succ

section
variable {I : KerI} {M : MnS} {w0 w : World} {wb n k : Nat} {f : Nat → PRc} {L : List Nat}
set_option maxRecDepth 100000 in
set_option maxHeartbeats 4000000 in
theorem step_boot (htb : TB w0) (h : WP I M w0 wb n k f L w) (hg : AllG k f) (hk2 : k ≤ 1099511627776) (kr p a b tk : Int) (t : ByteArray) (ha : inR a) :
    Calls Tryz.prog 49 #[ptrV wb, .agg #[.int .i64 1, .int .i64 kr, .int .i64 p, .int .i64 a, .int .i64 b, .string t, .int .i64 tk]] w fun e w' => e = .returned (.bool true) ∧ ∃ f', WP I M w0 wb n (k + 1) f' [] w' ∧ AllG (k + 1) f' := by
  have HB : Hid _ := booted_any htb (h.below (newB w (.cells #[.int .i64 1, .int .i64 kr, .int .i64 p, .int .i64 a, .int .i64 b, .string t, .int .i64 tk] 117))) hg hk2 a ha
  clear h hg htb
  unfold ptrV at *
  go_enter Tryz.func49, Tryz.ntmps49
  go_wp2_with fail
  refine Calls.mono HB.out ?_
  rintro e w2 ⟨rfl, hx⟩
  have HX : Hid _ := hx
  clear hx HB
  go_wp2_with fail
  go_ret
  exact ⟨rfl, HX.out⟩
set_option maxRecDepth 100000 in
set_option maxHeartbeats 4000000 in
theorem step_none (h : WP I M w0 wb n k f L w) (ki kr p a b tk : Int) (t : ByteArray) (hki : inR ki) (hno : ki < 1 ∨ 9 < ki) :
    Calls Tryz.prog 49 #[ptrV wb, .agg #[.int .i64 ki, .int .i64 kr, .int .i64 p, .int .i64 a, .int .i64 b, .string t, .int .i64 tk]] w fun e w' => e = .returned (.bool true) ∧ WP I M w0 wb n k f L w' := by
  have HB : Hid (WP I M w0 wb n k f L (w.alloc (.cells #[.int .i64 ki, .int .i64 kr, .int .i64 p, .int .i64 a, .int .i64 b, .string t, .int .i64 tk] 117))) := h.below (newB w _)
  clear h
  have k1 : (ki == 1) = false := by simp; omega
  obtain ⟨hk1, hk2⟩ := hki
  unfold ptrV at *
  by_cases h1 : ki < 1
  · clear hno
    go_enter Tryz.func49, Tryz.ntmps49
    go_wp2_with fail
    go_ret
    exact ⟨rfl, HB.out⟩
  · have h2 : 9 < ki := by omega
    clear hno
    go_enter Tryz.func49, Tryz.ntmps49
    go_wp2_with fail
    go_ret
    exact ⟨rfl, HB.out⟩
theorem step_any (htb : TB w0) (h : WP I M w0 wb n k f [] w) (hg : AllG k f) (hk1 : 1 ≤ k) (hk2 : k ≤ 1099511627776) (hn : n ≤ 1099511627700) (o : OpD) (ho : OpR o) :
    Calls Tryz.prog 49 #[ptrV wb, .agg (opC o)] w fun e w' => e = .returned (.bool true) ∧ ∃ k' f', WP I M w0 wb (n + 20) k' f' [] w' ∧ AllG k' f' ∧ k ≤ k' ∧ k' ≤ k + 1 := by
  obtain ⟨ki, kr, p, a, b, t, tk⟩ := o
  obtain ⟨r1, r2, r3, r4, r5, r6, r7⟩ := ho
  simp only [] at r1 r2 r3 r4 r5 r6 r7
  unfold opC
  simp only []
  have same : ∀ {e : Ending} {w' : World}, (e = .returned (.bool true) ∧ ∃ f', WP I M w0 wb (n + 20) k f' [] w' ∧ AllG k f') → (e = .returned (.bool true) ∧ ∃ k' f', WP I M w0 wb (n + 20) k' f' [] w' ∧ AllG k' f' ∧ k ≤ k' ∧ k' ≤ k + 1) := fun ⟨h1, f', h2, h3⟩ => ⟨h1, k, f', h2, h3, Nat.le_refl _, Nat.le_succ _⟩
  by_cases hno : ki < 1 ∨ 9 < ki
  · exact (step_none h ki kr p a b tk t r1 hno).mono fun e w' ⟨h1, h2⟩ => same ⟨h1, f, h2.mono (by omega), hg⟩
  · rcases (show ki = 1 ∨ ki = 2 ∨ ki = 3 ∨ (ki = 4 ∨ ki = 5 ∨ ki = 6 ∨ ki = 7) ∨ ki = 8 ∨ ki = 9 by omega) with e | e | e | e | e | e
    · subst e
      exact (step_boot htb h hg hk2 kr p a b tk t r4).mono fun e w' ⟨h1, f', h2, h3⟩ => ⟨h1, k + 1, f', h2.mono (by omega), h3, by omega, Nat.le_refl _⟩
    · exact (step_tick h hg hk1 hk2 hn ki kr p a b tk t r2 r3 r4 r5 r6 r7 e).mono fun e w' hx => same hx
    · exact (step_running h hg hk1 hk2 hn ki kr p a b tk t r2 r3 r4 r5 r6 r7 e).mono fun e w' hx => same hx
    · exact (step_moves h hg hk1 hk2 hn ki kr p a b tk t r2 r3 r4 r5 r6 r7 e).mono fun e w' hx => same hx
    · exact (step_raise h hg hk1 hk2 hn ki kr p a b tk t r2 r3 r4 r5 r6 r7 e).mono fun e w' hx => same hx
    · exact (step_state h hg hk1 hk2 hn ki kr p a b tk t r2 r3 r4 r5 r6 r7 e).mono fun e w' hx => same hx
end
end Go.Proofs.YteioennfpkoagaaGreatDoor.C
