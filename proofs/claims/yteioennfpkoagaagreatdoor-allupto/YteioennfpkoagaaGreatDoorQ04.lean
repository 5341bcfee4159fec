import Derived.Test.YteioennfpkoagaaGreatDoorN10
import Derived.Test.YteioennfpkoagaaGreatDoorQ01
import Derived.Test.YteioennfpkoagaaGreatDoorQ02
import Derived.Test.YteioennfpkoagaaGreatDoorN13
namespace Go.Proofs.YteioennfpkoagaaGreatDoor.C
open Go.RowKit K
attribute [local go_sem ↓] Go.wp_at_zero Go.wp_at_succ

section
variable {I : KerI} {M : MnS} {w0 w : World} {wb n k : Nat} {f : Nat → PRc} {L : List Nat}
set_option maxRecDepth 100000 in
set_option maxHeartbeats 4000000 in
theorem step_moves (h : WP I M w0 wb n k f L w) (hg : AllG k f) (hk1 : 1 ≤ k) (hk2 : k ≤ 1099511627776) (hn : n ≤ 1099511627700) (ki kr p a b tk : Int) (t : ByteArray) (hkr : inR kr) (hp : inR p) (ha : inR a) (hb : inR b) (ht : t.size ≤ 9223372036854775807) (htk : inR tk) (hkk : ki = 4 ∨ ki = 5 ∨ ki = 6 ∨ ki = 7) :
    Calls Tryz.prog 49 #[ptrV wb, .agg #[.int .i64 ki, .int .i64 kr, .int .i64 p, .int .i64 a, .int .i64 b, .string t, .int .i64 tk]] w fun e w' => e = .returned (.bool true) ∧ ∃ f', WP I M w0 wb (n + 20) k f' L w' ∧ AllG k f' := by
  have HP : Hid (inR p ∧ inR a ∧ inR b ∧ t.size ≤ 9223372036854775807 ∧ inR tk) := ⟨hp, ha, hb, ht, htk⟩
  clear hp ha hb ht htk
  have HKK : Hid (ki = 4 ∨ ki = 5 ∨ ki = 6 ∨ ki = 7) := hkk
  have k1 : (ki == 1) = false := by simp; omega
  have k2 : ¬ ki < 1 := by omega
  have k3 : ¬ 9 < ki := by omega
  have k4 : (ki == 2) = false := by simp; omega
  have k5 : (ki == 3) = false := by simp; omega
  have k6 : (ki == 8) = false := by simp; omega
  have k7 : (ki == 9) = false := by simp; omega
  clear hkk
  have bo := newB w (.cells #[.int .i64 ki, .int .i64 kr, .int .i64 p, .int .i64 a, .int .i64 b, .string t, .int .i64 tk] 117)
  have hob := heap_new w (.cells #[.int .i64 ki, .int .i64 kr, .int .i64 p, .int .i64 a, .int .i64 b, .string t, .int .i64 tk] 117)
  have HW0 : Hid (WP I M w0 wb n k f (w.heap.size :: L) (w.alloc (.cells #[.int .i64 ki, .int .i64 kr, .int .i64 p, .int .i64 a, .int .i64 b, .string t, .int .i64 tk] 117))) := h.add _
  obtain ⟨rv, hwb, va, cap, rfl, hpr⟩ := HW0.out.world
  have c8 : (w.alloc (.cells #[.int .i64 ki, .int .i64 kr, .int .i64 p, .int .i64 a, .int .i64 b, .string t, .int .i64 tk] 117)).cell? ⟨wb, 8, none⟩ = some (.slice va k cap) := by rw [cell_of_blk hwb]; rfl
  have HPI : Hid (∀ V, Calls Tryz.prog 97 #[.int .i64 kr, .int .i64 k] V fun e w' => e = .returned (.int .i64 (pickF kr k)) ∧ w' = V) := fun V => lpick_any kr k hkr ⟨by omega, by omega⟩ V
  obtain ⟨i, hi, hi1⟩ : ∃ i : Nat, pickF kr k = i ∧ i < k := by
    have := pickF_lt (c := kr) (n := k) (by omega)
    exact ⟨(pickF kr k).toNat, by omega, by omega⟩
  rw [hi] at HPI
  obtain ⟨g, rfl, cg⟩ := hpr i hi1
  have HGI : Hid ((f i).S = (f i).T) := hg i hi1
  have hi2 : (0 : Int) ≤ (i : Int) := by omega
  have hi3 : (i : Int) < (k : Int) := by omega
  have y1 : (w.alloc (.cells #[.int .i64 ki, .int .i64 kr, .int .i64 p, .int .i64 a, .int .i64 b, .string t, .int .i64 tk] 117)).cell? ⟨w.heap.size, 1, none⟩ = some (.int .i64 kr) := by rw [cell_of_blk hob]; rfl
  clear hpr hi hkr h bo hwb
  unfold ptrV at *
  go_enter Tryz.func49, Tryz.ntmps49
  go_wp2_with fail
  go_quiet (first | (go_at_call 97; exact Calls.quiet_of_same (HPI.out _)))
  have HW1 : Hid (WP I M w0 wb n k f (w.heap.size :: L) ((w.alloc (.cells #[.int .i64 ki, .int .i64 kr, .int .i64 p, .int .i64 a, .int .i64 b, .string t, .int .i64 tk] 117)).drewN nq)) := HW0.out.below (below_drewN (Below.refl _ _) nq)
  have hob1 : ((w.alloc (.cells #[.int .i64 ki, .int .i64 kr, .int .i64 p, .int .i64 a, .int .i64 b, .string t, .int .i64 tk] 117)).drewN nq).heap[w.heap.size]? = _ := hob
  clear HPI HW0 hob c8 cg y1
  generalize (w.alloc (.cells #[.int .i64 ki, .int .i64 kr, .int .i64 p, .int .i64 a, .int .i64 b, .string t, .int .i64 tk] 117)).drewN nq = V at *
  have y0 : V.cell? ⟨w.heap.size, 0, none⟩ = some (.int .i64 ki) := by rw [cell_of_blk hob1]; rfl
  have y2 : V.cell? ⟨w.heap.size, 2, none⟩ = some (.int .i64 p) := by rw [cell_of_blk hob1]; rfl
  have y1 : V.cell? ⟨w.heap.size, 1, none⟩ = some (.int .i64 kr) := by rw [cell_of_blk hob1]; rfl
  have y3 : V.cell? ⟨w.heap.size, 3, none⟩ = some (.int .i64 a) := by rw [cell_of_blk hob1]; rfl
  have y4 : V.cell? ⟨w.heap.size, 4, none⟩ = some (.int .i64 b) := by rw [cell_of_blk hob1]; rfl
  have y5 : V.cell? ⟨w.heap.size, 5, none⟩ = some (.string t) := by rw [cell_of_blk hob1]; rfl
  have y6 : V.cell? ⟨w.heap.size, 6, none⟩ = some (.int .i64 tk) := by rw [cell_of_blk hob1]; rfl
  have HR : Hid (Calls Tryz.prog 102 #[ptrV (f i).pb, .agg (opC ⟨ki, kr, p, a, b, t, tk⟩)] V fun e w' => e = .returned (.bool true) ∧ ∃ f', WP I M w0 wb (n + 2) k f' (w.heap.size :: L) w' ∧ AllG k f') := by
    obtain ⟨q1, q2, q3, q4, _⟩ := HP.out
    rcases HKK.out with e | e | e | e
    · exact moves_read HW1.out hi1 hg (by omega) ki kr p a b tk t q1 q2 q3 q4 e
    · exact moves_write HW1.out hi1 hg (by omega) ki kr p a b tk t q1 q2 q3 q4 e
    · exact moves_send HW1.out hi1 hg (by omega) ki kr p a b tk t q1 q2 q3 q4 e
    · exact moves_recv HW1.out hi1 hg (by omega) ki kr p a b tk t q1 q2 q3 q4 e
  unfold ptrV opC at HR
  go_wp2_with fail
  refine Calls.mono HR.out ?_
  rintro e w2 ⟨rfl, f', hx, hg'⟩
  have HX : Hid _ := hx
  have HG' : Hid _ := hg'
  clear HR hx hg'
  go_wp2_with fail
  go_ret
  exact ⟨rfl, f', (HX.out.mono (by omega)).less fun c hc => by simp [hc], HG'.out⟩
end
end Go.Proofs.YteioennfpkoagaaGreatDoor.C
