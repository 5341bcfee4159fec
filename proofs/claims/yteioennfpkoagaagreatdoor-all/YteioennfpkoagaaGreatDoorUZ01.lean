import Derived.Test.YteioennfpkoagaaGreatDoorT11
import Derived.Test.YteioennfpkoagaaGreatDoorUD01
import Derived.Test.YteioennfpkoagaaGreatDoorUE01
import Derived.Test.YteioennfpkoagaaGreatDoorUC01
import Derived.Test.YteioennfpkoagaaGreatDoorUG01
import Derived.Test.YteioennfpkoagaaGreatDoorUF01
import Derived.Test.YteioennfpkoagaaGreatDoorUH02
import Derived.Test.YteioennfpkoagaaGreatDoorB30
import Derived.Test.YteioennfpkoagaaGreatDoorRows
import Derived.Test.YteioennfpkoagaaGreatDoorB31
import Derived.Lib.LaidTab
import Derived.Test.YteioennfpkoagaaGreatDoorUB03
import Derived.Test.YteioennfpkoagaaGreatDoorB28
import Derived.Test.YteioennfpkoagaaGreatDoorCards
import Derived.Test.YteioennfpkoagaaGreatDoorTie
namespace Go.Proofs.YteioennfpkoagaaGreatDoor.C
open Go.RowKit K
attribute [local go_sem ↓] Go.wp_at_zero Go.wp_at_succ

section
variable {I : KerI} {M : MnS} {w0 w : World} {wb n q k : Nat} {f : Nat → PRc} {L : List Nat}
set_option maxRecDepth 100000 in
set_option maxHeartbeats 4000000 in
theorem step_moves (h : WP I M w0 wb n q k f L w) (hg : AllG k f) (hk1 : 1 ≤ k) (hk2 : k ≤ 4398046511000) (hn : n ≤ 3999999999999999900) (hq : q ≤ 4398046510990) (ki kr p a b tk : Int) (t : ByteArray) (hkr : inR kr) (hp : inR p) (ha : inR a) (hb : inR b) (ht : t.size ≤ 9223372036854775807) (htk : inR tk) (hkk : ki = 4 ∨ ki = 5 ∨ ki = 6 ∨ ki = 7) :
    Calls Tryz.prog 49 #[ptrV wb, .agg #[.int .i64 ki, .int .i64 kr, .int .i64 p, .int .i64 a, .int .i64 b, .string t, .int .i64 tk]] w fun e w' => e = .returned (.bool true) ∧ ∃ f', WP I M w0 wb (n + 20) (q + 1) k f' L w' ∧ AllG k f' := by
  have HP : Hid (inR p ∧ inR a ∧ inR b ∧ t.size ≤ 9223372036854775807 ∧ inR tk) := ⟨hp, ha, hb, ht, htk⟩
  clear hp ha hb ht htk
  have HKK : Hid (ki = 4 ∨ ki = 5 ∨ ki = 6 ∨ ki = 7) := hkk
  have k1 : (ki == 1) = false := by simp; omega
  have k2 : ¬ ki < 1 := by omega
  have k3 : ¬ 9 < ki := by omega
  have k4 : (ki == 2) = false := by simp; omega
  have k5 : (ki == 3) = false := by simp; omega
  have k6 : (ki == 8) = false := by simp; omega
  have k7 : (ki == 9) = false := by simp; omega
  clear hkk
  have bo := newB w (.cells #[.int .i64 ki, .int .i64 kr, .int .i64 p, .int .i64 a, .int .i64 b, .string t, .int .i64 tk] 117)
  have hob := heap_new w (.cells #[.int .i64 ki, .int .i64 kr, .int .i64 p, .int .i64 a, .int .i64 b, .string t, .int .i64 tk] 117)
  have HW0 : Hid (WP I M w0 wb n q k f (w.heap.size :: L) (w.alloc (.cells #[.int .i64 ki, .int .i64 kr, .int .i64 p, .int .i64 a, .int .i64 b, .string t, .int .i64 tk] 117))) := h.add _
  obtain ⟨rv, hwb, va, cap, rfl, hpr⟩ := HW0.out.world
  have c8 : (w.alloc (.cells #[.int .i64 ki, .int .i64 kr, .int .i64 p, .int .i64 a, .int .i64 b, .string t, .int .i64 tk] 117)).cell? ⟨wb, 8, none⟩ = some (.slice va k cap) := by rw [cell_of_blk hwb]; rfl
  have HPI : Hid (∀ V, Calls Tryz.prog 97 #[.int .i64 kr, .int .i64 k] V fun e w' => e = .returned (.int .i64 (pickF kr k)) ∧ w' = V) := fun V => lpick_any kr k hkr ⟨by omega, by omega⟩ V
  obtain ⟨i, hi, hi1⟩ : ∃ i : Nat, pickF kr k = i ∧ i < k := by
    have := pickF_lt (c := kr) (n := k) (by omega)
    exact ⟨(pickF kr k).toNat, by omega, by omega⟩
  rw [hi] at HPI
  obtain ⟨g, rfl, cg⟩ := hpr i hi1
  have HGI : Hid ((f i).S = (f i).T) := hg i hi1
  have hi2 : (0 : Int) ≤ (i : Int) := by omega
  have hi3 : (i : Int) < (k : Int) := by omega
  have y1 : (w.alloc (.cells #[.int .i64 ki, .int .i64 kr, .int .i64 p, .int .i64 a, .int .i64 b, .string t, .int .i64 tk] 117)).cell? ⟨w.heap.size, 1, none⟩ = some (.int .i64 kr) := by rw [cell_of_blk hob]; rfl
  clear hpr hi hkr h bo hwb
  unfold ptrV at *
  go_enter Tryz.func49, Tryz.ntmps49
  go_wp2_with fail
  go_quiet (first | (go_at_call 97; exact Calls.quiet_of_same (HPI.out _)))
  have HW1 : Hid (WP I M w0 wb n q k f (w.heap.size :: L) ((w.alloc (.cells #[.int .i64 ki, .int .i64 kr, .int .i64 p, .int .i64 a, .int .i64 b, .string t, .int .i64 tk] 117)).drewN nq)) := HW0.out.below (below_drewN (Below.refl _ _) nq)
  have hob1 : ((w.alloc (.cells #[.int .i64 ki, .int .i64 kr, .int .i64 p, .int .i64 a, .int .i64 b, .string t, .int .i64 tk] 117)).drewN nq).heap[w.heap.size]? = _ := hob
  clear HPI HW0 hob c8 cg y1
  generalize (w.alloc (.cells #[.int .i64 ki, .int .i64 kr, .int .i64 p, .int .i64 a, .int .i64 b, .string t, .int .i64 tk] 117)).drewN nq = V at *
  have y0 : V.cell? ⟨w.heap.size, 0, none⟩ = some (.int .i64 ki) := by rw [cell_of_blk hob1]; rfl
  have y2 : V.cell? ⟨w.heap.size, 2, none⟩ = some (.int .i64 p) := by rw [cell_of_blk hob1]; rfl
  have y1 : V.cell? ⟨w.heap.size, 1, none⟩ = some (.int .i64 kr) := by rw [cell_of_blk hob1]; rfl
  have y3 : V.cell? ⟨w.heap.size, 3, none⟩ = some (.int .i64 a) := by rw [cell_of_blk hob1]; rfl
  have y4 : V.cell? ⟨w.heap.size, 4, none⟩ = some (.int .i64 b) := by rw [cell_of_blk hob1]; rfl
  have y5 : V.cell? ⟨w.heap.size, 5, none⟩ = some (.string t) := by rw [cell_of_blk hob1]; rfl
  have y6 : V.cell? ⟨w.heap.size, 6, none⟩ = some (.int .i64 tk) := by rw [cell_of_blk hob1]; rfl
  have HR : Hid (Calls Tryz.prog 102 #[ptrV (f i).pb, .agg (opC ⟨ki, kr, p, a, b, t, tk⟩)] V fun e w' => e = .returned (.bool true) ∧ ∃ f', WP I M w0 wb (n + 2) (q + 1) k f' (w.heap.size :: L) w' ∧ AllG k f') := by
    obtain ⟨q1, q2, q3, q4, _⟩ := HP.out
    rcases HKK.out with e | e | e | e
    · exact moves_read HW1.out hi1 hg (by omega) (by omega) ki kr p a b tk t q1 q2 q3 q4 e
    · exact moves_write HW1.out hi1 hg (by omega) (by omega) ki kr p a b tk t q1 q2 q3 q4 e
    · exact moves_send HW1.out hi1 hg (by omega) (by omega) ki kr p a b tk t q1 q2 q3 q4 e
    · exact moves_recv HW1.out hi1 hg (by omega) (by omega) ki kr p a b tk t q1 q2 q3 q4 e
  unfold ptrV opC at HR
  go_wp2_with fail
  refine Calls.mono HR.out ?_
  rintro e w2 ⟨rfl, f', hx, hg'⟩
  have HX : Hid _ := hx
  have HG' : Hid _ := hg'
  clear HR hx hg'
  go_wp2_with fail
  go_ret
  exact ⟨rfl, f', (HX.out.mono (by omega) (by omega)).less fun c hc => by simp [hc], HG'.out⟩
end
end Go.Proofs.YteioennfpkoagaaGreatDoor.C
namespace Go.Proofs.YteioennfpkoagaaGreatDoor.C
open Go.RowKit K
attribute [local go_sem ↓] Go.wp_at_zero Go.wp_at_succ

section
variable {I : KerI} {M : MnS} {w0 w : World} {wb n q k : Nat} {f : Nat → PRc} {L : List Nat}
set_option maxRecDepth 100000 in
set_option maxHeartbeats 4000000 in
theorem step_boot (htb : TB w0) (h : WP I M w0 wb n q k f L w) (hg : AllG k f) (hk2 : k ≤ 4398046511000) (kr p a b tk : Int) (t : ByteArray) (ha : inR a) :
    Calls Tryz.prog 49 #[ptrV wb, .agg #[.int .i64 1, .int .i64 kr, .int .i64 p, .int .i64 a, .int .i64 b, .string t, .int .i64 tk]] w fun e w' => e = .returned (.bool true) ∧ ∃ f', WP I M w0 wb n q (k + 1) f' [] w' ∧ AllG (k + 1) f' := by
  have HB : Hid _ := booted_any htb (h.below (newB w (.cells #[.int .i64 1, .int .i64 kr, .int .i64 p, .int .i64 a, .int .i64 b, .string t, .int .i64 tk] 117))) hg hk2 a ha
  clear h hg htb
  unfold ptrV at *
  go_enter Tryz.func49, Tryz.ntmps49
  go_wp2_with fail
  refine Calls.mono HB.out ?_
  rintro e w2 ⟨rfl, hx⟩
  have HX : Hid _ := hx
  clear hx HB
  go_wp2_with fail
  go_ret
  exact ⟨rfl, HX.out⟩
set_option maxRecDepth 100000 in
set_option maxHeartbeats 4000000 in
theorem step_none (h : WP I M w0 wb n q k f L w) (ki kr p a b tk : Int) (t : ByteArray) (hki : inR ki) (hno : ki < 1 ∨ 9 < ki) :
    Calls Tryz.prog 49 #[ptrV wb, .agg #[.int .i64 ki, .int .i64 kr, .int .i64 p, .int .i64 a, .int .i64 b, .string t, .int .i64 tk]] w fun e w' => e = .returned (.bool true) ∧ WP I M w0 wb n q k f L w' := by
  have HB : Hid (WP I M w0 wb n q k f L (w.alloc (.cells #[.int .i64 ki, .int .i64 kr, .int .i64 p, .int .i64 a, .int .i64 b, .string t, .int .i64 tk] 117))) := h.below (newB w _)
  clear h
  have k1 : (ki == 1) = false := by simp; omega
  obtain ⟨hk1, hk2⟩ := hki
  unfold ptrV at *
  by_cases h1 : ki < 1
  · clear hno
    go_enter Tryz.func49, Tryz.ntmps49
    go_wp2_with fail
    go_ret
    exact ⟨rfl, HB.out⟩
  · have h2 : 9 < ki := by omega
    clear hno
    go_enter Tryz.func49, Tryz.ntmps49
    go_wp2_with fail
    go_ret
    exact ⟨rfl, HB.out⟩
theorem step_any (htb : TB w0) (h : WP I M w0 wb n q k f [] w) (hg : AllG k f) (hk1 : 1 ≤ k) (hk2 : k ≤ 4398046511000) (hn : n ≤ 3999999999999999900) (hq : q ≤ 4398046510990) (o : OpD) (ho : OpR o) :
    Calls Tryz.prog 49 #[ptrV wb, .agg (opC o)] w fun e w' => e = .returned (.bool true) ∧ ∃ k' f', WP I M w0 wb (n + 20) (q + 1) k' f' [] w' ∧ AllG k' f' ∧ k ≤ k' ∧ k' ≤ k + 1 := by
  obtain ⟨ki, kr, p, a, b, t, tk⟩ := o
  obtain ⟨r1, r2, r3, r4, r5, r6, r7⟩ := ho
  simp only [] at r1 r2 r3 r4 r5 r6 r7
  unfold opC
  simp only []
  have same : ∀ {e : Ending} {w' : World}, (e = .returned (.bool true) ∧ ∃ f', WP I M w0 wb (n + 20) (q + 1) k f' [] w' ∧ AllG k f') → (e = .returned (.bool true) ∧ ∃ k' f', WP I M w0 wb (n + 20) (q + 1) k' f' [] w' ∧ AllG k' f' ∧ k ≤ k' ∧ k' ≤ k + 1) := fun ⟨h1, f', h2, h3⟩ => ⟨h1, k, f', h2, h3, Nat.le_refl _, Nat.le_succ _⟩
  by_cases hno : ki < 1 ∨ 9 < ki
  · exact (step_none h ki kr p a b tk t r1 hno).mono fun e w' ⟨h1, h2⟩ => same ⟨h1, f, h2.mono (by omega) (by omega), hg⟩
  · rcases (show ki = 1 ∨ ki = 2 ∨ ki = 3 ∨ (ki = 4 ∨ ki = 5 ∨ ki = 6 ∨ ki = 7) ∨ ki = 8 ∨ ki = 9 by omega) with e | e | e | e | e | e
    · subst e
      exact (step_boot htb h hg hk2 kr p a b tk t r4).mono fun e w' ⟨h1, f', h2, h3⟩ => ⟨h1, k + 1, f', h2.mono (by omega) (by omega), h3, by omega, Nat.le_refl _⟩
    · exact (step_tick h hg hk1 hk2 hn hq ki kr p a b tk t r2 r3 r4 r5 r6 r7 e).mono fun e w' hx => same hx
    · exact (step_running h hg hk1 hk2 hn hq ki kr p a b tk t r2 r3 r4 r5 r6 r7 e).mono fun e w' hx => same hx
    · exact (step_moves h hg hk1 hk2 hn hq ki kr p a b tk t r2 r3 r4 r5 r6 r7 e).mono fun e w' hx => same hx
    · exact (step_raise h hg hk1 hk2 hn hq ki kr p a b tk t r2 r3 r4 r5 r6 r7 e).mono fun e w' hx => same hx
    · exact (step_state h hg hk1 hk2 hn hq ki kr p a b tk t r2 r3 r4 r5 r6 r7 e).mono fun e w' hx => same hx
end
end Go.Proofs.YteioennfpkoagaaGreatDoor.C
namespace Go.Proofs.YteioennfpkoagaaGreatDoor.C
open Go.RowKit K
attribute [local go_sem ↓] Go.wp_at_zero Go.wp_at_succ

theorem lawC_true (I : KerI) : LawC I where
  boot htb h hg hk c hc := booted_any htb h hg hk c hc
  step htb h hg hk1 hk2 hn hq o ho := step_any htb h hg hk1 hk2 hn hq o ho
  ask h hg hk hn hq := asked_any h hg hk hn hq
theorem OpsV.below {w w' : World} {v : Value} {os : List OpD} (h : OpsV w v os) (hb : Below w.heap.size w w') : OpsV w' v os := by
  obtain ⟨h1, va, cap, e, h2⟩ := h
  refine ⟨h1, va, cap, e, fun i hi => ?_⟩
  obtain ⟨b, off, e1, y0, y1, y2, y3, y4, y5, y6⟩ := h2 i hi
  have hlt : b < w.heap.size := World.block_lt_of_cell? w _ y0
  have hs : ∀ j, w'.cell? ⟨b, j, none⟩ = w.cell? ⟨b, j, none⟩ := fun j => hb.cell (by exact hlt)
  exact ⟨b, off, e1, (hs _).trans y0, (hs _).trans y1, (hs _).trans y2, (hs _).trans y3, (hs _).trans y4, (hs _).trans y5, (hs _).trans y6⟩
set_option maxRecDepth 100000 in
set_option maxHeartbeats 4000000 in
theorem all_law (I : KerI) (w : World) (htb : TB w) (f0 : Int) (ps0 : List PartD) (cs0 : List ChanD) (pv0 cv0 : Value) (f1 : Int) (ps1 : List PartD) (cs1 : List ChanD) (pv1 cv1 : Value) (u : Value) (os : List OpD)
    (hp0 : PartsV w pv0 ps0) (hc0 : ChansV w cv0 cs0) (hn0 : ps0.length ≤ 2199023255552) (hm0 : cs0.length ≤ 2513169434844) (hr0 : ∀ i (hi : i < ps0.length), ps0[i].regs.length ≤ 5864062014635)
    (hp1 : PartsV w pv1 ps1) (hc1 : ChansV w cv1 cs1) (hn1 : ps1.length ≤ 2199023255552) (hm1 : cs1.length ≤ 2513169434844) (hr1 : ∀ i (hi : i < ps1.length), ps1[i].regs.length ≤ 5864062014635) (ho : OpsV w u os) (hn : os.length ≤ 2199023255552) :
    Calls Tryz.prog 4 #[.agg #[.int .i64 f0, pv0, cv0], .agg #[.int .i64 f1, pv1, cv1], u] w fun e w' => e = .returned (.bool true) ∧ Below w.heap.size w w' := by
  have HUP : Hid (∀ V, Below w.heap.size w V → Calls Tryz.prog 15 #[.agg #[.int .i64 f0, pv0, cv0], .agg #[.int .i64 f1, pv1, cv1], u] V fun e w' => e = .returned (.int .i64 (-1)) ∧ Below V.heap.size V w') := fun V hV =>
    upto_any I (lawC_true I) V (htb.below hV) ⟨f0, ps0, cs0⟩ ⟨f1, ps1, cs1⟩ pv0 cv0 pv1 cv1 u os ⟨hp0.below hV, hc0.below hV, hn0, hm0, hr0⟩ ⟨hp1.below hV, hc1.below hV, hn1, hm1, hr1⟩ (ho.below hV) hn
  clear hp0 hc0 hr0 hp1 hc1 hr1 ho htb
  go_enter Tryz.func4, Tryz.ntmps4
  have n1 := newB w (.cells #[.int .i64 f0, pv0, cv0] 34)
  have n2 := n1.trans ((newB (w.alloc (.cells #[.int .i64 f0, pv0, cv0] 34)) (.cells #[.int .i64 f1, pv1, cv1] 34)).mono n1.size)
  have HN : Hid (Below w.heap.size w ((w.alloc (.cells #[.int .i64 f0, pv0, cv0] 34)).alloc (.cells #[.int .i64 f1, pv1, cv1] 34))) := n2
  clear n1 n2
  go_wp2_with fail
  refine Calls.mono (HUP.out _ HN.out) ?_
  rintro e w1 ⟨rfl, hb0⟩
  have hb := HN.out.trans (hb0.mono HN.out.size)
  clear hb0
  go_wp2_with fail
  go_ret
  exact ⟨rfl, hb⟩
end Go.Proofs.YteioennfpkoagaaGreatDoor.C
namespace Go.Proofs.YteioennfpkoagaaGreatDoor.C
open Go.ChangeShapes Go.WideShapes Go.ChangeAt Go.RowKit

section
variable {H : Type} {enc : TypeId × Value → H} {w : World} {base : Nat} {spare : Nat → Bool} {held : Bool}
theorem cOp : Tryz.prog.cellsOf 117 = 7 := by kernel_rfl
theorem wf_in {z : Int} (h : (Lit.int .i64 z).wf = true) : inI z := bounds_i64 h
theorem lst7 {α : Type} {cs : List α} (h : cs.length = 7) : ∃ a b c d e f g, cs = [a, b, c, d, e, f, g] := by
  match cs, h with
  | [a, b, c, d, e, f, g], _ => exact ⟨a, b, c, d, e, f, g, rfl⟩
theorem fld_intR {n : Nat} {cs : List Value} {xs : List (DataW H × List MemPlace)} {fs : Array Field} (hf : ∀ (i : Nat) (f : Field), fs[i]? = some f → DataW.trod enc Tryz.prog w base spare held n f.type ((cs.drop f.offset).take (Tryz.prog.cellsOf f.type)) = xs[i]?)
    (i o : Nat) (hi : (fs[i]?).map (fun f => (f.type, f.offset)) = some (3, o)) (hx : i < xs.length) {v : Value} (hv : (cs.drop o).take 1 = [v]) : ∃ n, v = .int .i64 n ∧ inR n := by
  have h := fld hf i o 3 hi hx
  rw [cInt, hv] at h
  obtain ⟨n, hc, _, hw⟩ := DataW.trod_int Tryz.underlying3 h
  exact ⟨n, by simpa using hc, wf_in hw⟩
theorem fld_strR {n : Nat} {cs : List Value} {xs : List (DataW H × List MemPlace)} {fs : Array Field} (hf : ∀ (i : Nat) (f : Field), fs[i]? = some f → DataW.trod enc Tryz.prog w base spare held n f.type ((cs.drop f.offset).take (Tryz.prog.cellsOf f.type)) = xs[i]?)
    (i o : Nat) (hi : (fs[i]?).map (fun f => (f.type, f.offset)) = some (9, o)) (hx : i < xs.length) {v : Value} (hv : (cs.drop o).take 1 = [v]) : ∃ s : ByteArray, v = .string s ∧ s.size ≤ 9223372036854775807 := by
  have h := fld hf i o 9 hi hx
  rw [cStr, hv] at h
  obtain ⟨s, hc, _, hw⟩ := DataW.trod_string Tryz.underlying9 h
  exact ⟨s, by simpa using hc, hw⟩
theorem open_op {fuel : Nat} {cs : List Value} {x : DataW H × List MemPlace} (h : DataW.trod enc Tryz.prog w base spare held fuel 117 cs = some x) :
    ∃ r : OpD, cs = [.int .i64 r.kind, .int .i64 r.ker, .int .i64 r.p, .int .i64 r.n, .int .i64 r.b, .string r.text, .int .i64 r.ticks] ∧ OpR r := by
  obtain ⟨xs, n, _, _, hl, hx, hf⟩ := DataW.trod_struct Tryz.underlying117 h
  rw [cOp] at hl
  obtain ⟨a, b, c, d, e, f, g, rfl⟩ := lst7 hl
  have hx5 : xs.length = 7 := hx
  obtain ⟨p, rfl, g1⟩ := fld_intR hf 0 0 rfl (by omega) rfl
  obtain ⟨q, rfl, g2⟩ := fld_intR hf 1 1 rfl (by omega) rfl
  obtain ⟨s, rfl, g3⟩ := fld_intR hf 2 2 rfl (by omega) rfl
  obtain ⟨u, rfl, g4⟩ := fld_intR hf 3 3 rfl (by omega) rfl
  obtain ⟨v, rfl, g5⟩ := fld_intR hf 4 4 rfl (by omega) rfl
  obtain ⟨t, rfl, g6⟩ := fld_strR hf 5 5 rfl (by omega) rfl
  obtain ⟨z, rfl, g7⟩ := fld_intR hf 6 6 rfl (by omega) rfl
  exact ⟨⟨p, q, s, u, v, t, z⟩, rfl, ⟨g1, g2, g3, g4, g5, g6, g7⟩⟩
theorem open_ops {fuel : Nat} {cs : List Value} {x : DataW H × List MemPlace} (h : DataW.trod enc Tryz.prog w base spare held fuel 45 cs = some x) :
    ∃ v os, cs = [v] ∧ os.length + 1 ≤ Rows.uptoBulk x.1 ∧ OpsV w v os := by
  obtain ⟨va, n, cap, rfl, hbk, hrow⟩ := open_rows Tryz.underlying45 cOp (by omega) h
  obtain ⟨rs, hl, hr⟩ := list_of (p := fun i (r : OpD) => OpR r ∧ ∃ b off, va = some ⟨b, off, none⟩ ∧ w.cell? ⟨b, off + i * 7, none⟩ = some (.int .i64 r.kind) ∧ w.cell? ⟨b, off + i * 7 + 1, none⟩ = some (.int .i64 r.ker) ∧ w.cell? ⟨b, off + i * 7 + 2, none⟩ = some (.int .i64 r.p) ∧ w.cell? ⟨b, off + i * 7 + 3, none⟩ = some (.int .i64 r.n) ∧ w.cell? ⟨b, off + i * 7 + 4, none⟩ = some (.int .i64 r.b) ∧ w.cell? ⟨b, off + i * 7 + 5, none⟩ = some (.string r.text) ∧ w.cell? ⟨b, off + i * 7 + 6, none⟩ = some (.int .i64 r.ticks)) n (fun i hi => by
    obtain ⟨b, off, row, y, k, e1, e2, e3, e4, _⟩ := hrow i hi
    obtain ⟨r, rfl, hg⟩ := open_op e4
    exact ⟨r, hg, b, off, e1, e3 0 (by omega), e3 1 (by omega), e3 2 (by omega), e3 3 (by omega), e3 4 (by omega), e3 5 (by omega), e3 6 (by omega)⟩)
  subst hl
  refine ⟨_, rs, rfl, hbk, fun x hx => ?_, va, cap, rfl, fun i hi => (hr i hi).2⟩
  obtain ⟨i, hi, rfl⟩ := List.getElem_of_mem hx
  exact (hr i hi).1
end
theorem filtNoneK : (Rows.allUptoRow.laid.filter fun x => x.2.handleName?.isNone) = Rows.allUptoRow.laid := by kernel_rfl
theorem filtSomeK : (Rows.allUptoRow.laid.filter fun x => x.2.handleName?.isSome) = [] := by kernel_rfl
theorem laid_allK {W : World} (h : laidMetH Tryz.prog Rows.allUptoRow.laid W) : laidMet Tryz.prog Rows.allUptoRow.laid W := by
  unfold laidMetH at h
  rw [filtSomeK, filtNoneK] at h
  exact h
theorem tb_of_laidK {W : World} (h : laidMetH Tryz.prog Rows.allUptoRow.laid W) : TB W := by
  have h3 := (laid_allK h).tail.tail
  exact Lib.tabIs_of_head (g := 6) (t := 340) (e := 327) (n := 20) (rest := []) (by kernel_rfl) (by kernel_rfl) Tryz.underlying340 Tryz.underlying327 (by kernel_rfl) (by kernel_rfl) h3
/- a world for the witness -/
def tab32K : Array Value := #[.int .u8 0, .int .u8 1, .int .u8 28, .int .u8 2, .int .u8 29, .int .u8 14, .int .u8 24, .int .u8 3, .int .u8 30, .int .u8 22, .int .u8 20, .int .u8 15, .int .u8 25, .int .u8 17, .int .u8 4, .int .u8 8, .int .u8 31, .int .u8 27, .int .u8 13, .int .u8 23, .int .u8 21, .int .u8 19, .int .u8 16, .int .u8 7, .int .u8 26, .int .u8 12, .int .u8 18, .int .u8 6, .int .u8 11, .int .u8 5, .int .u8 10, .int .u8 9]
def tab64K : Array Value := #[.int .u8 0, .int .u8 1, .int .u8 56, .int .u8 2, .int .u8 57, .int .u8 49, .int .u8 28, .int .u8 3, .int .u8 61, .int .u8 58, .int .u8 42, .int .u8 50, .int .u8 38, .int .u8 29, .int .u8 17, .int .u8 4, .int .u8 62, .int .u8 47, .int .u8 59, .int .u8 36, .int .u8 45, .int .u8 43, .int .u8 51, .int .u8 22, .int .u8 53, .int .u8 39, .int .u8 33, .int .u8 30, .int .u8 24, .int .u8 18, .int .u8 12, .int .u8 5, .int .u8 63, .int .u8 55, .int .u8 48, .int .u8 27, .int .u8 60, .int .u8 41, .int .u8 37, .int .u8 16, .int .u8 46, .int .u8 35, .int .u8 44, .int .u8 21, .int .u8 52, .int .u8 32, .int .u8 23, .int .u8 11, .int .u8 54, .int .u8 26, .int .u8 40, .int .u8 15, .int .u8 34, .int .u8 20, .int .u8 31, .int .u8 10, .int .u8 25, .int .u8 14, .int .u8 19, .int .u8 9, .int .u8 13, .int .u8 8, .int .u8 7, .int .u8 6]
def tabTenK : Array Value := #[.int .u64 1, .int .u64 10, .int .u64 100, .int .u64 1000, .int .u64 10000, .int .u64 100000, .int .u64 1000000, .int .u64 10000000, .int .u64 100000000, .int .u64 1000000000, .int .u64 10000000000, .int .u64 100000000000, .int .u64 1000000000000, .int .u64 10000000000000, .int .u64 100000000000000, .int .u64 1000000000000000, .int .u64 10000000000000000, .int .u64 100000000000000000, .int .u64 1000000000000000000, .int .u64 10000000000000000000]
def putK (cs : Array Value) : Obj → Obj
  | .cells _ t z => .cells cs t z
  | o => o
def baseK (P : Program) (os : Os) : World := World.holding P os ⟨#[], #[], []⟩
def laidK (P : Program) (os : Os) : World :=
  { baseK P os with heap := (((baseK P os).heap.modify 9 (putK tab32K)).modify 10 (putK tab64K)).modify 6 (putK tabTenK) }
end Go.Proofs.YteioennfpkoagaaGreatDoor.C
namespace Go.Proofs.YteioennfpkoagaaGreatDoor.C
open Go.ChangeShapes Go.WideShapes Go.ChangeAt Go.RowKit

theorem bOp : Tryz.prog.bytesOf 117 = 64 := by kernel_rfl
section
variable {H : Type} {enc : TypeId × Value → H} {w : World} {base : Nat} {spare : Nat → Bool} {held : Bool}
theorem open_opsW {fuel : Nat} {cs : List Value} {x : DataW H × List MemPlace} (h : DataW.trod enc Tryz.prog w base spare held fuel 45 cs = some x) (hw : (x.1.weights Tryz.prog 45).all (· ≤ reachBytes) = true) :
    ∃ v os, cs = [v] ∧ os.length ≤ 2199023255552 ∧ OpsV w v os := by
  obtain ⟨va, n, cap, rfl, hbk, hrow⟩ := open_rowsW Tryz.underlying45 cOp (by omega) h hw
  rw [bOp] at hbk
  obtain ⟨rs, hl, hr⟩ := list_of (p := fun i (r : OpD) => OpR r ∧ ∃ b off, va = some ⟨b, off, none⟩ ∧ w.cell? ⟨b, off + i * 7, none⟩ = some (.int .i64 r.kind) ∧ w.cell? ⟨b, off + i * 7 + 1, none⟩ = some (.int .i64 r.ker) ∧ w.cell? ⟨b, off + i * 7 + 2, none⟩ = some (.int .i64 r.p) ∧ w.cell? ⟨b, off + i * 7 + 3, none⟩ = some (.int .i64 r.n) ∧ w.cell? ⟨b, off + i * 7 + 4, none⟩ = some (.int .i64 r.b) ∧ w.cell? ⟨b, off + i * 7 + 5, none⟩ = some (.string r.text) ∧ w.cell? ⟨b, off + i * 7 + 6, none⟩ = some (.int .i64 r.ticks)) n (fun i hi => by
    obtain ⟨b, off, row, y, k, e1, e2, e3, e4, _⟩ := hrow i hi
    obtain ⟨r, rfl, hg⟩ := open_op e4
    exact ⟨r, hg, b, off, e1, e3 0 (by omega), e3 1 (by omega), e3 2 (by omega), e3 3 (by omega), e3 4 (by omega), e3 5 (by omega), e3 6 (by omega)⟩)
  subst hl
  refine ⟨_, rs, rfl, by omega, fun x hx => ?_, va, cap, rfl, fun i hi => (hr i hi).2⟩
  obtain ⟨i, hi, rfl⟩ := List.getElem_of_mem hx
  exact (hr i hi).1
end
end Go.Proofs.YteioennfpkoagaaGreatDoor.C
namespace Go.Proofs.YteioennfpkoagaaGreatDoor.C
open Go.ChangeShapes Go.WideShapes Go.ChangeAt Go.RowKit

theorem laidSameG : Rows.allRow.laid = Rows.allUptoRow.laid := rfl
set_option maxRecDepth 100000 in
theorem contractG (H : Type) (enc : TypeId × Value → H) (W : World) (base : Nat) (args : Array Value) (ds gs : List (DataW H)) (before : List MemPlace)
    (hval : ∀ (j : Nat) t v, Tryz.f4.params[j]? = some t → args[j]? = some v → Value.okWide Tryz.prog W .any base t v)
    (hW : DataW.Whole enc Tryz.prog Tryz.f4.params.toList Rows.allSpec.vars false W args.toList ds gs before) (hwt : (DataW.weightsEach Tryz.prog (Tryz.f4.params.toList ++ (OpenSpec.ofChange Rows.allSpec).bare.plain.varTypes Tryz.prog) (ds ++ gs)).all (· ≤ reachBytes) = true) (hL : laidMetH Tryz.prog Rows.allRow.laid W) :
    Calls Tryz.prog 4 args W fun e W' => ∃ v, e = .returned v ∧ Rows.allSpec.post enc Tryz.prog Tryz.f4 false true false false W args v W' := by
  rw [laidSameG] at hL
  have ht := tb_of_laidK hL
  have hW' := hW
  obtain ⟨p, q, hA0, hV, rfl, hfz, hnd⟩ := hW
  have hA : DataW.TrodAll enc Tryz.prog W 0 (fun _ => true) true Tryz.f4.params.toList args.toList ds p := hA0
  rw [Tryz.params4] at hA hval hwt
  obtain ⟨v0, vs0, d0, ds0, p0, q0, hargs, rfl, rfl, h0, r0⟩ := trodAll_cons hA
  obtain ⟨v1, vs1, d1, ds1, p1, q1, rfl, rfl, rfl, h1, r1⟩ := trodAll_cons r0
  obtain ⟨v2, vs2, d2, ds2, p2, q2, rfl, rfl, rfl, h2, r2⟩ := trodAll_cons r1
  obtain ⟨rfl, rfl, rfl⟩ := trodAll_nil r2
  obtain rfl : args = #[v0, v1, v2] := by cases args; simp_all
  obtain ⟨rfl, rfl⟩ := trodVars_none hV
  simp only [List.cons_append, List.nil_append, List.append_nil, DataW.weightsEach, List.all_append, Bool.and_eq_true] at hwt
  have h0k := h0
  obtain ⟨fuel0, hf0⟩ := h0
  obtain ⟨cs0, rfl, _⟩ := okWide_struct Tryz.underlying34 (hval 0 34 v0 rfl rfl)
  obtain ⟨x0, pv0, cv0, ps0, ks0, hcs0, hp0, hc0, hl0, hm0, hr0⟩ := open_manW hf0 hwt.1
  obtain rfl : cs0 = #[.int .i64 x0, pv0, cv0] := by
    cases cs0
    simpa [Value.cells] using hcs0
  have h1k := h1
  obtain ⟨fuel1, hf1⟩ := h1
  obtain ⟨cs1, rfl, _⟩ := okWide_struct Tryz.underlying34 (hval 1 34 v1 rfl rfl)
  obtain ⟨x1, pv1, cv1, ps1, ks1, hcs1, hp1, hc1, hl1, hm1, hr1⟩ := open_manW hf1 hwt.2.1
  obtain rfl : cs1 = #[.int .i64 x1, pv1, cv1] := by
    cases cs1
    simpa [Value.cells] using hcs1
  have h2k := h2
  obtain ⟨fuel2, hf2⟩ := h2
  obtain ⟨va2, n2, cap2, rfl⟩ := okWide_slice Tryz.underlying45 (hval 2 45 v2 rfl rfl)
  obtain ⟨u2, L2, hcs2, hb2, hv2⟩ := open_opsW hf2 hwt.2.2.1
  obtain rfl : .slice va2 n2 cap2 = u2 := by simpa [Value.cells] using hcs2
  refine (all_law kerI W ht x0 ps0 ks0 pv0 cv0 x1 ps1 ks1 pv1 cv1 _ L2 hp0 hc0 hl0 hm0 hr0 hp1 hc1 hl1 hm1 hr1 hv2 hb2).mono ?_
  rintro e W' ⟨rfl, hb'⟩
  clear hA0
  simp only [List.append_nil] at hW'
  have hlt : ∀ x ∈ p0 ++ (p1 ++ (p2)), x.block < W.heap.size := fun x hx => hW'.lt x hx
  exact ⟨_, rfl, post_of_below (pa := p0 ++ (p1 ++ (p2))) (pv := []) hW' (fun _ _ _ => trodAll_cons_mk (shut_bool Tryz.underlying4 _) trodAll_mk0)
    (fun sp hs => trodAll_cons_mk (WideElems.Trod_stays laidOutP (by kernel_rfl) (of_decide_eq_true (by kernel_rfl)) h0k (fun x hx => hb'.same (hlt x (List.mem_append_left _ hx))) (fun x hx => hs x (List.mem_append_left _ hx))) (trodAll_cons_mk (WideElems.Trod_stays laidOutP (by kernel_rfl) (of_decide_eq_true (by kernel_rfl)) h1k (fun x hx => hb'.same (hlt x (List.mem_append_right _ (List.mem_append_left _ hx)))) (fun x hx => hs x (List.mem_append_right _ (List.mem_append_left _ hx)))) (trodAll_mk1 (WideElems.Trod_stays laidOutP (by kernel_rfl) (of_decide_eq_true (by kernel_rfl)) h2k (fun x hx => hb'.same (hlt x (List.mem_append_right _ (List.mem_append_right _ (hx))))) (fun x hx => hs x (List.mem_append_right _ (List.mem_append_right _ (hx)))))))) (fun _ _ => rfl) (by simp)
    hb' (ok_one (by kernel_rfl) rfl (okWide_bool_mk Tryz.underlying4 _))⟩
theorem laidIsG (os : Os) : laidMetH Tryz.prog Rows.allRow.laid ((laidK Tryz.prog os).forCall (fun _ _ => 0) ⟨#[], #[.agg #[.int .i64 0, .slice none 0 0, .slice none 0 0], .agg #[.int .i64 0, .slice none 0 0, .slice none 0 0], .slice none 0 0], []⟩).memory := by
  rw [laidSameG]
  unfold laidMetH
  rw [filtSomeK, filtNoneK]
  exact laidMet_of_run' 8 (by kernel_rfl) (by kernel_rfl)
theorem readsG (os : Os) {H : Type} (enc : TypeId × Value → H) : ∃ places, DataW.whole enc Tryz.prog ((laidK Tryz.prog os).forCall (fun _ _ => 0) ⟨#[], #[.agg #[.int .i64 0, .slice none 0 0, .slice none 0 0], .agg #[.int .i64 0, .slice none 0 0, .slice none 0 0], .slice none 0 0], []⟩).memory Tryz.f4.params.toList Rows.allSpec.vars false #[Value.agg #[.int .i64 0, .slice none 0 0, .slice none 0 0], Value.agg #[.int .i64 0, .slice none 0 0, .slice none 0 0], Value.slice none 0 0].toList 8 = some ([.agg [.lit (.int .i64 0), .nil, .nil], .agg [.lit (.int .i64 0), .nil, .nil], .nil], [], places) :=
  ⟨[], by kernel_rfl⟩
set_option maxRecDepth 100000 in
theorem liftedG (os : Os) (started : os.Started) (H : Type) (enc : TypeId × Value → H) :
    ReturnsInHanded {} Tryz.checked os 4 .any ((OpenSpec.ofChange Rows.allSpec).preRow enc Tryz.prog Tryz.f4 Rows.allRow.domain false Rows.allRow.laid) (Rows.allSpec.post enc Tryz.prog Tryz.f4 false true false false) := by
  obtain ⟨places, hx⟩ := readsG os enc
  refine returnsInHanded_of_row (C := Tryz.checked) (s := OpenSpec.ofChange Rows.allSpec) (F := default) ownK started (by kernel_rfl) Tryz.func4
    (witness_row_atRef (enc := enc) (C := Tryz.checked) false (laidK Tryz.prog os) #[.agg #[.int .i64 0, .slice none 0 0, .slice none 0 0], .agg #[.int .i64 0, .slice none 0 0, .slice none 0 0], .slice none 0 0] rfl (by kernel_rfl) (by kernel_rfl) (by kernel_rfl)
      (OpenSpec.preRow_of_cond 8 hx (by kernel_rfl) (fun k hk => by cases hk) (by kernel_rfl) (laidIsG os))) ?_
  intro W base args ds gs before hval hW _ _ hwt hL _ _
  exact contractG H enc W base args ds gs before hval hW hwt hL
set_option maxHeartbeats 8000000 in
theorem closedG : joinedFacts Tryz.pinned.checked.prog 4 Tryz.f4 Rows.allSpec Rows.allRow = true := by
  simp only [joinedFacts, Bool.and_eq_true]
  and_intros <;> (as_aux_lemma => kernel_rfl)
theorem saidG : Rows.AllSaid :=
  OpenClaim.holds_of_wide 4 Tryz.f4 rfl rfl rfl rfl rfl rfl rfl ⟨rfl, rfl, rfl, rfl, rfl⟩ rfl rfl rfl rfl rfl (by kernel_rfl) Tryz.func4 closedG
    (of_decide_eq_true (by kernel_rfl)) (by unfold Func.isWrapper; first | (rw [if_pos (by decide +kernel)]; kernel_rfl) | (rw [if_neg (by decide +kernel)]; exact ⟨rfl, rfl⟩))
    (fun os started H enc _ => by rw [OpenClaim.pre_eq_preRow]; exact liftedG os started H enc)
theorem plainG (f : FuncId) (fn : Func) (hf : Tryz.pinned.checked.prog.funcNamed "bulkhead/bulkheadlaw.All" = some f) (hfn : Tryz.pinned.checked.prog.funcs[f]? = some fn) :
    true = Tryz.pinned.checked.prog.looks [] ∧ ∀ (j : Nat) t, fn.params[j]? = some t → Tryz.pinned.checked.prog.wantsStandIn t = false := by
  obtain rfl : f = 4 := Option.some.inj ((show Tryz.prog.funcNamed "bulkhead/bulkheadlaw.All" = some 4 by kernel_rfl).symm.trans hf) |>.symm
  obtain rfl : fn = Tryz.f4 := (Option.some.inj (Tryz.func4.symm.trans hfn)).symm
  refine ⟨by kernel_rfl, fun j t ht => ?_⟩
  rw [Tryz.params4] at ht
  have hm := Array.mem_of_getElem? ht
  simp at hm
  rcases hm with rfl | rfl
  · exact (show Tryz.prog.wantsStandIn 34 = false by kernel_rfl)
  · exact (show Tryz.prog.wantsStandIn 45 = false by kernel_rfl)
theorem cardG : Rows.AllCardSaid :=
  Claim7.holds_tied_plain_at .later [] _ _ _ _ saidG (fun _ h => by cases h) (by kernel_rfl) (fun _ h => by cases h) all_row_tie rfl ⟨rfl, rfl⟩ (by kernel_rfl) rfl plainG (by kernel_rfl)
end Go.Proofs.YteioennfpkoagaaGreatDoor.C
namespace Go.Proofs.YteioennfpkoagaaGreatDoor
theorem allCard : Rows.AllCardSaid := C.cardG
end Go.Proofs.YteioennfpkoagaaGreatDoor
