import Derived.Test.YteioennfpkoagaaGreatDoorG24
import Derived.Test.YteioennfpkoagaaGreatDoorG13
namespace Go.Proofs.YteioennfpkoagaaGreatDoor
open Go.RowKit
attribute [local go_sem ↓] Go.wp_at_zero Go.wp_at_succ

theorem KP.toNew {pb c B : Nat} {w0 w w' : World} (hb : Below B w0 w) (hB : B ≤ w.heap.size) (h : KP pb c w w') (h1 : B ≤ pb) (h2 : B ≤ c) : Below B w0 w' := hb.trans (h.toBelow hB h1 h2)
theorem PartsAt.setOther {w : World} {base K T : Nat} {v : Value} {ps : List Part} {vs : List Value} {o : Array Value} (h : PartsAt w base v ps vs) (hK : w.heap[K]? = some (.cells o T (0, 0))) (h1 : 42 ≠ T) (h2 : 90 ≠ T) (i : Nat) (u : Value) : PartsAt (w.setCell ⟨K, i, none⟩ u) base v ps vs :=
  ⟨h.1, own_other h.2.1 hK h1 i u, fun j a b => own_other (h.2.2 j a b) hK h2 i u⟩
set_option maxRecDepth 100000 in
set_option maxHeartbeats 4000000 in
theorem parse_any (w : World) (B : Nat) (ew en eu es ex : Addr) (N : Nat) (s : ByteArray) (hg : GL w B ew en eu es ex) (hs : s.size ≤ 8192) (hN : TokN s.data.toList N) (hN2 : N ≤ 8193) :
    Calls Tryz.prog 39 #[.string s] w fun e w' => Below w.heap.size w w' ∧
      ((parseR s.data.toList N).2.e ≠ 0 ∧ (∃ mb eb, e = .returned (.tuple #[.agg #[.int .i64 0, .slice none 0 0, .slice none 0 0], misV mb]) ∧ MisAt w' mb eb (parseR s.data.toList N).2.ln (parseR s.data.toList N).2.cl ∧ (eb = ew ∨ eb = en ∨ eb = eu ∨ eb = es) ∧ noOf ew en eu eb = (parseR s.data.toList N).2.e) ∨
       (parseR s.data.toList N).2.e = 0 ∧ ∃ v vs cv, e = .returned (.tuple #[.agg #[.int .i64 (parseR s.data.toList N).1.frame, v, cv], .nilIface]) ∧ Hid (Sep vs) ∧ PartsAt w' w.heap.size v (parseR s.data.toList N).1.parts vs ∧ w'.ownsRow w.heap.size 92 6 cv (parseR s.data.toList N).1.chans.length (chanRows (parseR s.data.toList N).1.chans)) := by
  have HTN : Hid _ := hN
  clear hN
  have hBs := hg.size
  have hll : s.data.toList.length ≤ 8192 := by simpa using hs
  have HSB : Hid (s = ba (s.data.toList.drop 0)) := ba_eq (by simp)
  have HPL : Hid (plc s.data.toList 0 = (1, 1)) := by show plc s.data.toList 0 = (1, 1); simp [plc, placeL]
  generalize s.data.toList = l at *
  go_enter Tryz.func39, Tryz.ntmps39
  go_wp2_with fail
  have b0 : Below w.heap.size w (w.alloc (.cells #[.int .i64 0, .slice none 0 0, .slice none 0 0] 34)) := (Below.refl _ _).alloc (Nat.le_refl _) _
  have r0 := heap_new w (.cells #[.int .i64 0, .slice none 0 0, .slice none 0 0] 34)
  have s0 : (w.alloc (.cells #[.int .i64 0, .slice none 0 0, .slice none 0 0] 34)).heap.size = w.heap.size + 1 := by simp
  generalize w.alloc (.cells #[.int .i64 0, .slice none 0 0, .slice none 0 0] 34) = W1 at *
  refine (newReader_any s W1).mono ?_
  rintro e W2 ⟨rfl, hrv, hb2, hs2⟩
  rw [s0] at hrv hs2
  have e2 : ∀ (x : Nat), x < w.heap.size + 1 → W2.heap[x]? = W1.heap[x]? := fun x hx => hb2.block x (by omega)
  have r2 : W2.heap[w.heap.size]? = some (.cells #[.int .i64 0, .slice none 0 0, .slice none 0 0] 34 (0, 0)) := (e2 _ (by omega)).trans r0
  have b2 : Below w.heap.size w W2 := b0.trans (hb2.mono (by omega))
  unfold nextV
  rw [s0]
  go_wp2_with fail
  have k3 : (W2.alloc (.cells (prCells (w.heap.size + 1) 0 ⟨#[]⟩ 0 0 0 .nilIface (.slice none 0 0)) 177)).heap[w.heap.size + 1 + 3]? = some (.cells (prCells (w.heap.size + 1) 0 ⟨#[]⟩ 0 0 0 .nilIface (.slice none 0 0)) 177 (0, 0)) := by
    have := heap_new W2 (.cells (prCells (w.heap.size + 1) 0 ⟨#[]⟩ 0 0 0 .nilIface (.slice none 0 0)) 177)
    rw [hs2] at this; exact this
  have b3 : Below W2.heap.size W2 (W2.alloc (.cells (prCells (w.heap.size + 1) 0 ⟨#[]⟩ 0 0 0 .nilIface (.slice none 0 0)) 177)) := (Below.refl _ _).alloc (Nat.le_refl _) _
  have s3 : (W2.alloc (.cells (prCells (w.heap.size + 1) 0 ⟨#[]⟩ 0 0 0 .nilIface (.slice none 0 0)) 177)).heap.size = w.heap.size + 5 := by simp [hs2]
  unfold prCells nextV at k3 b3 s3
  generalize W2.alloc (.cells #[.func (Fn.func 139) #[] #[.pointer (some ⟨w.heap.size + 1 + 1 + 1, 0, none⟩), .pointer (some ⟨w.heap.size + 1, 0, none⟩), .pointer (some ⟨w.heap.size + 1 + 1, 0, none⟩)], .int .i64 0, .string ⟨#[]⟩, .int .i64 0, .int .i64 0, .int .i64 0, .nilIface, .slice none 0 0] 177) = W3 at *
  have hrv3 : RVi W3 (w.heap.size + 1) l 0 := by
    have := hrv.mono (grown_below b3 none)
    unfold RVi
    rw [HPL.out, ← HSB.out]
    exact this
  have b4 : Below w.heap.size w W3 := b2.trans (b3.mono (by omega))
  have r3 : W3.heap[w.heap.size]? = some (.cells #[.int .i64 0, .slice none 0 0, .slice none 0 0] 34 (0, 0)) := (b3.block _ (by omega)).trans r2
  have hg3 : GL W3 B ew en eu es ex := hg.below (b4.mono hBs)
  clear hrv hb2 e2 r2 b2 b3 r0 b0 s0 hg
  refine (advance_gen W3 (w.heap.size + 1 + 3) (w.heap.size + 1) B ew en eu es ex 0 0 l (.slice none 0 0) 0 ⟨#[]⟩ 0 0 0 hg3 (by omega) (by omega) (by omega) hll ⟨_, _, _, rfl⟩ hrv3 k3 (by simp [pos])).mono ?_
  rintro e W4 ⟨rfl, hp4, hk4⟩
  have hp4' : PR W4 (w.heap.size + 1 + 3) (w.heap.size + 1) B ew en eu es ex l (absS l ⟨0, 0, 0, 0⟩) (.slice none 0 0) := hp4
  have b5 : Below w.heap.size w W4 := KP.toNew b4 (by omega) hk4 (by omega) (by omega)
  have r4 := KP.kp r3 hk4 (by omega) (by omega) (by omega)
  have s4 : w.heap.size + 5 ≤ W4.heap.size := by have := hk4.size; omega
  clear hp4 hk4 r3 b4 k3 hrv3 hg3 s3
  go_wp2_with fail
  refine (manifest_r W4 (w.heap.size + 1 + 3) (w.heap.size + 1) B ew en eu es ex N l hp4' HTN.out hN2).mono ?_
  rintro e W5 ⟨mm, v, cv, vs, st, rfl, HOK, HBAD, hp5, hk5, HSP, hpa, hco⟩
  have b6 : Below w.heap.size w W5 := KP.toNew b5 (by omega) hk5 (by omega) (by omega)
  have r5 := KP.kp r4 hk5 (by omega) (by omega) (by omega)
  have s5 : w.heap.size + 5 ≤ W5.heap.size := by have := hk5.size; omega
  have hpa5 : PartsAt W5 w.heap.size v mm.parts vs := ⟨hpa.1, own_mono hpa.2.1 (by omega), fun i a d => own_mono (hpa.2.2 i a d) (by omega)⟩
  have hco5 : W5.ownsRow w.heap.size 92 6 cv mm.chans.length (chanRows mm.chans) := own_mono hco (by omega)
  clear hp4' hk5 b5 r4 hpa hco
  obtain ⟨va, vc, rfl⟩ := own_shape hpa5.2.1
  obtain ⟨ca, cc, rfl⟩ := own_shape hco5
  have hst : (∃ k, st = .inl k ∧ W5.cell? ⟨w.heap.size + 1 + 3, 6, none⟩ = some .nilIface) ∨ (∃ er ln cl mb eb, st = .inr (er, ln, cl) ∧ W5.cell? ⟨w.heap.size + 1 + 3, 6, none⟩ = some (.iface 178 (.pointer (some ⟨mb, 0, none⟩))) ∧ MisAt W5 mb eb ln cl ∧ (eb = ew ∨ eb = en ∨ eb = eu ∨ eb = es) ∧ noOf ew en eu eb = er) := by
    have ha := hp5.at'
    rcases st with k | ⟨er, ln, cl⟩
    · exact .inl ⟨k, rfl, by rw [cell_of_blk ha.2.2]; rfl⟩
    · obtain ⟨k, tt, x, a, b, mb, eb, h1, h2, h3, h4, _⟩ := ha
      exact .inr ⟨er, ln, cl, mb, eb, rfl, by rw [cell_of_blk h1]; rfl, h2, h3, h4⟩
  have hpl : w.heap.size + 1 + 3 < W5.heap.size := by omega
  clear hp5
  have z0 : W5.cell? ⟨w.heap.size, 0, none⟩ = some (.int .i64 0) := by rw [cell_of_blk r5]; rfl
  have z1 : W5.cell? ⟨w.heap.size, 1, none⟩ = some (.slice none 0 0) := by rw [cell_of_blk r5]; rfl
  have z2 : W5.cell? ⟨w.heap.size, 2, none⟩ = some (.slice none 0 0) := by rw [cell_of_blk r5]; rfl
  have f0 : ∀ i, W5.frozen? ⟨w.heap.size, i, none⟩ = false := fun i => frozen_of_blk r5
  have hwl : w.heap.size < W5.heap.size := by omega
  have HB6 : Hid _ := b6
  have HPA : Hid _ := hpa5
  have HCO : Hid _ := hco5
  clear b6 hpa5 hco5
  rcases hst with ⟨k, rfl, c6⟩ | ⟨er, ln, cl, mb, eb, rfl, c6, hmis, heb, hno⟩
  · have he : (parseR l N).2.e = 0 := by
      rcases Nat.eq_zero_or_pos (parseR l N).2.e with h0 | h0
      · exact h0
      · have := HBAD.out (by omega); cases this
    have HMM : Hid (mm = (parseR l N).1) := (HOK.out he).1
    have HE : Hid _ := he
    clear he HOK HBAD
    go_wp2_with fail
    have hall : ∀ (X : World), Below w.heap.size w X ∧ PartsAt X w.heap.size (.slice va mm.parts.length vc) mm.parts vs ∧ X.ownsRow w.heap.size 92 6 (.slice ca mm.chans.length cc) mm.chans.length (chanRows mm.chans) ∧ (∃ o, X.heap[w.heap.size]? = some (.cells o 34 (0, 0))) → ∀ (i : Nat) (u : Value), Below w.heap.size w (X.setCell ⟨w.heap.size, i, none⟩ u) ∧ PartsAt (X.setCell ⟨w.heap.size, i, none⟩ u) w.heap.size (.slice va mm.parts.length vc) mm.parts vs ∧ (X.setCell ⟨w.heap.size, i, none⟩ u).ownsRow w.heap.size 92 6 (.slice ca mm.chans.length cc) mm.chans.length (chanRows mm.chans) ∧ (∃ o, (X.setCell ⟨w.heap.size, i, none⟩ u).heap[w.heap.size]? = some (.cells o 34 (0, 0))) := by
      rintro X ⟨h1, h2, h3, ⟨o, h4⟩⟩ i u
      exact ⟨h1.setCell (Nat.le_refl _) u, PartsAt.setOther h2 h4 (by decide) (by decide) i u, own_other h3 h4 (by decide) i u, ⟨_, blk_set i u h4⟩⟩
    have h0 := hall _ (hall _ (hall _ ⟨HB6.out, HPA.out, HCO.out, ⟨_, r5⟩⟩ 0 (.int .i64 mm.frame)) 1 (.slice va mm.parts.length vc)) 2 (.slice ca mm.chans.length cc)
    have hga := grown_alloc (((W5.setCell ⟨w.heap.size, 0, none⟩ (.int .i64 mm.frame)).setCell ⟨w.heap.size, 1, none⟩ (.slice va mm.parts.length vc)).setCell ⟨w.heap.size, 2, none⟩ (.slice ca mm.chans.length cc)) (.cells #[.int .i64 mm.frame, .slice va mm.parts.length vc, .slice ca mm.chans.length cc] 34) none
    refine bodyPost_ret (v := .tuple #[.agg #[.int .i64 mm.frame, .slice va mm.parts.length vc, .slice ca mm.chans.length cc], .nilIface]) (by simp [results, Tryz.results39, go_sem, z0, z1, z2, hwl]) rfl ⟨h0.1.alloc (by simp [World.setCell]; omega) _, .inr ⟨HE.out, .slice va mm.parts.length vc, vs, .slice ca mm.chans.length cc, ?_, HSP, ?_, ?_⟩⟩
    · rw [← HMM.out]
    · rw [← HMM.out]; exact PartsAt.kept h0.2.1 hga (by simp)
    · rw [← HMM.out]; exact own_kept h0.2.2.1 hga (by simp)
  · have he : (parseR l N).2.e ≠ 0 := by
      intro h0
      obtain ⟨_, k, hk⟩ := HOK.out h0; cases hk
    have hq := HBAD.out he
    have HQ : Hid (er = (parseR l N).2.e ∧ ln = (parseR l N).2.ln ∧ cl = (parseR l N).2.cl) := by
      show _ ∧ _
      injection hq with hq
      injection hq with q1 q2
      injection q2 with q2 q3
      exact ⟨q1, q2, q3⟩
    have HE : Hid _ := he
    clear he HOK HBAD hq
    have hmne : mb ≠ w.heap.size := by
      rintro rfl
      unfold MisAt at hmis; rw [r5] at hmis; simp at hmis
    have hml := lt_of_blk hmis
    have hbb : Below W5.heap.size W5 (W5.alloc (.cells #[.int .i64 mm.frame, .slice va mm.parts.length vc, .slice ca mm.chans.length cc] 34)) := (Below.refl _ _).alloc (Nat.le_refl _) _
    have HBB : Hid _ := hbb
    clear hbb
    go_wp2_with fail
    go_region
    go_wp2_with fail
    obtain ⟨q1, q2, q3⟩ := HQ.out
    refine bodyPost_ret (v := .tuple #[.agg #[.int .i64 0, .slice none 0 0, .slice none 0 0], .iface 178 (.pointer (some ⟨mb, 0, none⟩))]) (by simp [results, Tryz.results39, go_sem, z0, z1, z2, hwl]) rfl ⟨?_, .inl ⟨HE.out, mb, eb, rfl, ?_, heb, by rw [hno, q1]⟩⟩
    · exact ((((HB6.out.setCell (Nat.le_refl _) _).setCell (Nat.le_refl _) _).setCell (Nat.le_refl _) _).alloc (by simp [World.setCell]; omega) _).drew
    · rw [← q2, ← q3]
      unfold MisAt at *
      show (World.alloc _ _).heap[mb]? = _
      rw [Below.heap_alloc _ _ _ (by simp [World.setCell]; exact hml), blk_far _ _ hmne, blk_far _ _ hmne, blk_far _ _ hmne]
      exact hmis

end Go.Proofs.YteioennfpkoagaaGreatDoor
namespace Go.Proofs.YteioennfpkoagaaGreatDoor
open Go.RowKit
attribute [local go_sem ↓] Go.wp_at_zero Go.wp_at_succ

set_option maxRecDepth 100000 in
set_option maxHeartbeats 400000 in
theorem manParse_long (s : ByteArray) (w : World) (hs : 8192 < s.size) :
    Calls Tryz.prog 13 #[.string s] w fun e w' => e = .returned (.tuple #[.agg #[.int .i64 0, .slice none 0 0, .slice none 0 0], .agg #[.int .i64 0, .int .i64 0], .int .i64 14]) ∧ Below w.heap.size w w' := by
  have h1 : (8192 : Int) < (s.size : Int) := by omega
  go_enter Tryz.func13, Tryz.ntmps13
  go_wp2_with fail
  refine bodyPost_ret (v := .tuple #[.agg #[.int .i64 0, .slice none 0 0, .slice none 0 0], .agg #[.int .i64 0, .int .i64 0], .int .i64 14]) (by simp [results, Tryz.results13, go_sem]) rfl ⟨rfl, ?_⟩
  exact ((Below.refl _ _).alloc (Nat.le_refl _) _).alloc (by simp) _

set_option maxRecDepth 100000 in
set_option maxHeartbeats 4000000 in
theorem manParse_any (w : World) (B : Nat) (ew en eu es ex : Addr) (N : Nat) (s : ByteArray) (hg : GL w B ew en eu es ex) (hs : s.size ≤ 8192) (hN : TokN s.data.toList N) (hN2 : N ≤ 8193) :
    Calls Tryz.prog 13 #[.string s] w fun e w' => Below w.heap.size w w' ∧
      ((parseR s.data.toList N).2.e ≠ 0 ∧ e = .returned (.tuple #[.agg #[.int .i64 0, .slice none 0 0, .slice none 0 0], .agg #[.int .i64 (parseR s.data.toList N).2.ln, .int .i64 (parseR s.data.toList N).2.cl], .int .i64 (parseR s.data.toList N).2.e]) ∨
       (parseR s.data.toList N).2.e = 0 ∧ ∃ v vs cv, e = .returned (.tuple #[.agg #[.int .i64 (parseR s.data.toList N).1.frame, v, cv], .agg #[.int .i64 0, .int .i64 0], .int .i64 0]) ∧ Hid (Sep vs) ∧ PartsAt w' w.heap.size v (parseR s.data.toList N).1.parts vs ∧ w'.ownsRow w.heap.size 92 6 cv (parseR s.data.toList N).1.chans.length (chanRows (parseR s.data.toList N).1.chans)) := by
  have h1 : decide ((8192 : Int) < (s.size : Int)) = false := by simp; omega
  have hBs := hg.size
  generalize hq : parseR s.data.toList N = q
  have HQ : Hid _ := hq
  clear hq
  obtain ⟨mm, r⟩ := q
  simp only []
  go_enter Tryz.func13, Tryz.ntmps13
  go_wp2_with fail
  have b0 : Below w.heap.size w ((w.alloc (.cells #[.int .i64 0, .slice none 0 0, .slice none 0 0] 34)).alloc (.cells #[.int .i64 0, .int .i64 0] 36)) := ((Below.refl _ _).alloc (Nat.le_refl _) _).alloc (by simp) _
  have r0 : ((w.alloc (.cells #[.int .i64 0, .slice none 0 0, .slice none 0 0] 34)).alloc (.cells #[.int .i64 0, .int .i64 0] 36)).heap[w.heap.size]? = some (.cells #[.int .i64 0, .slice none 0 0, .slice none 0 0] 34 (0, 0)) := by rw [Below.heap_alloc _ _ _ (by simp), heap_new]
  have r1 := heap_new2 w (.cells #[.int .i64 0, .slice none 0 0, .slice none 0 0] 34) (.cells #[.int .i64 0, .int .i64 0] 36)
  have s0 : ((w.alloc (.cells #[.int .i64 0, .slice none 0 0, .slice none 0 0] 34)).alloc (.cells #[.int .i64 0, .int .i64 0] 36)).heap.size = w.heap.size + 2 := by simp
  generalize (w.alloc (.cells #[.int .i64 0, .slice none 0 0, .slice none 0 0] 34)).alloc (.cells #[.int .i64 0, .int .i64 0] 36) = W1 at *
  refine (parse_any W1 B ew en eu es ex N s (hg.below (b0.mono hBs)) hs hN hN2).mono ?_
  rintro e W2 ⟨hb2, hc⟩
  have hsz := hb2.size
  have t0 : W2.heap[w.heap.size]? = some (.cells #[.int .i64 0, .slice none 0 0, .slice none 0 0] 34 (0, 0)) := (hb2.block _ (by omega)).trans r0
  have t1 : W2.heap[w.heap.size + 1]? = some (.cells #[.int .i64 0, .int .i64 0] 36 (0, 0)) := (hb2.block _ (by omega)).trans r1
  have b2 : Below w.heap.size w W2 := b0.trans (hb2.mono (by omega))
  have hg2 : GL W2 B ew en eu es ex := hg.below (b2.mono hBs)
  clear r0 r1 hb2 b0 hg hN
  rw [HQ.out] at hc
  simp only [] at hc
  clear HQ
  have z0 : W2.cell? ⟨w.heap.size, 0, none⟩ = some (.int .i64 0) := by rw [cell_of_blk t0]; rfl
  have z1 : W2.cell? ⟨w.heap.size, 1, none⟩ = some (.slice none 0 0) := by rw [cell_of_blk t0]; rfl
  have z2 : W2.cell? ⟨w.heap.size, 2, none⟩ = some (.slice none 0 0) := by rw [cell_of_blk t0]; rfl
  have f0 : ∀ i, W2.frozen? ⟨w.heap.size, i, none⟩ = false := fun i => frozen_of_blk t0
  have p0 : W2.cell? ⟨w.heap.size + 1, 0, none⟩ = some (.int .i64 0) := by rw [cell_of_blk t1]; rfl
  have p1 : W2.cell? ⟨w.heap.size + 1, 1, none⟩ = some (.int .i64 0) := by rw [cell_of_blk t1]; rfl
  have f1 : ∀ i, W2.frozen? ⟨w.heap.size + 1, i, none⟩ = false := fun i => frozen_of_blk t1
  have hwl : w.heap.size < W2.heap.size := by omega
  have hwl1 : w.heap.size + 1 < W2.heap.size := by omega
  have HB2 : Hid _ := b2
  rcases hc with ⟨he, mb, eb, rfl, hmis, heb, hno⟩ | ⟨he, v, vs, cv, rfl, HSP, hpa, hco⟩
  · unfold misV
    go_wp2_with fail
    have hba : Below W2.heap.size W2 (W2.alloc (.cells #[.int .i64 0, .slice none 0 0, .slice none 0 0] 34)) := (Below.refl _ _).alloc (Nat.le_refl _) _
    have sba : W2.heap.size < (W2.alloc (.cells #[.int .i64 0, .slice none 0 0, .slice none 0 0] 34)).heap.size := by simp
    generalize W2.alloc (.cells #[.int .i64 0, .slice none 0 0, .slice none 0 0] 34) = W3 at *
    have hg3 := hg2.below (hba.mono hg2.size)
    have hm3 : MisAt W3 mb eb r.ln r.cl := (hba.block _ (lt_of_blk hmis)).trans hmis
    refine (placeOf_any mb eb r.ln r.cl W3 hg3 hm3).mono ?_
    rintro e W4 ⟨rfl, hb4⟩
    have hg4 := hg3.below (hb4.mono hg3.size)
    have hm4 : MisAt W4 mb eb r.ln r.cl := (hb4.block _ (lt_of_blk hm3)).trans hm3
    have b4 : Below W2.heap.size W2 W4 := hba.trans (hb4.mono (by omega))
    go_wp2_with fail
    refine (errnoOf_any mb eb r.ln r.cl W4 hg4 hm4 heb).mono ?_
    rintro e W5 ⟨rfl, rfl⟩
    rw [hno]
    have t0' := (b4.block _ hwl).trans t0
    have t1' := (b4.block _ hwl1).trans t1
    have z0 : W5.cell? ⟨w.heap.size, 0, none⟩ = some (.int .i64 0) := by rw [cell_of_blk t0']; rfl
    have z1 : W5.cell? ⟨w.heap.size, 1, none⟩ = some (.slice none 0 0) := by rw [cell_of_blk t0']; rfl
    have z2 : W5.cell? ⟨w.heap.size, 2, none⟩ = some (.slice none 0 0) := by rw [cell_of_blk t0']; rfl
    have f0 : ∀ i, W5.frozen? ⟨w.heap.size, i, none⟩ = false := fun i => frozen_of_blk t0'
    have p0 : W5.cell? ⟨w.heap.size + 1, 0, none⟩ = some (.int .i64 0) := by rw [cell_of_blk t1']; rfl
    have p1 : W5.cell? ⟨w.heap.size + 1, 1, none⟩ = some (.int .i64 0) := by rw [cell_of_blk t1']; rfl
    have f1 : ∀ i, W5.frozen? ⟨w.heap.size + 1, i, none⟩ = false := fun i => frozen_of_blk t1'
    have HB5 : Hid (Below w.heap.size w W5) := HB2.out.trans (b4.mono (by omega))
    go_wp2_with fail
    refine bodyPost_ret (v := .tuple #[.agg #[.int .i64 0, .slice none 0 0, .slice none 0 0], .agg #[.int .i64 r.ln, .int .i64 r.cl], .int .i64 r.e]) (by simp [results, Tryz.results13, go_sem, z0, z1, z2, p0, p1]) rfl ⟨?_, .inl ⟨he, rfl⟩⟩
    exact ((((HB5.out.setCell (Nat.le_refl _) _).setCell (Nat.le_refl _) _).setCell (Nat.le_refl _) _).setCell (Nat.le_succ _) _).setCell (Nat.le_succ _) _
  · obtain ⟨va, vc, rfl⟩ := own_shape hpa.2.1
    obtain ⟨ca, cc, rfl⟩ := own_shape hco
    have hpa' : PartsAt W2 w.heap.size (.slice va mm.parts.length vc) mm.parts vs := ⟨hpa.1, own_mono hpa.2.1 (by omega), fun i a d => own_mono (hpa.2.2 i a d) (by omega)⟩
    have hco' : W2.ownsRow w.heap.size 92 6 (.slice ca mm.chans.length cc) mm.chans.length (chanRows mm.chans) := own_mono hco (by omega)
    have HPA : Hid _ := hpa'
    have HCO : Hid _ := hco'
    clear hpa hco b2 hpa' hco'
    go_wp2_with fail
    have hall : ∀ (X : World), Below w.heap.size w X ∧ PartsAt X w.heap.size (.slice va mm.parts.length vc) mm.parts vs ∧ X.ownsRow w.heap.size 92 6 (.slice ca mm.chans.length cc) mm.chans.length (chanRows mm.chans) ∧ (∃ o, X.heap[w.heap.size]? = some (.cells o 34 (0, 0))) ∧ (∃ o, X.heap[w.heap.size + 1]? = some (.cells o 36 (0, 0))) → ∀ (i : Nat) (u : Value), Below w.heap.size w (X.setCell ⟨w.heap.size, i, none⟩ u) ∧ PartsAt (X.setCell ⟨w.heap.size, i, none⟩ u) w.heap.size (.slice va mm.parts.length vc) mm.parts vs ∧ (X.setCell ⟨w.heap.size, i, none⟩ u).ownsRow w.heap.size 92 6 (.slice ca mm.chans.length cc) mm.chans.length (chanRows mm.chans) ∧ (∃ o, (X.setCell ⟨w.heap.size, i, none⟩ u).heap[w.heap.size]? = some (.cells o 34 (0, 0))) ∧ (∃ o, (X.setCell ⟨w.heap.size, i, none⟩ u).heap[w.heap.size + 1]? = some (.cells o 36 (0, 0))) := by
      rintro X ⟨h1, h2, h3, ⟨o, h4⟩, ⟨o5, h5⟩⟩ i u
      exact ⟨h1.setCell (Nat.le_refl _) u, PartsAt.setOther h2 h4 (by decide) (by decide) i u, own_other h3 h4 (by decide) i u, ⟨_, blk_set i u h4⟩, ⟨o5, by rw [blk_far _ _ (by omega)]; exact h5⟩⟩
    have hall2 : ∀ (X : World), Below w.heap.size w X ∧ PartsAt X w.heap.size (.slice va mm.parts.length vc) mm.parts vs ∧ X.ownsRow w.heap.size 92 6 (.slice ca mm.chans.length cc) mm.chans.length (chanRows mm.chans) ∧ (∃ o, X.heap[w.heap.size + 1]? = some (.cells o 36 (0, 0))) → ∀ (i : Nat) (u : Value), Below w.heap.size w (X.setCell ⟨w.heap.size + 1, i, none⟩ u) ∧ PartsAt (X.setCell ⟨w.heap.size + 1, i, none⟩ u) w.heap.size (.slice va mm.parts.length vc) mm.parts vs ∧ (X.setCell ⟨w.heap.size + 1, i, none⟩ u).ownsRow w.heap.size 92 6 (.slice ca mm.chans.length cc) mm.chans.length (chanRows mm.chans) ∧ (∃ o, (X.setCell ⟨w.heap.size + 1, i, none⟩ u).heap[w.heap.size + 1]? = some (.cells o 36 (0, 0))) := by
      rintro X ⟨h1, h2, h3, ⟨o, h4⟩⟩ i u
      exact ⟨h1.setCell (Nat.le_succ _) u, PartsAt.setOther h2 h4 (by decide) (by decide) i u, own_other h3 h4 (by decide) i u, ⟨_, blk_set i u h4⟩⟩
    have h0 := hall _ (hall _ (hall _ ⟨HB2.out, HPA.out, HCO.out, ⟨_, t0⟩, ⟨_, t1⟩⟩ 0 (.int .i64 mm.frame)) 1 (.slice va mm.parts.length vc)) 2 (.slice ca mm.chans.length cc)
    have h9 := hall2 _ (hall2 _ ⟨h0.1, h0.2.1, h0.2.2.1, h0.2.2.2.2⟩ 0 (.int .i64 0)) 1 (.int .i64 0)
    have hga := grown_alloc (((((W2.setCell ⟨w.heap.size, 0, none⟩ (.int .i64 mm.frame)).setCell ⟨w.heap.size, 1, none⟩ (.slice va mm.parts.length vc)).setCell ⟨w.heap.size, 2, none⟩ (.slice ca mm.chans.length cc)).setCell ⟨w.heap.size + 1, 0, none⟩ (.int .i64 0)).setCell ⟨w.heap.size + 1, 1, none⟩ (.int .i64 0)) (.cells #[.int .i64 mm.frame, .slice va mm.parts.length vc, .slice ca mm.chans.length cc] 34) none
    refine bodyPost_ret (v := .tuple #[.agg #[.int .i64 mm.frame, .slice va mm.parts.length vc, .slice ca mm.chans.length cc], .agg #[.int .i64 0, .int .i64 0], .int .i64 0]) (by simp [results, Tryz.results13, go_sem, z0, z1, z2, p0, p1, hwl, hwl1]) rfl ⟨h9.1.alloc (by simp [World.setCell]; omega) _, .inr ⟨he, .slice va mm.parts.length vc, vs, .slice ca mm.chans.length cc, rfl, HSP, PartsAt.kept h9.2.1 hga (by simp), own_kept h9.2.2.1 hga (by simp)⟩⟩
end Go.Proofs.YteioennfpkoagaaGreatDoor
