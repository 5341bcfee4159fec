import Derived.Test.YteioennfpkoagaaGreatDoorManU
namespace Go.Proofs.YteioennfpkoagaaGreatDoor
open Go.RowKit
attribute [local go_sem ↓] Go.wp_at_zero Go.wp_at_succ

set_option maxRecDepth 100000 in
set_option maxHeartbeats 400000 in
theorem manParse_long (s : ByteArray) (w : World) (hs : 8192 < s.size) :
    Calls Tryz.prog 13 #[.string s] w fun e w' => e = .returned (.tuple #[.agg #[.int .i64 0, .slice none 0 0, .slice none 0 0], .agg #[.int .i64 0, .int .i64 0], .int .i64 14]) ∧ Below w.heap.size w w' := by
  have h1 : (8192 : Int) < (s.size : Int) := by omega
  go_enter Tryz.func13, Tryz.ntmps13
  go_wp2_with fail
  refine bodyPost_ret (v := .tuple #[.agg #[.int .i64 0, .slice none 0 0, .slice none 0 0], .agg #[.int .i64 0, .int .i64 0], .int .i64 14]) (by simp [results, Tryz.results13, go_sem]) rfl ⟨rfl, ?_⟩
  exact ((Below.refl _ _).alloc (Nat.le_refl _) _).alloc (by simp) _

set_option maxRecDepth 100000 in
set_option maxHeartbeats 4000000 in
theorem manParse_any (w : World) (B : Nat) (ew en eu es ex : Addr) (N : Nat) (s : ByteArray) (hg : GL w B ew en eu es ex) (hs : s.size ≤ 8192) (hN : TokN s.data.toList N) (hN2 : N ≤ 8193) :
    Calls Tryz.prog 13 #[.string s] w fun e w' => Below w.heap.size w w' ∧
      ((parseR s.data.toList N).2.e ≠ 0 ∧ e = .returned (.tuple #[.agg #[.int .i64 0, .slice none 0 0, .slice none 0 0], .agg #[.int .i64 (parseR s.data.toList N).2.ln, .int .i64 (parseR s.data.toList N).2.cl], .int .i64 (parseR s.data.toList N).2.e]) ∨
       (parseR s.data.toList N).2.e = 0 ∧ ∃ v vs cv, e = .returned (.tuple #[.agg #[.int .i64 (parseR s.data.toList N).1.frame, v, cv], .agg #[.int .i64 0, .int .i64 0], .int .i64 0]) ∧ Hid (Sep vs) ∧ PartsAt w' w.heap.size v (parseR s.data.toList N).1.parts vs ∧ w'.ownsRow w.heap.size 92 6 cv (parseR s.data.toList N).1.chans.length (chanRows (parseR s.data.toList N).1.chans)) := by
  have h1 : decide ((8192 : Int) < (s.size : Int)) = false := by simp; omega
  have hBs := hg.size
  generalize hq : parseR s.data.toList N = q
  have HQ : Hid _ := hq
  clear hq
  obtain ⟨mm, r⟩ := q
  simp only []
  go_enter Tryz.func13, Tryz.ntmps13
  go_wp2_with fail
  have b0 : Below w.heap.size w ((w.alloc (.cells #[.int .i64 0, .slice none 0 0, .slice none 0 0] 34)).alloc (.cells #[.int .i64 0, .int .i64 0] 36)) := ((Below.refl _ _).alloc (Nat.le_refl _) _).alloc (by simp) _
  have r0 : ((w.alloc (.cells #[.int .i64 0, .slice none 0 0, .slice none 0 0] 34)).alloc (.cells #[.int .i64 0, .int .i64 0] 36)).heap[w.heap.size]? = some (.cells #[.int .i64 0, .slice none 0 0, .slice none 0 0] 34 (0, 0)) := by rw [Below.heap_alloc _ _ _ (by simp), heap_new]
  have r1 := heap_new2 w (.cells #[.int .i64 0, .slice none 0 0, .slice none 0 0] 34) (.cells #[.int .i64 0, .int .i64 0] 36)
  have s0 : ((w.alloc (.cells #[.int .i64 0, .slice none 0 0, .slice none 0 0] 34)).alloc (.cells #[.int .i64 0, .int .i64 0] 36)).heap.size = w.heap.size + 2 := by simp
  generalize (w.alloc (.cells #[.int .i64 0, .slice none 0 0, .slice none 0 0] 34)).alloc (.cells #[.int .i64 0, .int .i64 0] 36) = W1 at *
  refine (parse_any W1 B ew en eu es ex N s (hg.below (b0.mono hBs)) hs hN hN2).mono ?_
  rintro e W2 ⟨hb2, hc⟩
  have hsz := hb2.size
  have t0 : W2.heap[w.heap.size]? = some (.cells #[.int .i64 0, .slice none 0 0, .slice none 0 0] 34 (0, 0)) := (hb2.block _ (by omega)).trans r0
  have t1 : W2.heap[w.heap.size + 1]? = some (.cells #[.int .i64 0, .int .i64 0] 36 (0, 0)) := (hb2.block _ (by omega)).trans r1
  have b2 : Below w.heap.size w W2 := b0.trans (hb2.mono (by omega))
  have hg2 : GL W2 B ew en eu es ex := hg.below (b2.mono hBs)
  clear r0 r1 hb2 b0 hg hN
  rw [HQ.out] at hc
  simp only [] at hc
  clear HQ
  have z0 : W2.cell? ⟨w.heap.size, 0, none⟩ = some (.int .i64 0) := by rw [cell_of_blk t0]; rfl
  have z1 : W2.cell? ⟨w.heap.size, 1, none⟩ = some (.slice none 0 0) := by rw [cell_of_blk t0]; rfl
  have z2 : W2.cell? ⟨w.heap.size, 2, none⟩ = some (.slice none 0 0) := by rw [cell_of_blk t0]; rfl
  have f0 : ∀ i, W2.frozen? ⟨w.heap.size, i, none⟩ = false := fun i => frozen_of_blk t0
  have p0 : W2.cell? ⟨w.heap.size + 1, 0, none⟩ = some (.int .i64 0) := by rw [cell_of_blk t1]; rfl
  have p1 : W2.cell? ⟨w.heap.size + 1, 1, none⟩ = some (.int .i64 0) := by rw [cell_of_blk t1]; rfl
  have f1 : ∀ i, W2.frozen? ⟨w.heap.size + 1, i, none⟩ = false := fun i => frozen_of_blk t1
  have hwl : w.heap.size < W2.heap.size := by omega
  have hwl1 : w.heap.size + 1 < W2.heap.size := by omega
  have HB2 : Hid _ := b2
  rcases hc with ⟨he, mb, eb, rfl, hmis, heb, hno⟩ | ⟨he, v, vs, cv, rfl, HSP, hpa, hco⟩
  · unfold misV
    go_wp2_with fail
    have hba : Below W2.heap.size W2 (W2.alloc (.cells #[.int .i64 0, .slice none 0 0, .slice none 0 0] 34)) := (Below.refl _ _).alloc (Nat.le_refl _) _
    have sba : W2.heap.size < (W2.alloc (.cells #[.int .i64 0, .slice none 0 0, .slice none 0 0] 34)).heap.size := by simp
    generalize W2.alloc (.cells #[.int .i64 0, .slice none 0 0, .slice none 0 0] 34) = W3 at *
    have hg3 := hg2.below (hba.mono hg2.size)
    have hm3 : MisAt W3 mb eb r.ln r.cl := (hba.block _ (lt_of_blk hmis)).trans hmis
    refine (placeOf_any mb eb r.ln r.cl W3 hg3 hm3).mono ?_
    rintro e W4 ⟨rfl, hb4⟩
    have hg4 := hg3.below (hb4.mono hg3.size)
    have hm4 : MisAt W4 mb eb r.ln r.cl := (hb4.block _ (lt_of_blk hm3)).trans hm3
    have b4 : Below W2.heap.size W2 W4 := hba.trans (hb4.mono (by omega))
    go_wp2_with fail
    refine (errnoOf_any mb eb r.ln r.cl W4 hg4 hm4 heb).mono ?_
    rintro e W5 ⟨rfl, rfl⟩
    rw [hno]
    have t0' := (b4.block _ hwl).trans t0
    have t1' := (b4.block _ hwl1).trans t1
    have z0 : W5.cell? ⟨w.heap.size, 0, none⟩ = some (.int .i64 0) := by rw [cell_of_blk t0']; rfl
    have z1 : W5.cell? ⟨w.heap.size, 1, none⟩ = some (.slice none 0 0) := by rw [cell_of_blk t0']; rfl
    have z2 : W5.cell? ⟨w.heap.size, 2, none⟩ = some (.slice none 0 0) := by rw [cell_of_blk t0']; rfl
    have f0 : ∀ i, W5.frozen? ⟨w.heap.size, i, none⟩ = false := fun i => frozen_of_blk t0'
    have p0 : W5.cell? ⟨w.heap.size + 1, 0, none⟩ = some (.int .i64 0) := by rw [cell_of_blk t1']; rfl
    have p1 : W5.cell? ⟨w.heap.size + 1, 1, none⟩ = some (.int .i64 0) := by rw [cell_of_blk t1']; rfl
    have f1 : ∀ i, W5.frozen? ⟨w.heap.size + 1, i, none⟩ = false := fun i => frozen_of_blk t1'
    have HB5 : Hid (Below w.heap.size w W5) := HB2.out.trans (b4.mono (by omega))
    go_wp2_with fail
    refine bodyPost_ret (v := .tuple #[.agg #[.int .i64 0, .slice none 0 0, .slice none 0 0], .agg #[.int .i64 r.ln, .int .i64 r.cl], .int .i64 r.e]) (by simp [results, Tryz.results13, go_sem, z0, z1, z2, p0, p1]) rfl ⟨?_, .inl ⟨he, rfl⟩⟩
    exact ((((HB5.out.setCell (Nat.le_refl _) _).setCell (Nat.le_refl _) _).setCell (Nat.le_refl _) _).setCell (Nat.le_succ _) _).setCell (Nat.le_succ _) _
  · obtain ⟨va, vc, rfl⟩ := own_shape hpa.2.1
    obtain ⟨ca, cc, rfl⟩ := own_shape hco
    have hpa' : PartsAt W2 w.heap.size (.slice va mm.parts.length vc) mm.parts vs := ⟨hpa.1, own_mono hpa.2.1 (by omega), fun i a d => own_mono (hpa.2.2 i a d) (by omega)⟩
    have hco' : W2.ownsRow w.heap.size 92 6 (.slice ca mm.chans.length cc) mm.chans.length (chanRows mm.chans) := own_mono hco (by omega)
    have HPA : Hid _ := hpa'
    have HCO : Hid _ := hco'
    clear hpa hco b2 hpa' hco'
    go_wp2_with fail
    have hall : ∀ (X : World), Below w.heap.size w X ∧ PartsAt X w.heap.size (.slice va mm.parts.length vc) mm.parts vs ∧ X.ownsRow w.heap.size 92 6 (.slice ca mm.chans.length cc) mm.chans.length (chanRows mm.chans) ∧ (∃ o, X.heap[w.heap.size]? = some (.cells o 34 (0, 0))) ∧ (∃ o, X.heap[w.heap.size + 1]? = some (.cells o 36 (0, 0))) → ∀ (i : Nat) (u : Value), Below w.heap.size w (X.setCell ⟨w.heap.size, i, none⟩ u) ∧ PartsAt (X.setCell ⟨w.heap.size, i, none⟩ u) w.heap.size (.slice va mm.parts.length vc) mm.parts vs ∧ (X.setCell ⟨w.heap.size, i, none⟩ u).ownsRow w.heap.size 92 6 (.slice ca mm.chans.length cc) mm.chans.length (chanRows mm.chans) ∧ (∃ o, (X.setCell ⟨w.heap.size, i, none⟩ u).heap[w.heap.size]? = some (.cells o 34 (0, 0))) ∧ (∃ o, (X.setCell ⟨w.heap.size, i, none⟩ u).heap[w.heap.size + 1]? = some (.cells o 36 (0, 0))) := by
      rintro X ⟨h1, h2, h3, ⟨o, h4⟩, ⟨o5, h5⟩⟩ i u
      exact ⟨h1.setCell (Nat.le_refl _) u, PartsAt.setOther h2 h4 (by decide) (by decide) i u, own_other h3 h4 (by decide) i u, ⟨_, blk_set i u h4⟩, ⟨o5, by rw [blk_far _ _ (by omega)]; exact h5⟩⟩
    have hall2 : ∀ (X : World), Below w.heap.size w X ∧ PartsAt X w.heap.size (.slice va mm.parts.length vc) mm.parts vs ∧ X.ownsRow w.heap.size 92 6 (.slice ca mm.chans.length cc) mm.chans.length (chanRows mm.chans) ∧ (∃ o, X.heap[w.heap.size + 1]? = some (.cells o 36 (0, 0))) → ∀ (i : Nat) (u : Value), Below w.heap.size w (X.setCell ⟨w.heap.size + 1, i, none⟩ u) ∧ PartsAt (X.setCell ⟨w.heap.size + 1, i, none⟩ u) w.heap.size (.slice va mm.parts.length vc) mm.parts vs ∧ (X.setCell ⟨w.heap.size + 1, i, none⟩ u).ownsRow w.heap.size 92 6 (.slice ca mm.chans.length cc) mm.chans.length (chanRows mm.chans) ∧ (∃ o, (X.setCell ⟨w.heap.size + 1, i, none⟩ u).heap[w.heap.size + 1]? = some (.cells o 36 (0, 0))) := by
      rintro X ⟨h1, h2, h3, ⟨o, h4⟩⟩ i u
      exact ⟨h1.setCell (Nat.le_succ _) u, PartsAt.setOther h2 h4 (by decide) (by decide) i u, own_other h3 h4 (by decide) i u, ⟨_, blk_set i u h4⟩⟩
    have h0 := hall _ (hall _ (hall _ ⟨HB2.out, HPA.out, HCO.out, ⟨_, t0⟩, ⟨_, t1⟩⟩ 0 (.int .i64 mm.frame)) 1 (.slice va mm.parts.length vc)) 2 (.slice ca mm.chans.length cc)
    have h9 := hall2 _ (hall2 _ ⟨h0.1, h0.2.1, h0.2.2.1, h0.2.2.2.2⟩ 0 (.int .i64 0)) 1 (.int .i64 0)
    have hga := grown_alloc (((((W2.setCell ⟨w.heap.size, 0, none⟩ (.int .i64 mm.frame)).setCell ⟨w.heap.size, 1, none⟩ (.slice va mm.parts.length vc)).setCell ⟨w.heap.size, 2, none⟩ (.slice ca mm.chans.length cc)).setCell ⟨w.heap.size + 1, 0, none⟩ (.int .i64 0)).setCell ⟨w.heap.size + 1, 1, none⟩ (.int .i64 0)) (.cells #[.int .i64 mm.frame, .slice va mm.parts.length vc, .slice ca mm.chans.length cc] 34) none
    refine bodyPost_ret (v := .tuple #[.agg #[.int .i64 mm.frame, .slice va mm.parts.length vc, .slice ca mm.chans.length cc], .agg #[.int .i64 0, .int .i64 0], .int .i64 0]) (by simp [results, Tryz.results13, go_sem, z0, z1, z2, p0, p1, hwl, hwl1]) rfl ⟨h9.1.alloc (by simp [World.setCell]; omega) _, .inr ⟨he, .slice va mm.parts.length vc, vs, .slice ca mm.chans.length cc, rfl, HSP, PartsAt.kept h9.2.1 hga (by simp), own_kept h9.2.2.1 hga (by simp)⟩⟩
end Go.Proofs.YteioennfpkoagaaGreatDoor
