import Derived.Test.YteioennfpkoagaaGreatDoorLawD
namespace Go.Proofs.YteioennfpkoagaaGreatDoor
open Go.RowKit
attribute [local go_sem ↓] Go.wp_at_zero Go.wp_at_succ

theorem KB.mono {A A' : Nat → Prop} {w w' : World} (h : KB A w w') (hA : ∀ x, A x → A' x) : KB A' w w' := ⟨h.os, h.tape, h.output, h.size, fun k hk hn => h.block k hk (fun hx => hn (hA k hx))⟩
theorem grown_own {w w' : World} {row : Option Nat} (h : w.grownBy w' row) : KB (fun k => row = some k) w w' := KB.of h (fun _ hk => hk)
set_option maxRecDepth 100000 in
set_option maxHeartbeats 1000000 in
theorem keepRegions_any (w : World) (B bb n : Nat) (rv pv cv l : Value) (R P C xs : List Value) (hb : BookOK w B bb rv pv cv R P C) (hl : w.ownsRow B 90 3 l n xs) (hn : n ≤ 8193) (hRl : R.length ≤ 1000000000000) (hBs : B ≤ w.heap.size)
    (hfree : ∀ u ∈ R, ∀ x, u.ownBlock = some x → l.ownBlock ≠ some x) :
    Calls Tryz.prog 87 #[.pointer (some ⟨bb, 0, none⟩), l] w fun e w' => e = .returned (.tuple #[]) ∧ ∃ rv' a1 a2 a3, BookOK w' B bb rv' pv cv (R ++ [l, a1, a2, a3]) P C ∧ KB (fun k => k = bb ∨ rv.ownBlock = some k ∨ l.ownBlock = some k) w w' ∧ (∀ u ∈ [l, a1, a2, a3], ∀ x, u.ownBlock = some x → l.ownBlock = some x ∨ w.heap.size ≤ x) ∧ (∀ x, rv'.ownBlock = some x → rv.ownBlock = some x ∨ w.heap.size ≤ x) := by
  obtain ⟨ra, rc, rfl⟩ := own_shape hb.rR
  obtain ⟨la, lc, rfl⟩ := own_shape hl
  obtain ⟨i0, hi0, hz0, hz1, hz2⟩ := info_parts infoRegion
  obtain ⟨j0, hj0, hy0, hy1, hy2⟩ := info_parts infoRegions
  have c0 : w.cell? ⟨bb, 0, none⟩ = some (.slice ra R.length rc) := by rw [cell_of_blk hb.blk]; rfl
  have HQ4 : Hid _ := quo4 R.length
  have HFR : Hid _ := hfree
  clear hfree
  go_enter Tryz.func87, Tryz.ntmps87
  go_wp2_with fail
  rw [HQ4.out]
  have hjl : R.length / 4 ≤ 1000000000000 := by omega
  refine (badRegion_any (R.length / 4) w hjl).mono ?_
  rintro e W1 ⟨rfl, hb1⟩
  clear HQ4
  generalize hjj : R.length / 4 = jj at *
  have HJJ : Hid _ := hjj
  clear hjj
  go_wp2_with fail
  have k1 : KB (fun k => (Value.slice la n lc).ownBlock = some k) w (W1.alloc (.cells #[.int .i64 (-1000 - (jj : Int)), .int .i64 3, .int .i64 9] 90)) := (KB.below hb1).trans (KB.below ((Below.refl _ _).alloc (Nat.le_refl _) _))
  have hM := heap_new W1 (.cells #[.int .i64 (-1000 - (jj : Int)), .int .i64 3, .int .i64 9] 90)
  have hMw : w.heap.size ≤ W1.heap.size := hb1.size
  have hl1 : (W1.alloc (.cells #[.int .i64 (-1000 - (jj : Int)), .int .i64 3, .int .i64 9] 90)).ownsRow B 90 3 (.slice la n lc) n xs := (own_below hl hb1).alloc _
  generalize W1.alloc (.cells #[.int .i64 (-1000 - (jj : Int)), .int .i64 3, .int .i64 9] 90) = W2 at *
  have hlM : (Value.slice la n lc).ownBlock ≠ some W1.heap.size := fun hk => by have := (hl.lt _ hk).2; omega
  generalize W1.heap.size = M at *
  go_loopw [5] (fun i wr => ∃ (k : Nat) (rest : List Value), i = .int .i64 k ∧ k ≤ n ∧ rest.length = (n - k) * 3 ∧ wr.ownsRow B 90 3 (.slice la n lc) n (rep (badR jj) k ++ rest) ∧ KB (fun k => (Value.slice la n lc).ownBlock = some k) W2 wr) (fun i _ => n - (intOf i).toNat)
  case atStart => exact ⟨0, xs, rfl, by omega, by rw [hl1.1]; simp, by simpa [rep] using hl1, KB.refl _ _⟩
  case round =>
    obtain ⟨k, rest, rfl, hk, hrl, hown, hkb⟩ := hrel
    clear hl1
    have hMr : wr.heap[M]? = some (.cells #[.int .i64 (-1000 - (jj : Int)), .int .i64 3, .int .i64 9] 90 (0, 0)) := by rw [hkb.block M (lt_of_blk hM) hlM]; exact hM
    have m0 : wr.cell? ⟨M, 0, none⟩ = some (.int .i64 (-1000 - (jj : Int))) := by rw [cell_of_blk hMr]; rfl
    have m1 : wr.cell? ⟨M, 1, none⟩ = some (.int .i64 3) := by rw [cell_of_blk hMr]; rfl
    have m2 : wr.cell? ⟨M, 2, none⟩ = some (.int .i64 9) := by rw [cell_of_blk hMr]; rfl
    by_cases hlt : k < n
    · rcases own_nil_or hown with ⟨h0, _⟩ | ⟨g, cap, e1⟩
      · omega
      cases e1
      have hgb : ∃ cur, wr.heap[g]? = some (.cells cur 90 (0, 0)) := by
        rcases hown.2 with ⟨h0, _⟩ | ⟨g', cap', cur, hv, _, hg, _⟩
        · cases h0
        · cases hv; exact ⟨cur, hg⟩
      obtain ⟨cur, hgb⟩ := hgb
      have some_at : ∀ j, j < n * 3 → ∃ y, wr.cell? ⟨g, j, none⟩ = some y := by
        intro j hj
        rw [own_cells hown j hj]
        have hjl : j < (rep (badR jj) k ++ rest).length := by rw [hown.1]; exact hj
        exact ⟨_, List.getElem?_eq_getElem hjl⟩
      obtain ⟨y0, e0⟩ := some_at (k * 3) (by omega)
      obtain ⟨y1, e1⟩ := some_at (k * 3 + 1) (by omega)
      obtain ⟨y2, e2⟩ := some_at (k * 3 + 2) (by omega)
      have fz : ∀ j, wr.frozen? ⟨g, j, none⟩ = false := fun j => frozen_of_blk hgb
      have hlt' : (k : Int) < (n : Int) := by omega
      have hk0 : (0 : Int) ≤ (k : Int) := by omega
      have hgM : g ≠ M := fun e => hlM (by rw [e]; rfl)
      have hfs := fill_step (pat := badR jj) rfl hlt hrl hown
      have HFS : Hid _ := hfs
      have HKB : Hid _ := hkb
      clear some_at hfs hkb hown
      go_wp2_with fail
      go_roundw
      case rel =>
        obtain ⟨rest', h1, h2⟩ := HFS.out
        exact ⟨k + 1, rest', by go_num, by omega, h1, h2, HKB.out.trans (KB.of (grown_setCells g (badR jj) (k * 3) wr) (fun x hx => hx))⟩
      case measure => simp [intOf]; omega
    · have hkn : k = n := by omega
      subst hkn
      obtain rfl : rest = [] := List.eq_nil_of_length_eq_zero (by rw [hrl]; simp)
      rw [List.append_nil] at hown
      clear hlt hrl
      have hkw : KB (fun x => (Value.slice la k lc).ownBlock = some x) w wr := k1.trans hkb
      have HKW : Hid _ := hkw
      have hszw := hkw.size
      clear hkw hkb k1
      have hMl0 := lt_of_blk hMr
      go_wp2_with (first
        | (at_builtin; refine wpList_append_stays _ rfl _ _ _ rfl B 90 i0 _ 3 24 Tryz.underlying40 hi0 hz0 hz1 hz2 rfl (by omega) (.slice la k lc) k (rep (badR jj) k) rfl (hown.alloc _) ⟨wr.heap.size, 0, none⟩ 1 1 (rep (badR jj) 1) rfl rfl (World.news_of_block (cs := #[.int .i64 (-1000 - (jj : Int)), .int .i64 3, .int .i64 9]) (t := 90) (fr := (0, 0)) (heap_new wr _)) (by simp [rep, badR, Value.oneCell']) (by omega) (by unfold maxLen; omega) (by omega) (by simp; omega) ?_; intro g1 c1 V1 n1 o1 gr1 d1
           have hM1 : V1.heap[M]? = some (.cells #[.int .i64 (-1000 - (jj : Int)), .int .i64 3, .int .i64 9] 90 (0, 0)) := (gr1.block M (by simp; omega) hlM.symm).trans ((Below.heap_alloc _ _ _ (lt_of_blk hMr)).trans hMr)
           have hMl1 := lt_of_blk hM1
           have q10 : V1.cell? ⟨M, 0, none⟩ = some (.int .i64 (-1000 - (jj : Int))) := by (rw [cell_of_blk hM1]; rfl)
           have q11 : V1.cell? ⟨M, 1, none⟩ = some (.int .i64 3) := by (rw [cell_of_blk hM1]; rfl)
           have q12 : V1.cell? ⟨M, 2, none⟩ = some (.int .i64 9) := by (rw [cell_of_blk hM1]; rfl)
           have sz1 := gr1.size
           simp at sz1
           have kk1 : KB (fun x => (Value.slice la k lc).ownBlock = some x) w V1 := (HKW.out.trans (KB.below ((Below.refl _ _).alloc (Nat.le_refl _) _))).trans (grown_own gr1))
        | (at_builtin; refine wpList_append_stays _ rfl _ _ _ rfl B 90 i0 _ 3 24 Tryz.underlying40 hi0 hz0 hz1 hz2 rfl (by omega) (.slice la k lc) k (rep (badR jj) k) rfl (o1.alloc _) ⟨V1.heap.size, 0, none⟩ 2 2 (rep (badR jj) 2) rfl rfl (World.news_of_block (cs := #[.int .i64 (-1000 - (jj : Int)), .int .i64 3, .int .i64 9, .int .i64 (-1000 - (jj : Int)), .int .i64 3, .int .i64 9]) (t := 90) (fr := (0, 0)) (heap_new V1 _)) (by simp [rep, badR, Value.oneCell']) (by omega) (by unfold maxLen; omega) (by omega) (by simp; omega) ?_; intro g2 c2 V2 n2 o2 gr2 d2
           have hM2 : V2.heap[M]? = some (.cells #[.int .i64 (-1000 - (jj : Int)), .int .i64 3, .int .i64 9] 90 (0, 0)) := (gr2.block M (by simp; omega) hlM.symm).trans ((Below.heap_alloc _ _ _ (lt_of_blk hM1)).trans hM1)
           have hMl2 := lt_of_blk hM2
           have q20 : V2.cell? ⟨M, 0, none⟩ = some (.int .i64 (-1000 - (jj : Int))) := by (rw [cell_of_blk hM2]; rfl)
           have q21 : V2.cell? ⟨M, 1, none⟩ = some (.int .i64 3) := by (rw [cell_of_blk hM2]; rfl)
           have q22 : V2.cell? ⟨M, 2, none⟩ = some (.int .i64 9) := by (rw [cell_of_blk hM2]; rfl)
           have sz2 := gr2.size
           simp at sz2
           have kk2 : KB (fun x => (Value.slice la k lc).ownBlock = some x) w V2 := (kk1.trans (KB.below ((Below.refl _ _).alloc (Nat.le_refl _) _))).trans (grown_own gr2))
        | (at_builtin; refine wpList_append_stays _ rfl _ _ _ rfl B 90 i0 _ 3 24 Tryz.underlying40 hi0 hz0 hz1 hz2 rfl (by omega) (.slice la k lc) k (rep (badR jj) k) rfl (o2.alloc _) ⟨V2.heap.size, 0, none⟩ 3 3 (rep (badR jj) 3) rfl rfl (World.news_of_block (cs := #[.int .i64 (-1000 - (jj : Int)), .int .i64 3, .int .i64 9, .int .i64 (-1000 - (jj : Int)), .int .i64 3, .int .i64 9, .int .i64 (-1000 - (jj : Int)), .int .i64 3, .int .i64 9]) (t := 90) (fr := (0, 0)) (heap_new V2 _)) (by simp [rep, badR, Value.oneCell']) (by omega) (by unfold maxLen; omega) (by omega) (by simp; omega) ?_; intro g3 c3 V3 n3 o3 gr3 d3
           have hM3 : V3.heap[M]? = some (.cells #[.int .i64 (-1000 - (jj : Int)), .int .i64 3, .int .i64 9] 90 (0, 0)) := (gr3.block M (by simp; omega) hlM.symm).trans ((Below.heap_alloc _ _ _ (lt_of_blk hM2)).trans hM2)
           have hMl3 := lt_of_blk hM3
           have q30 : V3.cell? ⟨M, 0, none⟩ = some (.int .i64 (-1000 - (jj : Int))) := by (rw [cell_of_blk hM3]; rfl)
           have q31 : V3.cell? ⟨M, 1, none⟩ = some (.int .i64 3) := by (rw [cell_of_blk hM3]; rfl)
           have q32 : V3.cell? ⟨M, 2, none⟩ = some (.int .i64 9) := by (rw [cell_of_blk hM3]; rfl)
           have sz3 := gr3.size
           simp at sz3
           have kk3 : KB (fun x => (Value.slice la k lc).ownBlock = some x) w V3 := (kk2.trans (KB.below ((Below.refl _ _).alloc (Nat.le_refl _) _))).trans (grown_own gr3)
           have hb3 := hb.kept hl kk3 (by decide) (by decide) (by decide) (by decide) (fun u hu _ => HFR.out u hu) (fun _ _ e => absurd e (by decide)) (fun _ _ e => absurd e (by decide))
           have bl3 := lt_of_blk hb3.blk
           have b3 : V3.cell? ⟨bb, 0, none⟩ = some (.slice ra R.length rc) := by (rw [cell_of_blk hb3.blk]; rfl))
        | (at_builtin; refine wpList_append_lies _ rfl _ _ _ rfl B 40 j0 _ 1 24 Tryz.underlying24 hj0 hy0 hy1 hy2 rfl (by omega) (.slice ra R.length rc) R.length R rfl (hb3.rR.alloc _) ⟨V3.heap.size, 0, none⟩ 4 4 [.slice la k lc, .slice (some ⟨g1, 0, none⟩) (k + 1) c1, .slice (some ⟨g2, 0, none⟩) (k + 2) c2, .slice (some ⟨g3, 0, none⟩) (k + 3) c3] rfl rfl (World.news_of_block (cs := #[.slice la k lc, .slice (some ⟨g1, 0, none⟩) (k + 1) c1, .slice (some ⟨g2, 0, none⟩) (k + 2) c2, .slice (some ⟨g3, 0, none⟩) (k + 3) c3]) (t := 40) (fr := (0, 0)) (heap_new V3 _)) (by simp [Value.oneCell']) (by omega) (by unfold maxLen; omega) (by omega) (by simp; omega) (V3.heap.size + 1) (by simp) ?_; intro g4 c4 V4 n4 gr4 at4 lt4
           have hb4 : V4.heap[bb]? = some (.cells #[.slice ra R.length rc, pv, cv, .slice none 0 0] 29 (0, 0)) := (gr4.block bb (by simp; omega) (fun e => own_not hb3.rR hb3.blk (by decide) e.symm)).trans ((Below.heap_alloc _ _ _ bl3).trans hb3.blk)
           have e4 : V4.cell? ⟨bb, 0, none⟩ = some (.slice ra R.length rc) := by (rw [cell_of_blk hb4]; rfl)
           have f4 : V4.frozen? ⟨bb, 0, none⟩ = false := frozen_of_blk hb4))
      have w1 : V1.ownsRow B 90 3 (.slice (some ⟨g1, 0, none⟩) (k + 1) c1) (k + 1) (rep (badR jj) (k + 1)) := by (rw [rep_add]; exact n1)
      have w2 : V2.ownsRow B 90 3 (.slice (some ⟨g2, 0, none⟩) (k + 2) c2) (k + 2) (rep (badR jj) (k + 2)) := by (rw [rep_add]; exact n2)
      have w21 := pat_stays (size := 3) (pat := badR jj) rfl (by omega) (w1.alloc _) (by omega) (o1.alloc _) n2 gr2 d2
      have w3 : V3.ownsRow B 90 3 (.slice (some ⟨g3, 0, none⟩) (k + 3) c3) (k + 3) (rep (badR jj) (k + 3)) := by (rw [rep_add]; exact n3)
      have w31 := pat_stays (size := 3) (pat := badR jj) rfl (by omega) (w21.alloc _) (by omega) (o2.alloc _) n3 gr3 d3
      have w32 := pat_stays (size := 3) (pat := badR jj) rfl (by omega) (w2.alloc _) (by omega) (o2.alloc _) n3 gr3 d3
      have hba : Below V3.heap.size V3 (V3.alloc (.cells #[.slice la k lc, .slice (some ⟨g1, 0, none⟩) (k + 1) c1, .slice (some ⟨g2, 0, none⟩) (k + 2) c2, .slice (some ⟨g3, 0, none⟩) (k + 3) c3] 40)) := (Below.refl _ _).alloc (Nat.le_refl _) _
      have fr1 : (Value.slice la k lc).ownBlock = some g1 ∨ w.heap.size ≤ g1 := d1.elim (fun e => .inl (by rw [e]; rfl)) (fun h => .inr (by have := h.2; simp at this; omega))
      have fr2 : (Value.slice la k lc).ownBlock = some g2 ∨ w.heap.size ≤ g2 := d2.elim (fun e => .inl (by rw [e]; rfl)) (fun h => .inr (by have := h.2; simp at this; omega))
      have fr3 : (Value.slice la k lc).ownBlock = some g3 ∨ w.heap.size ≤ g3 := d3.elim (fun e => .inl (by rw [e]; rfl)) (fun h => .inr (by have := h.2; simp at this; omega))
      have hfin := (hb3.below hba).addR (a := .slice la k lc) (b := .slice (some ⟨g1, 0, none⟩) (k + 1) c1) (d := .slice (some ⟨g2, 0, none⟩) (k + 2) c2) (f := .slice (some ⟨g3, 0, none⟩) (k + 3) c3) (by
        rw [HJJ.out]
        intro u hu
        simp only [List.mem_cons, List.not_mem_nil, or_false] at hu
        rcases hu with rfl | rfl | rfl | rfl
        · exact ⟨k, by omega, o3.alloc _⟩
        · exact ⟨k + 1, by omega, w31.alloc _⟩
        · exact ⟨k + 2, by omega, w32.alloc _⟩
        · exact ⟨k + 3, by omega, w3.alloc _⟩) gr4 n4
      go_returns
      refine ⟨rfl, _, _, _, _, hfin, ?_, ?_, ?_⟩
      · exact (((kk3.mono (fun x hx => .inr (.inr hx))).trans (KB.below hba)).trans (KB.of gr4 (fun x hx => .inr (.inl hx)))).trans (KB.of (grown_set V4 bb 0 _) (fun x hx => .inl (by injection hx with hx; exact hx.symm)))
      · intro u hu x hx
        simp only [List.mem_cons, List.not_mem_nil, or_false] at hu
        rcases hu with rfl | rfl | rfl | rfl
        · exact .inl hx
        · simp only [Value.ownBlock, Option.some.injEq] at hx; subst hx; exact fr1
        · simp only [Value.ownBlock, Option.some.injEq] at hx; subst hx; exact fr2
        · simp only [Value.ownBlock, Option.some.injEq] at hx; subst hx; exact fr3
      · intro x hx
        simp only [Value.ownBlock, Option.some.injEq] at hx
        subst hx
        rcases at4 with e | e
        · exact .inl e
        · right; omega
end Go.Proofs.YteioennfpkoagaaGreatDoor
