import Derived.Test.YteioennfpkoagaaGreatDoorG13
import Derived.Deep.RegionHeld3
namespace Go.Proofs.YteioennfpkoagaaGreatDoor
open Go.RowKit
attribute [local go_sem ↓] Go.wp_at_zero Go.wp_at_succ

theorem KB.mono {A A' : Nat → Prop} {w w' : World} (h : KB A w w') (hA : ∀ x, A x → A' x) : KB A' w w' := ⟨h.os, h.tape, h.output, h.size, fun k hk hn => h.block k hk (fun hx => hn (hA k hx))⟩
theorem grown_own {w w' : World} {row : Option Nat} (h : w.grownBy w' row) : KB (fun k => row = some k) w w' := KB.of h (fun _ hk => hk)
set_option maxRecDepth 100000 in
set_option maxHeartbeats 1000000 in
theorem keepRegions_any (w : World) (B bb n : Nat) (rv pv cv l : Value) (R P C xs : List Value) (hb : BookOK w B bb rv pv cv R P C) (hl : w.ownsRow B 90 3 l n xs) (hn : n ≤ 8193) (hRl : R.length ≤ 1000000000000) (hBs : B ≤ w.heap.size)
    (hfree : ∀ u ∈ R, ∀ x, u.ownBlock = some x → l.ownBlock ≠ some x) :
    Calls Tryz.prog 87 #[.pointer (some ⟨bb, 0, none⟩), l] w fun e w' => e = .returned (.tuple #[]) ∧ ∃ rv' a1 a2 a3, BookOK w' B bb rv' pv cv (R ++ [l, a1, a2, a3]) P C ∧ KB (fun k => k = bb ∨ rv.ownBlock = some k ∨ l.ownBlock = some k) w w' ∧ (∀ u ∈ [l, a1, a2, a3], ∀ x, u.ownBlock = some x → l.ownBlock = some x ∨ w.heap.size ≤ x) ∧ (∀ x, rv'.ownBlock = some x → rv.ownBlock = some x ∨ w.heap.size ≤ x) := by
  obtain ⟨ra, rc, rfl⟩ := own_shape hb.rR
  obtain ⟨la, lc, rfl⟩ := own_shape hl
  obtain ⟨i0, hi0, hz0, hz1, hz2⟩ := info_parts infoRegion
  obtain ⟨j0, hj0, hy0, hy1, hy2⟩ := info_parts infoRegions
  have c0 : w.cell? ⟨bb, 0, none⟩ = some (.slice ra R.length rc) := by rw [cell_of_blk hb.blk]; rfl
  have HQ4 : Hid _ := quo4 R.length
  have HFR : Hid _ := hfree
  clear hfree
  go_enter Tryz.func87, Tryz.ntmps87
  go_wp2_with fail
  rw [HQ4.out]
  have hjl : R.length / 4 ≤ 1000000000000 := by omega
  refine (badRegion_any (R.length / 4) w hjl).mono ?_
  rintro e W1 ⟨rfl, hb1⟩
  clear HQ4
  generalize hjj : R.length / 4 = jj at *
  have HJJ : Hid _ := hjj
  clear hjj
  go_wp2_with fail
  have k1 : KB (fun k => (Value.slice la n lc).ownBlock = some k) w (W1.alloc (.cells #[.int .i64 (-1000 - (jj : Int)), .int .i64 3, .int .i64 9] 90)) := (KB.below hb1).trans (KB.below ((Below.refl _ _).alloc (Nat.le_refl _) _))
  have hM := heap_new W1 (.cells #[.int .i64 (-1000 - (jj : Int)), .int .i64 3, .int .i64 9] 90)
  have hMw : w.heap.size ≤ W1.heap.size := hb1.size
  have hl1 : (W1.alloc (.cells #[.int .i64 (-1000 - (jj : Int)), .int .i64 3, .int .i64 9] 90)).ownsRow B 90 3 (.slice la n lc) n xs := (own_below hl hb1).alloc _
  generalize W1.alloc (.cells #[.int .i64 (-1000 - (jj : Int)), .int .i64 3, .int .i64 9] 90) = W2 at *
  have hlM : (Value.slice la n lc).ownBlock ≠ some W1.heap.size := fun hk => by have := (hl.lt _ hk).2; omega
  generalize W1.heap.size = M at *
  go_loopw [5] (fun i wr => ∃ (k : Nat) (rest : List Value), i = .int .i64 k ∧ k ≤ n ∧ rest.length = (n - k) * 3 ∧ wr.ownsRow B 90 3 (.slice la n lc) n (rep (badR jj) k ++ rest) ∧ KB (fun k => (Value.slice la n lc).ownBlock = some k) W2 wr) (fun i _ => n - (intOf i).toNat)
  case atStart => exact ⟨0, xs, rfl, by omega, by rw [hl1.1]; simp, by simpa [rep] using hl1, KB.refl _ _⟩
  case round =>
    obtain ⟨k, rest, rfl, hk, hrl, hown, hkb⟩ := hrel
    clear hl1
    have hMr : wr.heap[M]? = some (.cells #[.int .i64 (-1000 - (jj : Int)), .int .i64 3, .int .i64 9] 90 (0, 0)) := by rw [hkb.block M (lt_of_blk hM) hlM]; exact hM
    have m0 : wr.cell? ⟨M, 0, none⟩ = some (.int .i64 (-1000 - (jj : Int))) := by rw [cell_of_blk hMr]; rfl
    have m1 : wr.cell? ⟨M, 1, none⟩ = some (.int .i64 3) := by rw [cell_of_blk hMr]; rfl
    have m2 : wr.cell? ⟨M, 2, none⟩ = some (.int .i64 9) := by rw [cell_of_blk hMr]; rfl
    by_cases hlt : k < n
    · rcases own_nil_or hown with ⟨h0, _⟩ | ⟨g, cap, e1⟩
      · omega
      cases e1
      have hgb : ∃ cur, wr.heap[g]? = some (.cells cur 90 (0, 0)) := by
        rcases hown.2 with ⟨h0, _⟩ | ⟨g', cap', cur, hv, _, hg, _⟩
        · cases h0
        · cases hv; exact ⟨cur, hg⟩
      obtain ⟨cur, hgb⟩ := hgb
      have some_at : ∀ j, j < n * 3 → ∃ y, wr.cell? ⟨g, j, none⟩ = some y := by
        intro j hj
        rw [own_cells hown j hj]
        have hjl : j < (rep (badR jj) k ++ rest).length := by rw [hown.1]; exact hj
        exact ⟨_, List.getElem?_eq_getElem hjl⟩
      obtain ⟨y0, e0⟩ := some_at (k * 3) (by omega)
      obtain ⟨y1, e1⟩ := some_at (k * 3 + 1) (by omega)
      obtain ⟨y2, e2⟩ := some_at (k * 3 + 2) (by omega)
      have fz : ∀ j, wr.frozen? ⟨g, j, none⟩ = false := fun j => frozen_of_blk hgb
      have hlt' : (k : Int) < (n : Int) := by omega
      have hk0 : (0 : Int) ≤ (k : Int) := by omega
      have hgM : g ≠ M := fun e => hlM (by rw [e]; rfl)
      have hfs := fill_step (pat := badR jj) rfl hlt hrl hown
      have HFS : Hid _ := hfs
      have HKB : Hid _ := hkb
      clear some_at hfs hkb hown
      go_wp2_with fail
      go_roundw
      case rel =>
        obtain ⟨rest', h1, h2⟩ := HFS.out
        exact ⟨k + 1, rest', by go_num, by omega, h1, h2, HKB.out.trans (KB.of (grown_setCells g (badR jj) (k * 3) wr) (fun x hx => hx))⟩
      case measure => simp [intOf]; omega
    · have hkn : k = n := by omega
      subst hkn
      obtain rfl : rest = [] := List.eq_nil_of_length_eq_zero (by rw [hrl]; simp)
      rw [List.append_nil] at hown
      clear hlt hrl
      have hkw : KB (fun x => (Value.slice la k lc).ownBlock = some x) w wr := k1.trans hkb
      have HKW : Hid _ := hkw
      have hszw := hkw.size
      clear hkw hkb k1
      have hMl0 := lt_of_blk hMr
      go_wp2_with (first
        | (at_builtin; refine wpList_append_stays _ rfl _ _ _ rfl B 90 i0 _ 3 24 Tryz.underlying40 hi0 hz0 hz1 hz2 rfl (by omega) (.slice la k lc) k (rep (badR jj) k) rfl (hown.alloc _) ⟨wr.heap.size, 0, none⟩ 1 1 (rep (badR jj) 1) rfl rfl (World.news_of_block (cs := #[.int .i64 (-1000 - (jj : Int)), .int .i64 3, .int .i64 9]) (t := 90) (fr := (0, 0)) (heap_new wr _)) (by simp [rep, badR, Value.oneCell']) (by omega) (by unfold maxLen; omega) (by omega) (by simp; omega) ?_; intro g1 c1 V1 n1 o1 gr1 d1
           have hM1 : V1.heap[M]? = some (.cells #[.int .i64 (-1000 - (jj : Int)), .int .i64 3, .int .i64 9] 90 (0, 0)) := (gr1.block M (by simp; omega) hlM.symm).trans ((Below.heap_alloc _ _ _ (lt_of_blk hMr)).trans hMr)
           have hMl1 := lt_of_blk hM1
           have q10 : V1.cell? ⟨M, 0, none⟩ = some (.int .i64 (-1000 - (jj : Int))) := by (rw [cell_of_blk hM1]; rfl)
           have q11 : V1.cell? ⟨M, 1, none⟩ = some (.int .i64 3) := by (rw [cell_of_blk hM1]; rfl)
           have q12 : V1.cell? ⟨M, 2, none⟩ = some (.int .i64 9) := by (rw [cell_of_blk hM1]; rfl)
           have sz1 := gr1.size
           simp at sz1
           have kk1 : KB (fun x => (Value.slice la k lc).ownBlock = some x) w V1 := (HKW.out.trans (KB.below ((Below.refl _ _).alloc (Nat.le_refl _) _))).trans (grown_own gr1))
        | (at_builtin; refine wpList_append_stays _ rfl _ _ _ rfl B 90 i0 _ 3 24 Tryz.underlying40 hi0 hz0 hz1 hz2 rfl (by omega) (.slice la k lc) k (rep (badR jj) k) rfl (o1.alloc _) ⟨V1.heap.size, 0, none⟩ 2 2 (rep (badR jj) 2) rfl rfl (World.news_of_block (cs := #[.int .i64 (-1000 - (jj : Int)), .int .i64 3, .int .i64 9, .int .i64 (-1000 - (jj : Int)), .int .i64 3, .int .i64 9]) (t := 90) (fr := (0, 0)) (heap_new V1 _)) (by simp [rep, badR, Value.oneCell']) (by omega) (by unfold maxLen; omega) (by omega) (by simp; omega) ?_; intro g2 c2 V2 n2 o2 gr2 d2
           have hM2 : V2.heap[M]? = some (.cells #[.int .i64 (-1000 - (jj : Int)), .int .i64 3, .int .i64 9] 90 (0, 0)) := (gr2.block M (by simp; omega) hlM.symm).trans ((Below.heap_alloc _ _ _ (lt_of_blk hM1)).trans hM1)
           have hMl2 := lt_of_blk hM2
           have q20 : V2.cell? ⟨M, 0, none⟩ = some (.int .i64 (-1000 - (jj : Int))) := by (rw [cell_of_blk hM2]; rfl)
           have q21 : V2.cell? ⟨M, 1, none⟩ = some (.int .i64 3) := by (rw [cell_of_blk hM2]; rfl)
           have q22 : V2.cell? ⟨M, 2, none⟩ = some (.int .i64 9) := by (rw [cell_of_blk hM2]; rfl)
           have sz2 := gr2.size
           simp at sz2
           have kk2 : KB (fun x => (Value.slice la k lc).ownBlock = some x) w V2 := (kk1.trans (KB.below ((Below.refl _ _).alloc (Nat.le_refl _) _))).trans (grown_own gr2))
        | (at_builtin; refine wpList_append_stays _ rfl _ _ _ rfl B 90 i0 _ 3 24 Tryz.underlying40 hi0 hz0 hz1 hz2 rfl (by omega) (.slice la k lc) k (rep (badR jj) k) rfl (o2.alloc _) ⟨V2.heap.size, 0, none⟩ 3 3 (rep (badR jj) 3) rfl rfl (World.news_of_block (cs := #[.int .i64 (-1000 - (jj : Int)), .int .i64 3, .int .i64 9, .int .i64 (-1000 - (jj : Int)), .int .i64 3, .int .i64 9, .int .i64 (-1000 - (jj : Int)), .int .i64 3, .int .i64 9]) (t := 90) (fr := (0, 0)) (heap_new V2 _)) (by simp [rep, badR, Value.oneCell']) (by omega) (by unfold maxLen; omega) (by omega) (by simp; omega) ?_; intro g3 c3 V3 n3 o3 gr3 d3
           have hM3 : V3.heap[M]? = some (.cells #[.int .i64 (-1000 - (jj : Int)), .int .i64 3, .int .i64 9] 90 (0, 0)) := (gr3.block M (by simp; omega) hlM.symm).trans ((Below.heap_alloc _ _ _ (lt_of_blk hM2)).trans hM2)
           have hMl3 := lt_of_blk hM3
           have q30 : V3.cell? ⟨M, 0, none⟩ = some (.int .i64 (-1000 - (jj : Int))) := by (rw [cell_of_blk hM3]; rfl)
           have q31 : V3.cell? ⟨M, 1, none⟩ = some (.int .i64 3) := by (rw [cell_of_blk hM3]; rfl)
           have q32 : V3.cell? ⟨M, 2, none⟩ = some (.int .i64 9) := by (rw [cell_of_blk hM3]; rfl)
           have sz3 := gr3.size
           simp at sz3
           have kk3 : KB (fun x => (Value.slice la k lc).ownBlock = some x) w V3 := (kk2.trans (KB.below ((Below.refl _ _).alloc (Nat.le_refl _) _))).trans (grown_own gr3)
           have hb3 := hb.kept hl kk3 (by decide) (by decide) (by decide) (by decide) (fun u hu _ => HFR.out u hu) (fun _ _ e => absurd e (by decide)) (fun _ _ e => absurd e (by decide))
           have bl3 := lt_of_blk hb3.blk
           have b3 : V3.cell? ⟨bb, 0, none⟩ = some (.slice ra R.length rc) := by (rw [cell_of_blk hb3.blk]; rfl))
        | (at_builtin; refine wpList_append_lies _ rfl _ _ _ rfl B 40 j0 _ 1 24 Tryz.underlying24 hj0 hy0 hy1 hy2 rfl (by omega) (.slice ra R.length rc) R.length R rfl (hb3.rR.alloc _) ⟨V3.heap.size, 0, none⟩ 4 4 [.slice la k lc, .slice (some ⟨g1, 0, none⟩) (k + 1) c1, .slice (some ⟨g2, 0, none⟩) (k + 2) c2, .slice (some ⟨g3, 0, none⟩) (k + 3) c3] rfl rfl (World.news_of_block (cs := #[.slice la k lc, .slice (some ⟨g1, 0, none⟩) (k + 1) c1, .slice (some ⟨g2, 0, none⟩) (k + 2) c2, .slice (some ⟨g3, 0, none⟩) (k + 3) c3]) (t := 40) (fr := (0, 0)) (heap_new V3 _)) (by simp [Value.oneCell']) (by omega) (by unfold maxLen; omega) (by omega) (by simp; omega) (V3.heap.size + 1) (by simp) ?_; intro g4 c4 V4 n4 gr4 at4 lt4
           have hb4 : V4.heap[bb]? = some (.cells #[.slice ra R.length rc, pv, cv, .slice none 0 0] 29 (0, 0)) := (gr4.block bb (by simp; omega) (fun e => own_not hb3.rR hb3.blk (by decide) e.symm)).trans ((Below.heap_alloc _ _ _ bl3).trans hb3.blk)
           have e4 : V4.cell? ⟨bb, 0, none⟩ = some (.slice ra R.length rc) := by (rw [cell_of_blk hb4]; rfl)
           have f4 : V4.frozen? ⟨bb, 0, none⟩ = false := frozen_of_blk hb4))
      have w1 : V1.ownsRow B 90 3 (.slice (some ⟨g1, 0, none⟩) (k + 1) c1) (k + 1) (rep (badR jj) (k + 1)) := by (rw [rep_add]; exact n1)
      have w2 : V2.ownsRow B 90 3 (.slice (some ⟨g2, 0, none⟩) (k + 2) c2) (k + 2) (rep (badR jj) (k + 2)) := by (rw [rep_add]; exact n2)
      have w21 := pat_stays (size := 3) (pat := badR jj) rfl (by omega) (w1.alloc _) (by omega) (o1.alloc _) n2 gr2 d2
      have w3 : V3.ownsRow B 90 3 (.slice (some ⟨g3, 0, none⟩) (k + 3) c3) (k + 3) (rep (badR jj) (k + 3)) := by (rw [rep_add]; exact n3)
      have w31 := pat_stays (size := 3) (pat := badR jj) rfl (by omega) (w21.alloc _) (by omega) (o2.alloc _) n3 gr3 d3
      have w32 := pat_stays (size := 3) (pat := badR jj) rfl (by omega) (w2.alloc _) (by omega) (o2.alloc _) n3 gr3 d3
      have hba : Below V3.heap.size V3 (V3.alloc (.cells #[.slice la k lc, .slice (some ⟨g1, 0, none⟩) (k + 1) c1, .slice (some ⟨g2, 0, none⟩) (k + 2) c2, .slice (some ⟨g3, 0, none⟩) (k + 3) c3] 40)) := (Below.refl _ _).alloc (Nat.le_refl _) _
      have fr1 : (Value.slice la k lc).ownBlock = some g1 ∨ w.heap.size ≤ g1 := d1.elim (fun e => .inl (by rw [e]; rfl)) (fun h => .inr (by have := h.2; simp at this; omega))
      have fr2 : (Value.slice la k lc).ownBlock = some g2 ∨ w.heap.size ≤ g2 := d2.elim (fun e => .inl (by rw [e]; rfl)) (fun h => .inr (by have := h.2; simp at this; omega))
      have fr3 : (Value.slice la k lc).ownBlock = some g3 ∨ w.heap.size ≤ g3 := d3.elim (fun e => .inl (by rw [e]; rfl)) (fun h => .inr (by have := h.2; simp at this; omega))
      have hfin := (hb3.below hba).addR (a := .slice la k lc) (b := .slice (some ⟨g1, 0, none⟩) (k + 1) c1) (d := .slice (some ⟨g2, 0, none⟩) (k + 2) c2) (f := .slice (some ⟨g3, 0, none⟩) (k + 3) c3) (by
        rw [HJJ.out]
        intro u hu
        simp only [List.mem_cons, List.not_mem_nil, or_false] at hu
        rcases hu with rfl | rfl | rfl | rfl
        · exact ⟨k, by omega, o3.alloc _⟩
        · exact ⟨k + 1, by omega, w31.alloc _⟩
        · exact ⟨k + 2, by omega, w32.alloc _⟩
        · exact ⟨k + 3, by omega, w3.alloc _⟩) gr4 n4
      go_returns
      refine ⟨rfl, _, _, _, _, hfin, ?_, ?_, ?_⟩
      · exact (((kk3.mono (fun x hx => .inr (.inr hx))).trans (KB.below hba)).trans (KB.of gr4 (fun x hx => .inr (.inl hx)))).trans (KB.of (grown_set V4 bb 0 _) (fun x hx => .inl (by injection hx with hx; exact hx.symm)))
      · intro u hu x hx
        simp only [List.mem_cons, List.not_mem_nil, or_false] at hu
        rcases hu with rfl | rfl | rfl | rfl
        · exact .inl hx
        · simp only [Value.ownBlock, Option.some.injEq] at hx; subst hx; exact fr1
        · simp only [Value.ownBlock, Option.some.injEq] at hx; subst hx; exact fr2
        · simp only [Value.ownBlock, Option.some.injEq] at hx; subst hx; exact fr3
      · intro x hx
        simp only [Value.ownBlock, Option.some.injEq] at hx
        subst hx
        rcases at4 with e | e
        · exact .inl e
        · right; omega
end Go.Proofs.YteioennfpkoagaaGreatDoor
namespace Go.Proofs.YteioennfpkoagaaGreatDoor
open Go.RowKit
attribute [local go_sem ↓] Go.wp_at_zero Go.wp_at_succ

theorem row_at {w : World} {B e g n c : Nat} {xs : List Value} (h : w.ownsRow B e 1 (.slice (some ⟨g, 0, none⟩) n c) n xs) (i : Nat) (hi : i < xs.length) : w.cell? ⟨g, i, none⟩ = some xs[i] := by
  rw [own_cells h i (by have := h.1; omega), List.getElem?_eq_getElem hi]
set_option maxRecDepth 100000 in
set_option maxHeartbeats 4000000 in
theorem whole_true (w : World) (B bb : Nat) (rv pv cv : Value) (R P C : List Value) (hb : BookOK w B bb rv pv cv R P C) (hRl : R.length ≤ 900000000000) (hPl : P.length ≤ 900000000000) (hCl : C.length ≤ 900000000000) :
    Calls Tryz.prog 14 #[.pointer (some ⟨bb, 0, none⟩)] w fun e w' => e = .returned (.bool true) ∧ Below w.heap.size w w' := by
  obtain ⟨ra, rc, rfl⟩ := own_shape hb.rR
  obtain ⟨pa, pc, rfl⟩ := own_shape hb.rP
  obtain ⟨ca, cc, rfl⟩ := own_shape hb.rC
  go_enter Tryz.func14, Tryz.ntmps14
  go_wp2_with fail
  go_loopw [3] (fun i wr => ∃ (k : Nat), i = .int .i64 k ∧ k ≤ R.length ∧ Below w.heap.size w wr) (fun i _ => R.length - (intOf i).toNat)
  case atStart => exact ⟨0, rfl, by omega, Below.refl _ _⟩
  case round =>
    obtain ⟨k, rfl, hk, hbel⟩ := hrel
    have hbk := hb.below hbel
    have c0 : wr.cell? ⟨bb, 0, none⟩ = some (.slice ra R.length rc) := by rw [cell_of_blk hbk.blk]; rfl
    by_cases hlt : k < R.length
    · rcases own_nil_or hbk.rR with ⟨h0, _⟩ | ⟨g, cap, e1⟩
      · omega
      cases e1
      obtain ⟨n, hn, ho⟩ := hbk.kR k hlt
      have d0 := row_at hbk.rR k hlt
      obtain ⟨la, lc, hl⟩ := own_shape ho
      have HL : Hid _ := hl
      rw [hl] at d0 ho
      clear hl
      have hlt' : (k : Int) < (R.length : Int) := by omega
      have hk0 : (0 : Int) ≤ (k : Int) := by omega
      have hq4 := quo4 k
      have hjl : k / 4 ≤ 1000000000000 := by omega
      generalize k / 4 = jj at *
      have HQ4 : Hid _ := hq4
      have HWJ : Hid (IntKind.i64.wrap (jj : Int) = (jj : Int)) := wrap_small _ (by omega) (by omega)
      clear hq4
      generalize wr = w1 at *
      go_wp2_with fail
      go_loopw [4] (fun i wx => ∃ (q : Nat), i = .int .i64 q ∧ q ≤ n ∧ Below w1.heap.size w1 wx) (fun i _ => n - (intOf i).toNat)
      case atStart => exact ⟨0, rfl, by omega, Below.refl _ _⟩
      case round =>
        obtain ⟨q, rfl, hq, hbel2⟩ := hrel
        have hbk2 := hbk.below hbel2
        have ho2 := own_below ho hbel2
        have c2 : wr.cell? ⟨bb, 0, none⟩ = some (.slice (some ⟨g, 0, none⟩) R.length rc) := by rw [cell_of_blk hbk2.blk]; rfl
        have d2 : wr.cell? ⟨g, k, none⟩ = some (.slice la n lc) := by rw [row_at hbk2.rR k hlt, HL.out]
        clear c0 d0
        by_cases hqlt : q < n
        · rcases own_nil_or ho2 with ⟨h0, _⟩ | ⟨gl, capl, e1⟩
          · omega
          cases e1
          have e0 : wr.cell? ⟨gl, q * 3, none⟩ = some (.int .i64 (-1000 - (jj : Int))) := by rw [own_cells ho2 _ (by omega)]; exact rep_at (badR jj) n q 0 hqlt (by simp [badR])
          have e1 : wr.cell? ⟨gl, q * 3 + 1, none⟩ = some (.int .i64 3) := by rw [own_cells ho2 _ (by omega)]; exact rep_at (badR jj) n q 1 hqlt (by simp [badR])
          have e2 : wr.cell? ⟨gl, q * 3 + 2, none⟩ = some (.int .i64 9) := by rw [own_cells ho2 _ (by omega)]; exact rep_at (badR jj) n q 2 hqlt (by simp [badR])
          have hqlt' : (q : Int) < (n : Int) := by omega
          have hq0 : (0 : Int) ≤ (q : Int) := by omega
          have bl1 := lt_of_blk hbk2.blk
          have bl2 := World.block_lt_of_cell? wr _ d2
          have bl3 := World.block_lt_of_cell? wr _ e0
          simp only [] at bl2 bl3
          go_wp2_with fail
          go_region_held3 (fun w' => w'.cell? ⟨bb, 0, none⟩ = some (.slice (some ⟨g, 0, none⟩) R.length rc) ∧ w'.cell? ⟨g, k, none⟩ = some (.slice (some ⟨gl, 0, none⟩) n lc) ∧ w'.cell? ⟨gl, q * 3, none⟩ = some (.int .i64 (-1000 - (jj : Int))) ∧ w'.cell? ⟨gl, q * 3 + 1, none⟩ = some (.int .i64 3) ∧ w'.cell? ⟨gl, q * 3 + 2, none⟩ = some (.int .i64 9)) (first | go_keep | (exact ⟨(hb2.cell (by exact bl1)).trans c2, (hb2.cell (by exact bl2)).trans d2, (hb2.cell (by exact bl3)).trans e0, (hb2.cell (by exact bl3)).trans e1, (hb2.cell (by exact bl3)).trans e2⟩)) ((first
            | (go_at_call 42; (first | rw [HQ4.out, HWJ.out] | rw [HQ4.out]); refine (badRegion_any jj _ hjl).mono ?_; rintro e w2 ⟨rfl, hb2⟩)))
          have hb3 := below_drew hb2
          clear c2 d2 e0 e1 e2
          go_wp2_with fail
          go_roundw
          case rel => exact ⟨q + 1, by go_num, by omega, hbel2.trans (hb3.mono hbel2.size)⟩
          case measure => simp [intOf]; omega
        · have hqn : q = n := by omega
          subst hqn
          go_wp2_with fail
          go_roundw
          case rel => exact ⟨k + 1, by go_num, by omega, hbel.trans (hbel2.mono hbel.size)⟩
          case measure => simp [intOf]; omega
    · have hkn : k = R.length := by omega
      subst hkn
      clear hlt hk
      have hst := hbel
      clear hbel hbk
      generalize wr = wa at *
      go_wp2_with fail
      clear c0
      go_loopw [5] (fun i wr => ∃ (k : Nat), i = .int .i64 k ∧ k ≤ P.length ∧ Below w.heap.size w wr) (fun i _ => P.length - (intOf i).toNat)
      case atStart => exact ⟨0, rfl, by omega, hst⟩
      case round =>
        obtain ⟨k, rfl, hk, hbel⟩ := hrel
        have hbk := hb.below hbel
        have c0 : wr.cell? ⟨bb, 1, none⟩ = some (.slice pa P.length pc) := by rw [cell_of_blk hbk.blk]; rfl
        by_cases hlt : k < P.length
        · rcases own_nil_or hbk.rP with ⟨h0, _⟩ | ⟨g, cap, e1⟩
          · omega
          cases e1
          obtain ⟨n, hn, ho⟩ := hbk.kP k hlt
          have d0 := row_at hbk.rP k hlt
          obtain ⟨la, lc, hl⟩ := own_shape ho
          have HL : Hid _ := hl
          rw [hl] at d0 ho
          clear hl
          have hlt' : (k : Int) < (P.length : Int) := by omega
          have hk0 : (0 : Int) ≤ (k : Int) := by omega
          have hq4 := quo4 k
          have hjl : k / 4 ≤ 1000000000000 := by omega
          generalize k / 4 = jj at *
          have HQ4 : Hid _ := hq4
          have HWJ : Hid (IntKind.i64.wrap (jj : Int) = (jj : Int)) := wrap_small _ (by omega) (by omega)
          clear hq4
          generalize wr = w1 at *
          go_wp2_with fail
          go_loopw [6] (fun i wx => ∃ (q : Nat), i = .int .i64 q ∧ q ≤ n ∧ Below w1.heap.size w1 wx) (fun i _ => n - (intOf i).toNat)
          case atStart => exact ⟨0, rfl, by omega, Below.refl _ _⟩
          case round =>
            obtain ⟨q, rfl, hq, hbel2⟩ := hrel
            have hbk2 := hbk.below hbel2
            have ho2 := own_below ho hbel2
            have c2 : wr.cell? ⟨bb, 1, none⟩ = some (.slice (some ⟨g, 0, none⟩) P.length pc) := by rw [cell_of_blk hbk2.blk]; rfl
            have d2 : wr.cell? ⟨g, k, none⟩ = some (.slice la n lc) := by rw [row_at hbk2.rP k hlt, HL.out]
            clear c0 d0
            by_cases hqlt : q < n
            · rcases own_nil_or ho2 with ⟨h0, _⟩ | ⟨gl, capl, e1⟩
              · omega
              cases e1
              have e0 : wr.cell? ⟨gl, q * 5, none⟩ = some (.string ⟨#[63, 63]⟩) := by rw [own_cells ho2 _ (by omega)]; exact rep_at (badP' jj) n q 0 hqlt (by simp [badP'])
              have e1 : wr.cell? ⟨gl, q * 5 + 1, none⟩ = some (.int .i64 (-1000 - (jj : Int))) := by rw [own_cells ho2 _ (by omega)]; exact rep_at (badP' jj) n q 1 hqlt (by simp [badP'])
              have e2 : wr.cell? ⟨gl, q * 5 + 2, none⟩ = some (.int .i64 0) := by rw [own_cells ho2 _ (by omega)]; exact rep_at (badP' jj) n q 2 hqlt (by simp [badP'])
              have e3 : wr.cell? ⟨gl, q * 5 + 3, none⟩ = some (.int .i64 0) := by rw [own_cells ho2 _ (by omega)]; exact rep_at (badP' jj) n q 3 hqlt (by simp [badP'])
              have e4 : wr.cell? ⟨gl, q * 5 + 4, none⟩ = some (.slice none 0 0) := by rw [own_cells ho2 _ (by omega)]; exact rep_at (badP' jj) n q 4 hqlt (by simp [badP'])
              have hqlt' : (q : Int) < (n : Int) := by omega
              have hq0 : (0 : Int) ≤ (q : Int) := by omega
              have bl1 := lt_of_blk hbk2.blk
              have bl2 := World.block_lt_of_cell? wr _ d2
              have bl3 := World.block_lt_of_cell? wr _ e0
              simp only [] at bl2 bl3
              go_wp2_with fail
              first | rw [HQ4.out, HWJ.out] | rw [HQ4.out]
              refine (isBad_true jj _ hjl).mono ?_
              rintro e w2 ⟨rfl, hb3⟩
              clear c2 d2 e0 e1 e2 e3 e4
              go_wp2_with fail
              go_roundw
              case rel => exact ⟨q + 1, by go_num, by omega, hbel2.trans (hb3.mono hbel2.size)⟩
              case measure => simp [intOf]; omega
            · have hqn : q = n := by omega
              subst hqn
              go_wp2_with fail
              go_roundw
              case rel => exact ⟨k + 1, by go_num, by omega, hbel.trans (hbel2.mono hbel.size)⟩
              case measure => simp [intOf]; omega
        · have hkn : k = P.length := by omega
          subst hkn
          clear hlt hk
          clear hst
          have hst := hbel
          clear hbel hbk
          generalize wr = wb at *
          go_wp2_with fail
          clear c0
          go_loopw [8] (fun i wr => ∃ (k : Nat), i = .int .i64 k ∧ k ≤ C.length ∧ Below w.heap.size w wr) (fun i _ => C.length - (intOf i).toNat)
          case atStart => exact ⟨0, rfl, by omega, hst⟩
          case round =>
            obtain ⟨k, rfl, hk, hbel⟩ := hrel
            have hbk := hb.below hbel
            have c0 : wr.cell? ⟨bb, 2, none⟩ = some (.slice ca C.length cc) := by rw [cell_of_blk hbk.blk]; rfl
            by_cases hlt : k < C.length
            · rcases own_nil_or hbk.rC with ⟨h0, _⟩ | ⟨g, cap, e1⟩
              · omega
              cases e1
              obtain ⟨n, hn, ho⟩ := hbk.kC k hlt
              have d0 := row_at hbk.rC k hlt
              obtain ⟨la, lc, hl⟩ := own_shape ho
              have HL : Hid _ := hl
              rw [hl] at d0 ho
              clear hl
              have hlt' : (k : Int) < (C.length : Int) := by omega
              have hk0 : (0 : Int) ≤ (k : Int) := by omega
              have hq4 := quo4 k
              have hjl : k / 4 ≤ 1000000000000 := by omega
              generalize k / 4 = jj at *
              have HQ4 : Hid _ := hq4
              have HWJ : Hid (IntKind.i64.wrap (jj : Int) = (jj : Int)) := wrap_small _ (by omega) (by omega)
              clear hq4
              generalize wr = w1 at *
              go_wp2_with fail
              go_loopw [9] (fun i wx => ∃ (q : Nat), i = .int .i64 q ∧ q ≤ n ∧ Below w1.heap.size w1 wx) (fun i _ => n - (intOf i).toNat)
              case atStart => exact ⟨0, rfl, by omega, Below.refl _ _⟩
              case round =>
                obtain ⟨q, rfl, hq, hbel2⟩ := hrel
                have hbk2 := hbk.below hbel2
                have ho2 := own_below ho hbel2
                have c2 : wr.cell? ⟨bb, 2, none⟩ = some (.slice (some ⟨g, 0, none⟩) C.length cc) := by rw [cell_of_blk hbk2.blk]; rfl
                have d2 : wr.cell? ⟨g, k, none⟩ = some (.slice la n lc) := by rw [row_at hbk2.rC k hlt, HL.out]
                clear c0 d0
                by_cases hqlt : q < n
                · rcases own_nil_or ho2 with ⟨h0, _⟩ | ⟨gl, capl, e1⟩
                  · omega
                  cases e1
                  have e0 : wr.cell? ⟨gl, q * 6, none⟩ = some (.string ⟨#[63, 63]⟩) := by rw [own_cells ho2 _ (by omega)]; exact rep_at (badC jj) n q 0 hqlt (by simp [badC])
                  have e1 : wr.cell? ⟨gl, q * 6 + 1, none⟩ = some (.int .i64 (-1000 - (jj : Int))) := by rw [own_cells ho2 _ (by omega)]; exact rep_at (badC jj) n q 1 hqlt (by simp [badC])
                  have e2 : wr.cell? ⟨gl, q * 6 + 2, none⟩ = some (.int .i64 0) := by rw [own_cells ho2 _ (by omega)]; exact rep_at (badC jj) n q 2 hqlt (by simp [badC])
                  have e3 : wr.cell? ⟨gl, q * 6 + 3, none⟩ = some (.int .i64 0) := by rw [own_cells ho2 _ (by omega)]; exact rep_at (badC jj) n q 3 hqlt (by simp [badC])
                  have e4 : wr.cell? ⟨gl, q * 6 + 4, none⟩ = some (.int .i64 0) := by rw [own_cells ho2 _ (by omega)]; exact rep_at (badC jj) n q 4 hqlt (by simp [badC])
                  have e5 : wr.cell? ⟨gl, q * 6 + 5, none⟩ = some (.int .i64 0) := by rw [own_cells ho2 _ (by omega)]; exact rep_at (badC jj) n q 5 hqlt (by simp [badC])
                  have hqlt' : (q : Int) < (n : Int) := by omega
                  have hq0 : (0 : Int) ≤ (q : Int) := by omega
                  have bl1 := lt_of_blk hbk2.blk
                  have bl2 := World.block_lt_of_cell? wr _ d2
                  have bl3 := World.block_lt_of_cell? wr _ e0
                  simp only [] at bl2 bl3
                  go_wp2_with fail
                  go_region_held3 (fun w' => w'.cell? ⟨bb, 2, none⟩ = some (.slice (some ⟨g, 0, none⟩) C.length cc) ∧ w'.cell? ⟨g, k, none⟩ = some (.slice (some ⟨gl, 0, none⟩) n lc) ∧ w'.cell? ⟨gl, q * 6, none⟩ = some (.string ⟨#[63, 63]⟩) ∧ w'.cell? ⟨gl, q * 6 + 1, none⟩ = some (.int .i64 (-1000 - (jj : Int))) ∧ w'.cell? ⟨gl, q * 6 + 2, none⟩ = some (.int .i64 0) ∧ w'.cell? ⟨gl, q * 6 + 3, none⟩ = some (.int .i64 0) ∧ w'.cell? ⟨gl, q * 6 + 4, none⟩ = some (.int .i64 0) ∧ w'.cell? ⟨gl, q * 6 + 5, none⟩ = some (.int .i64 0)) (first | go_keep | (exact ⟨(hb2.cell (by exact bl1)).trans c2, (hb2.cell (by exact bl2)).trans d2, (hb2.cell (by exact bl3)).trans e0, (hb2.cell (by exact bl3)).trans e1, (hb2.cell (by exact bl3)).trans e2, (hb2.cell (by exact bl3)).trans e3, (hb2.cell (by exact bl3)).trans e4, (hb2.cell (by exact bl3)).trans e5⟩)) ((first
                    | (go_at_call 44; (first | rw [HQ4.out, HWJ.out] | rw [HQ4.out]); refine (badChannel_any jj _ hjl).mono ?_; rintro e w2 ⟨rfl, hb2⟩)))
                  have hb3 := below_drew hb2
                  clear c2 d2 e0 e1 e2 e3 e4 e5
                  go_wp2_with fail
                  go_roundw
                  case rel => exact ⟨q + 1, by go_num, by omega, hbel2.trans (hb3.mono hbel2.size)⟩
                  case measure => simp [intOf]; omega
                · have hqn : q = n := by omega
                  subst hqn
                  go_wp2_with fail
                  go_roundw
                  case rel => exact ⟨k + 1, by go_num, by omega, hbel.trans (hbel2.mono hbel.size)⟩
                  case measure => simp [intOf]; omega
            · have hkn : k = C.length := by omega
              subst hkn
              clear hlt hk
              have c3 : wr.cell? ⟨bb, 3, none⟩ = some (.slice none 0 0) := by rw [cell_of_blk hbk.blk]; rfl
              go_wp2_with fail
              go_rounds 1
              go_ret
              exact ⟨rfl, hbel⟩
end Go.Proofs.YteioennfpkoagaaGreatDoor
