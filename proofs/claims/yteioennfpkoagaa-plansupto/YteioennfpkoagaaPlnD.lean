import Derived.Test.YteioennfpkoagaaPlnC
import Derived.Test.YteioennfpkoagaaPlnB
namespace Go.Proofs.Yteioennfpkoagaa.C
open Go.RowKit
attribute [local go_sem ↓] Go.wp_at_zero Go.wp_at_succ

/- the book of plans: its lists, each full of its mark -/
def badT (j : Nat) : List Value := [.int .i64 (-1000 - (j : Int))]
structure BookT (w : World) (B bb : Nat) (tv : Value) (T : List Value) : Prop where
  blk : w.heap[bb]? = some (.cells #[.slice none 0 0, .slice none 0 0, .slice none 0 0, tv] 29 (0, 0))
  hB : B ≤ bb
  rT : w.ownsRow B 38 1 tv T.length T
  kT : ∀ i (_ : i < T.length), ∃ n, n ≤ 8200 ∧ w.ownsRow B 3 1 T[i] n (rep (badT (i / 4)) n)
  dT : T.length % 4 = 0
theorem infoInts : (Try.prog.info? 38).map (fun i => (i.zero, i.size, i.bytes)) = some (some (.slice none 0 0), 1, 24) := by kernel_rfl
theorem BookT.kb {w w' : World} {B bb : Nat} {tv : Value} {T : List Value} {A : Nat → Prop} (h : BookT w B bb tv T) (hk : KB A w w') (h1 : ¬ A bb) (h2 : ∀ x, tv.ownBlock = some x → ¬ A x) (h3 : ∀ u ∈ T, ∀ x, u.ownBlock = some x → ¬ A x) : BookT w' B bb tv T := by
  refine ⟨(hk.block bb (lt_of_blk h.blk) h1).trans h.blk, h.hB, KB.own h.rT hk h2, fun i hi => ?_, h.dT⟩
  obtain ⟨m, hm, ho⟩ := h.kT i hi
  exact ⟨m, hm, KB.own ho hk (h3 _ (List.getElem_mem hi))⟩
theorem BookT.below {w w' : World} {B bb : Nat} {tv : Value} {T : List Value} (h : BookT w B bb tv T) (hb : Below w.heap.size w w') : BookT w' B bb tv T :=
  h.kb (A := fun _ => False) (KB.below hb) (fun e => e) (fun _ _ e => e) (fun _ _ _ _ e => e)
theorem badTick_any (j : Nat) (w : World) (h : j ≤ 1000000000000) :
    Calls Try.prog 18 #[.int .i64 j] w fun e w' => e = .returned (.int .i64 (-1000 - (j : Int))) ∧ w' = w := by
  have hw := wrap_bad j h
  go_enter Try.func18, Try.ntmps18
  go_wp2_with fail
  go_ret
  exact ⟨rfl, rfl⟩
theorem rep1 (v : Value) (n : Nat) : rep [v] n = List.replicate n v := by
  unfold rep
  induction n with
  | zero => rfl
  | succ n ih => simp only [List.replicate_succ, List.flatten_cons, ih]; rfl
theorem BookT.add {w w' : World} {B bb g c : Nat} {tv a b d f : Value} {T : List Value} (h : BookT w B bb tv T) (hn : ∀ u ∈ [a, b, d, f], ∃ n, n ≤ 8200 ∧ w.ownsRow B 3 1 u n (rep (badT (T.length / 4)) n)) (hg : w.grownBy w' tv.ownBlock) (hnew : w'.ownsRow B 38 1 (.slice (some ⟨g, 0, none⟩) (T.length + 4) c) (T.length + 4) (T ++ [a, b, d, f])) :
    BookT (w'.setCell ⟨bb, 3, none⟩ (.slice (some ⟨g, 0, none⟩) (T.length + 4) c)) B bb (.slice (some ⟨g, 0, none⟩) (T.length + 4) c) (T ++ [a, b, d, f]) := by
  have hbk : w'.heap[bb]? = some (.cells #[.slice none 0 0, .slice none 0 0, .slice none 0 0, tv] 29 (0, 0)) := by rw [hg.block bb (lt_of_blk h.blk) (fun e => own_not h.rT h.blk (by decide) e.symm)]; exact h.blk
  refine ⟨by rw [blk_set 3 _ hbk]; rfl, h.hB, ?_, ?_, by have := h.dT; simp; omega⟩
  · have := own_other hnew hbk (by decide) 3 (.slice (some ⟨g, 0, none⟩) (T.length + 4) c)
    simpa using this
  · refine four_at (P := fun i u => ∃ n, n ≤ 8200 ∧ (w'.setCell ⟨bb, 3, none⟩ (.slice (some ⟨g, 0, none⟩) (T.length + 4) c)).ownsRow B 3 1 u n (rep (badT (i / 4)) n)) ?_ h.dT ?_
    · intro i hi
      obtain ⟨m, hm, ho⟩ := h.kT i hi
      exact ⟨m, hm, own_other (own_apart ho h.rT (by decide) hg) hbk (by decide) _ _⟩
    · intro u hu t ht
      obtain ⟨m, hm, ho⟩ := hn u hu
      have e : (T.length + t) / 4 = T.length / 4 := by have := h.dT; omega
      rw [e]
      exact ⟨m, hm, own_other (own_apart ho h.rT (by decide) hg) hbk (by decide) _ _⟩
set_option maxRecDepth 100000 in
set_option maxHeartbeats 2000000 in
theorem keepTicks_any (w : World) (B bb n : Nat) (tv l : Value) (T xs : List Value) (hb : BookT w B bb tv T) (hl : w.ownsRow B 3 1 l n xs) (hn : n ≤ 8193) (hTl : T.length ≤ 1000000000000) (hBs : B ≤ w.heap.size)
    (hfree : ∀ u ∈ T, ∀ x, u.ownBlock = some x → l.ownBlock ≠ some x) :
    Calls Try.prog 14 #[.pointer (some ⟨bb, 0, none⟩), l] w fun e w' => e = .returned (.tuple #[]) ∧ (∃ tv' a1 a2 a3, BookT w' B bb tv' (T ++ [l, a1, a2, a3])) ∧ Below B w w' := by
  obtain ⟨ra, rc, rfl⟩ := own_shape hb.rT
  obtain ⟨la, lc, rfl⟩ := own_shape hl
  obtain ⟨i0, hi0, hz0, hz1, hz2⟩ := info_parts intInfo
  obtain ⟨j0, hj0, hy0, hy1, hy2⟩ := info_parts infoInts
  have c3 : w.cell? ⟨bb, 3, none⟩ = some (.slice ra T.length rc) := by rw [cell_of_blk hb.blk]; rfl
  have HQ4 : Hid _ := quo4 T.length
  have HFR : Hid _ := hfree
  clear hfree
  go_enter Try.func14, Try.ntmps14
  go_wp2_with fail
  rw [HQ4.out]
  have hjl : T.length / 4 ≤ 1000000000000 := by omega
  refine (badTick_any (T.length / 4) w hjl).mono ?_
  rintro e W1 ⟨rfl, rfl⟩
  clear HQ4
  generalize hjj : T.length / 4 = jj at *
  have HJJ : Hid _ := hjj
  clear hjj
  go_wp2_with fail
  go_loopw [5] (fun i wr => ∃ (k : Nat) (rest : List Value), i = .int .i64 k ∧ k ≤ n ∧ rest.length = n - k ∧ wr.ownsRow B 3 1 (.slice la n lc) n (List.replicate k (.int .i64 (-1000 - (jj : Int))) ++ rest) ∧ KB (fun x => (Value.slice la n lc).ownBlock = some x) W1 wr) (fun i _ => n - (intOf i).toNat)
  case atStart => exact ⟨0, xs, rfl, by omega, by rw [hl.1]; simp, by simpa using hl, KB.refl _ _⟩
  case round =>
    obtain ⟨k, rest, rfl, hk, hrl, hown, hkb⟩ := hrel
    by_cases hlt : k < n
    · rcases own_nil_or hown with ⟨h0, _⟩ | ⟨g, cap, e1⟩
      · omega
      cases e1
      obtain ⟨cur, hgb⟩ : ∃ cur, wr.heap[g]? = some (.cells cur 3 (0, 0)) := by
        rcases hown.2 with ⟨h0, _⟩ | ⟨g', cap', cur, hv, _, hg, _⟩
        · cases h0
        · cases hv; exact ⟨cur, hg⟩
      obtain ⟨y, r, rfl⟩ : ∃ y r, rest = y :: r := by
        match rest, hrl with
        | y :: r, _ => exact ⟨y, r, rfl⟩
        | [], h => simp at h; omega
      have e0 : wr.cell? ⟨g, k, none⟩ = some y := by rw [own_cells hown k (by omega)]; simp
      have fz : wr.frozen? ⟨g, k, none⟩ = false := frozen_of_blk hgb
      have hlt' : (k : Int) < (n : Int) := by omega
      have hk0 : (0 : Int) ≤ (k : Int) := by omega
      have hs := own_set hown (show k < n * 1 by omega) (.int .i64 (-1000 - (jj : Int)))
      have hse : (List.replicate k (Value.int .i64 (-1000 - (jj : Int))) ++ y :: r).set k (.int .i64 (-1000 - (jj : Int))) = List.replicate (k + 1) (Value.int .i64 (-1000 - (jj : Int))) ++ r := by
        rw [List.set_append_right _ _ (by simp), List.replicate_succ']
        simp
      rw [hse] at hs
      have HSS : Hid _ := hs
      have HKB : Hid _ := hkb
      clear hs hse hkb hown
      go_wp2_with fail
      go_roundw
      case rel => exact ⟨k + 1, r, by go_num, by omega, by simp at hrl; omega, HSS.out, HKB.out.trans (KB.of (grown_set wr g k (.int .i64 (-1000 - (jj : Int)))) (fun x hx => hx))⟩
      case measure => simp [intOf]; omega
    · have hkn : k = n := by omega
      subst hkn
      have hlt' : ¬ (k : Int) < (k : Int) := by omega
      obtain rfl : rest = [] := List.eq_nil_of_length_eq_zero (by rw [hrl]; simp)
      rw [List.append_nil, ← rep1] at hown
      clear hlt hrl
      have hkw : KB (fun x => (Value.slice la k lc).ownBlock = some x) W1 wr := hkb
      have HKW : Hid _ := hkw
      have hszw := hkw.size
      clear hkw hkb
      go_wp2_with (first
        | (at_builtin; refine wpList_append_stays _ rfl _ _ _ rfl B 3 i0 _ 1 8 Try.underlying38 hi0 hz0 hz1 hz2 rfl (by omega) (.slice la k lc) k (rep (badT jj) k) rfl (hown.alloc _) ⟨wr.heap.size, 0, none⟩ 1 1 (rep (badT jj) 1) rfl rfl (World.news_of_block (cs := #[.int .i64 (-1000 - (jj : Int))]) (t := 3) (fr := (0, 0)) (heap_new wr _)) (by simp [rep, badT, Value.oneCell']) (by omega) (by unfold maxLen; omega) (by omega) (by simp; omega) ?_; intro g1 c1 V1 n1 o1 gr1 d1
           have sz1 := gr1.size
           simp at sz1
           have kk1 : KB (fun x => (Value.slice la k lc).ownBlock = some x) W1 V1 := (HKW.out.trans (KB.below ((Below.refl _ _).alloc (Nat.le_refl _) _))).trans (grown_own gr1))
        | (at_builtin; refine wpList_append_stays _ rfl _ _ _ rfl B 3 i0 _ 1 8 Try.underlying38 hi0 hz0 hz1 hz2 rfl (by omega) (.slice la k lc) k (rep (badT jj) k) rfl (o1.alloc _) ⟨V1.heap.size, 0, none⟩ 2 2 (rep (badT jj) 2) rfl rfl (World.news_of_block (cs := #[.int .i64 (-1000 - (jj : Int)), .int .i64 (-1000 - (jj : Int))]) (t := 3) (fr := (0, 0)) (heap_new V1 _)) (by simp [rep, badT, Value.oneCell']) (by omega) (by unfold maxLen; omega) (by omega) (by simp; omega) ?_; intro g2 c2 V2 n2 o2 gr2 d2
           have sz2 := gr2.size
           simp at sz2
           have kk2 : KB (fun x => (Value.slice la k lc).ownBlock = some x) W1 V2 := (kk1.trans (KB.below ((Below.refl _ _).alloc (Nat.le_refl _) _))).trans (grown_own gr2))
        | (at_builtin; refine wpList_append_stays _ rfl _ _ _ rfl B 3 i0 _ 1 8 Try.underlying38 hi0 hz0 hz1 hz2 rfl (by omega) (.slice la k lc) k (rep (badT jj) k) rfl (o2.alloc _) ⟨V2.heap.size, 0, none⟩ 3 3 (rep (badT jj) 3) rfl rfl (World.news_of_block (cs := #[.int .i64 (-1000 - (jj : Int)), .int .i64 (-1000 - (jj : Int)), .int .i64 (-1000 - (jj : Int))]) (t := 3) (fr := (0, 0)) (heap_new V2 _)) (by simp [rep, badT, Value.oneCell']) (by omega) (by unfold maxLen; omega) (by omega) (by simp; omega) ?_; intro g3 c3' V3 n3 o3 gr3 d3
           have sz3 := gr3.size
           simp at sz3
           have kk3 : KB (fun x => (Value.slice la k lc).ownBlock = some x) W1 V3 := (kk2.trans (KB.below ((Below.refl _ _).alloc (Nat.le_refl _) _))).trans (grown_own gr3)
           have hb3 := hb.kb kk3 (own_not hl hb.blk (by decide)) (fun x hx hx2 => own_types hl hb.rT (by decide) hx2 hx) (fun u hu x hx => HFR.out u hu x hx)
           have bl3 := lt_of_blk hb3.blk
           have b3 : V3.cell? ⟨bb, 3, none⟩ = some (.slice ra T.length rc) := by (rw [cell_of_blk hb3.blk]; rfl))
        | (at_builtin; refine wpList_append_lies _ rfl _ _ _ rfl B 38 j0 _ 1 24 Try.underlying27 hj0 hy0 hy1 hy2 rfl (by omega) (.slice ra T.length rc) T.length T rfl (hb3.rT.alloc _) ⟨V3.heap.size, 0, none⟩ 4 4 [.slice la k lc, .slice (some ⟨g1, 0, none⟩) (k + 1) c1, .slice (some ⟨g2, 0, none⟩) (k + 2) c2, .slice (some ⟨g3, 0, none⟩) (k + 3) c3'] rfl rfl (World.news_of_block (cs := #[.slice la k lc, .slice (some ⟨g1, 0, none⟩) (k + 1) c1, .slice (some ⟨g2, 0, none⟩) (k + 2) c2, .slice (some ⟨g3, 0, none⟩) (k + 3) c3']) (t := 38) (fr := (0, 0)) (heap_new V3 _)) (by simp [Value.oneCell']) (by omega) (by unfold maxLen; omega) (by omega) (by simp; omega) (V3.heap.size + 1) (by simp) ?_; intro g4 c4 V4 n4 gr4 at4 lt4
           have hb4 : V4.heap[bb]? = some (.cells #[.slice none 0 0, .slice none 0 0, .slice none 0 0, .slice ra T.length rc] 29 (0, 0)) := (gr4.block bb (by simp; omega) (fun e => own_not hb3.rT hb3.blk (by decide) e.symm)).trans ((Below.heap_alloc _ _ _ bl3).trans hb3.blk)
           have e4 : V4.cell? ⟨bb, 3, none⟩ = some (.slice ra T.length rc) := by (rw [cell_of_blk hb4]; rfl)
           have f4 : V4.frozen? ⟨bb, 3, none⟩ = false := frozen_of_blk hb4))
      have w1 : V1.ownsRow B 3 1 (.slice (some ⟨g1, 0, none⟩) (k + 1) c1) (k + 1) (rep (badT jj) (k + 1)) := by (rw [rep_add]; exact n1)
      have w2 : V2.ownsRow B 3 1 (.slice (some ⟨g2, 0, none⟩) (k + 2) c2) (k + 2) (rep (badT jj) (k + 2)) := by (rw [rep_add]; exact n2)
      have w21 := pat_stays (size := 1) (pat := badT jj) rfl (by omega) (w1.alloc _) (by omega) (o1.alloc _) n2 gr2 d2
      have w3 : V3.ownsRow B 3 1 (.slice (some ⟨g3, 0, none⟩) (k + 3) c3') (k + 3) (rep (badT jj) (k + 3)) := by (rw [rep_add]; exact n3)
      have w31 := pat_stays (size := 1) (pat := badT jj) rfl (by omega) (w21.alloc _) (by omega) (o2.alloc _) n3 gr3 d3
      have w32 := pat_stays (size := 1) (pat := badT jj) rfl (by omega) (w2.alloc _) (by omega) (o2.alloc _) n3 gr3 d3
      have hba : Below V3.heap.size V3 (V3.alloc (.cells #[.slice la k lc, .slice (some ⟨g1, 0, none⟩) (k + 1) c1, .slice (some ⟨g2, 0, none⟩) (k + 2) c2, .slice (some ⟨g3, 0, none⟩) (k + 3) c3'] 38)) := (Below.refl _ _).alloc (Nat.le_refl _) _
      have hfin := (hb3.below hba).add (a := .slice la k lc) (b := .slice (some ⟨g1, 0, none⟩) (k + 1) c1) (d := .slice (some ⟨g2, 0, none⟩) (k + 2) c2) (f := .slice (some ⟨g3, 0, none⟩) (k + 3) c3') (by
        rw [HJJ.out]
        intro u hu
        simp only [List.mem_cons, List.not_mem_nil, or_false] at hu
        rcases hu with rfl | rfl | rfl | rfl
        · exact ⟨k, by omega, o3.alloc _⟩
        · exact ⟨k + 1, by omega, w31.alloc _⟩
        · exact ⟨k + 2, by omega, w32.alloc _⟩
        · exact ⟨k + 3, by omega, w3.alloc _⟩) gr4 n4
      go_end0
      refine ⟨rfl, ⟨_, _, _, _, hfin⟩, ?_⟩
      have hk4 := (((kk3.mono (A' := fun x => x = bb ∨ (Value.slice ra T.length rc).ownBlock = some x ∨ (Value.slice la k lc).ownBlock = some x) (fun x hx => .inr (.inr hx))).trans (KB.below hba)).trans (KB.of gr4 (fun x hx => .inr (.inl hx)))).trans (KB.of (grown_set V4 bb 3 (.slice (some ⟨g4, 0, none⟩) (T.length + 4) c4)) (fun x hx => .inl (by injection hx with hx; exact hx.symm)))
      refine hk4.toBelow hBs (fun x hx => ?_)
      rcases hx with rfl | hx | hx
      · exact hb.hB
      · exact (hb.rT.lt _ hx).1
      · exact (hl.lt _ hx).1
end Go.Proofs.Yteioennfpkoagaa.C
