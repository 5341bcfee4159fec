import Derived.Test.YteioennfpkoagabGreatDoorH07
import Derived.ArgAppend
import Derived.OwnWalk
import Derived.Deep.RegionLaw
import Derived.Deep.DeepCutAuto
namespace Go.Proofs.YteioennfpkoagabGreatDoor.C
open Go.RowKit
attribute [local go_sem ↓] Go.wp_at_zero Go.wp_at_succ

theorem raw_int (v : Value) (L : List Int) (j : Int) (hj : 0 ≤ j ∧ j ≤ 1000000) (w : World) (hL : IntsV w v L) :
    Calls Tryz.prog 14 #[v, .int .i64 j] w fun e w' => e = .returned (.int .i64 (rawF L j.toNat)) ∧ w' = w := by
  have := raw_any v L j.toNat (by omega) w hL
  rwa [show ((j.toNat : Nat) : Int) = j by omega] at this
theorem LI.le {F left : Int} {i : Nat} {acc : List PartD} (hF : 0 ≤ F) (h : LI F i left acc) : left ≤ F := by
  have h1 := h.tic
  have h2 : 0 ≤ ticksF F acc := by
    unfold ticksF
    have key : ∀ l : List PartD, (∀ x ∈ l, PartM F x) → 0 ≤ (l.map fun p => F / p.period * p.duration).sum := by
      intro l
      induction l with
      | nil => intro _; simp
      | cons x l ih =>
        intro hl
        have h3 := hl x (by simp)
        have h4 := ih (fun y hy => hl y (by simp [hy]))
        have h5 := h3.per
        have h6 := h3.dur
        have h7 : 0 ≤ F / x.period * x.duration := Int.mul_nonneg (Int.ediv_nonneg hF (by omega)) (by omega)
        simp only [List.map_cons, List.sum_cons]
        omega
    exact key acc h.all
  omega
theorem times_ok {f pd : Int} (h1 : 4 ≤ pd) (h2 : pd ≤ f) (h3 : f % pd = 0) (h4 : f ≤ 240) : ∃ tm, f / pd = tm ∧ 1 ≤ tm ∧ tm ≤ 60 ∧ pd * tm = f := by
  have h5 := Int.mul_ediv_add_emod f pd
  refine ⟨f / pd, rfl, ?_, ?_, by omega⟩
  · exact (Int.le_ediv_iff_mul_le (by omega)).2 (by omega)
  · have : f / pd < 61 := (Int.ediv_lt_iff_lt_mul (by omega)).2 (by omega)
    omega
theorem li_add {f lf tm td pd dd ac : Int} {k : Nat} {acc : List PartD} {rs : List RegD} (h : LI f k lf acc) (hk : k < 26) (h1 : 1 ≤ pd ∧ pd ≤ f ∧ f % pd = 0) (h2 : 1 ≤ dd ∧ dd ≤ pd) (h3 : 1 ≤ ac ∧ ac ≤ 3) (h4 : RegsOK rs) (h5 : rs.length ≤ 2 ∧ regPages rs ≤ 4 ∧ ∀ r, rs.head? = some r → r.rights = 2) (htm : f / pd = tm) (htd : tm * dd = td) (hle : td ≤ lf) : LI f (k + 1) (lf - td) (acc ++ [⟨ba (nmL k), pd, dd, ac, rs⟩]) := by
  have := LI.add h hk (x := ⟨ba (nmL k), pd, dd, ac, rs⟩) rfl ⟨h1, h2, h3, h4, h5⟩ (by simp only []; rw [htm, htd]; exact hle)
  simp only [] at this
  rwa [htm, htd] at this
theorem regs0 : RegsOK [] := ⟨by simp, List.Pairwise.nil⟩
theorem regs1 {k : Nat} {pg : Int} (hk : k ≤ 6) (h1 : 0 < pg) (h2 : pg < 4) : RegsOK [⟨k, pg, 2⟩] ∧ regPages [⟨k, pg, 2⟩] ≤ 4 := by
  refine ⟨⟨fun r hr => ?_, by simp⟩, by simp [regPages]; omega⟩
  rw [List.mem_singleton.1 hr]
  simp [regB]
  omega
theorem regs2 {k : Nat} {pg q : Int} (hk : k ≤ 6) (h1 : 0 < pg) (h2 : pg < 4) (h3 : 0 ≤ q) (h4 : q < 2) : RegsOK [⟨k, pg, 2⟩, ⟨50 - k, 1, 1 + q⟩] ∧ regPages [⟨k, pg, 2⟩, ⟨50 - k, 1, 1 + q⟩] ≤ 4 := by
  refine ⟨⟨fun r hr => ?_, ?_⟩, by simp [regPages]; omega⟩
  · rcases List.mem_cons.1 hr with rfl | hr
    · simp [regB]; omega
    · rw [List.mem_singleton.1 hr]
      simp [regB]; omega
  · simp [apartB]; omega
theorem turn_ok {a q n : Int} (h0 : 0 ≤ a) (h1 : a < n) (h2 : 0 ≤ q) (h3 : q < n - 1) : ∃ b, (a + 1 + q) % n = b ∧ 0 ≤ b ∧ b < n ∧ a ≠ b := by
  refine ⟨_, rfl, Int.emod_nonneg _ (by omega), Int.emod_lt_of_pos _ (by omega), ?_⟩
  by_cases h : a + 1 + q < n
  · rw [Int.emod_eq_of_lt (by omega) h]; omega
  · have e : a + 1 + q = (a + 1 + q - n) + n * 1 := by omega
    rw [e, Int.add_mul_emod_self_left, Int.emod_eq_of_lt (by omega) (by omega)]; omega
theorem own_shape {w : World} {B e s n : Nat} {v : Value} {xs : List Value} (h : w.ownsRow B e s v n xs) : ∃ a c, v = .slice a n c := by
  rcases own_form h with ⟨rfl, rfl⟩ | ⟨g, cap, rfl, _⟩
  · exact ⟨_, _, rfl⟩
  · exact ⟨_, _, rfl⟩
theorem MD.fin {w V : World} {u : Value} {L : List Int} {f : Int} {v cv : Value} {ys : List (PartD × Value)} {cs : List ChanD} (h : MD w u L f v cv ys cs V) :
    PartsV (((V.setCell ⟨w.heap.size, 0, none⟩ (.int .i64 f)).setCell ⟨w.heap.size, 1, none⟩ v).setCell ⟨w.heap.size, 2, none⟩ cv) v (ys.map Prod.fst) ∧
    ChansV (((V.setCell ⟨w.heap.size, 0, none⟩ (.int .i64 f)).setCell ⟨w.heap.size, 1, none⟩ v).setCell ⟨w.heap.size, 2, none⟩ cv) cv cs ∧
    PartsC (((V.setCell ⟨w.heap.size, 0, none⟩ (.int .i64 f)).setCell ⟨w.heap.size, 1, none⟩ v).setCell ⟨w.heap.size, 2, none⟩ cv) v (ys.map Prod.fst).length ∧ capV cv ∧
    Below w.heap.size w (((V.setCell ⟨w.heap.size, 0, none⟩ (.int .i64 f)).setCell ⟨w.heap.size, 1, none⟩ v).setCell ⟨w.heap.size, 2, none⟩ cv) ∧
    (((V.setCell ⟨w.heap.size, 0, none⟩ (.int .i64 f)).setCell ⟨w.heap.size, 1, none⟩ v).setCell ⟨w.heap.size, 2, none⟩ cv).heap[w.heap.size]? = some (.cells #[.int .i64 f, v, cv] 31 (0, 0)) ∧
    PA (((V.setCell ⟨w.heap.size, 0, none⟩ (.int .i64 f)).setCell ⟨w.heap.size, 1, none⟩ v).setCell ⟨w.heap.size, 2, none⟩ cv) (w.heap.size + 3) v ys ∧ (((V.setCell ⟨w.heap.size, 0, none⟩ (.int .i64 f)).setCell ⟨w.heap.size, 1, none⟩ v).setCell ⟨w.heap.size, 2, none⟩ cv).ownsRow (w.heap.size + 3) 58 6 cv cs.length (cC cs) := by
  have key : ∀ {e s n : Nat} {v' a b c : Value} {xs : List Value}, V.ownsRow (w.heap.size + 3) e s v' n xs → (((V.setCell ⟨w.heap.size, 0, none⟩ a).setCell ⟨w.heap.size, 1, none⟩ b).setCell ⟨w.heap.size, 2, none⟩ c).ownsRow (w.heap.size + 3) e s v' n xs := fun {e s n v' a b c xs} ho => by
    have h1 := own_setElse ho (b := w.heap.size) (fun e1 => absurd (ho.lt _ e1.symm).1 (by omega)) 0 a
    have h2 := own_setElse h1 (b := w.heap.size) (fun e1 => absurd (h1.lt _ e1.symm).1 (by omega)) 1 b
    exact own_setElse h2 (b := w.heap.size) (fun e1 => absurd (h2.lt _ e1.symm).1 (by omega)) 2 c
  have hp : PA (((V.setCell ⟨w.heap.size, 0, none⟩ (.int .i64 f)).setCell ⟨w.heap.size, 1, none⟩ v).setCell ⟨w.heap.size, 2, none⟩ cv) (w.heap.size + 3) v ys := ⟨key h.pts.own, fun y hy => key (h.pts.reg y hy)⟩
  refine ⟨hp.see.1, chans_see (key h.chs), hp.see.2, own_cap h.chs, ?_, ?_, hp, key h.chs⟩
  · exact ((h.bel.setCell (p := ⟨w.heap.size, 0, none⟩) (Nat.le_refl _) _).setCell (p := ⟨w.heap.size, 1, none⟩) (Nat.le_refl _) _).setCell (p := ⟨w.heap.size, 2, none⟩) (Nat.le_refl _) _
  · have b0 := heap_setCell_same V w.heap.size 0 _ _ (.int .i64 f) h.res
    have b1 := heap_setCell_same _ w.heap.size 1 _ _ v b0
    exact heap_setCell_same _ w.heap.size 2 _ _ cv b1
theorem pick_some (c n : Int) (hc : inI c) (hn : 0 < n ∧ n ≤ 1000000) (w : World) :
    Calls Tryz.prog 13 #[.int .i64 c, .int .i64 n] w fun e w' => ∃ q, e = .returned (.int .i64 q) ∧ (0 ≤ q ∧ q < n) ∧ w' = w :=
  Calls.mono (pick_any c n hc hn w) fun _ _ h => ⟨_, h.1, pickF_lt hn.1, h.2⟩
theorem heap_new_drew (V : World) (o : Obj) : ((V.alloc o).drew).heap[V.heap.size]? = some o := heap_new V o
theorem hid_intro {p : Prop} (h : p) : Hid p := h
theorem five_set {W : World} {b t : Nat} {c : Array Value} (h : W.heap[b]? = some (.cells c t (0, 0))) (a0 a1 a2 a3 a4 : Value) : (((((W.setCell ⟨b, 0, none⟩ a0).setCell ⟨b, 1, none⟩ a1).setCell ⟨b, 2, none⟩ a2).setCell ⟨b, 3, none⟩ a3).setCell ⟨b, 4, none⟩ a4).heap[b]? = some (.cells (((((c.setIfInBounds 0 a0).setIfInBounds 1 a1).setIfInBounds 2 a2).setIfInBounds 3 a3).setIfInBounds 4 a4) t (0, 0)) :=
  heap_setCell_same _ b 4 _ _ a4 (heap_setCell_same _ b 3 _ _ a3 (heap_setCell_same _ b 2 _ _ a2 (heap_setCell_same _ b 1 _ _ a1 (heap_setCell_same W b 0 _ _ a0 h))))
def perD (f : Int) (n : Nat) : Int := if n = 0 then 4 else if n = 1 then 6 else if n = 2 then 8 else if n = 3 then 12 else if n = 4 then 24 else f
theorem perD_ok {f : Int} (hf : 24 ≤ f ∧ f ≤ 240 ∧ f % 24 = 0) (n : Nat) : 4 ≤ perD f n ∧ perD f n ≤ f ∧ f % perD f n = 0 := by
  unfold perD
  split
  · omega
  split
  · omega
  split
  · omega
  split
  · omega
  split
  · omega
  · refine ⟨by omega, by omega, Int.emod_self⟩
theorem per_at {w V : World} {u : Value} {L : List Int} {f : Int} {v cv : Value} {ys : List (PartD × Value)} {cs : List ChanD} (h : MD w u L f v cv ys cs V) (n : Nat) (hn : n < 6) : V.cell? ⟨w.heap.size + 1 + 1, n, none⟩ = some (.int .i64 (perD f n)) := by
  rw [cell_of_blk h.per]
  rcases (show n = 0 ∨ n = 1 ∨ n = 2 ∨ n = 3 ∨ n = 4 ∨ n = 5 by omega) with rfl | rfl | rfl | rfl | rfl | rfl <;> rfl
set_option maxRecDepth 100000 in
set_option maxHeartbeats 40000000 in
theorem made_any (w : World) (u : Value) (L : List Int) (hL : IntsV w u L) :
    Calls Tryz.prog 5 #[u] w fun e w' => ∃ F ps cs pv cv, e = .returned (.agg #[.int .i64 F, pv, cv]) ∧ PartsV w' pv ps ∧ ChansV w' cv cs ∧ PartsC w' pv ps.length ∧ capV cv ∧ (24 ≤ F ∧ F ≤ 240) ∧ (∃ i left, LI F i left ps ∧ i ≤ 6) ∧ ps ≠ [] ∧ CI ps.length F cs ∧ cs.length ≤ 7 ∧ Below w.heap.size w w' ∧ F % 24 = 0 ∧ ∃ ys, ps = ys.map Prod.fst ∧ PA w' (w.heap.size + 3) pv ys ∧ w'.ownsRow (w.heap.size + 3) 58 6 cv cs.length (cC cs) := by
  have HL : Hid (IntsV w u L) := hL
  obtain ⟨i0, hi0, hz0, hz1, hz2⟩ := parts_of infoRegM
  obtain ⟨j0, hj0, hy0, hy1, hy2⟩ := parts_of infoPartM
  obtain ⟨k0, hk0, hw0, hw1, hw2⟩ := parts_of infoChanM
  obtain ⟨_, _, ua, uc, rfl, _⟩ := hL
  go_enter Tryz.func5, Tryz.ntmps5
  go_wp2_with fail
  have b1 : Below w.heap.size w (w.alloc (.cells #[.int .i64 0, .slice none 0 0, .slice none 0 0] 31)) := (Below.refl _ _).alloc (Nat.le_refl _) _
  have I1 := IntsV.below HL.out b1
  refine Calls.mono (raw_int _ L 0 (by omega) _ I1) ?_
  rintro e V ⟨rfl, rfl⟩
  have hr := rawF_in I1 (0 : Int).toNat
  go_wp2_with fail
  refine Calls.mono (pick_any _ 10 hr (by omega) _) ?_
  rintro e V ⟨rfl, rfl⟩
  have hp := pickF_lt (c := rawF L (0 : Int).toNat) (n := 10) (by omega)
  generalize pickF (rawF L (0 : Int).toNat) 10 = a at *
  go_wp2_with fail
  have hF : 24 ≤ 24 * (1 + a) ∧ 24 * (1 + a) ≤ 240 ∧ 24 * (1 + a) % 24 = 0 := by omega
  generalize 24 * (1 + a) = f at *
  have M0 : MD w (.slice ua L.length uc) L f (.slice none 0 0) (.slice none 0 0) [] [] (((w.alloc (.cells #[.int .i64 0, .slice none 0 0, .slice none 0 0] 31)).alloc (.cells #[.int .i64 f, .slice none 0 0, .slice none 0 0] 31)).alloc (.cells #[.int .i64 4, .int .i64 6, .int .i64 8, .int .i64 12, .int .i64 24, .int .i64 f] 3)) := by
    have g1 := heap_new w (.cells #[.int .i64 0, .slice none 0 0, .slice none 0 0] 31)
    have g2 := heap_new (w.alloc (.cells #[.int .i64 0, .slice none 0 0, .slice none 0 0] 31)) (.cells #[.int .i64 f, .slice none 0 0, .slice none 0 0] 31)
    have g3 := heap_new ((w.alloc (.cells #[.int .i64 0, .slice none 0 0, .slice none 0 0] 31)).alloc (.cells #[.int .i64 f, .slice none 0 0, .slice none 0 0] 31)) (.cells #[.int .i64 4, .int .i64 6, .int .i64 8, .int .i64 12, .int .i64 24, .int .i64 f] 3)
    simp only [World.size_alloc] at g2 g3
    have hb : Below w.heap.size w (((w.alloc (.cells #[.int .i64 0, .slice none 0 0, .slice none 0 0] 31)).alloc (.cells #[.int .i64 f, .slice none 0 0, .slice none 0 0] 31)).alloc (.cells #[.int .i64 4, .int .i64 6, .int .i64 8, .int .i64 12, .int .i64 24, .int .i64 f] 3)) := (((Below.refl _ _).alloc (Nat.le_refl _) _).alloc (by simp) _).alloc (by simp; omega) _
    exact ⟨heap_old _ _ (heap_old _ _ g1), heap_old _ _ g2, g3, IntsV.below HL.out hb, hb, ⟨World.ownsRow_nil _ _ _ _, fun y hy => absurd hy (by simp)⟩, World.ownsRow_nil _ _ _ _⟩
  generalize ((w.alloc (.cells #[.int .i64 0, .slice none 0 0, .slice none 0 0] 31)).alloc (.cells #[.int .i64 f, .slice none 0 0, .slice none 0 0] 31)).alloc (.cells #[.int .i64 4, .int .i64 6, .int .i64 8, .int .i64 12, .int .i64 24, .int .i64 f] 3) = W at *
  refine Calls.mono (raw_int _ L 1 (by omega) _ M0.ints) ?_
  rintro e V ⟨rfl, rfl⟩
  have hr := rawF_in M0.ints (1 : Int).toNat
  go_wp2_with fail
  refine Calls.mono (pick_any _ 5 hr (by omega) _) ?_
  rintro e V ⟨rfl, rfl⟩
  have hp5 := pickF_lt (c := rawF L (1 : Int).toNat) (n := 5) (by omega)
  generalize pickF (rawF L (1 : Int).toNat) 5 = nn at *
  have HM0 : Hid _ := M0
  have HF : Hid _ := hF
  clear M0 hr I1 b1 hp
  go_wp2_with fail
  obtain ⟨n, hn, hn6⟩ : ∃ n : Nat, 2 + nn = (n : Int) ∧ 2 ≤ n ∧ n ≤ 6 := ⟨(2 + nn).toNat, by omega, by omega, by omega⟩
  rw [hn]
  clear hp5 hn
  go_loopw [5, 7] (fun l i wr => ∃ (k : Nat) (lf : Int) (v : Value) (ys : List (PartD × Value)), i = .int .i64 k ∧ l = .int .i64 lf ∧ k ≤ n ∧ Hid (LI f k lf (ys.map Prod.fst)) ∧ Hid (0 < k → ys ≠ []) ∧ Hid (MD w (.slice ua L.length uc) L f v (.slice none 0 0) ys [] wr)) (fun _ i _ => n - (intOf i).toNat)
  case atStart => exact ⟨0, f, _, [], rfl, rfl, by omega, ⟨by simp, by simp, List.Pairwise.nil, by simp [ticksF], by omega, by simp⟩, fun h => absurd h (by omega), HM0.out⟩
  case round =>
    obtain ⟨k, lf, v, ys, rfl, rfl, hk, HI, HN, HD⟩ := hrel
    by_cases hlt : k < n
    · have hlt' : (k : Int) < (n : Int) := by omega
      go_wp2_with fail
      have HD0 : Hid (MD w (.slice ua L.length uc) L f v (.slice none 0 0) ys [] wr.drew) := MD.below HD.out (below_drewN (Below.refl _ _) 1)
      have z1 : IntKind.i64.wrap (4 * (k : Int)) = 4 * (k : Int) := wrap_small _ (by omega) (by omega)
      have z2 : IntKind.i64.wrap (4 * (k : Int) + 2) = 4 * (k : Int) + 2 := wrap_small _ (by omega) (by omega)
      have z3 : IntKind.i64.wrap (4 * (k : Int) + 3) = 4 * (k : Int) + 3 := wrap_small _ (by omega) (by omega)
      obtain ⟨p6, h6, h6a, h6b⟩ : ∃ q, pickF (rawF L (4 * (k : Int) + 2).toNat) 6 = q ∧ 0 ≤ q ∧ q < 6 := ⟨_, rfl, pickF_lt (by omega)⟩
      obtain ⟨p3, h3, h3a, h3b⟩ : ∃ q, pickF (rawF L (4 * (k : Int) + 3).toNat) 3 = q ∧ 0 ≤ q ∧ q < 3 := ⟨_, rfl, pickF_lt (by omega)⟩
      have z4 : IntKind.i64.wrap (1 + p3) = 1 + p3 := wrap_small _ (by omega) (by omega)
      obtain ⟨pd, hpd⟩ : ∃ q, perD f p6.toNat = q := ⟨_, rfl⟩
      have HPD : Hid (∀ V, MD w (.slice ua L.length uc) L f v (.slice none 0 0) ys [] V → V.cell? ⟨w.heap.size + 1 + 1, p6.toNat, none⟩ = some (.int .i64 pd)) := fun V hV => by rw [← hpd]; exact per_at hV _ (by omega)
      have HPO : Hid (4 ≤ pd ∧ pd ≤ f ∧ f % pd = 0) := by rw [← hpd]; exact perD_ok HF.out _
      have HS : Hid (∀ V, Below wr.heap.size wr V → V.cell? ⟨w.heap.size + 1 + 1, p6.toNat, none⟩ = some (.int .i64 pd) ∧ Below wr.heap.size wr V) := fun V hV => ⟨HPD.out V (MD.below HD.out hV), hV⟩
      have HS0 : Hid (wr.drew.cell? ⟨w.heap.size + 1 + 1, p6.toNat, none⟩ = some (.int .i64 pd) ∧ Below wr.heap.size wr wr.drew) := HS.out _ (below_drewN (Below.refl _ _) 1)
      have HSD : Hid (∀ o, ((wr.alloc o).drew).cell? ⟨w.heap.size + 1 + 1, p6.toNat, none⟩ = some (.int .i64 pd) ∧ Below wr.heap.size wr ((wr.alloc o).drew)) := fun o => HS.out _ ((Below.refl _ _).alloc (Nat.le_refl _) _).drew
      have HSA : Hid (∀ V o, (V.cell? ⟨w.heap.size + 1 + 1, p6.toNat, none⟩ = some (.int .i64 pd) ∧ Below wr.heap.size wr V) → ((V.alloc o).cell? ⟨w.heap.size + 1 + 1, p6.toNat, none⟩ = some (.int .i64 pd) ∧ Below wr.heap.size wr (V.alloc o))) := fun V o h => HS.out _ (h.2.alloc h.2.size _)
      have HSC : Hid (∀ V (i : Nat) u, (V.cell? ⟨w.heap.size + 1 + 1, p6.toNat, none⟩ = some (.int .i64 pd) ∧ Below wr.heap.size wr V) → ((V.setCell ⟨wr.heap.size, i, none⟩ u).cell? ⟨w.heap.size + 1 + 1, p6.toNat, none⟩ = some (.int .i64 pd) ∧ Below wr.heap.size wr (V.setCell ⟨wr.heap.size, i, none⟩ u))) := fun V i u h => HS.out _ (h.2.setCell (p := ⟨wr.heap.size, i, none⟩) (Nat.le_refl _) _)
      have H6 : Hid _ := h6
      have H3 : Hid _ := h3
      clear hpd h6 h3
      go_cut [8] (fun x wc => ∃ (xb : Nat), x = .pointer (some ⟨xb, 0, none⟩) ∧ Hid (wc.heap[xb]? = some (.cells #[.string (ba (nmL k)), .int .i64 pd, .int .i64 0, .int .i64 (1 + p3), .slice none 0 0] 54 (0, 0))) ∧ wr.heap.size ≤ xb ∧ Hid (Below wr.heap.size wr wc))
      case first =>
        go_region_held3 (fun w' => w'.cell? ⟨w.heap.size + 1 + 1, p6.toNat, none⟩ = some (.int .i64 pd) ∧ Below wr.heap.size wr w') (first | with_reducible assumption | with_reducible exact HS0.out | with_reducible exact HSC.out _ _ _ (HSC.out _ _ _ (HSC.out _ _ _ (HSC.out _ _ _ (HSC.out _ _ _ (by assumption))))) | with_reducible exact HSA.out _ _ (by assumption) | with_reducible exact HSD.out _) ((first
          | (go_at_call 15; refine (name_any k (by omega) _).mono ?_; rintro e w2 ⟨rfl, hb2⟩
             have S0 := ‹World.cell? _ ⟨w.heap.size + 1 + 1, p6.toNat, none⟩ = _ ∧ Below wr.heap.size wr _›
             have S1 := HS.out w2 (S0.2.trans (hb2.mono S0.2.size))
             try (
               have hq := hb2.block wr.heap.size (by simp)
               have bx : w2.heap[wr.heap.size]? = some (.cells #[.string ⟨#[]⟩, .int .i64 0, .int .i64 0, .int .i64 0, .slice none 0 0] 54 (0, 0)) := by
                 rw [hq]
                 first | exact heap_new_drew wr _ | exact heap_new wr.drew _ | exact heap_new wr _
               clear hq
               have x0 : w2.cell? ⟨wr.heap.size, 0, none⟩ = some (.string ⟨#[]⟩) := by rw [cell_of_blk bx]; rfl
               have x1 : w2.cell? ⟨wr.heap.size, 1, none⟩ = some (.int .i64 0) := by rw [cell_of_blk bx]; rfl
               have x2 : w2.cell? ⟨wr.heap.size, 2, none⟩ = some (.int .i64 0) := by rw [cell_of_blk bx]; rfl
               have x3 : w2.cell? ⟨wr.heap.size, 3, none⟩ = some (.int .i64 0) := by rw [cell_of_blk bx]; rfl
               have x4 : w2.cell? ⟨wr.heap.size, 4, none⟩ = some (.slice none 0 0) := by rw [cell_of_blk bx]; rfl
               have f0 := frozen_of_row w2 wr.heap.size 0 _ _ bx
               have f1 := frozen_of_row w2 wr.heap.size 1 _ _ bx
               have f2 := frozen_of_row w2 wr.heap.size 2 _ _ bx
               have f3 := frozen_of_row w2 wr.heap.size 3 _ _ bx
               have f4 := frozen_of_row w2 wr.heap.size 4 _ _ bx
               have BX : Hid _ := bx
               clear bx))
          | (go_at_call 14; refine (raw_int _ L _ (by omega) _ (MD.below HD.out (‹World.cell? _ ⟨w.heap.size + 1 + 1, p6.toNat, none⟩ = _ ∧ Below wr.heap.size wr _›).2).ints).mono ?_; rintro e w3 ⟨rfl, rfl⟩)
          | (go_at_call_of 13 (Value.int .i64 6); refine (pick_any _ 6 (rawF_in HD.out.ints _) (by omega) _).mono ?_; rintro e w3 ⟨rfl, rfl⟩; rw [H6.out])
          | (go_at_call_of 13 (Value.int .i64 3); refine (pick_any _ 3 (rawF_in HD.out.ints _) (by omega) _).mono ?_; rintro e w3 ⟨rfl, rfl⟩; rw [H3.out])))
        all_goals (go_wp2_with fail)
        all_goals go_meet
        all_goals first
          | (have b4 := five_set BX.out (.string (ba (nmL k))) (.int .i64 pd) (.int .i64 0) (.int .i64 (1 + p3)) (.slice none 0 0)
             clear BX
             refine ⟨wr.heap.size, rfl, hid_intro b4, Nat.le_refl _, ?_⟩
             exact hid_intro (And.right (by with_reducible assumption)))
          | (refine ⟨_, rfl, hid_intro (heap_new _ _), ?_, ?_⟩
             · exact Below.size (And.right (by with_reducible assumption))
             · exact hid_intro (And.right (by with_reducible assumption)))
      case rest =>
        obtain ⟨xb, rfl, HX, hxb, HBW⟩ := hcut
        have hD1 := MD.below HD.out HBW.out
        have m0 : wc.cell? ⟨w.heap.size + 1, 0, none⟩ = some (.int .i64 f) := by rw [cell_of_blk hD1.man]; rfl
        have x1 : wc.cell? ⟨xb, 1, none⟩ = some (.int .i64 pd) := by rw [cell_of_blk HX.out]; rfl
        obtain ⟨o1, o2, o3⟩ := HPO.out
        obtain ⟨f1, f2, f3⟩ := HF.out
        have hlf0 := HI.out.pos
        have hlf1 : lf ≤ f := HI.out.le (by omega)
        obtain ⟨tm, htm, t1, t2, t3⟩ : ∃ tm, f / pd = tm ∧ 1 ≤ tm ∧ tm ≤ 60 ∧ pd * tm = f := times_ok o1 o2 o3 f2
        have hpz : ¬ pd = 0 := by omega
        have htz : ¬ tm = 0 := by omega
        have hf0 : 0 ≤ f := by omega
        have HT3 : Hid (pd * tm = f) := t3
        obtain ⟨mo, hmo, mo0, mo1⟩ : ∃ mo, lf / tm = mo ∧ 0 ≤ mo ∧ mo ≤ lf := ⟨_, rfl, Int.ediv_nonneg (by omega) (by omega), Int.ediv_le_self _ (by omega)⟩
        have HMO : Hid (mo * tm ≤ lf) := by show _ ≤ _; rw [← hmo]; exact Int.ediv_mul_le _ (by omega)
        have HD1 : Hid _ := hD1
        have wz1 : IntKind.i64.wrap tm = tm := wrap_small _ (by omega) (by omega)
        have wz2 : IntKind.i64.wrap mo = mo := wrap_small _ (by omega) (by omega)
        clear hD1 t3
        go_wp2_with fail
        go_region
        obtain ⟨ms, hms, ms0, ms1, ms2, ms3⟩ : ∃ ms, (if mo < pd then mo else pd) = ms ∧ 0 ≤ ms ∧ ms ≤ pd ∧ ms ≤ mo ∧ (ms = mo ∨ ms = pd) := by
          refine ⟨_, rfl, ?_, ?_, ?_, ?_⟩ <;> split <;> omega
        rw [hms]
        clear hms
        have hD2 := MD.below HD1.out (below_drewN (Below.refl _ _) 1)
        have HB2 : Hid (Below wr.heap.size wr wc.drew) := below_drewN HBW.out 1
        have HX2 : Hid (wc.drew.heap[xb]? = some (.cells #[.string (ba (nmL k)), .int .i64 pd, .int .i64 0, .int .i64 (1 + p3), .slice none 0 0] 54 (0, 0))) := HX.out
        have HD2 : Hid (MD w (.slice ua L.length uc) L f v (.slice none 0 0) ys [] wc.drew) := hD2
        clear hD2 x1 m0
        generalize wc.drew = W2 at *
        by_cases hm1 : ms < 1
        · have HNE : Hid (ys ≠ []) := by
            rcases Nat.eq_zero_or_pos k with hk0 | hk0
            · exfalso
              have hl := HI.out.len
              have ht := HI.out.tic
              have hy : ys = [] := List.eq_nil_of_length_eq_zero (by simp at hl; omega)
              subst hy
              simp [ticksF] at ht
              have : lf / tm = pd := by rw [ht, ← HT3.out]; exact Int.mul_ediv_cancel _ htz
              omega
            · exact HN.out hk0
          go_wp2_with fail
          exact ⟨⟨k + 1, lf, v, ys, by go_num, rfl, by omega, HI.out.skip, fun _ => HNE.out, HD2.out⟩, by simp [intOf]; omega⟩
        · have z5 : IntKind.i64.wrap (4 * (k : Int) + 4) = 4 * (k : Int) + 4 := wrap_small _ (by omega) (by omega)
          have z6 : IntKind.i64.wrap (4 * (k : Int) + 5) = 4 * (k : Int) + 5 := wrap_small _ (by omega) (by omega)
          go_wp2_with fail
          refine Calls.mono (raw_int _ L _ (by omega) _ HD2.out.ints) ?_
          rintro e V ⟨rfl, hV⟩
          subst hV
          go_wp2_with fail
          refine Calls.mono (pick_some _ ms (rawF_in HD2.out.ints _) (by omega) _) ?_
          rintro e V ⟨p5, rfl, ⟨h5a, h5b⟩, hV⟩
          subst hV
          have x2 : V.cell? ⟨xb, 2, none⟩ = some (.int .i64 0) := by rw [cell_of_blk HX2.out]; rfl
          have xf := frozen_of_row V xb 2 _ _ HX2.out
          have z7 : IntKind.i64.wrap (1 + p5) = 1 + p5 := wrap_small _ (by omega) (by omega)
          have htd : tm * (1 + p5) ≤ lf := by
            have h1 := HMO.out
            have h2 : tm * (1 + p5) ≤ tm * mo := Int.mul_le_mul_of_nonneg_left (by omega) (by omega)
            rw [Int.mul_comm tm mo] at h2
            omega
          have htd0 : 0 ≤ tm * (1 + p5) := Int.mul_nonneg (by omega) (by omega)
          have HTD : Hid _ := htd
          obtain ⟨dd, hdd, hd1, hd2⟩ : ∃ dd, 1 + p5 = dd ∧ 1 ≤ dd ∧ dd ≤ ms := ⟨_, rfl, by omega, by omega⟩
          rw [hdd] at htd htd0 z7 HTD
          obtain ⟨td, htd2⟩ : ∃ td, tm * dd = td := ⟨_, rfl⟩
          have HTE : Hid (tm * dd = td) := htd2
          rw [htd2] at htd htd0
          have z8 : IntKind.i64.wrap td = td := wrap_small _ (by omega) (by omega)
          have z9 : IntKind.i64.wrap (lf - td) = lf - td := wrap_small _ (by omega) (by omega)
          go_wp2_with fail
          have X3 : XS w wr (V.setCell ⟨xb, 2, none⟩ (.int .i64 dd)) xb (ba (nmL k)) pd dd (1 + p3) (.slice none 0 0) [] := ⟨heap_setCell_same V xb 2 _ _ _ HX2.out, World.ownsRow_nil _ _ _ _, (fun _ h => by cases h), HB2.out.setCell (p := ⟨xb, 2, none⟩) hxb _, hxb⟩
          have D3 := MD.below HD.out X3.bel
          generalize V.setCell ⟨xb, 2, none⟩ (.int .i64 dd) = V3 at *
          have HX3 : Hid _ := X3
          have HD3 : Hid _ := D3
          clear X3 D3 x2 xf
          refine Calls.mono (raw_int _ L _ (by omega) _ HD3.out.ints) ?_
          rintro e V' ⟨rfl, hV⟩
          subst hV
          go_wp2_with fail
          refine Calls.mono (pick_some _ 4 (rawF_in HD3.out.ints _) (by omega) _) ?_
          rintro e V' ⟨pg, rfl, ⟨hg0, hg4⟩, hV⟩
          subst hV
          by_cases g0 : 0 < pg
          · have g2 := frozen_of_row V' xb 4 _ _ HX3.out.blk
            have x4 : V'.cell? ⟨xb, 4, none⟩ = some (.slice none 0 0) := by (rw [cell_of_blk HX3.out.blk]; rfl)
            have hV3 : w.heap.size + 3 ≤ V'.heap.size := lt_of_blk HD3.out.per
            go_upto_region 17 with (first
              | (at_builtin; refine wpList_append_lies _ rfl _ _ _ rfl (w.heap.size + 3) 56 i0 _ 3 24 Tryz.underlying52 hi0 hz0 hz1 hz2 rfl (by omega) (.slice none 0 0) 0 [] rfl (HX3.out.own.alloc _) ⟨V'.heap.size, 0, none⟩ 1 1 [.int .i64 k, .int .i64 pg, .int .i64 2] rfl rfl (World.news_of_block (cs := #[.int .i64 k, .int .i64 pg, .int .i64 2]) (t := 56) (fr := (0, 0)) (heap_new V' _)) (by simp [Value.oneCell']) (by omega) (by unfold maxLen; omega) (by omega) (by simp; omega) (V'.heap.size + 1) (by simp) ?_; intro g7 c7 V7 hown7 hgrow7 hat7 hlt7
                 obtain ⟨hb7, hx7⟩ := XS.grow HX3.out ⟨k, pg, 2⟩ hown7 hgrow7 hat7
                 have HX7 : Hid (XS w wr (V7.setCell ⟨xb, 4, none⟩ (.slice (some ⟨g7, 0, none⟩) 1 c7)) xb (ba (nmL k)) pd dd (1 + p3) (.slice (some ⟨g7, 0, none⟩) 1 c7) [⟨k, pg, 2⟩]) := hx7
                 clear hx7
                 have xc7 : V7.cell? ⟨xb, 4, none⟩ = some (.slice none 0 0) := by (rw [cell_of_blk hb7]; rfl)
                 have xf7 := frozen_of_row V7 xb 4 _ _ hb7))
            generalize V7.setCell ⟨xb, 4, none⟩ (.slice (some ⟨g7, 0, none⟩) 1 c7) = V6 at *
            have HD6 : Hid _ := MD.below HD.out HX7.out.bel
            clear g2 x4 xc7 xf7 hown7 hgrow7
            by_cases g1 : 1 < pg
            · have z10 : IntKind.i64.wrap (50 - (k : Int)) = 50 - (k : Int) := wrap_small _ (by omega) (by omega)
              have z11 : IntKind.i64.wrap (4 * (k : Int) + 6) = 4 * (k : Int) + 6 := wrap_small _ (by omega) (by omega)
              have x4 : V6.cell? ⟨xb, 4, none⟩ = some (.slice (some ⟨g7, 0, none⟩) 1 c7) := by (rw [cell_of_blk HX7.out.blk]; rfl)
              have hV6 : w.heap.size + 3 ≤ V6.heap.size := lt_of_blk HD6.out.per
              have xA : ∀ o, (V6.alloc o).cell? ⟨xb, 4, none⟩ = some (.slice (some ⟨g7, 0, none⟩) 1 c7) := fun o => (((Below.refl V6.heap.size V6).alloc (Nat.le_refl _) o).cell (p := ⟨xb, 4, none⟩) (lt_of_blk HX7.out.blk)).trans x4
              have HI6 : Hid (IntsV V6.drew (.slice ua L.length uc) L) := (HD6.out.below (below_drewN (Below.refl _ _) 1)).ints
              go_wp2_with fail
              go_region_law (first
                | (refine step_append_lies _ (by rfl) _ _ _ (by rfl) (w.heap.size + 3) 56 i0 _ 3 24 Tryz.underlying52 hi0 hz0 hz1 hz2 rfl (by omega) (.slice (some ⟨g7, 0, none⟩) 1 c7) 1 (rC [⟨k, pg, 2⟩]) (by rfl) (HX7.out.own.alloc _) ⟨V6.heap.size, 0, none⟩ 1 1 [.int .i64 (50 - k), .int .i64 1, .int .i64 (1 + q8)] (by rfl) (by rfl) (World.news_of_block (cs := #[.int .i64 (50 - k), .int .i64 1, .int .i64 (1 + q8)]) (t := 56) (fr := (0, 0)) (heap_new V6 _)) (by simp [Value.oneCell']) (by omega) (by unfold maxLen; omega) (by omega) (by simp; omega) (V6.heap.size + 1) (by simp) ?_; intro g8 c8 V8 hown8 hgrow8 hat8 hlt8
                   obtain ⟨hb8, hx8⟩ := XS.grow HX7.out.drew ⟨50 - k, 1, 1 + q8⟩ hown8 hgrow8 hat8
                   have HX8 : Hid (XS w wr (V8.setCell ⟨xb, 4, none⟩ (.slice (some ⟨g8, 0, none⟩) 2 c8)) xb (ba (nmL k)) pd dd (1 + p3) (.slice (some ⟨g8, 0, none⟩) 2 c8) [⟨k, pg, 2⟩, ⟨50 - k, 1, 1 + q8⟩]) := hx8
                   clear hx8
                   have xc8 : V8.cell? ⟨xb, 4, none⟩ = some (.slice (some ⟨g7, 0, none⟩) 1 c7) := by (rw [cell_of_blk hb8]; rfl)
                   have xf8 := frozen_of_row V8 xb 4 _ _ hb8)
                | (go_simp; go_at_call 14; refine (raw_int _ L _ (by omega) _ HI6.out).mono ?_; rintro e w3 ⟨rfl, hw3⟩; subst hw3)
                | (go_simp; go_at_call 13; refine (pick_some _ 2 (rawF_in HI6.out _) (by omega) _).mono ?_; rintro e w3 ⟨q8, rfl, ⟨h8a, h8b⟩, hw3⟩; subst hw3
                   have z12 : IntKind.i64.wrap (1 + q8) = 1 + q8 := wrap_small _ (by omega) (by omega)))
              all_goals
                generalize V8.setCell ⟨xb, 4, none⟩ (.slice (some ⟨g8, 0, none⟩) 2 c8) = V5 at *
                have HX5 : Hid (XS w wr V5 xb (ba (nmL k)) pd dd (1 + p3) (.slice (some ⟨g8, 0, none⟩) 2 c8) [⟨k, pg, 2⟩, ⟨50 - k, 1, 1 + q8⟩]) := HX8
                have HD5 : Hid _ := MD.below HD.out HX8.out.bel
                clear xc8 xf8 hown8 hgrow8 x4 xA
                have XC : Hid (V5.cell? ⟨xb, 0, none⟩ = some (.string (ba (nmL k))) ∧ V5.cell? ⟨xb, 1, none⟩ = some (.int .i64 pd) ∧ V5.cell? ⟨xb, 2, none⟩ = some (.int .i64 dd) ∧ V5.cell? ⟨xb, 3, none⟩ = some (.int .i64 (1 + p3)) ∧ V5.cell? ⟨xb, 4, none⟩ = some (.slice (some ⟨g8, 0, none⟩) 2 c8)) := by
                  have hb := HX5.out.blk
                  exact ⟨by rw [cell_of_blk hb]; rfl, by rw [cell_of_blk hb]; rfl, by rw [cell_of_blk hb]; rfl, by rw [cell_of_blk hb]; rfl, by rw [cell_of_blk hb]; rfl⟩
                have q1 : V5.cell? ⟨w.heap.size + 1, 1, none⟩ = some v := by (rw [cell_of_blk HD5.out.man]; rfl)
                obtain ⟨x0, x1', x2', x3', x4'⟩ := XC.out
                have hV5 : w.heap.size + 3 ≤ V5.heap.size := lt_of_blk HD5.out.per
                have hyl : ys.length ≤ 6 := by have := HI.out.len; simp at this; omega
                go_wp2_with (first
                  | (at_builtin; refine wpList_append_lies _ rfl _ _ _ rfl (w.heap.size + 3) 54 j0 _ 5 64 Tryz.underlying28 hj0 hy0 hy1 hy2 rfl (by omega) v ys.length (pC ys) rfl (HD5.out.pts.own.alloc _) ⟨V5.heap.size, 0, none⟩ 1 1 [.string (ba (nmL k)), .int .i64 pd, .int .i64 dd, .int .i64 (1 + p3), .slice (some ⟨g8, 0, none⟩) 2 c8] rfl rfl (World.news_of_block (cs := #[.string (ba (nmL k)), .int .i64 pd, .int .i64 dd, .int .i64 (1 + p3), .slice (some ⟨g8, 0, none⟩) 2 c8]) (t := 54) (fr := (0, 0)) (heap_new V5 _)) (by simp [Value.oneCell']) (by omega) (by unfold maxLen; omega) (by omega) (by simp; omega) (V5.heap.size + 1) (by simp) ?_; intro g9 c9 V9 hown3 hgrow hat9 hlt9
                     obtain ⟨hm9, hd9⟩ := MD.addPart (x := ⟨ba (nmL k), pd, dd, 1 + p3, [⟨k, pg, 2⟩, ⟨50 - k, 1, 1 + q8⟩]⟩) (rv := .slice (some ⟨g8, 0, none⟩) 2 c8) HL.out HD5.out HX5.out hown3 hgrow
                     have HD9 : Hid _ := hd9
                     clear hd9
                     have mc9 : V9.cell? ⟨w.heap.size + 1, 1, none⟩ = some v := by (rw [cell_of_blk hm9]; rfl)
                     have mf9 := frozen_of_row V9 (w.heap.size + 1) 1 _ _ hm9))
                refine ⟨⟨k + 1, lf - td, .slice (some ⟨g9, 0, none⟩) (ys.length + 1) c9, ys ++ [(⟨ba (nmL k), pd, dd, 1 + p3, [⟨k, pg, 2⟩, ⟨50 - k, 1, 1 + q8⟩]⟩, .slice (some ⟨g8, 0, none⟩) 2 c8)], by go_num, rfl, by omega, ?_, fun _ => by simp, HD9⟩, by simp [intOf]; omega⟩
                show LI f (k + 1) (lf - td) _
                rw [List.map_append]
                have hro := regs2 (k := k) (pg := pg) (q := q8) (by omega) g0 hg4 h8a h8b
                exact li_add HI.out (by omega) ⟨by omega, by omega, o3⟩ ⟨by omega, by omega⟩ ⟨by omega, by omega⟩ hro.1 ⟨by simp, hro.2, by simp⟩ htm HTE.out htd
            · generalize V6 = V5 at *
              have HX5 : Hid (XS w wr V5 xb (ba (nmL k)) pd dd (1 + p3) (.slice (some ⟨g7, 0, none⟩) 1 c7) [⟨k, pg, 2⟩]) := HX7
              have HD5 : Hid _ := HD6
              have XC : Hid (V5.cell? ⟨xb, 0, none⟩ = some (.string (ba (nmL k))) ∧ V5.cell? ⟨xb, 1, none⟩ = some (.int .i64 pd) ∧ V5.cell? ⟨xb, 2, none⟩ = some (.int .i64 dd) ∧ V5.cell? ⟨xb, 3, none⟩ = some (.int .i64 (1 + p3)) ∧ V5.cell? ⟨xb, 4, none⟩ = some (.slice (some ⟨g7, 0, none⟩) 1 c7)) := by
                have hb := HX5.out.blk
                exact ⟨by rw [cell_of_blk hb]; rfl, by rw [cell_of_blk hb]; rfl, by rw [cell_of_blk hb]; rfl, by rw [cell_of_blk hb]; rfl, by rw [cell_of_blk hb]; rfl⟩
              have q1 : V5.cell? ⟨w.heap.size + 1, 1, none⟩ = some v := by (rw [cell_of_blk HD5.out.man]; rfl)
              obtain ⟨x0, x1', x2', x3', x4'⟩ := XC.out
              have hV5 : w.heap.size + 3 ≤ V5.heap.size := lt_of_blk HD5.out.per
              have hyl : ys.length ≤ 6 := by have := HI.out.len; simp at this; omega
              go_wp2_with (first
                | (at_builtin; refine wpList_append_lies _ rfl _ _ _ rfl (w.heap.size + 3) 54 j0 _ 5 64 Tryz.underlying28 hj0 hy0 hy1 hy2 rfl (by omega) v ys.length (pC ys) rfl (HD5.out.pts.own.alloc _) ⟨V5.heap.size, 0, none⟩ 1 1 [.string (ba (nmL k)), .int .i64 pd, .int .i64 dd, .int .i64 (1 + p3), .slice (some ⟨g7, 0, none⟩) 1 c7] rfl rfl (World.news_of_block (cs := #[.string (ba (nmL k)), .int .i64 pd, .int .i64 dd, .int .i64 (1 + p3), .slice (some ⟨g7, 0, none⟩) 1 c7]) (t := 54) (fr := (0, 0)) (heap_new V5 _)) (by simp [Value.oneCell']) (by omega) (by unfold maxLen; omega) (by omega) (by simp; omega) (V5.heap.size + 1) (by simp) ?_; intro g9 c9 V9 hown3 hgrow hat9 hlt9
                   obtain ⟨hm9, hd9⟩ := MD.addPart (x := ⟨ba (nmL k), pd, dd, 1 + p3, [⟨k, pg, 2⟩]⟩) (rv := .slice (some ⟨g7, 0, none⟩) 1 c7) HL.out HD5.out HX5.out hown3 hgrow
                   have HD9 : Hid _ := hd9
                   clear hd9
                   have mc9 : V9.cell? ⟨w.heap.size + 1, 1, none⟩ = some v := by (rw [cell_of_blk hm9]; rfl)
                   have mf9 := frozen_of_row V9 (w.heap.size + 1) 1 _ _ hm9))
              refine ⟨⟨k + 1, lf - td, .slice (some ⟨g9, 0, none⟩) (ys.length + 1) c9, ys ++ [(⟨ba (nmL k), pd, dd, 1 + p3, [⟨k, pg, 2⟩]⟩, .slice (some ⟨g7, 0, none⟩) 1 c7)], by go_num, rfl, by omega, ?_, fun _ => by simp, HD9⟩, by simp [intOf]; omega⟩
              show LI f (k + 1) (lf - td) _
              rw [List.map_append]
              have hro := regs1 (k := k) (pg := pg) (by omega) g0 hg4
              exact li_add HI.out (by omega) ⟨by omega, by omega, o3⟩ ⟨by omega, by omega⟩ ⟨by omega, by omega⟩ hro.1 ⟨by simp, hro.2, by simp⟩ htm HTE.out htd
          · have g0' : ¬ 1 < pg := by omega
            generalize V' = V5 at *
            have HX5 : Hid (XS w wr V5 xb (ba (nmL k)) pd dd (1 + p3) (.slice none 0 0) []) := HX3
            have HD5 : Hid _ := HD3
            have XC : Hid (V5.cell? ⟨xb, 0, none⟩ = some (.string (ba (nmL k))) ∧ V5.cell? ⟨xb, 1, none⟩ = some (.int .i64 pd) ∧ V5.cell? ⟨xb, 2, none⟩ = some (.int .i64 dd) ∧ V5.cell? ⟨xb, 3, none⟩ = some (.int .i64 (1 + p3)) ∧ V5.cell? ⟨xb, 4, none⟩ = some (.slice none 0 0)) := by
              have hb := HX5.out.blk
              exact ⟨by rw [cell_of_blk hb]; rfl, by rw [cell_of_blk hb]; rfl, by rw [cell_of_blk hb]; rfl, by rw [cell_of_blk hb]; rfl, by rw [cell_of_blk hb]; rfl⟩
            have q1 : V5.cell? ⟨w.heap.size + 1, 1, none⟩ = some v := by (rw [cell_of_blk HD5.out.man]; rfl)
            obtain ⟨x0, x1', x2', x3', x4'⟩ := XC.out
            have hV5 : w.heap.size + 3 ≤ V5.heap.size := lt_of_blk HD5.out.per
            have hyl : ys.length ≤ 6 := by have := HI.out.len; simp at this; omega
            go_wp2_with (first
              | (at_builtin; refine wpList_append_lies _ rfl _ _ _ rfl (w.heap.size + 3) 54 j0 _ 5 64 Tryz.underlying28 hj0 hy0 hy1 hy2 rfl (by omega) v ys.length (pC ys) rfl (HD5.out.pts.own.alloc _) ⟨V5.heap.size, 0, none⟩ 1 1 [.string (ba (nmL k)), .int .i64 pd, .int .i64 dd, .int .i64 (1 + p3), .slice none 0 0] rfl rfl (World.news_of_block (cs := #[.string (ba (nmL k)), .int .i64 pd, .int .i64 dd, .int .i64 (1 + p3), .slice none 0 0]) (t := 54) (fr := (0, 0)) (heap_new V5 _)) (by simp [Value.oneCell']) (by omega) (by unfold maxLen; omega) (by omega) (by simp; omega) (V5.heap.size + 1) (by simp) ?_; intro g9 c9 V9 hown3 hgrow hat9 hlt9
                 obtain ⟨hm9, hd9⟩ := MD.addPart (x := ⟨ba (nmL k), pd, dd, 1 + p3, []⟩) (rv := .slice none 0 0) HL.out HD5.out HX5.out hown3 hgrow
                 have HD9 : Hid _ := hd9
                 clear hd9
                 have mc9 : V9.cell? ⟨w.heap.size + 1, 1, none⟩ = some v := by (rw [cell_of_blk hm9]; rfl)
                 have mf9 := frozen_of_row V9 (w.heap.size + 1) 1 _ _ hm9))
            refine ⟨⟨k + 1, lf - td, .slice (some ⟨g9, 0, none⟩) (ys.length + 1) c9, ys ++ [(⟨ba (nmL k), pd, dd, 1 + p3, []⟩, .slice none 0 0)], by go_num, rfl, by omega, ?_, fun _ => by simp, HD9⟩, by simp [intOf]; omega⟩
            show LI f (k + 1) (lf - td) _
            rw [List.map_append]
            have hro : RegsOK [] ∧ regPages [] ≤ 4 := ⟨regs0, by simp [regPages]⟩
            exact li_add HI.out (by omega) ⟨by omega, by omega, o3⟩ ⟨by omega, by omega⟩ ⟨by omega, by omega⟩ hro.1 ⟨by simp, hro.2, by simp⟩ htm HTE.out htd
    · have hlt' : ¬ (k : Int) < (n : Int) := by omega
      have hne : ys ≠ [] := HN.out (by omega)
      have hyl : ys.length ≤ 6 := by have := HI.out.len; simp at this; omega
      have hy1 : 0 < ys.length := List.length_pos_iff.2 hne
      obtain ⟨g1, c1, rfl, _⟩ : ∃ g cap, v = .slice (some ⟨g, 0, none⟩) ys.length cap ∧ ys.length ≤ cap := by
        rcases own_form HD.out.pts.own with ⟨h, _⟩ | h
        · omega
        · exact h
      have q1 : wr.cell? ⟨w.heap.size + 1, 1, none⟩ = some (.slice (some ⟨g1, 0, none⟩) ys.length c1) := by rw [cell_of_blk HD.out.man]; rfl
      have HNE : Hid _ := hne
      clear hne
      go_wp2_with fail
      clear q1
      generalize wr = W2 at *
      go_loopw [12] (fun ii wr => ∃ (cs : List ChanD) (cv : Value), ii = .int .i64 (cs.length : Nat) ∧ cs.length ≤ 7 ∧ Hid (CI ys.length f cs) ∧ Hid (MD w (.slice ua L.length uc) L f (.slice (some ⟨g1, 0, none⟩) ys.length c1) cv ys cs wr)) (fun ii _ => 8 - (intOf ii).toNat)
      case atStart => exact ⟨[], _, rfl, by simp, CI.nil _ _, HD.out⟩
      case round =>
        obtain ⟨cs, cv, rfl, hcl, HC, HE⟩ := hrel
        go_wp2_with fail
        refine Calls.mono (raw_int _ L 30 (by omega) _ HE.out.ints) ?_
        rintro e V ⟨rfl, hV⟩
        subst hV
        go_wp2_with fail
        refine Calls.mono (pick_some _ 8 (rawF_in HE.out.ints _) (by omega) _) ?_
        rintro e V ⟨p8, rfl, ⟨h8a, h8b⟩, hV⟩
        subst hV
        obtain ⟨i, hi⟩ : ∃ i, cs.length = i := ⟨_, rfl⟩
        have HCI : Hid (cs.length = i) := hi
        obtain ⟨ca, cc, rfl⟩ := own_shape HE.out.chs
        rw [hi] at hcl ⊢
        have HE2 := HE.out
        rw [hi] at HE2
        have HE : Hid (MD w (.slice ua L.length uc) L f (.slice (some ⟨g1, 0, none⟩) ys.length c1) (.slice ca i cc) ys cs V) := HE2
        clear hi HE2
        by_cases hgo : (i : Int) < p8 ∧ 1 < ys.length
        · obtain ⟨hi8, hn1⟩ := hgo
          have hn1' : (1 : Int) < (ys.length : Int) := by omega
          have z1 : IntKind.i64.wrap (3 * (i : Int) + 31) = 3 * (i : Int) + 31 := wrap_small _ (by omega) (by omega)
          have z2 : IntKind.i64.wrap (3 * (i : Int) + 32) = 3 * (i : Int) + 32 := wrap_small _ (by omega) (by omega)
          have z3 : IntKind.i64.wrap (3 * (i : Int) + 33) = 3 * (i : Int) + 33 := wrap_small _ (by omega) (by omega)
          have z0 : IntKind.i64.wrap (3 * (i : Int)) = 3 * (i : Int) := wrap_small _ (by omega) (by omega)
          go_wp2_with fail
          refine Calls.mono (raw_int _ L _ (by omega) _ HE.out.ints) ?_
          rintro e V' ⟨rfl, hV⟩
          subst hV
          go_wp2_with fail
          refine Calls.mono (pick_some _ (ys.length : Int) (rawF_in HE.out.ints _) (by omega) _) ?_
          rintro e V' ⟨sa, rfl, ⟨sa0, sa1⟩, hV⟩
          subst hV
          go_wp2_with fail
          refine Calls.mono (raw_int _ L _ (by omega) _ HE.out.ints) ?_
          rintro e V' ⟨rfl, hV⟩
          subst hV
          go_wp2_with fail
          refine Calls.mono (pick_some _ ((ys.length : Int) - 1) (rawF_in HE.out.ints _) (by omega) _) ?_
          rintro e V' ⟨sq, rfl, ⟨sq0, sq1⟩, hV⟩
          subst hV
          obtain ⟨sb, hsb, sb0, sb1, sb2⟩ : ∃ sb, (sa + 1 + sq) % (ys.length : Int) = sb ∧ 0 ≤ sb ∧ sb < ys.length ∧ sa ≠ sb := turn_ok sa0 sa1 sq0 sq1
          have hyz : ¬ (ys.length : Int) = 0 := by omega
          have z4 : IntKind.i64.wrap (sa + 1) = sa + 1 := wrap_small _ (by omega) (by omega)
          have z5 : IntKind.i64.wrap (sa + 1 + sq) = sa + 1 + sq := wrap_small _ (by omega) (by omega)
          have hs0 : 0 ≤ sa + 1 + sq := by omega
          have HSB : Hid _ := sb2
          clear sb2
          go_wp2_with fail
          have D0 : MD w (.slice ua L.length uc) L f (.slice (some ⟨g1, 0, none⟩) ys.length c1) (.slice ca i cc) ys cs V'.drew := HE.out.below (below_drewN (Below.refl _ _) 1)
          have HD0 : Hid _ := D0
          have q2 : V'.cell? ⟨w.heap.size + 1, 2, none⟩ = some (.slice ca i cc) := by rw [cell_of_blk HE.out.man]; rfl
          have hV3 : w.heap.size + 3 ≤ V'.heap.size := lt_of_blk HE.out.per
          clear D0
          go_region_law (first
            | (refine step_append_lies _ (by rfl) _ _ _ (by rfl) (w.heap.size + 3) 58 k0 _ 6 56 Tryz.underlying29 hk0 hw0 hw1 hw2 rfl (by omega) (.slice ca i cc) cs.length (cC cs) (by rfl) (D2.chs.alloc _) ⟨w2.heap.size, 0, none⟩ 1 1 [.string (ba (nmL i)), .int .i64 sa, .int .i64 sb, .int .i64 (1 + q3), .int .i64 8, .int .i64 (1 + q4)] (by rfl) (by rfl) (World.news_of_block (cs := #[.string (ba (nmL i)), .int .i64 sa, .int .i64 sb, .int .i64 (1 + q3), .int .i64 8, .int .i64 (1 + q4)]) (t := 58) (fr := (0, 0)) (heap_new w2 _)) (by simp [Value.oneCell']) (by omega) (by have := HCI.out; unfold maxLen; omega) (by have := HCI.out; omega) (by simp; omega) (w2.heap.size + 1) (by simp) ?_; intro g9 c9 V9 hown3 hgrow hat9 hlt9
               obtain ⟨hm9, hd9⟩ := MD.addChan (x := ⟨ba (nmL i), sa, sb, 1 + q3, 8, 1 + q4⟩) HL.out D2 hown3 hgrow
               have HD9 : Hid _ := hd9
               clear hd9
               have mc9 : V9.cell? ⟨w.heap.size + 1, 2, none⟩ = some (.slice ca i cc) := by (rw [cell_of_blk hm9]; rfl)
               have mf9 := frozen_of_row V9 (w.heap.size + 1) 2 _ _ hm9)
            | (go_simp; go_at_call 15; refine (name_any i (by omega) _).mono ?_; rintro e w2 ⟨rfl, hb2⟩
               have D2 := HD0.out.below hb2
               have m2 : w2.cell? ⟨w.heap.size + 1, 2, none⟩ = some (.slice ca i cc) := by (rw [cell_of_blk D2.man]; rfl)
               have h2s : w.heap.size + 3 ≤ w2.heap.size := lt_of_blk D2.per
               have mA : ∀ o, (w2.alloc o).cell? ⟨w.heap.size + 1, 2, none⟩ = some (.slice ca i cc) := fun o => (((Below.refl w2.heap.size w2).alloc (Nat.le_refl _) o).cell (p := ⟨w.heap.size + 1, 2, none⟩) (lt_of_blk D2.man)).trans m2)
            | (go_simp; go_at_call 14; refine (raw_int _ L _ (by omega) _ D2.ints).mono ?_; rintro e w3 ⟨rfl, hw3⟩; have hw4 := hw3.symm; clear hw3; subst hw4)
            | (go_simp; go_at_call_of 13 (Value.int .i64 2); refine (pick_some _ 2 (rawF_in HE.out.ints _) (by omega) _).mono ?_; rintro e w3 ⟨q3, rfl, ⟨q3a, q3b⟩, hw3⟩; have hw4 := hw3.symm; clear hw3; subst hw4
               have z6 : IntKind.i64.wrap (1 + q3) = 1 + q3 := wrap_small _ (by omega) (by omega))
            | (go_simp; go_at_call_of 13 (Value.int .i64 4); refine (pick_some _ 4 (rawF_in HE.out.ints _) (by omega) _).mono ?_; rintro e w3 ⟨q4, rfl, ⟨q4a, q4b⟩, hw3⟩; have hw4 := hw3.symm; clear hw3; subst hw4
               have z7 : IntKind.i64.wrap (1 + q4) = 1 + q4 := wrap_small _ (by omega) (by omega)))
          all_goals (go_wp2_with fail)
          all_goals (refine ⟨⟨cs ++ [⟨ba (nmL i), sa, sb, 1 + q3, 8, 1 + q4⟩], .slice (some ⟨g9, 0, none⟩) (cs.length + 1) c9, ?_, ?_, ?_, HD9⟩, ?_⟩)
          all_goals first
            | (rw [List.length_append, HCI.out]; go_num)
            | (rw [List.length_append, HCI.out]; show i + 1 ≤ 7; omega)
            | exact CI.add HC.out (by rw [HCI.out]) ⟨⟨sa0, sa1⟩, ⟨sb0, sb1⟩, HSB.out, by simp only []; omega, rfl, by simp only []; omega⟩
            | (have := HCI.out; simp [intOf]; omega)
        · by_cases hi8 : (i : Int) < p8
          · have hn1 : ¬ (1 : Int) < (ys.length : Int) := by omega
            have r0 : V.cell? ⟨w.heap.size, 0, none⟩ = some (.int .i64 0) := by rw [cell_of_blk HE.out.res]; rfl
            have r1 : V.cell? ⟨w.heap.size, 1, none⟩ = some (.slice none 0 0) := by rw [cell_of_blk HE.out.res]; rfl
            have r2 : V.cell? ⟨w.heap.size, 2, none⟩ = some (.slice none 0 0) := by rw [cell_of_blk HE.out.res]; rfl
            have m0 : V.cell? ⟨w.heap.size + 1, 0, none⟩ = some (.int .i64 f) := by rw [cell_of_blk HE.out.man]; rfl
            have m1 : V.cell? ⟨w.heap.size + 1, 1, none⟩ = some (.slice (some ⟨g1, 0, none⟩) ys.length c1) := by rw [cell_of_blk HE.out.man]; rfl
            have m2 : V.cell? ⟨w.heap.size + 1, 2, none⟩ = some (.slice ca i cc) := by rw [cell_of_blk HE.out.man]; rfl
            have rf := fun i => frozen_of_row V w.heap.size i _ _ HE.out.res
            have rf0 := rf 0
            have rf1 := rf 1
            have rf2 := rf 2
            clear rf
            go_wp2_with fail
            obtain ⟨v1, v2, v3, v4, v5, v6, v7⟩ := MD.fin HE.out
            have HV1 : Hid _ := v1
            have HV2 : Hid _ := v2
            have HV3 : Hid _ := v3
            have HV4 : Hid _ := v4
            have HV5 : Hid _ := v5
            have HV7 : Hid _ := v7
            clear v1 v2 v3 v4 v5 v7 r0 r1 r2 rf0 rf1 rf2 m0 m1 m2
            generalize ((V.setCell ⟨w.heap.size, 0, none⟩ (.int .i64 f)).setCell ⟨w.heap.size, 1, none⟩ (.slice (some ⟨g1, 0, none⟩) ys.length c1)).setCell ⟨w.heap.size, 2, none⟩ (.slice ca i cc) = W9 at *
            have e0 : W9.cell? ⟨w.heap.size, 0, none⟩ = some (.int .i64 f) := by rw [cell_of_blk v6]; rfl
            have e1 : W9.cell? ⟨w.heap.size, 1, none⟩ = some (.slice (some ⟨g1, 0, none⟩) ys.length c1) := by rw [cell_of_blk v6]; rfl
            have e2 : W9.cell? ⟨w.heap.size, 2, none⟩ = some (.slice ca i cc) := by rw [cell_of_blk v6]; rfl
            refine bodyPost_ret (v := .agg #[.int .i64 f, .slice (some ⟨g1, 0, none⟩) ys.length c1, .slice ca i cc]) (by simp [results, Tryz.results5, go_sem, *]) rfl ?_
            refine ⟨f, ys.map Prod.fst, cs, _, _, rfl, HV1.out, HV2.out, HV3.out, HV4.out, ⟨HF.out.1, HF.out.2.1⟩, ⟨k, lf, HI.out, by omega⟩, by simpa using HNE.out, ?_, by rw [HCI.out]; exact hcl, HV5.out, HF.out.2.2, ys, rfl, HV7.out.1, ?_⟩
            · rw [List.length_map]
              exact HC.out
            · exact HV7.out.2
          · have hi8d : decide ((i : Int) < p8) = false := decide_eq_false hi8
            have r0 : V.cell? ⟨w.heap.size, 0, none⟩ = some (.int .i64 0) := by rw [cell_of_blk HE.out.res]; rfl
            have r1 : V.cell? ⟨w.heap.size, 1, none⟩ = some (.slice none 0 0) := by rw [cell_of_blk HE.out.res]; rfl
            have r2 : V.cell? ⟨w.heap.size, 2, none⟩ = some (.slice none 0 0) := by rw [cell_of_blk HE.out.res]; rfl
            have m0 : V.cell? ⟨w.heap.size + 1, 0, none⟩ = some (.int .i64 f) := by rw [cell_of_blk HE.out.man]; rfl
            have m1 : V.cell? ⟨w.heap.size + 1, 1, none⟩ = some (.slice (some ⟨g1, 0, none⟩) ys.length c1) := by rw [cell_of_blk HE.out.man]; rfl
            have m2 : V.cell? ⟨w.heap.size + 1, 2, none⟩ = some (.slice ca i cc) := by rw [cell_of_blk HE.out.man]; rfl
            have rf := fun i => frozen_of_row V w.heap.size i _ _ HE.out.res
            have rf0 := rf 0
            have rf1 := rf 1
            have rf2 := rf 2
            clear rf
            go_wp2_with fail
            obtain ⟨v1, v2, v3, v4, v5, v6, v7⟩ := MD.fin HE.out
            have HV1 : Hid _ := v1
            have HV2 : Hid _ := v2
            have HV3 : Hid _ := v3
            have HV4 : Hid _ := v4
            have HV5 : Hid _ := v5
            have HV7 : Hid _ := v7
            clear v1 v2 v3 v4 v5 v7 r0 r1 r2 rf0 rf1 rf2 m0 m1 m2
            generalize ((V.setCell ⟨w.heap.size, 0, none⟩ (.int .i64 f)).setCell ⟨w.heap.size, 1, none⟩ (.slice (some ⟨g1, 0, none⟩) ys.length c1)).setCell ⟨w.heap.size, 2, none⟩ (.slice ca i cc) = W9 at *
            have e0 : W9.cell? ⟨w.heap.size, 0, none⟩ = some (.int .i64 f) := by rw [cell_of_blk v6]; rfl
            have e1 : W9.cell? ⟨w.heap.size, 1, none⟩ = some (.slice (some ⟨g1, 0, none⟩) ys.length c1) := by rw [cell_of_blk v6]; rfl
            have e2 : W9.cell? ⟨w.heap.size, 2, none⟩ = some (.slice ca i cc) := by rw [cell_of_blk v6]; rfl
            refine bodyPost_ret (v := .agg #[.int .i64 f, .slice (some ⟨g1, 0, none⟩) ys.length c1, .slice ca i cc]) (by simp [results, Tryz.results5, go_sem, *]) rfl ?_
            refine ⟨f, ys.map Prod.fst, cs, _, _, rfl, HV1.out, HV2.out, HV3.out, HV4.out, ⟨HF.out.1, HF.out.2.1⟩, ⟨k, lf, HI.out, by omega⟩, by simpa using HNE.out, ?_, by rw [HCI.out]; exact hcl, HV5.out, HF.out.2.2, ys, rfl, HV7.out.1, ?_⟩
            · rw [List.length_map]
              exact HC.out
            · exact HV7.out.2
theorem madeK_true : MadeK := fun w u L hL => Calls.mono (made_any w u L hL) fun _ _ ⟨F, ps, cs, pv, cv, h1, h2, h3, h4, h5, h6, h7, h8, h9, h10, h11, _⟩ => ⟨F, ps, cs, pv, cv, h1, h2, h3, h4, h5, h6, h7, h8, h9, h10, h11⟩
end Go.Proofs.YteioennfpkoagabGreatDoor.C
