import Derived.Test.YteioennfpkoagaaGreatDoorB05
import Derived.Test.YteioennfpkoagaaGreatDoorB12
import Derived.BigRegion
import Derived.BigQuiet
import Derived.Deep.QuietTactic
import Derived.Deep.AppendLies
import Derived.Laws.OwnMore
import Derived.Deep.RegionLaw
import Derived.Laws.MakeOwn
namespace Go.Proofs.YteioennfpkoagaaGreatDoor.C
open Go.RowKit
attribute [local go_sem ↓] Go.wp_at_zero Go.wp_at_succ

/- the heap's list in memory -/
def turnC1 (x : TurnD) : List Value := [.int .i64 x.place, .int .i64 x.fin, .int .i64 x.left]
def turnC (q : List TurnD) : List Value := q.flatMap turnC1
theorem turnC_len (q : List TurnD) : (turnC q).length = q.length * 3 := by
  induction q with
  | nil => rfl
  | cons x q ih => simp only [turnC, List.flatMap_cons, List.length_append, List.length_cons] at *; rw [ih]; simp [turnC1]; omega
theorem turnC_at (q : List TurnD) (i : Nat) (hi : i < q.length) : (turnC q)[i * 3]? = some (.int .i64 (atQ q i).place) ∧ (turnC q)[i * 3 + 1]? = some (.int .i64 (atQ q i).fin) ∧ (turnC q)[i * 3 + 2]? = some (.int .i64 (atQ q i).left) := by
  induction q generalizing i with
  | nil => simp at hi
  | cons x q ih =>
    cases i with
    | zero => simp [turnC, turnC1, atQ]
    | succ i =>
      have h := ih i (by simpa using hi)
      have e : ∀ k, (turnC (x :: q))[(i + 1) * 3 + k]? = (turnC q)[i * 3 + k]? := fun k => by
        show (turnC1 x ++ turnC q)[(i + 1) * 3 + k]? = _
        rw [List.getElem?_append_right (by simp [turnC1]; omega)]
        congr 1
        simp [turnC1]; omega
      have ea : atQ (x :: q) (i + 1) = atQ q i := by simp [atQ]
      rw [ea]
      exact ⟨(e 0).trans h.1, (e 1).trans h.2.1, (e 2).trans h.2.2⟩
def TRow (w : World) (B g cap : Nat) (q : List TurnD) : Prop := w.ownsRow B 258 3 (.slice (some ⟨g, 0, none⟩) q.length cap) q.length (turnC q)
theorem TRow.at {w : World} {B g cap : Nat} {q : List TurnD} (h : TRow w B g cap q) (i : Nat) (hi : i < q.length) : w.cell? ⟨g, i * 3, none⟩ = some (.int .i64 (atQ q i).place) ∧ w.cell? ⟨g, i * 3 + 1, none⟩ = some (.int .i64 (atQ q i).fin) ∧ w.cell? ⟨g, i * 3 + 2, none⟩ = some (.int .i64 (atQ q i).left) := by
  obtain ⟨h1, h2, h3⟩ := turnC_at q i hi
  exact ⟨(World.ownsRow.cellAt h _ (by omega)).trans h1, (World.ownsRow.cellAt h _ (by omega)).trans h2, (World.ownsRow.cellAt h _ (by omega)).trans h3⟩
set_option maxRecDepth 100000 in
set_option maxHeartbeats 4000000 in
theorem less_any (w : World) (B g cap : Nat) (q : List TurnD) (i j : Nat) (hi : i < q.length) (hj : j < q.length) (hq : TRow w B g cap q) :
    Calls Tryz.prog 302 #[.slice (some ⟨g, 0, none⟩) q.length cap, .int .i64 i, .int .i64 j] w fun e w' => e = .returned (.bool (lessB (atQ q i) (atQ q j))) ∧ Below w.heap.size w w' := by
  obtain ⟨a1, a2, a3⟩ := hq.at i hi
  obtain ⟨b1, b2, b3⟩ := hq.at j hj
  have hi' : (i : Int) < (q.length : Int) := by omega
  have hj' : (j : Int) < (q.length : Int) := by omega
  unfold lessB
  generalize atQ q i = x at *
  generalize atQ q j = y at *
  obtain ⟨xp, xf, xl⟩ := x
  obtain ⟨yp, yf, yl⟩ := y
  simp only [] at a1 a2 a3 b1 b2 b3
  clear hq
  generalize q.length = n at *
  by_cases he : xf = yf
  · subst he
    go_enter Tryz.func302, Tryz.ntmps302
    go_wp2_with fail
    go_quiet (fail)
    go_wp2_with fail
    go_quiet (fail)
    go_wp2_with fail
    go_ret
    exact ⟨rfl, below_drewN (Below.refl _ _) _⟩
  · go_enter Tryz.func302, Tryz.ntmps302
    go_wp2_with fail
    go_quiet (fail)
    go_wp2_with fail
    go_quiet (fail)
    go_wp2_with fail
    go_ret
    exact ⟨rfl, below_drewN (Below.refl _ _) _⟩
/- the heap's list behind its pointer -/
def TQ (w : World) (tb : Nat) (q : List TurnD) : Prop := ∃ v, w.heap[tb]? = some (.cells #[v] 204 (0, 0)) ∧ w.ownsRow (tb + 1) 258 3 v q.length (turnC q)
theorem ownsRow_below {w w' : World} {B e s n : Nat} {v : Value} {xs : List Value} (h : w.ownsRow B e s v n xs) (hb : Below w.heap.size w w') : w'.ownsRow B e s v n xs := by
  refine ⟨h.1, ?_⟩
  rcases h.2 with hn | ⟨g, cap, cur, hv, hB, hg, rest⟩
  · exact .inl hn
  · exact .inr ⟨g, cap, cur, hv, hB, (hb.block _ (lt_of_blk hg)).trans hg, rest⟩
theorem TQ.below {w w' : World} {tb : Nat} {q : List TurnD} (h : TQ w tb q) (hb : Below w.heap.size w w') : TQ w' tb q := by
  obtain ⟨v, h1, h2⟩ := h
  exact ⟨v, (hb.block _ (lt_of_blk h1)).trans h1, ownsRow_below h2 hb⟩
theorem TQ.drew {w : World} {tb : Nat} {q : List TurnD} (h : TQ w tb q) : TQ w.drew tb q := h
theorem TQ.mk {w : World} {tb g cap : Nat} {q : List TurnD} (h : w.heap[tb]? = some (.cells #[.slice (some ⟨g, 0, none⟩) q.length cap] 204 (0, 0))) (hq : TRow w (tb + 1) g cap q) : TQ w tb q := ⟨_, h, hq⟩
/- what the heap's methods leave as it was: all but the list's own block, its row and what is new -/
def rowOf (w : World) (tb : Nat) : Option Nat :=
  match w.heap[tb]? with
  | some (.cells c _ _) => (c.getD 0 (.int .i64 0)).ownBlock
  | _ => none
structure KF (tb : Nat) (w w' : World) : Prop where
  bel : Below tb w w'
  far : ∀ k, k < w.heap.size → k ≠ tb → rowOf w tb ≠ some k → w'.heap[k]? = w.heap[k]? ∧ rowOf w' tb ≠ some k
theorem KF.refl (tb : Nat) (w : World) : KF tb w w := ⟨Below.refl _ _, fun _ _ _ h => ⟨rfl, h⟩⟩
theorem KF.trans {tb : Nat} {a b c : World} (h : KF tb a b) (h' : KF tb b c) : KF tb a c :=
  ⟨h.bel.trans h'.bel, fun k hk hne hr => by
    obtain ⟨h1, h2⟩ := h.far k hk hne hr
    obtain ⟨h3, h4⟩ := h'.far k (Nat.lt_of_lt_of_le hk h.bel.size) hne h2
    exact ⟨h3.trans h1, h4⟩⟩
theorem rowOf_same {w w' : World} {tb : Nat} (h : w'.heap[tb]? = w.heap[tb]?) : rowOf w' tb = rowOf w tb := by unfold rowOf; rw [h]
theorem KF.all {tb : Nat} {w w' : World} (h : Below w.heap.size w w') (ht : tb < w.heap.size) : KF tb w w' :=
  ⟨h.mono (Nat.le_of_lt ht), fun k hk _ hr => ⟨h.block k hk, by rw [rowOf_same (h.block tb ht)]; exact hr⟩⟩
theorem rowOf_at {w : World} {tb : Nat} {v : Value} (h : w.heap[tb]? = some (.cells #[v] 204 (0, 0))) : rowOf w tb = v.ownBlock := by unfold rowOf; rw [h]; rfl
theorem KF.drew {tb : Nat} {a b : World} (h : KF tb a b) : KF tb a b.drew := ⟨h.bel.drew, h.far⟩
/- a cell of the row is set -/
theorem KF.row {tb g : Nat} {w : World} (ht : tb < g) (hr : rowOf w tb = some g) (k : Nat) (u : Value) : KF tb w (w.setCell ⟨g, k, none⟩ u) ∧ rowOf (w.setCell ⟨g, k, none⟩ u) tb = some g := by
  have e : rowOf (w.setCell ⟨g, k, none⟩ u) tb = rowOf w tb := rowOf_same (Below.heap_setCell _ _ _ _ (show tb ≠ g by omega))
  refine ⟨⟨(Below.refl _ _).setCell (show tb ≤ g by omega) _, fun j _ _ hj => ⟨Below.heap_setCell _ _ _ _ (fun ej => hj (by rw [hr, show j = g from ej])), by rw [e]; exact hj⟩⟩, by rw [e]; exact hr⟩
theorem TQ.form {w : World} {tb : Nat} {q : List TurnD} (h : TQ w tb q) : (q = [] ∧ w.heap[tb]? = some (.cells #[.slice none 0 0] 204 (0, 0))) ∨ ∃ g cap, w.heap[tb]? = some (.cells #[.slice (some ⟨g, 0, none⟩) q.length cap] 204 (0, 0)) ∧ tb + 1 ≤ g ∧ q.length ≤ cap ∧ TRow w (tb + 1) g cap q := by
  obtain ⟨v, h1, h2⟩ := h
  rcases h2.2 with ⟨rfl, h0⟩ | ⟨g, cap, cur, rfl, hB, hg, hle, rest⟩
  · exact .inl ⟨List.eq_nil_of_length_eq_zero h0, h1⟩
  · exact .inr ⟨g, cap, h1, hB, hle, h2⟩
theorem TQ.ne {w : World} {tb : Nat} {q : List TurnD} (h : TQ w tb q) (hq : 0 < q.length) : ∃ g cap, w.heap[tb]? = some (.cells #[.slice (some ⟨g, 0, none⟩) q.length cap] 204 (0, 0)) ∧ tb + 1 ≤ g ∧ q.length ≤ cap ∧ TRow w (tb + 1) g cap q := by
  rcases h.form with ⟨rfl, _⟩ | h
  · simp at hq
  · exact h
theorem turnC_set (q : List TurnD) (i : Nat) (hi : i < q.length) (x : TurnD) : turnC (q.set i x) = (((turnC q).set (i * 3) (.int .i64 x.place)).set (i * 3 + 1) (.int .i64 x.fin)).set (i * 3 + 2) (.int .i64 x.left) := by
  induction q generalizing i with
  | nil => simp at hi
  | cons y q ih =>
    cases i with
    | zero => rfl
    | succ i =>
      have h := ih i (by simpa using hi)
      show turnC1 y ++ turnC (q.set i x) = _
      rw [h, show (i + 1) * 3 = i * 3 + 3 by omega]
      rfl
theorem TQ.put {w : World} {tb g cap : Nat} {q : List TurnD} (hg : tb + 1 ≤ g) (h0 : w.heap[tb]? = some (.cells #[.slice (some ⟨g, 0, none⟩) q.length cap] 204 (0, 0))) (hq : TRow w (tb + 1) g cap q) (i : Nat) (hi : i < q.length) (x : TurnD) :
    (((w.setCell ⟨g, i * 3, none⟩ (.int .i64 x.place)).setCell ⟨g, i * 3 + 1, none⟩ (.int .i64 x.fin)).setCell ⟨g, i * 3 + 2, none⟩ (.int .i64 x.left)).heap[tb]? = some (.cells #[.slice (some ⟨g, 0, none⟩) (q.set i x).length cap] 204 (0, 0)) ∧
    TRow (((w.setCell ⟨g, i * 3, none⟩ (.int .i64 x.place)).setCell ⟨g, i * 3 + 1, none⟩ (.int .i64 x.fin)).setCell ⟨g, i * 3 + 2, none⟩ (.int .i64 x.left)) (tb + 1) g cap (q.set i x) ∧
    KF tb w (((w.setCell ⟨g, i * 3, none⟩ (.int .i64 x.place)).setCell ⟨g, i * 3 + 1, none⟩ (.int .i64 x.fin)).setCell ⟨g, i * 3 + 2, none⟩ (.int .i64 x.left)) := by
  refine ⟨?_, ?_, ?_⟩
  · rw [Below.heap_setCell _ _ _ _ (show tb ≠ g by omega), Below.heap_setCell _ _ _ _ (show tb ≠ g by omega), Below.heap_setCell _ _ _ _ (show tb ≠ g by omega), List.length_set]
    exact h0
  · unfold TRow
    rw [turnC_set q i hi, List.length_set]
    exact (World.ownsRow.stored (World.ownsRow.stored (World.ownsRow.stored hq _ _).1 _ _).1 _ _).1
  · have r0 : rowOf w tb = some g := rowOf_at h0
    obtain ⟨k1, r1⟩ := KF.row (show tb < g by omega) r0 (i * 3) (.int .i64 x.place)
    obtain ⟨k2, r2⟩ := KF.row (show tb < g by omega) r1 (i * 3 + 1) (.int .i64 x.fin)
    exact (k1.trans k2).trans (KF.row (show tb < g by omega) r2 (i * 3 + 2) (.int .i64 x.left)).1
theorem TQ.swapped {w : World} {tb g cap : Nat} {q : List TurnD} (hg : tb + 1 ≤ g) (h0 : w.heap[tb]? = some (.cells #[.slice (some ⟨g, 0, none⟩) q.length cap] 204 (0, 0))) (hq : TRow w (tb + 1) g cap q) (i j : Nat) (hi : i < q.length) (hj : j < q.length) (x y : TurnD) (hx : atQ q i = x) (hy : atQ q j = y) :
    TQ ((((((w.setCell ⟨g, i * 3, none⟩ (.int .i64 y.place)).setCell ⟨g, i * 3 + 1, none⟩ (.int .i64 y.fin)).setCell ⟨g, i * 3 + 2, none⟩ (.int .i64 y.left)).setCell ⟨g, j * 3, none⟩ (.int .i64 x.place)).setCell ⟨g, j * 3 + 1, none⟩ (.int .i64 x.fin)).setCell ⟨g, j * 3 + 2, none⟩ (.int .i64 x.left)).drew tb (swapQ q i j) ∧
    KF tb w ((((((w.setCell ⟨g, i * 3, none⟩ (.int .i64 y.place)).setCell ⟨g, i * 3 + 1, none⟩ (.int .i64 y.fin)).setCell ⟨g, i * 3 + 2, none⟩ (.int .i64 y.left)).setCell ⟨g, j * 3, none⟩ (.int .i64 x.place)).setCell ⟨g, j * 3 + 1, none⟩ (.int .i64 x.fin)).setCell ⟨g, j * 3 + 2, none⟩ (.int .i64 x.left)).drew := by
  obtain ⟨a1, a2, a3⟩ := TQ.put hg h0 hq i hi y
  obtain ⟨b1, b2, b3⟩ := TQ.put hg a1 a2 j (by rw [List.length_set]; exact hj) x
  have e : swapQ q i j = (q.set i y).set j x := by unfold swapQ; rw [hx, hy]
  rw [e]
  exact ⟨TQ.drew (TQ.mk b1 b2), (a3.trans b3).drew⟩
set_option maxRecDepth 100000 in
set_option maxHeartbeats 4000000 in
theorem swap_any (w : World) (tb g cap : Nat) (q : List TurnD) (i j : Nat) (hi : i < q.length) (hj : j < q.length) (hg : tb + 1 ≤ g) (h0 : w.heap[tb]? = some (.cells #[.slice (some ⟨g, 0, none⟩) q.length cap] 204 (0, 0))) (hq : TRow w (tb + 1) g cap q) :
    Calls Tryz.prog 303 #[.slice (some ⟨g, 0, none⟩) q.length cap, .int .i64 i, .int .i64 j] w fun e w' => e = .returned (.tuple #[]) ∧ TQ w' tb (swapQ q i j) ∧ KF tb w w' := by
  obtain ⟨a1, a2, a3⟩ := hq.at i hi
  obtain ⟨b1, b2, b3⟩ := hq.at j hj
  have hi' : (i : Int) < (q.length : Int) := by omega
  have hj' : (j : Int) < (q.length : Int) := by omega
  have fr := fun k => World.ownsRow.frozenAt hq k
  have f1 := fr (i * 3)
  have f2 := fr (i * 3 + 1)
  have f3 := fr (i * 3 + 2)
  have f4 := fr (j * 3)
  have f5 := fr (j * 3 + 1)
  have f6 := fr (j * 3 + 2)
  have HQ : Hid (TRow w (tb + 1) g cap q) := hq
  have H0 : Hid _ := h0
  clear hq h0 fr
  obtain ⟨x, hx⟩ : ∃ x, atQ q i = x := ⟨_, rfl⟩
  obtain ⟨y, hy⟩ : ∃ y, atQ q j = y := ⟨_, rfl⟩
  rw [hx] at a1 a2 a3
  rw [hy] at b1 b2 b3
  have HX : Hid (atQ q i = x) := hx
  have HY : Hid (atQ q j = y) := hy
  clear hx hy
  obtain ⟨n, hn⟩ : ∃ n, q.length = n := ⟨_, rfl⟩
  have HN : Hid (q.length = n) := hn
  rw [hn] at hi' hj' hi hj ⊢
  clear hn
  obtain ⟨xp, xf, xl⟩ := x
  obtain ⟨yp, yf, yl⟩ := y
  simp only [] at a1 a2 a3 b1 b2 b3
  by_cases hij : i = j
  · subst hij
    go_enter Tryz.func303, Tryz.ntmps303
    go_wp2_with fail
    go_region
    go_wp2_with fail
    have hl := HN.out
    subst hl
    obtain ⟨k1, k2⟩ := TQ.swapped hg H0.out HQ.out i i hi hi _ _ HX.out HX.out
    go_end0
    exact ⟨rfl, k1, k2⟩
  · have hji : ¬ j = i := fun e => hij e.symm
    have d1 : ¬ i * 3 = j * 3 := by omega
    have d2 : ¬ i * 3 = j * 3 + 1 := by omega
    have d3 : ¬ i * 3 = j * 3 + 2 := by omega
    have d4 : ¬ i * 3 + 1 = j * 3 := by omega
    have d5 : ¬ i * 3 + 1 = j * 3 + 1 := by omega
    have d6 : ¬ i * 3 + 1 = j * 3 + 2 := by omega
    have d7 : ¬ i * 3 + 2 = j * 3 := by omega
    have d8 : ¬ i * 3 + 2 = j * 3 + 1 := by omega
    have d9 : ¬ i * 3 + 2 = j * 3 + 2 := by omega
    have d1' : ¬ j * 3 = i * 3 := by omega
    have d2' : ¬ j * 3 = i * 3 + 1 := by omega
    have d3' : ¬ j * 3 = i * 3 + 2 := by omega
    have d4' : ¬ j * 3 + 1 = i * 3 := by omega
    have d5' : ¬ j * 3 + 1 = i * 3 + 1 := by omega
    have d6' : ¬ j * 3 + 1 = i * 3 + 2 := by omega
    have d7' : ¬ j * 3 + 2 = i * 3 := by omega
    have d8' : ¬ j * 3 + 2 = i * 3 + 1 := by omega
    have d9' : ¬ j * 3 + 2 = i * 3 + 2 := by omega
    go_enter Tryz.func303, Tryz.ntmps303
    go_wp2_with fail
    go_region
    go_wp2_with fail
    have hl := HN.out
    subst hl
    obtain ⟨k1, k2⟩ := TQ.swapped hg H0.out HQ.out i j hi hj _ _ HX.out HY.out
    go_end0
    exact ⟨rfl, k1, k2⟩
end Go.Proofs.YteioennfpkoagaaGreatDoor.C
namespace Go.Proofs.YteioennfpkoagaaGreatDoor.C
open Go.RowKit
attribute [local go_sem ↓] Go.wp_at_zero Go.wp_at_succ

theorem infoTurn : (Tryz.prog.info? 258).map (fun i => (i.zero, i.size, i.bytes)) = some (some (.agg #[.int .i64 0, .int .i64 0, .int .i64 0]), 3, 24) := by kernel_rfl
theorem turn_parts : ∃ i, Tryz.prog.info? 258 = some i ∧ i.zero = some (.agg #[.int .i64 0, .int .i64 0, .int .i64 0]) ∧ i.size = 3 ∧ i.bytes = 24 := by
  have h := infoTurn
  rcases hi : Tryz.prog.info? 258 with _ | i
  · rw [hi] at h; cases h
  · rw [hi] at h
    simp only [Option.map_some, Option.some.injEq, Prod.mk.injEq] at h
    exact ⟨i, rfl, h.1, h.2.1, h.2.2⟩
theorem assert_turn (a b c : Int) (w : World) : (Instr.typeAssert (.iface 258 (.agg #[.int .i64 a, .int .i64 b, .int .i64 c])) 20 258 false).run Tryz.prog w = .ok (.agg #[.int .i64 a, .int .i64 b, .int .i64 c]) w := by kernel_rfl
theorem TQ.cell {w : World} {tb : Nat} {v : Value} (h : w.heap[tb]? = some (.cells #[v] 204 (0, 0))) : w.cell? ⟨tb, 0, none⟩ = some v ∧ w.frozen? ⟨tb, 0, none⟩ = false := by
  constructor
  · rw [cell_of_blk h]; rfl
  · exact frozen_of_row w tb 0 _ _ h
theorem own_setCell {w : World} {B e s n : Nat} {v : Value} {xs : List Value} (h : w.ownsRow B e s v n xs) {b : Nat} (hb : b < B) (k : Nat) (u : Value) : (w.setCell ⟨b, k, none⟩ u).ownsRow B e s v n xs := by
  refine ⟨h.1, ?_⟩
  rcases h.2 with hn | ⟨g, cap, cur, hv, hB, hg, rest⟩
  · exact .inl hn
  · exact .inr ⟨g, cap, cur, hv, hB, (Below.heap_setCell _ _ _ _ (show g ≠ b by omega)).trans hg, rest⟩
theorem own_pop {w : World} {B e s n g cap : Nat} {xs ys : List Value} (hx : xs.length = n * s) (h : w.ownsRow B e s (.slice (some ⟨g, 0, none⟩) (n + 1) cap) (n + 1) (xs ++ ys)) : w.ownsRow B e s (.slice (some ⟨g, 0, none⟩) n cap) n xs := by
  refine ⟨hx, ?_⟩
  rcases h.2 with ⟨hv, _⟩ | ⟨g', cap', cur, hv, hB, hg, hle, hm, hsz, ht⟩
  · simp at hv
  · simp only [Value.slice.injEq, Option.some.injEq, Addr.mk.injEq, and_true, true_and] at hv
    obtain ⟨rfl, rfl⟩ := hv
    refine .inr ⟨g, cap, cur, rfl, hB, hg, by omega, hm, hsz, ?_⟩
    have h2 := congrArg (List.take (n * s)) ht
    rw [List.take_take, Nat.min_eq_left (Nat.mul_le_mul_right _ (by omega)), ← hx, List.take_left] at h2
    rw [← hx]; exact h2
theorem turnC_snoc (q : List TurnD) (x : TurnD) : turnC (q ++ [x]) = turnC q ++ [.int .i64 x.place, .int .i64 x.fin, .int .i64 x.left] := by simp [turnC, turnC1]
set_option maxRecDepth 100000 in
set_option maxHeartbeats 4000000 in
theorem tlen_any (w : World) (va : Option Addr) (n cap : Nat) :
    Calls Tryz.prog 173 #[.slice va n cap] w fun e w' => e = .returned (.int .i64 n) ∧ w' = w := by
  go_enter Tryz.func173, Tryz.ntmps173
  go_wp2_with fail
  go_ret
  exact ⟨rfl, rfl⟩
set_option maxRecDepth 100000 in
set_option maxHeartbeats 4000000 in
theorem tpush_any (w : World) (tb : Nat) (q : List TurnD) (x : TurnD) (hq : TQ w tb q) (hn : q.length ≤ 100000) :
    Calls Tryz.prog 309 #[.pointer (some ⟨tb, 0, none⟩), .iface 258 (.agg #[.int .i64 x.place, .int .i64 x.fin, .int .i64 x.left])] w fun e w' => e = .returned (.tuple #[]) ∧ TQ w' tb (q ++ [x]) ∧ KF tb w w' := by
  obtain ⟨v, h0, hown⟩ := hq
  obtain ⟨c0, f0⟩ := TQ.cell h0
  have hlt := lt_of_blk h0
  obtain ⟨i0, hi0, hz0, hz1, hz2⟩ := turn_parts
  have ta := assert_turn x.place x.fin x.left
  go_enter Tryz.func309, Tryz.ntmps309
  go_wp2_with fail
  go_region_law (first
    | (refine step_append_lies _ (by rfl) _ _ _ (by rfl) (tb + 1) 258 i0 _ 3 24 Tryz.underlying204 hi0 hz0 hz1 hz2 rfl (by omega) v q.length (turnC q) (by rfl) (hown.alloc _) ⟨w.heap.size, 0, none⟩ 1 1 [.int .i64 x.place, .int .i64 x.fin, .int .i64 x.left] (by rfl) (by rfl) (World.news_of_block (cs := #[.int .i64 x.place, .int .i64 x.fin, .int .i64 x.left]) (t := 258) (fr := (0, 0)) (heap_new w _)) (by simp [Value.oneCell']) (by omega) (by unfold maxLen; omega) (by omega) (by simp; omega) (w.heap.size + 1) (by simp) ?_; intro g9 c9 V9 hown3 hgrow hat9 hlt9
       have t9 : V9.heap[tb]? = some (.cells #[v] 204 (0, 0)) := (hgrow.block _ (by simp; omega) (fun e => absurd (hown.lt tb e.symm).1 (by omega))).trans (heap_old _ _ h0)
       obtain ⟨c9', f9⟩ := TQ.cell t9))
  all_goals
    go_wp2_with fail
    have bl : Below tb w V9 := (((Below.refl _ _).alloc (by omega) _).drew).grown hgrow (by simp; omega) (fun k hk => by have := (hown.lt k hk).1; omega)
    have hg9 := (hown3.lt g9 rfl).1
    go_end0
    refine ⟨rfl, TQ.mk (g := g9) (cap := c9) ?_ ?_, ⟨bl.setCell (Nat.le_refl _) _, fun k hk hne hrk => ?_⟩⟩
    · rw [List.length_append]
      exact heap_setCell_same V9 tb 0 #[v] _ _ t9
    · unfold TRow
      rw [turnC_snoc, List.length_append]
      exact own_setCell hown3 (Nat.lt_succ_self _) _ _
    · have hrk' : v.ownBlock ≠ some k := by rw [← rowOf_at h0]; exact hrk
      refine ⟨(Below.heap_setCell _ _ _ _ (show k ≠ tb from hne)).trans ((hgrow.block _ (by simp; omega) (fun e => hrk' e.symm)).trans (Below.heap_alloc _ _ _ hk)), ?_⟩
      have t10 := heap_setCell_same V9 tb 0 #[v] _ (Value.slice (some ⟨g9, 0, none⟩) (q.length + 1) c9) t9
      rw [rowOf_at (v := .slice (some ⟨g9, 0, none⟩) (q.length + 1) c9) t10]
      intro e
      have e9 : g9 = k := by simpa [Value.ownBlock] using e
      rcases hat9 with h9 | h9
      · exact hrk' (by rw [h9, e9])
      · omega
set_option maxRecDepth 100000 in
set_option maxHeartbeats 4000000 in
theorem tpop_any (w : World) (tb : Nat) (q : List TurnD) (x : TurnD) (hq : TQ w tb (q ++ [x])) (hn : q.length ≤ 100000) :
    Calls Tryz.prog 308 #[.pointer (some ⟨tb, 0, none⟩)] w fun e w' => e = .returned (.iface 258 (.agg #[.int .i64 x.place, .int .i64 x.fin, .int .i64 x.left])) ∧ TQ w' tb q ∧ KF tb w w' := by
  obtain ⟨g, cap, h0, hg, hcap, hr⟩ := TQ.ne hq (by simp)
  have e1 : atQ (q ++ [x]) q.length = x := by simp [atQ, List.getD]
  obtain ⟨a1, a2, a3⟩ := hr.at q.length (by simp)
  rw [e1] at a1 a2 a3
  have hlen : (q ++ [x]).length = q.length + 1 := by simp
  rw [hlen] at h0 hcap
  have HR : Hid _ := hr
  clear hr hq e1 hlen
  obtain ⟨c0, f0⟩ := TQ.cell h0
  have hlt := lt_of_blk h0
  obtain ⟨xp, xf, xl⟩ := x
  simp only [] at a1 a2 a3
  obtain ⟨n, hnn⟩ : ∃ n, q.length = n := ⟨_, rfl⟩
  have HN : Hid (q.length = n) := hnn
  rw [hnn] at a1 a2 a3 h0 hcap c0 hn
  clear hnn
  have n1 : ((n + 1 : Nat) : Int) = (n : Int) + 1 := by omega
  have n2 : (n : Int) < (n : Int) + 1 := by omega
  have n3 : (n : Int) ≤ (cap : Int) := by omega
  go_enter Tryz.func308, Tryz.ntmps308
  go_wp2_with fail
  go_ret
  have hl := HN.out
  subst hl
  refine ⟨rfl, ⟨.slice (some ⟨g, 0, none⟩) q.length cap, ?_, ?_⟩, ⟨Below.alloc (B := tb) ((Below.refl tb w).setCell (p := ⟨tb, 0, none⟩) (Nat.le_refl _) _) (by simp; omega) _, fun k hk hne hrk => ?_⟩⟩
  · exact heap_old _ _ (heap_setCell_same w tb 0 _ _ _ h0)
  · have hr := HR.out
    rw [turnC_snoc, List.length_append] at hr
    exact (own_setCell (own_pop (turnC_len q) hr) (Nat.lt_succ_self _) _ _).alloc _
  · refine ⟨(Below.heap_alloc _ _ _ (by simpa using hk)).trans (Below.heap_setCell _ _ _ _ (show k ≠ tb from hne)), ?_⟩
    have t10 := heap_setCell_same w tb 0 _ _ (Value.slice (some ⟨g, 0, none⟩) q.length cap) h0
    rw [rowOf_same (Below.heap_alloc _ _ _ (by simpa using hlt)), rowOf_at (v := .slice (some ⟨g, 0, none⟩) q.length cap) t10]
    rw [rowOf_at h0] at hrk
    exact hrk
end Go.Proofs.YteioennfpkoagaaGreatDoor.C
namespace Go.Proofs.YteioennfpkoagaaGreatDoor.C
open Go.RowKit
attribute [local go_sem ↓] Go.wp_at_zero Go.wp_at_succ

/- what a new row of so many elements is -/
theorem infoPart : (Tryz.prog.info? 42).map (fun i => (i.zero.isSome, i.size, i.bytes)) = some (true, 5, 64) := by kernel_rfl
theorem infoReg : (Tryz.prog.info? 90).map (fun i => (i.zero.isSome, i.size, i.bytes)) = some (true, 3, 24) := by kernel_rfl
theorem infoChan : (Tryz.prog.info? 92).map (fun i => (i.zero.isSome, i.size, i.bytes)) = some (true, 6, 56) := by kernel_rfl
theorem make_row {t e size bytes : Nat} (ht : Tryz.prog.underlying t = some (.slice e)) (hi : (Tryz.prog.info? e).map (fun i => (i.zero.isSome, i.size, i.bytes)) = some (true, size, bytes)) (hb : bytes ≤ 64) (w : World) (c : Nat) (hc : c ≤ 2000000) :
    ∃ cs : Array Value, cs.size = c * size ∧ (Instr.makeSlice t (.int .i64 (c : Int)) (.int .i64 (c : Int))).run Tryz.prog w = .ok (.slice (some ⟨w.heap.size, 0, none⟩) c c) (w.alloc (.cells cs e)) := by
  obtain ⟨i, hi1, hi2⟩ := Option.map_eq_some_iff.1 hi
  simp only [Prod.mk.injEq] at hi2
  obtain ⟨hz, hs, hby⟩ := hi2
  obtain ⟨z, hz⟩ := Option.isSome_iff_exists.1 hz
  have hbc : i.bytes * c ≤ 64 * 2000000 := Nat.mul_le_mul (by omega) hc
  have hbi : (i.bytes : Int) * (c : Int) ≤ 281474976710656 := by
    have h : ((i.bytes * c : Nat) : Int) ≤ 281474976710656 := by omega
    rwa [Int.natCast_mul] at h
  have hr := run_make (P := Tryz.prog) w t e i z ht hi1 hz .i64 .i64 c c (by omega) (by omega) hbi (by omega)
  simp only [Int.toNat_natCast] at hr
  exact ⟨_, by rw [size_madeCells, hs], hr⟩

/- the caller's own marks -/
def badRC : List Value := [.int .i64 (-1000), .int .i64 3, .int .i64 9]
def badPC : List Value := [.string ⟨#[63, 63]⟩, .int .i64 (-1000), .int .i64 0, .int .i64 0, .slice none 0 0]
def badCC : List Value := [.string ⟨#[63, 63]⟩, .int .i64 (-1000), .int .i64 0, .int .i64 0, .int .i64 0, .int .i64 0]
set_option maxHeartbeats 400000 in
theorem badR_0 (w : World) : Calls Tryz.prog 42 #[.int .i64 0] w fun e w' => e = .returned (.agg #[.int .i64 (-1000), .int .i64 3, .int .i64 9]) ∧ Below w.heap.size w w' := by
  have h : IntKind.i64.wrap (-1000 - 0) = -1000 := by decide
  go_enter Tryz.func42, Tryz.ntmps42
  go_wp2_with fail
  refine bodyPost_ret (v := .agg #[.int .i64 (-1000), .int .i64 3, .int .i64 9]) (by simp [results, Tryz.results42, go_sem]) rfl ⟨rfl, ?_⟩
  exact (Below.refl _ _).alloc (Nat.le_refl _) _
set_option maxHeartbeats 400000 in
theorem badP_0 (w : World) : Calls Tryz.prog 88 #[.int .i64 0] w fun e w' => e = .returned (.agg #[.string ⟨#[63, 63]⟩, .int .i64 (-1000), .int .i64 0, .int .i64 0, .slice none 0 0]) ∧ Below w.heap.size w w' := by
  have h : IntKind.i64.wrap (-1000 - 0) = -1000 := by decide
  go_enter Tryz.func88, Tryz.ntmps88
  go_wp2_with fail
  refine bodyPost_ret (v := .agg #[.string ⟨#[63, 63]⟩, .int .i64 (-1000), .int .i64 0, .int .i64 0, .slice none 0 0]) (by simp [results, Tryz.results88, go_sem]) rfl ⟨rfl, ?_⟩
  exact (Below.refl _ _).alloc (Nat.le_refl _) _
set_option maxHeartbeats 400000 in
theorem badC_0 (w : World) : Calls Tryz.prog 44 #[.int .i64 0] w fun e w' => e = .returned (.agg #[.string ⟨#[63, 63]⟩, .int .i64 (-1000), .int .i64 0, .int .i64 0, .int .i64 0, .int .i64 0]) ∧ Below w.heap.size w w' := by
  have h : IntKind.i64.wrap (-1000 - 0) = -1000 := by decide
  go_enter Tryz.func44, Tryz.ntmps44
  go_wp2_with fail
  refine bodyPost_ret (v := .agg #[.string ⟨#[63, 63]⟩, .int .i64 (-1000), .int .i64 0, .int .i64 0, .int .i64 0, .int .i64 0]) (by simp [results, Tryz.results44, go_sem]) rfl ⟨rfl, ?_⟩
  exact (Below.refl _ _).alloc (Nat.le_refl _) _

/- the rows of a manifest's lists -/
def regC (r : RegD) : List Value := [.int .i64 r.page, .int .i64 r.pages, .int .i64 r.rights]
def regsC (rs : List RegD) : List Value := rs.flatMap regC
def chanC (c : ChanD) : List Value := [.string c.name, .int .i64 c.source, .int .i64 c.target, .int .i64 c.kind, .int .i64 c.size, .int .i64 c.depth]
def chansC (cs : List ChanD) : List Value := cs.flatMap chanC
def partC (x : PartD) (g : Nat) : List Value := [.string x.name, .int .i64 x.period, .int .i64 x.duration, .int .i64 x.action, .slice (some ⟨g, 0, none⟩) x.regs.length (x.regs.length + 8)]
def partsC : List PartD → List Nat → List Value
  | x :: ps, g :: gs => partC x g ++ partsC ps gs
  | _, _ => []
theorem regsC_len (rs : List RegD) : (regsC rs).length = rs.length * 3 := by
  induction rs with
  | nil => rfl
  | cons r rs ih =>
    show (regC r ++ regsC rs).length = _
    rw [List.length_append, ih]; simp [regC]; omega
theorem chansC_len (cs : List ChanD) : (chansC cs).length = cs.length * 6 := by
  induction cs with
  | nil => rfl
  | cons r rs ih =>
    show (chanC r ++ chansC rs).length = _
    rw [List.length_append, ih]; simp [chanC]; omega
theorem regsC_at (rs : List RegD) (i j : Nat) (hi : i < rs.length) (hj : j < 3) : (regsC rs)[i * 3 + j]? = (regC rs[i])[j]? := by
  induction rs generalizing i with
  | nil => simp at hi
  | cons r rs ih =>
    show (regC r ++ regsC rs)[i * 3 + j]? = _
    cases i with
    | zero => rw [List.getElem?_append_left (by simp [regC]; omega)]; simp
    | succ i =>
      rw [List.getElem?_append_right (by simp [regC]; omega)]
      have e : (i + 1) * 3 + j - (regC r).length = i * 3 + j := by simp [regC]; omega
      rw [e, ih i (by simpa using hi)]; simp
theorem chansC_at (rs : List ChanD) (i j : Nat) (hi : i < rs.length) (hj : j < 6) : (chansC rs)[i * 6 + j]? = (chanC rs[i])[j]? := by
  induction rs generalizing i with
  | nil => simp at hi
  | cons r rs ih =>
    show (chanC r ++ chansC rs)[i * 6 + j]? = _
    cases i with
    | zero => rw [List.getElem?_append_left (by simp [chanC]; omega)]; simp
    | succ i =>
      rw [List.getElem?_append_right (by simp [chanC]; omega)]
      have e : (i + 1) * 6 + j - (chanC r).length = i * 6 + j := by simp [chanC]; omega
      rw [e, ih i (by simpa using hi)]; simp
theorem partsC_len (ps : List PartD) (gs : List Nat) (h : gs.length ≤ ps.length) : (partsC ps gs).length = gs.length * 5 := by
  induction ps generalizing gs with
  | nil => have : gs = [] := List.eq_nil_of_length_eq_zero (by simpa using h)
           subst this; rfl
  | cons x ps ih =>
    cases gs with
    | nil => rfl
    | cons g gs => simp only [partsC, List.length_append, List.length_cons, ih gs (by simpa using h)]; simp [partC]; omega
theorem partsC_snoc (ps : List PartD) (gs : List Nat) (g : Nat) (h : gs.length < ps.length) : partsC ps (gs ++ [g]) = partsC ps gs ++ partC ps[gs.length] g := by
  induction ps generalizing gs with
  | nil => simp at h
  | cons x ps ih =>
    cases gs with
    | nil => cases ps <;> simp [partsC]
    | cons g' gs => simp only [List.cons_append, partsC, ih gs (by simpa using h), List.append_assoc]; simp
theorem partsC_at (ps : List PartD) (gs : List Nat) (i j : Nat) (hi : i < gs.length) (hp : gs.length ≤ ps.length) (hj : j < 5) : (partsC ps gs)[i * 5 + j]? = (partC ps[i] gs[i])[j]? := by
  induction ps generalizing gs i with
  | nil => simp at hp; subst hp; simp at hi
  | cons x ps ih =>
    cases gs with
    | nil => simp at hi
    | cons g gs =>
      show (partC x g ++ partsC ps gs)[i * 5 + j]? = _
      cases i with
      | zero => rw [List.getElem?_append_left (by simp [partC]; omega)]; simp
      | succ i =>
        rw [List.getElem?_append_right (by simp [partC]; omega)]
        have e : (i + 1) * 5 + j - (partC x g).length = i * 5 + j := by simp [partC]; omega
        rw [e, ih gs i (by simpa using hi) (by simpa using hp)]; simp
end Go.Proofs.YteioennfpkoagaaGreatDoor.C
