import Derived.Test.YteioennfpkoagaaPlnL
import Derived.Test.YteioennfpkoagaaPlnC
import Derived.BigRegion
import Derived.BigQuiet
import Derived.Deep.QuietTactic
import Derived.Deep.AppendLies
import Derived.Laws.OwnMore
namespace Go.Proofs.Yteioennfpkoagaa.C
open Go.RowKit
attribute [local go_sem ↓] Go.wp_at_zero Go.wp_at_succ

/- the heap's list in memory -/
def turnC1 (x : TurnD) : List Value := [.int .i64 x.place, .int .i64 x.fin, .int .i64 x.left]
def turnC (q : List TurnD) : List Value := q.flatMap turnC1
theorem turnC_len (q : List TurnD) : (turnC q).length = q.length * 3 := by
  induction q with
  | nil => rfl
  | cons x q ih => simp only [turnC, List.flatMap_cons, List.length_append, List.length_cons] at *; rw [ih]; simp [turnC1]; omega
theorem turnC_at (q : List TurnD) (i : Nat) (hi : i < q.length) : (turnC q)[i * 3]? = some (.int .i64 (atQ q i).place) ∧ (turnC q)[i * 3 + 1]? = some (.int .i64 (atQ q i).fin) ∧ (turnC q)[i * 3 + 2]? = some (.int .i64 (atQ q i).left) := by
  induction q generalizing i with
  | nil => simp at hi
  | cons x q ih =>
    cases i with
    | zero => simp [turnC, turnC1, atQ]
    | succ i =>
      have h := ih i (by simpa using hi)
      have e : ∀ k, (turnC (x :: q))[(i + 1) * 3 + k]? = (turnC q)[i * 3 + k]? := fun k => by
        show (turnC1 x ++ turnC q)[(i + 1) * 3 + k]? = _
        rw [List.getElem?_append_right (by simp [turnC1]; omega)]
        congr 1
        simp [turnC1]; omega
      have ea : atQ (x :: q) (i + 1) = atQ q i := by simp [atQ]
      rw [ea]
      exact ⟨(e 0).trans h.1, (e 1).trans h.2.1, (e 2).trans h.2.2⟩
def TRow (w : World) (B g cap : Nat) (q : List TurnD) : Prop := w.ownsRow B 87 3 (.slice (some ⟨g, 0, none⟩) q.length cap) q.length (turnC q)
theorem TRow.at {w : World} {B g cap : Nat} {q : List TurnD} (h : TRow w B g cap q) (i : Nat) (hi : i < q.length) : w.cell? ⟨g, i * 3, none⟩ = some (.int .i64 (atQ q i).place) ∧ w.cell? ⟨g, i * 3 + 1, none⟩ = some (.int .i64 (atQ q i).fin) ∧ w.cell? ⟨g, i * 3 + 2, none⟩ = some (.int .i64 (atQ q i).left) := by
  obtain ⟨h1, h2, h3⟩ := turnC_at q i hi
  exact ⟨(World.ownsRow.cellAt h _ (by omega)).trans h1, (World.ownsRow.cellAt h _ (by omega)).trans h2, (World.ownsRow.cellAt h _ (by omega)).trans h3⟩
set_option maxRecDepth 100000 in
set_option maxHeartbeats 4000000 in
theorem less_any (w : World) (B g cap : Nat) (q : List TurnD) (i j : Nat) (hi : i < q.length) (hj : j < q.length) (hq : TRow w B g cap q) :
    Calls Try.prog 91 #[.slice (some ⟨g, 0, none⟩) q.length cap, .int .i64 i, .int .i64 j] w fun e w' => e = .returned (.bool (lessB (atQ q i) (atQ q j))) ∧ Below w.heap.size w w' := by
  obtain ⟨a1, a2, a3⟩ := hq.at i hi
  obtain ⟨b1, b2, b3⟩ := hq.at j hj
  have hi' : (i : Int) < (q.length : Int) := by omega
  have hj' : (j : Int) < (q.length : Int) := by omega
  unfold lessB
  generalize atQ q i = x at *
  generalize atQ q j = y at *
  obtain ⟨xp, xf, xl⟩ := x
  obtain ⟨yp, yf, yl⟩ := y
  simp only [] at a1 a2 a3 b1 b2 b3
  clear hq
  generalize q.length = n at *
  by_cases he : xf = yf
  · subst he
    go_enter Try.func91, Try.ntmps91
    go_wp2_with fail
    go_quiet (fail)
    go_wp2_with fail
    go_quiet (fail)
    go_wp2_with fail
    go_ret
    exact ⟨rfl, below_drewN (Below.refl _ _) _⟩
  · go_enter Try.func91, Try.ntmps91
    go_wp2_with fail
    go_quiet (fail)
    go_wp2_with fail
    go_quiet (fail)
    go_wp2_with fail
    go_ret
    exact ⟨rfl, below_drewN (Below.refl _ _) _⟩
/- the heap's list behind its pointer -/
def TQ (w : World) (tb : Nat) (q : List TurnD) : Prop := ∃ v, w.heap[tb]? = some (.cells #[v] 72 (0, 0)) ∧ w.ownsRow (tb + 1) 87 3 v q.length (turnC q)
theorem ownsRow_below {w w' : World} {B e s n : Nat} {v : Value} {xs : List Value} (h : w.ownsRow B e s v n xs) (hb : Below w.heap.size w w') : w'.ownsRow B e s v n xs := by
  refine ⟨h.1, ?_⟩
  rcases h.2 with hn | ⟨g, cap, cur, hv, hB, hg, rest⟩
  · exact .inl hn
  · exact .inr ⟨g, cap, cur, hv, hB, (hb.block _ (lt_of_blk hg)).trans hg, rest⟩
theorem TQ.below {w w' : World} {tb : Nat} {q : List TurnD} (h : TQ w tb q) (hb : Below w.heap.size w w') : TQ w' tb q := by
  obtain ⟨v, h1, h2⟩ := h
  exact ⟨v, (hb.block _ (lt_of_blk h1)).trans h1, ownsRow_below h2 hb⟩
theorem TQ.drew {w : World} {tb : Nat} {q : List TurnD} (h : TQ w tb q) : TQ w.drew tb q := h
theorem TQ.mk {w : World} {tb g cap : Nat} {q : List TurnD} (h : w.heap[tb]? = some (.cells #[.slice (some ⟨g, 0, none⟩) q.length cap] 72 (0, 0))) (hq : TRow w (tb + 1) g cap q) : TQ w tb q := ⟨_, h, hq⟩
/- what the heap's methods leave as it was: all but the list's own block, its row and what is new -/
def rowOf (w : World) (tb : Nat) : Option Nat :=
  match w.heap[tb]? with
  | some (.cells c _ _) => (c.getD 0 (.int .i64 0)).ownBlock
  | _ => none
structure KF (tb : Nat) (w w' : World) : Prop where
  bel : Below tb w w'
  far : ∀ k, k < w.heap.size → k ≠ tb → rowOf w tb ≠ some k → w'.heap[k]? = w.heap[k]? ∧ rowOf w' tb ≠ some k
theorem KF.refl (tb : Nat) (w : World) : KF tb w w := ⟨Below.refl _ _, fun _ _ _ h => ⟨rfl, h⟩⟩
theorem KF.trans {tb : Nat} {a b c : World} (h : KF tb a b) (h' : KF tb b c) : KF tb a c :=
  ⟨h.bel.trans h'.bel, fun k hk hne hr => by
    obtain ⟨h1, h2⟩ := h.far k hk hne hr
    obtain ⟨h3, h4⟩ := h'.far k (Nat.lt_of_lt_of_le hk h.bel.size) hne h2
    exact ⟨h3.trans h1, h4⟩⟩
theorem rowOf_same {w w' : World} {tb : Nat} (h : w'.heap[tb]? = w.heap[tb]?) : rowOf w' tb = rowOf w tb := by unfold rowOf; rw [h]
theorem KF.all {tb : Nat} {w w' : World} (h : Below w.heap.size w w') (ht : tb < w.heap.size) : KF tb w w' :=
  ⟨h.mono (Nat.le_of_lt ht), fun k hk _ hr => ⟨h.block k hk, by rw [rowOf_same (h.block tb ht)]; exact hr⟩⟩
theorem rowOf_at {w : World} {tb : Nat} {v : Value} (h : w.heap[tb]? = some (.cells #[v] 72 (0, 0))) : rowOf w tb = v.ownBlock := by unfold rowOf; rw [h]; rfl
theorem KF.drew {tb : Nat} {a b : World} (h : KF tb a b) : KF tb a b.drew := ⟨h.bel.drew, h.far⟩
/- a cell of the row is set -/
theorem KF.row {tb g : Nat} {w : World} (ht : tb < g) (hr : rowOf w tb = some g) (k : Nat) (u : Value) : KF tb w (w.setCell ⟨g, k, none⟩ u) ∧ rowOf (w.setCell ⟨g, k, none⟩ u) tb = some g := by
  have e : rowOf (w.setCell ⟨g, k, none⟩ u) tb = rowOf w tb := rowOf_same (Below.heap_setCell _ _ _ _ (show tb ≠ g by omega))
  refine ⟨⟨(Below.refl _ _).setCell (show tb ≤ g by omega) _, fun j _ _ hj => ⟨Below.heap_setCell _ _ _ _ (fun ej => hj (by rw [hr, show j = g from ej])), by rw [e]; exact hj⟩⟩, by rw [e]; exact hr⟩
theorem TQ.form {w : World} {tb : Nat} {q : List TurnD} (h : TQ w tb q) : (q = [] ∧ w.heap[tb]? = some (.cells #[.slice none 0 0] 72 (0, 0))) ∨ ∃ g cap, w.heap[tb]? = some (.cells #[.slice (some ⟨g, 0, none⟩) q.length cap] 72 (0, 0)) ∧ tb + 1 ≤ g ∧ q.length ≤ cap ∧ TRow w (tb + 1) g cap q := by
  obtain ⟨v, h1, h2⟩ := h
  rcases h2.2 with ⟨rfl, h0⟩ | ⟨g, cap, cur, rfl, hB, hg, hle, rest⟩
  · exact .inl ⟨List.eq_nil_of_length_eq_zero h0, h1⟩
  · exact .inr ⟨g, cap, h1, hB, hle, h2⟩
theorem TQ.ne {w : World} {tb : Nat} {q : List TurnD} (h : TQ w tb q) (hq : 0 < q.length) : ∃ g cap, w.heap[tb]? = some (.cells #[.slice (some ⟨g, 0, none⟩) q.length cap] 72 (0, 0)) ∧ tb + 1 ≤ g ∧ q.length ≤ cap ∧ TRow w (tb + 1) g cap q := by
  rcases h.form with ⟨rfl, _⟩ | h
  · simp at hq
  · exact h
theorem turnC_set (q : List TurnD) (i : Nat) (hi : i < q.length) (x : TurnD) : turnC (q.set i x) = (((turnC q).set (i * 3) (.int .i64 x.place)).set (i * 3 + 1) (.int .i64 x.fin)).set (i * 3 + 2) (.int .i64 x.left) := by
  induction q generalizing i with
  | nil => simp at hi
  | cons y q ih =>
    cases i with
    | zero => rfl
    | succ i =>
      have h := ih i (by simpa using hi)
      show turnC1 y ++ turnC (q.set i x) = _
      rw [h, show (i + 1) * 3 = i * 3 + 3 by omega]
      rfl
theorem TQ.put {w : World} {tb g cap : Nat} {q : List TurnD} (hg : tb + 1 ≤ g) (h0 : w.heap[tb]? = some (.cells #[.slice (some ⟨g, 0, none⟩) q.length cap] 72 (0, 0))) (hq : TRow w (tb + 1) g cap q) (i : Nat) (hi : i < q.length) (x : TurnD) :
    (((w.setCell ⟨g, i * 3, none⟩ (.int .i64 x.place)).setCell ⟨g, i * 3 + 1, none⟩ (.int .i64 x.fin)).setCell ⟨g, i * 3 + 2, none⟩ (.int .i64 x.left)).heap[tb]? = some (.cells #[.slice (some ⟨g, 0, none⟩) (q.set i x).length cap] 72 (0, 0)) ∧
    TRow (((w.setCell ⟨g, i * 3, none⟩ (.int .i64 x.place)).setCell ⟨g, i * 3 + 1, none⟩ (.int .i64 x.fin)).setCell ⟨g, i * 3 + 2, none⟩ (.int .i64 x.left)) (tb + 1) g cap (q.set i x) ∧
    KF tb w (((w.setCell ⟨g, i * 3, none⟩ (.int .i64 x.place)).setCell ⟨g, i * 3 + 1, none⟩ (.int .i64 x.fin)).setCell ⟨g, i * 3 + 2, none⟩ (.int .i64 x.left)) := by
  refine ⟨?_, ?_, ?_⟩
  · rw [Below.heap_setCell _ _ _ _ (show tb ≠ g by omega), Below.heap_setCell _ _ _ _ (show tb ≠ g by omega), Below.heap_setCell _ _ _ _ (show tb ≠ g by omega), List.length_set]
    exact h0
  · unfold TRow
    rw [turnC_set q i hi, List.length_set]
    exact (World.ownsRow.stored (World.ownsRow.stored (World.ownsRow.stored hq _ _).1 _ _).1 _ _).1
  · have r0 : rowOf w tb = some g := rowOf_at h0
    obtain ⟨k1, r1⟩ := KF.row (show tb < g by omega) r0 (i * 3) (.int .i64 x.place)
    obtain ⟨k2, r2⟩ := KF.row (show tb < g by omega) r1 (i * 3 + 1) (.int .i64 x.fin)
    exact (k1.trans k2).trans (KF.row (show tb < g by omega) r2 (i * 3 + 2) (.int .i64 x.left)).1
theorem TQ.swapped {w : World} {tb g cap : Nat} {q : List TurnD} (hg : tb + 1 ≤ g) (h0 : w.heap[tb]? = some (.cells #[.slice (some ⟨g, 0, none⟩) q.length cap] 72 (0, 0))) (hq : TRow w (tb + 1) g cap q) (i j : Nat) (hi : i < q.length) (hj : j < q.length) (x y : TurnD) (hx : atQ q i = x) (hy : atQ q j = y) :
    TQ ((((((w.setCell ⟨g, i * 3, none⟩ (.int .i64 y.place)).setCell ⟨g, i * 3 + 1, none⟩ (.int .i64 y.fin)).setCell ⟨g, i * 3 + 2, none⟩ (.int .i64 y.left)).setCell ⟨g, j * 3, none⟩ (.int .i64 x.place)).setCell ⟨g, j * 3 + 1, none⟩ (.int .i64 x.fin)).setCell ⟨g, j * 3 + 2, none⟩ (.int .i64 x.left)).drew tb (swapQ q i j) ∧
    KF tb w ((((((w.setCell ⟨g, i * 3, none⟩ (.int .i64 y.place)).setCell ⟨g, i * 3 + 1, none⟩ (.int .i64 y.fin)).setCell ⟨g, i * 3 + 2, none⟩ (.int .i64 y.left)).setCell ⟨g, j * 3, none⟩ (.int .i64 x.place)).setCell ⟨g, j * 3 + 1, none⟩ (.int .i64 x.fin)).setCell ⟨g, j * 3 + 2, none⟩ (.int .i64 x.left)).drew := by
  obtain ⟨a1, a2, a3⟩ := TQ.put hg h0 hq i hi y
  obtain ⟨b1, b2, b3⟩ := TQ.put hg a1 a2 j (by rw [List.length_set]; exact hj) x
  have e : swapQ q i j = (q.set i y).set j x := by unfold swapQ; rw [hx, hy]
  rw [e]
  exact ⟨TQ.drew (TQ.mk b1 b2), (a3.trans b3).drew⟩
set_option maxRecDepth 100000 in
set_option maxHeartbeats 4000000 in
theorem swap_any (w : World) (tb g cap : Nat) (q : List TurnD) (i j : Nat) (hi : i < q.length) (hj : j < q.length) (hg : tb + 1 ≤ g) (h0 : w.heap[tb]? = some (.cells #[.slice (some ⟨g, 0, none⟩) q.length cap] 72 (0, 0))) (hq : TRow w (tb + 1) g cap q) :
    Calls Try.prog 92 #[.slice (some ⟨g, 0, none⟩) q.length cap, .int .i64 i, .int .i64 j] w fun e w' => e = .returned (.tuple #[]) ∧ TQ w' tb (swapQ q i j) ∧ KF tb w w' := by
  obtain ⟨a1, a2, a3⟩ := hq.at i hi
  obtain ⟨b1, b2, b3⟩ := hq.at j hj
  have hi' : (i : Int) < (q.length : Int) := by omega
  have hj' : (j : Int) < (q.length : Int) := by omega
  have fr := fun k => World.ownsRow.frozenAt hq k
  have f1 := fr (i * 3)
  have f2 := fr (i * 3 + 1)
  have f3 := fr (i * 3 + 2)
  have f4 := fr (j * 3)
  have f5 := fr (j * 3 + 1)
  have f6 := fr (j * 3 + 2)
  have HQ : Hid (TRow w (tb + 1) g cap q) := hq
  have H0 : Hid _ := h0
  clear hq h0 fr
  obtain ⟨x, hx⟩ : ∃ x, atQ q i = x := ⟨_, rfl⟩
  obtain ⟨y, hy⟩ : ∃ y, atQ q j = y := ⟨_, rfl⟩
  rw [hx] at a1 a2 a3
  rw [hy] at b1 b2 b3
  have HX : Hid (atQ q i = x) := hx
  have HY : Hid (atQ q j = y) := hy
  clear hx hy
  obtain ⟨n, hn⟩ : ∃ n, q.length = n := ⟨_, rfl⟩
  have HN : Hid (q.length = n) := hn
  rw [hn] at hi' hj' hi hj ⊢
  clear hn
  obtain ⟨xp, xf, xl⟩ := x
  obtain ⟨yp, yf, yl⟩ := y
  simp only [] at a1 a2 a3 b1 b2 b3
  by_cases hij : i = j
  · subst hij
    go_enter Try.func92, Try.ntmps92
    go_wp2_with fail
    go_region
    go_wp2_with fail
    have hl := HN.out
    subst hl
    obtain ⟨k1, k2⟩ := TQ.swapped hg H0.out HQ.out i i hi hi _ _ HX.out HX.out
    go_end0
    exact ⟨rfl, k1, k2⟩
  · have hji : ¬ j = i := fun e => hij e.symm
    have d1 : ¬ i * 3 = j * 3 := by omega
    have d2 : ¬ i * 3 = j * 3 + 1 := by omega
    have d3 : ¬ i * 3 = j * 3 + 2 := by omega
    have d4 : ¬ i * 3 + 1 = j * 3 := by omega
    have d5 : ¬ i * 3 + 1 = j * 3 + 1 := by omega
    have d6 : ¬ i * 3 + 1 = j * 3 + 2 := by omega
    have d7 : ¬ i * 3 + 2 = j * 3 := by omega
    have d8 : ¬ i * 3 + 2 = j * 3 + 1 := by omega
    have d9 : ¬ i * 3 + 2 = j * 3 + 2 := by omega
    have d1' : ¬ j * 3 = i * 3 := by omega
    have d2' : ¬ j * 3 = i * 3 + 1 := by omega
    have d3' : ¬ j * 3 = i * 3 + 2 := by omega
    have d4' : ¬ j * 3 + 1 = i * 3 := by omega
    have d5' : ¬ j * 3 + 1 = i * 3 + 1 := by omega
    have d6' : ¬ j * 3 + 1 = i * 3 + 2 := by omega
    have d7' : ¬ j * 3 + 2 = i * 3 := by omega
    have d8' : ¬ j * 3 + 2 = i * 3 + 1 := by omega
    have d9' : ¬ j * 3 + 2 = i * 3 + 2 := by omega
    go_enter Try.func92, Try.ntmps92
    go_wp2_with fail
    go_region
    go_wp2_with fail
    have hl := HN.out
    subst hl
    obtain ⟨k1, k2⟩ := TQ.swapped hg H0.out HQ.out i j hi hj _ _ HX.out HY.out
    go_end0
    exact ⟨rfl, k1, k2⟩
end Go.Proofs.Yteioennfpkoagaa.C
