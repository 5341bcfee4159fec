import Derived.Test.YteioennfpkoagaaCdfA
import Derived.Laws.MakeOwn
namespace Go.Proofs.Yteioennfpkoagaa.C
open Go.RowKit

/- the plan, tick by tick: what each has left to run; who runs -/
def intsC (l : List Int) : List Value := l.map (Value.int .i64)
theorem intsC_len (l : List Int) : (intsC l).length = l.length := by simp [intsC]
theorem intsC_at (l : List Int) (k : Nat) (h : k < l.length) : (intsC l)[k]? = some (.int .i64 (l.getD k 0)) := by
  simp [intsC, List.getElem?_eq_getElem h, List.getD]
theorem intsC_set (l : List Int) (k : Nat) (v : Int) : (intsC l).set k (.int .i64 v) = intsC (l.set k v) := by simp [intsC, List.map_set]
def fresh1 (t : Nat) (x : PartD) (l : Int) : Int := if (t : Int) % x.period = 0 then x.duration else l
def dueF (t : Nat) (x : PartD) : Int := (t : Int) - (t : Int) % x.period + x.period
def refK (t : Nat) (ps : List PartD) (ls : List Int) : Nat → List Int
  | 0 => ls
  | k + 1 => if h : k < ps.length then (refK t ps ls k).set k (fresh1 t ps[k] ((refK t ps ls k).getD k 0)) else refK t ps ls k
def bestK (t : Nat) (ps : List PartD) (ls : List Int) : Nat → Int × Int
  | 0 => (-1, 0)
  | k + 1 => if h : k < ps.length then (if 0 < fresh1 t ps[k] ((refK t ps ls k).getD k 0) ∧ ((bestK t ps ls k).1 < 0 ∨ dueF t ps[k] < (bestK t ps ls k).2) then ((k : Int), dueF t ps[k]) else bestK t ps ls k) else bestK t ps ls k
def planStep (t : Nat) (ps : List PartD) (ls : List Int) : Int × List Int :=
  ((bestK t ps ls ps.length).1, if (bestK t ps ls ps.length).1 < 0 then refK t ps ls ps.length else (refK t ps ls ps.length).set (bestK t ps ls ps.length).1.toNat ((refK t ps ls ps.length).getD (bestK t ps ls ps.length).1.toNat 0 - 1))
def planN (ps : List PartD) : Nat → List Int × List Int
  | 0 => ([], List.replicate ps.length 0)
  | t + 1 => ((planN ps t).1 ++ [(planStep t ps (planN ps t).2).1], (planStep t ps (planN ps t).2).2)
def planF (M : ManD) : List Int := (planN M.parts M.frame.toNat).1

theorem refK_len (t : Nat) (ps : List PartD) (ls : List Int) (k : Nat) : (refK t ps ls k).length = ls.length := by
  induction k with
  | zero => rfl
  | succ k ih =>
    simp only [refK]
    split
    · rw [List.length_set, ih]
    · exact ih
theorem refK_step {t : Nat} {ps : List PartD} {ls : List Int} {k : Nat} (h : k < ps.length) : refK t ps ls (k + 1) = (refK t ps ls k).set k (fresh1 t ps[k] ((refK t ps ls k).getD k 0)) := by
  conv => lhs; unfold refK
  rw [dif_pos h]
theorem bestK_step {t : Nat} {ps : List PartD} {ls : List Int} {k : Nat} (h : k < ps.length) : bestK t ps ls (k + 1) = if 0 < fresh1 t ps[k] ((refK t ps ls k).getD k 0) ∧ ((bestK t ps ls k).1 < 0 ∨ dueF t ps[k] < (bestK t ps ls k).2) then ((k : Int), dueF t ps[k]) else bestK t ps ls k := by
  conv => lhs; unfold bestK
  rw [dif_pos h]
def InB (l : List Int) : Prop := ∀ k, k < l.length → 0 ≤ l.getD k 0 ∧ l.getD k 0 ≤ 240
theorem getD_set (l : List Int) (k j : Nat) (v : Int) (hk : k < l.length) : (l.set k v).getD j 0 = if k = j then v else l.getD j 0 := by
  simp only [List.getD, List.getElem?_set]
  by_cases h : k = j
  · subst h; simp [hk]
  · simp [h]
theorem InB.set {l : List Int} (h : InB l) {k : Nat} {v : Int} (hk : k < l.length) (h0 : 0 ≤ v) (h1 : v ≤ 240) : InB (l.set k v) := by
  intro j hj
  rw [List.length_set] at hj
  rw [getD_set l k j v hk]
  split
  · exact ⟨h0, h1⟩
  · exact h j hj
theorem fresh1_bd {t : Nat} {x : PartD} {l : Int} (h : 0 ≤ l ∧ l ≤ 240) (hd : 0 ≤ x.duration ∧ x.duration ≤ 240) : 0 ≤ fresh1 t x l ∧ fresh1 t x l ≤ 240 := by
  unfold fresh1
  split
  · exact hd
  · exact h
theorem refK_in {t : Nat} {ps : List PartD} {ls : List Int} (hl : ls.length = ps.length) (h : InB ls) (hd : ∀ k (h : k < ps.length), 0 ≤ ps[k].duration ∧ ps[k].duration ≤ 240) (k : Nat) : InB (refK t ps ls k) := by
  induction k with
  | zero => exact h
  | succ k ih =>
    rcases Nat.lt_or_ge k ps.length with hk | hk
    · rw [refK_step hk]
      have hb := fresh1_bd (t := t) (ih k (by rw [refK_len]; omega)) (hd k hk)
      exact ih.set (by rw [refK_len]; omega) hb.1 hb.2
    · conv => arg 1; unfold refK
      rw [dif_neg (by omega)]
      exact ih
theorem bestK_pos {t : Nat} {ps : List PartD} {ls : List Int} (hl : ls.length = ps.length) (k : Nat) (hk : k ≤ ps.length) : ((bestK t ps ls k).1 = -1 ∧ (bestK t ps ls k).2 = 0) ∨ (0 ≤ (bestK t ps ls k).1 ∧ (bestK t ps ls k).1 < k ∧ 0 < (refK t ps ls k).getD (bestK t ps ls k).1.toNat 0) := by
  induction k with
  | zero => exact .inl ⟨rfl, rfl⟩
  | succ k ih =>
    have hk' : k < ps.length := by omega
    have hlen : k < (refK t ps ls k).length := by rw [refK_len]; omega
    rw [bestK_step hk', refK_step hk']
    split
    · rename_i hc
      refine .inr ⟨by simp, by simp; omega, ?_⟩
      simp only [Int.toNat_natCast]
      rw [getD_set _ _ _ _ hlen, if_pos rfl]
      exact hc.1
    · rcases ih (by omega) with h | ⟨h1, h2, h3⟩
      · exact .inl h
      · refine .inr ⟨h1, by omega, ?_⟩
        rw [getD_set _ _ _ _ hlen, if_neg (by omega)]
        exact h3
theorem planStep_len {t : Nat} {ps : List PartD} {ls : List Int} (hl : ls.length = ps.length) : (planStep t ps ls).2.length = ps.length := by
  unfold planStep
  simp only []
  split
  · rw [refK_len, hl]
  · rw [List.length_set, refK_len, hl]
theorem planStep_in {t : Nat} {ps : List PartD} {ls : List Int} (hl : ls.length = ps.length) (h : InB ls) (hd : ∀ k (h : k < ps.length), 0 ≤ ps[k].duration ∧ ps[k].duration ≤ 240) : InB (planStep t ps ls).2 := by
  unfold planStep
  simp only []
  have hr := refK_in (t := t) hl h hd ps.length
  split
  · exact hr
  · rename_i hb
    rcases bestK_pos (t := t) hl ps.length (Nat.le_refl _) with h0 | ⟨h1, h2, h3⟩
    · exact absurd (by omega) hb
    · have hlt : (bestK t ps ls ps.length).1.toNat < (refK t ps ls ps.length).length := by rw [refK_len]; omega
      have := hr _ hlt
      exact hr.set hlt (by omega) (by omega)
theorem planN_len (ps : List PartD) (t : Nat) : (planN ps t).1.length = t ∧ (planN ps t).2.length = ps.length := by
  induction t with
  | zero => simp [planN]
  | succ t ih =>
    refine ⟨?_, ?_⟩
    · show ((planN ps t).1 ++ [_]).length = t + 1
      rw [List.length_append, ih.1]; rfl
    · exact planStep_len ih.2
theorem planN_in (ps : List PartD) (hd : ∀ k (h : k < ps.length), 0 ≤ ps[k].duration ∧ ps[k].duration ≤ 240) (t : Nat) : InB (planN ps t).2 := by
  induction t with
  | zero =>
    intro k hk
    have : (List.replicate ps.length (0 : Int)).getD k 0 = 0 := by
      simp only [List.getD, List.getElem?_replicate]
      split <;> rfl
    show 0 ≤ (List.replicate ps.length (0 : Int)).getD k 0 ∧ (List.replicate ps.length (0 : Int)).getD k 0 ≤ 240
    rw [this]; omega
  | succ t ih => exact planStep_in (planN_len ps t).2 ih hd
theorem made_ints (n : Nat) : madeCells #[Value.int .i64 0] n = (intsC (List.replicate n 0)).toArray := by
  apply Array.ext_getElem?
  intro i
  simp only [madeCells, intsC, List.getElem?_toArray, List.getElem?_map, List.getElem?_replicate, Array.getElem?_map, Array.getElem?_range]
  by_cases h : i < n
  · have e : i % 1 = 0 := Nat.mod_one i
    simp [h, e]
  · simp [h]
end Go.Proofs.Yteioennfpkoagaa.C
