import Derived.Test.YteioennfpkoagaaGreatDoorB02
import Derived.Laws.MakeOwn
namespace Go.Proofs.YteioennfpkoagaaGreatDoor.C
open Go.RowKit

/- the plan, tick by tick: what each has left to run; who runs -/
def intsC (l : List Int) : List Value := l.map (Value.int .i64)
theorem intsC_len (l : List Int) : (intsC l).length = l.length := by simp [intsC]
theorem intsC_at (l : List Int) (k : Nat) (h : k < l.length) : (intsC l)[k]? = some (.int .i64 (l.getD k 0)) := by
  simp [intsC, List.getElem?_eq_getElem h, List.getD]
theorem intsC_set (l : List Int) (k : Nat) (v : Int) : (intsC l).set k (.int .i64 v) = intsC (l.set k v) := by simp [intsC, List.map_set]
def fresh1 (t : Nat) (x : PartD) (l : Int) : Int := if (t : Int) % x.period = 0 then x.duration else l
def dueF (t : Nat) (x : PartD) : Int := (t : Int) - (t : Int) % x.period + x.period
def refK (t : Nat) (ps : List PartD) (ls : List Int) : Nat → List Int
  | 0 => ls
  | k + 1 => if h : k < ps.length then (refK t ps ls k).set k (fresh1 t ps[k] ((refK t ps ls k).getD k 0)) else refK t ps ls k
def bestK (t : Nat) (ps : List PartD) (ls : List Int) : Nat → Int × Int
  | 0 => (-1, 0)
  | k + 1 => if h : k < ps.length then (if 0 < fresh1 t ps[k] ((refK t ps ls k).getD k 0) ∧ ((bestK t ps ls k).1 < 0 ∨ dueF t ps[k] < (bestK t ps ls k).2) then ((k : Int), dueF t ps[k]) else bestK t ps ls k) else bestK t ps ls k
def planStep (t : Nat) (ps : List PartD) (ls : List Int) : Int × List Int :=
  ((bestK t ps ls ps.length).1, if (bestK t ps ls ps.length).1 < 0 then refK t ps ls ps.length else (refK t ps ls ps.length).set (bestK t ps ls ps.length).1.toNat ((refK t ps ls ps.length).getD (bestK t ps ls ps.length).1.toNat 0 - 1))
def planN (ps : List PartD) : Nat → List Int × List Int
  | 0 => ([], List.replicate ps.length 0)
  | t + 1 => ((planN ps t).1 ++ [(planStep t ps (planN ps t).2).1], (planStep t ps (planN ps t).2).2)
def planF (M : ManD) : List Int := (planN M.parts M.frame.toNat).1

theorem refK_len (t : Nat) (ps : List PartD) (ls : List Int) (k : Nat) : (refK t ps ls k).length = ls.length := by
  induction k with
  | zero => rfl
  | succ k ih =>
    simp only [refK]
    split
    · rw [List.length_set, ih]
    · exact ih
theorem refK_step {t : Nat} {ps : List PartD} {ls : List Int} {k : Nat} (h : k < ps.length) : refK t ps ls (k + 1) = (refK t ps ls k).set k (fresh1 t ps[k] ((refK t ps ls k).getD k 0)) := by
  conv => lhs; unfold refK
  rw [dif_pos h]
theorem bestK_step {t : Nat} {ps : List PartD} {ls : List Int} {k : Nat} (h : k < ps.length) : bestK t ps ls (k + 1) = if 0 < fresh1 t ps[k] ((refK t ps ls k).getD k 0) ∧ ((bestK t ps ls k).1 < 0 ∨ dueF t ps[k] < (bestK t ps ls k).2) then ((k : Int), dueF t ps[k]) else bestK t ps ls k := by
  conv => lhs; unfold bestK
  rw [dif_pos h]
def InB (l : List Int) : Prop := ∀ k, k < l.length → 0 ≤ l.getD k 0 ∧ l.getD k 0 ≤ 240
theorem getD_set (l : List Int) (k j : Nat) (v : Int) (hk : k < l.length) : (l.set k v).getD j 0 = if k = j then v else l.getD j 0 := by
  simp only [List.getD, List.getElem?_set]
  by_cases h : k = j
  · subst h; simp [hk]
  · simp [h]
theorem InB.set {l : List Int} (h : InB l) {k : Nat} {v : Int} (hk : k < l.length) (h0 : 0 ≤ v) (h1 : v ≤ 240) : InB (l.set k v) := by
  intro j hj
  rw [List.length_set] at hj
  rw [getD_set l k j v hk]
  split
  · exact ⟨h0, h1⟩
  · exact h j hj
theorem fresh1_bd {t : Nat} {x : PartD} {l : Int} (h : 0 ≤ l ∧ l ≤ 240) (hd : 0 ≤ x.duration ∧ x.duration ≤ 240) : 0 ≤ fresh1 t x l ∧ fresh1 t x l ≤ 240 := by
  unfold fresh1
  split
  · exact hd
  · exact h
theorem refK_in {t : Nat} {ps : List PartD} {ls : List Int} (hl : ls.length = ps.length) (h : InB ls) (hd : ∀ k (h : k < ps.length), 0 ≤ ps[k].duration ∧ ps[k].duration ≤ 240) (k : Nat) : InB (refK t ps ls k) := by
  induction k with
  | zero => exact h
  | succ k ih =>
    rcases Nat.lt_or_ge k ps.length with hk | hk
    · rw [refK_step hk]
      have hb := fresh1_bd (t := t) (ih k (by rw [refK_len]; omega)) (hd k hk)
      exact ih.set (by rw [refK_len]; omega) hb.1 hb.2
    · conv => arg 1; unfold refK
      rw [dif_neg (by omega)]
      exact ih
theorem bestK_pos {t : Nat} {ps : List PartD} {ls : List Int} (hl : ls.length = ps.length) (k : Nat) (hk : k ≤ ps.length) : ((bestK t ps ls k).1 = -1 ∧ (bestK t ps ls k).2 = 0) ∨ (0 ≤ (bestK t ps ls k).1 ∧ (bestK t ps ls k).1 < k ∧ 0 < (refK t ps ls k).getD (bestK t ps ls k).1.toNat 0) := by
  induction k with
  | zero => exact .inl ⟨rfl, rfl⟩
  | succ k ih =>
    have hk' : k < ps.length := by omega
    have hlen : k < (refK t ps ls k).length := by rw [refK_len]; omega
    rw [bestK_step hk', refK_step hk']
    split
    · rename_i hc
      refine .inr ⟨by simp, by simp; omega, ?_⟩
      simp only [Int.toNat_natCast]
      rw [getD_set _ _ _ _ hlen, if_pos rfl]
      exact hc.1
    · rcases ih (by omega) with h | ⟨h1, h2, h3⟩
      · exact .inl h
      · refine .inr ⟨h1, by omega, ?_⟩
        rw [getD_set _ _ _ _ hlen, if_neg (by omega)]
        exact h3
theorem planStep_len {t : Nat} {ps : List PartD} {ls : List Int} (hl : ls.length = ps.length) : (planStep t ps ls).2.length = ps.length := by
  unfold planStep
  simp only []
  split
  · rw [refK_len, hl]
  · rw [List.length_set, refK_len, hl]
theorem planStep_in {t : Nat} {ps : List PartD} {ls : List Int} (hl : ls.length = ps.length) (h : InB ls) (hd : ∀ k (h : k < ps.length), 0 ≤ ps[k].duration ∧ ps[k].duration ≤ 240) : InB (planStep t ps ls).2 := by
  unfold planStep
  simp only []
  have hr := refK_in (t := t) hl h hd ps.length
  split
  · exact hr
  · rename_i hb
    rcases bestK_pos (t := t) hl ps.length (Nat.le_refl _) with h0 | ⟨h1, h2, h3⟩
    · exact absurd (by omega) hb
    · have hlt : (bestK t ps ls ps.length).1.toNat < (refK t ps ls ps.length).length := by rw [refK_len]; omega
      have := hr _ hlt
      exact hr.set hlt (by omega) (by omega)
theorem planN_len (ps : List PartD) (t : Nat) : (planN ps t).1.length = t ∧ (planN ps t).2.length = ps.length := by
  induction t with
  | zero => simp [planN]
  | succ t ih =>
    refine ⟨?_, ?_⟩
    · show ((planN ps t).1 ++ [_]).length = t + 1
      rw [List.length_append, ih.1]; rfl
    · exact planStep_len ih.2
theorem planN_in (ps : List PartD) (hd : ∀ k (h : k < ps.length), 0 ≤ ps[k].duration ∧ ps[k].duration ≤ 240) (t : Nat) : InB (planN ps t).2 := by
  induction t with
  | zero =>
    intro k hk
    have : (List.replicate ps.length (0 : Int)).getD k 0 = 0 := by
      simp only [List.getD, List.getElem?_replicate]
      split <;> rfl
    show 0 ≤ (List.replicate ps.length (0 : Int)).getD k 0 ∧ (List.replicate ps.length (0 : Int)).getD k 0 ≤ 240
    rw [this]; omega
  | succ t ih => exact planStep_in (planN_len ps t).2 ih hd
theorem made_ints (n : Nat) : madeCells #[Value.int .i64 0] n = (intsC (List.replicate n 0)).toArray := by
  apply Array.ext_getElem?
  intro i
  simp only [madeCells, intsC, List.getElem?_toArray, List.getElem?_map, List.getElem?_replicate, Array.getElem?_map, Array.getElem?_range]
  by_cases h : i < n
  · have e : i % 1 = 0 := Nat.mod_one i
    simp [h, e]
  · simp [h]
end Go.Proofs.YteioennfpkoagaaGreatDoor.C
namespace Go.Proofs.YteioennfpkoagaaGreatDoor.C
open Go.RowKit

/- sums by place -/
def sumN (g : Nat → Int) : Nat → Int
  | 0 => 0
  | n + 1 => sumN g n + g n
theorem sumN_le {g h : Nat → Int} {n : Nat} (hl : ∀ j, j < n → g j ≤ h j) : sumN g n ≤ sumN h n := by
  induction n with
  | zero => exact Int.le_refl _
  | succ n ih =>
    have h1 := ih fun j hj => hl j (by omega)
    have h2 := hl n (by omega)
    simp only [sumN]; omega
theorem sumN_congr {g h : Nat → Int} {n : Nat} (hl : ∀ j, j < n → g j = h j) : sumN g n = sumN h n := by
  induction n with
  | zero => rfl
  | succ n ih =>
    have h1 := ih fun j hj => hl j (by omega)
    have h2 := hl n (by omega)
    simp only [sumN]; omega
theorem sumN_mul (c : Int) (g : Nat → Int) (n : Nat) : sumN (fun j => g j * c) n = sumN g n * c := by
  induction n with
  | zero => simp [sumN]
  | succ n ih => simp only [sumN]; rw [ih, Int.add_mul]
theorem sumN_nonneg {g : Nat → Int} {n : Nat} (hl : ∀ j, j < n → 0 ≤ g j) : 0 ≤ sumN g n := by
  induction n with
  | zero => exact Int.le_refl _
  | succ n ih =>
    have h1 := ih fun j hj => hl j (by omega)
    have h2 := hl n (by omega)
    simp only [sumN]; omega
theorem sumN_all_zero {g : Nat → Int} {n : Nat} (hl : ∀ j, j < n → 0 ≤ g j) (h : sumN g n ≤ 0) : ∀ j, j < n → g j = 0 := by
  induction n with
  | zero => intro j hj; omega
  | succ n ih =>
    have h1 := sumN_nonneg (g := g) (n := n) fun j hj => hl j (by omega)
    have h2 := hl n (by omega)
    simp only [sumN] at h
    intro j hj
    rcases Nat.lt_or_ge j n with h3 | h3
    · exact ih (fun j hj => hl j (by omega)) (by omega) j h3
    · have : j = n := by omega
      subst this; omega
/- one of them is less by one -/
theorem sumN_less {g h : Nat → Int} {n b : Nat} (hb : b < n) (ho : ∀ j, j < n → j ≠ b → h j = g j) (he : h b = g b - 1) : sumN h n = sumN g n - 1 := by
  induction n with
  | zero => omega
  | succ n ih =>
    simp only [sumN]
    rcases Nat.lt_or_ge b n with h3 | h3
    · rw [ih h3 fun j hj hn => ho j (by omega) hn, ho n (by omega) (by omega)]; omega
    · have : b = n := by omega
      subst this
      rw [he, sumN_congr (h := g) fun j hj => ho j (by omega) (by omega)]; omega
/- the work that must be done by d, seen at the tick t: of one partition -/
def dueW (P D d c l : Int) : Int := (if c ≤ d / P then l else 0) + D * max 0 (d / P - c)
theorem dueW_nonneg {P D d c l : Int} (hD : 0 ≤ D) (hl : 0 ≤ l) : 0 ≤ dueW P D d c l := by
  unfold dueW
  have := Int.mul_nonneg hD (Int.le_max_left 0 (d / P - c))
  split <;> omega
theorem ceil_dvd {P t : Int} (hP : 1 ≤ P) (ht : t % P = 0) : (t + P - 1) / P = t / P := by
  have h1 := Int.mul_ediv_add_emod t P
  have h2 : t + P - 1 = (P - 1) + P * (t / P) := by omega
  rw [h2, Int.add_mul_ediv_left _ _ (by omega), Int.ediv_eq_zero_of_lt (by omega) (by omega)]; omega
theorem ceil_not {P t : Int} (hP : 1 ≤ P) (ht : t % P ≠ 0) : (t + P - 1) / P = t / P + 1 := by
  have h1 := Int.mul_ediv_add_emod t P
  have h3 := Int.emod_nonneg t (b := P) (by omega)
  have h4 := Int.emod_lt_of_pos t (b := P) (by omega)
  have h2 : t + P - 1 = (t % P - 1) + P * (t / P + 1) := by rw [Int.mul_add]; omega
  rw [h2, Int.add_mul_ediv_left _ _ (by omega), Int.ediv_eq_zero_of_lt (by omega) (by omega)]; omega
theorem ceil_next {P t : Int} (hP : 1 ≤ P) : (t + 1 + P - 1) / P = t / P + 1 := by
  have h2 : t + 1 + P - 1 = t + P * 1 := by omega
  rw [h2, Int.add_mul_ediv_left _ _ (by omega)]
theorem dueW_reset {P D d t l : Int} (hP : 1 ≤ P) (hD : 0 ≤ D) (hl : 0 ≤ l) :
    dueW P D d (t / P + 1) (if t % P = 0 then D else l) ≤ dueW P D d ((t + P - 1) / P) l := by
  by_cases h : t % P = 0
  · rw [if_pos h, ceil_dvd hP h]
    unfold dueW
    generalize d / P = q
    generalize t / P = k
    by_cases hk : k + 1 ≤ q
    · rw [if_pos hk, if_pos (by omega), Int.max_eq_right (by omega), Int.max_eq_right (by omega), show q - k = (q - (k + 1)) + 1 by omega, Int.mul_add]; omega
    · rw [if_neg hk, Int.max_eq_left (show q - (k + 1) ≤ 0 by omega)]
      have := Int.mul_nonneg hD (Int.le_max_left 0 (q - k))
      split <;> omega
  · rw [if_neg h, ceil_not hP h]; exact Int.le_refl _
theorem free_le {P D d t : Int} (hP : 1 ≤ P) (hD : 0 ≤ D) (hd : t + 1 ≤ d) : D * max 0 (d / P - (t / P + 1)) ≤ D * ((d - t - 1) / P) := by
  apply Int.mul_le_mul_of_nonneg_left _ hD
  have h0 : 0 ≤ (d - t - 1) / P := Int.ediv_nonneg (by omega) (by omega)
  have h1 := Int.mul_ediv_add_emod t P
  have h4 := Int.emod_lt_of_pos t (b := P) (by omega)
  have h5 := Int.mul_ediv_add_emod d P
  have h6 := Int.emod_nonneg d (b := P) (by omega)
  have : d / P - (t / P + 1) ≤ (d - t - 1) / P := by
    rw [Int.le_ediv_iff_mul_le (by omega), Int.sub_mul, Int.add_mul, Int.mul_comm (d / P), Int.mul_comm (t / P)]
    omega
  omega
theorem room_le {F x : Int} {P D : Nat → Int} {n : Nat} (hF : 1 ≤ F) (hx : 0 ≤ x) (hP : ∀ j, j < n → 1 ≤ P j ∧ F % P j = 0) (hD : ∀ j, j < n → 0 ≤ D j) (hU : sumN (fun j => F / P j * D j) n ≤ F) : sumN (fun j => D j * (x / P j)) n ≤ x := by
  have h1 : sumN (fun j => D j * (x / P j) * F) n ≤ sumN (fun j => F / P j * D j * x) n := by
    apply sumN_le
    intro j hj
    obtain ⟨h1, h2⟩ := hP j hj
    have h3 := Int.mul_ediv_add_emod F (P j)
    have h4 := Int.mul_ediv_add_emod x (P j)
    have h5 := Int.emod_nonneg x (b := P j) (by omega)
    have h6 : 0 ≤ F / P j * D j := Int.mul_nonneg (Int.ediv_nonneg (by omega) (by omega)) (hD j hj)
    have h7 : D j * (x / P j) * F = F / P j * D j * (P j * (x / P j)) := by
      rw [h2, Int.add_zero] at h3
      conv => lhs; rw [← h3]
      rw [Int.mul_comm (F / P j) (D j), Int.mul_assoc, Int.mul_assoc]
      congr 1
      rw [Int.mul_comm (x / P j), Int.mul_comm (P j) (F / P j), Int.mul_assoc]
    show D j * (x / P j) * F ≤ F / P j * D j * x
    rw [h7]
    exact Int.mul_le_mul_of_nonneg_left (by omega) h6
  rw [sumN_mul, sumN_mul] at h1
  have h2 : sumN (fun j => F / P j * D j) n * x ≤ F * x := Int.mul_le_mul_of_nonneg_right hU hx
  have h3 : sumN (fun j => D j * (x / P j)) n * F ≤ x * F := by rw [Int.mul_comm x F]; omega
  exact Int.le_of_mul_le_mul_right h3 (by omega)
/- one tick: what each has left, l; who runs, b -/
structure Tick (n : Nat) (P D : Nat → Int) (t : Int) (l : Nat → Int) (b : Option Nat) (l' : Nat → Int) : Prop where
  none_ : b = none → ∀ j, j < n → (if t % P j = 0 then D j else l j) ≤ 0 ∧ l' j = (if t % P j = 0 then D j else l j)
  some_ : ∀ c, b = some c → c < n ∧ 0 < (if t % P c = 0 then D c else l c) ∧ l' c = (if t % P c = 0 then D c else l c) - 1 ∧
    (∀ j, j < n → j ≠ c → l' j = (if t % P j = 0 then D j else l j)) ∧
    (∀ j, j < n → 0 < (if t % P j = 0 then D j else l j) → P c * (t / P c + 1) ≤ P j * (t / P j + 1))
/- earliest first: whatever must be done by d, there is time for it -/
theorem edf {F : Int} {n : Nat} {P D : Nat → Int} {L : Nat → Nat → Int} {B : Nat → Option Nat} (hF : 1 ≤ F) (hP : ∀ j, j < n → 1 ≤ P j ∧ F % P j = 0) (hD : ∀ j, j < n → 0 ≤ D j) (hU : sumN (fun j => F / P j * D j) n ≤ F)
    (h0 : ∀ j, j < n → L 0 j = 0) (T : Nat) (hL : ∀ t, t < T → Tick n P D t (L t) (B t) (L (t + 1))) (t : Nat) (ht : t ≤ T) :
    (∀ j, j < n → 0 ≤ L t j) ∧ ∀ d : Int, (t : Int) ≤ d → sumN (fun j => dueW (P j) (D j) d (((t : Int) + P j - 1) / P j) (L t j)) n ≤ d - t := by
  induction t with
  | zero =>
    refine ⟨fun j hj => by rw [h0 j hj]; omega, fun d hd => ?_⟩
    refine Int.le_trans (sumN_le (h := fun j => D j * (d / P j)) fun j hj => ?_) (Int.le_trans (room_le (x := d) hF hd hP hD hU) (by omega))
    obtain ⟨h1, h2⟩ := hP j hj
    rw [h0 j hj, show ((0 : Nat) : Int) + P j - 1 = P j - 1 by omega, Int.ediv_eq_zero_of_lt (by omega) (by omega)]
    unfold dueW
    have h3 : 0 ≤ d / P j := Int.ediv_nonneg (by omega) (by omega)
    rw [if_pos h3, Int.max_eq_right (by omega)]
    simp
  | succ t ih =>
    obtain ⟨ih1, ih2⟩ := ih (by omega)
    have tk := hL t (by omega)
    have hR : ∀ j, j < n → 0 ≤ (if (t : Int) % P j = 0 then D j else L t j) := fun j hj => by
      split
      · exact hD j hj
      · exact ih1 j hj
    have hN : ∀ j, j < n → 0 ≤ L (t + 1) j := fun j hj => by
      rcases hB : B t with _ | c
      · have := tk.none_ hB j hj; have := hR j hj; omega
      · obtain ⟨c1, c2, c3, c4, c5⟩ := tk.some_ c hB
        by_cases e : j = c
        · subst e; omega
        · rw [c4 j hj e]; exact hR j hj
    refine ⟨hN, fun d hd => ?_⟩
    have hmid : sumN (fun j => dueW (P j) (D j) d ((t : Int) / P j + 1) (if (t : Int) % P j = 0 then D j else L t j)) n ≤ d - t :=
      Int.le_trans (sumN_le fun j hj => dueW_reset (hP j hj).1 (hD j hj) (ih1 j hj)) (ih2 d (by omega))
    have hfree : (∀ j, j < n → 0 < (if (t : Int) % P j = 0 then D j else L t j) → d < P j * ((t : Int) / P j + 1)) → (∀ j, j < n → L (t + 1) j ≤ (if (t : Int) % P j = 0 then D j else L t j)) → sumN (fun j => dueW (P j) (D j) d ((((t + 1 : Nat) : Int) + P j - 1) / P j) (L (t + 1) j)) n ≤ d - ((t + 1 : Nat) : Int) := fun hall hle => by
      refine Int.le_trans (sumN_le (h := fun j => D j * ((d - t - 1) / P j)) fun j hj => ?_) (Int.le_trans (room_le (x := d - t - 1) hF (by omega) hP hD hU) (by omega))
      rw [show ((t + 1 : Nat) : Int) + P j - 1 = (t : Int) + 1 + P j - 1 by omega, ceil_next (hP j hj).1]
      unfold dueW
      have hz : (if (t : Int) / P j + 1 ≤ d / P j then L (t + 1) j else 0) = 0 := by
        split
        · rename_i hc
          rw [Int.le_ediv_iff_mul_le (by have := (hP j hj).1; omega), Int.mul_comm] at hc
          have h1 := hN j hj
          have h2 := hle j hj
          by_cases hpos : 0 < (if (t : Int) % P j = 0 then D j else L t j)
          · have := hall j hj hpos; omega
          · omega
        · rfl
      rw [hz, Int.zero_add]
      exact free_le (hP j hj).1 (hD j hj) (by omega)
    rcases hB : B t with _ | c
    · have hx := tk.none_ hB
      exact hfree (fun j hj hp => absurd hp (by have := (hx j hj).1; omega)) (fun j hj => by rw [(hx j hj).2]; exact Int.le_refl _)
    · obtain ⟨c1, c2, c3, c4, c5⟩ := tk.some_ c hB
      have hle : ∀ j, j < n → L (t + 1) j ≤ (if (t : Int) % P j = 0 then D j else L t j) := fun j hj => by
        by_cases e : j = c
        · subst e; omega
        · rw [c4 j hj e]; exact Int.le_refl _
      by_cases hc : P c * ((t : Int) / P c + 1) ≤ d
      · have := sumN_less (g := fun j => dueW (P j) (D j) d ((t : Int) / P j + 1) (if (t : Int) % P j = 0 then D j else L t j)) (h := fun j => dueW (P j) (D j) d ((((t + 1 : Nat) : Int) + P j - 1) / P j) (L (t + 1) j)) c1 (fun j hj hn => by
          rw [show ((t + 1 : Nat) : Int) + P j - 1 = (t : Int) + 1 + P j - 1 by omega, ceil_next (hP j hj).1, c4 j hj hn]) (by
          rw [show ((t + 1 : Nat) : Int) + P c - 1 = (t : Int) + 1 + P c - 1 by omega, ceil_next (hP c c1).1, c3]
          unfold dueW
          have hq : (t : Int) / P c + 1 ≤ d / P c := by
            rw [Int.le_ediv_iff_mul_le (by have := (hP c c1).1; omega), Int.mul_comm]; exact hc
          rw [if_pos hq, if_pos hq]; omega)
        rw [this]; omega
      · exact hfree (fun j hj hp => by have := c5 j hj hp; omega) hle
/- so each has none left at the end of its period -/
theorem edf_done {F : Int} {n : Nat} {P D : Nat → Int} {L : Nat → Nat → Int} {B : Nat → Option Nat} (hF : 1 ≤ F) (hP : ∀ j, j < n → 1 ≤ P j ∧ F % P j = 0) (hD : ∀ j, j < n → 0 ≤ D j) (hU : sumN (fun j => F / P j * D j) n ≤ F)
    (h0 : ∀ j, j < n → L 0 j = 0) (T : Nat) (hL : ∀ t, t < T → Tick n P D t (L t) (B t) (L (t + 1))) (t : Nat) (ht : t ≤ T) (j : Nat) (hj : j < n) : 0 ≤ L t j ∧ ((t : Int) % P j = 0 → L t j = 0) := by
  obtain ⟨h1, h2⟩ := edf hF hP hD hU h0 T hL t ht
  refine ⟨h1 j hj, fun hm => ?_⟩
  have h3 := h2 t (Int.le_refl _)
  have h4 := sumN_all_zero (fun i hi => dueW_nonneg (hD i hi) (h1 i hi)) (Int.le_trans h3 (by omega)) j hj
  rw [ceil_dvd (hP j hj).1 hm] at h4
  unfold dueW at h4
  rw [if_pos (Int.le_refl _), Int.sub_self, Int.max_self] at h4
  simpa using h4

/- the plan's ticks, by place -/
def perF (ps : List PartD) (j : Nat) : Int := if h : j < ps.length then ps[j].period else 1
def durF (ps : List PartD) (j : Nat) : Int := if h : j < ps.length then ps[j].duration else 0
def lefF (ps : List PartD) (t j : Nat) : Int := (planN ps t).2.getD j 0
def nowF (ps : List PartD) (t j : Nat) : Int := if (t : Int) % perF ps j = 0 then durF ps j else lefF ps t j
def endF (ps : List PartD) (t j : Nat) : Int := perF ps j * ((t : Int) / perF ps j + 1)
def tickF (ps : List PartD) (t : Nat) : Int := (planStep t ps (planN ps t).2).1
theorem endF_eq {ps : List PartD} {t j : Nat} (h : j < ps.length) : dueF t ps[j] = endF ps t j := by
  unfold dueF endF perF
  rw [dif_pos h, Int.mul_add, Int.mul_one]
  have := Int.mul_ediv_add_emod (t : Int) ps[j].period
  omega
theorem refK_get {t : Nat} {ps : List PartD} {ls : List Int} (hl : ls.length = ps.length) (k : Nat) (hk : k ≤ ps.length) (j : Nat) (hj : j < ps.length) : (refK t ps ls k).getD j 0 = if j < k then fresh1 t ps[j] (ls.getD j 0) else ls.getD j 0 := by
  induction k with
  | zero => rw [if_neg (by omega)]; rfl
  | succ k ih =>
    rw [refK_step (by omega), getD_set _ _ _ _ (by rw [refK_len]; omega)]
    by_cases e : k = j
    · subst e
      rw [if_pos rfl, if_pos (by omega), ih (by omega), if_neg (by omega)]
    · rw [if_neg e, ih (by omega)]
      by_cases h1 : j < k
      · rw [if_pos h1, if_pos (by omega)]
      · rw [if_neg h1, if_neg (by omega)]
theorem fresh_now {ps : List PartD} {t j : Nat} (h : j < ps.length) : fresh1 t ps[j] ((planN ps t).2.getD j 0) = nowF ps t j := by
  unfold fresh1 nowF perF durF lefF
  rw [dif_pos h, dif_pos h]
theorem bestK_spec {t : Nat} {ps : List PartD} (k : Nat) (hk : k ≤ ps.length) :
    ((bestK t ps (planN ps t).2 k).1 = -1 ∧ ∀ j, j < k → nowF ps t j ≤ 0) ∨
    ∃ c : Nat, c < k ∧ bestK t ps (planN ps t).2 k = ((c : Int), endF ps t c) ∧ 0 < nowF ps t c ∧ ∀ j, j < k → 0 < nowF ps t j → endF ps t c < endF ps t j ∨ endF ps t c = endF ps t j ∧ c ≤ j := by
  induction k with
  | zero => exact .inl ⟨rfl, fun j hj => absurd hj (by omega)⟩
  | succ k ih =>
    have hk' : k < ps.length := by omega
    have hln := (planN_len ps t).2
    have hr : fresh1 t ps[k] ((refK t ps (planN ps t).2 k).getD k 0) = nowF ps t k := by
      rw [refK_get hln k (by omega) k hk', if_neg (by omega)]; exact fresh_now hk'
    rw [bestK_step hk', hr, endF_eq hk']
    rcases ih (by omega) with ⟨h1, h2⟩ | ⟨c, h1, h2, h3, h4⟩
    · by_cases hp : 0 < nowF ps t k
      · rw [if_pos ⟨hp, .inl (by omega)⟩]
        refine .inr ⟨k, by omega, rfl, hp, fun j hj hpj => ?_⟩
        rcases Nat.lt_or_ge j k with h5 | h5
        · have := h2 j h5; omega
        · have : j = k := by omega
          subst this; omega
      · rw [if_neg (fun h => hp h.1)]
        refine .inl ⟨h1, fun j hj => ?_⟩
        rcases Nat.lt_or_ge j k with h5 | h5
        · exact h2 j h5
        · have : j = k := by omega
          subst this; omega
    · rw [h2]
      by_cases hp : 0 < nowF ps t k ∧ endF ps t k < endF ps t c
      · rw [if_pos ⟨hp.1, .inr hp.2⟩]
        refine .inr ⟨k, by omega, rfl, hp.1, fun j hj hpj => ?_⟩
        rcases Nat.lt_or_ge j k with h5 | h5
        · have := h4 j h5 hpj; omega
        · have : j = k := by omega
          subst this; omega
      · have hn : ¬ (0 < nowF ps t k ∧ (((c : Int), endF ps t c).1 < 0 ∨ endF ps t k < ((c : Int), endF ps t c).2)) := fun h => by
          rcases h.2 with h5 | h5
          · have h6 : (c : Int) < 0 := h5
            omega
          · exact hp ⟨h.1, h5⟩
        rw [if_neg hn]
        refine .inr ⟨c, by omega, rfl, h3, fun j hj hpj => ?_⟩
        rcases Nat.lt_or_ge j k with h5 | h5
        · exact h4 j h5 hpj
        · have : j = k := by omega
          subst this
          have : ¬ endF ps t j < endF ps t c := fun h => hp ⟨hpj, h⟩
          omega
/- one tick of the plan -/
theorem run_spec (ps : List PartD) (t : Nat) :
    (tickF ps t = -1 ∧ (∀ j, j < ps.length → nowF ps t j ≤ 0) ∧ ∀ j, j < ps.length → lefF ps (t + 1) j = nowF ps t j) ∨
    ∃ c : Nat, c < ps.length ∧ tickF ps t = (c : Int) ∧ 0 < nowF ps t c ∧ (∀ j, j < ps.length → 0 < nowF ps t j → endF ps t c < endF ps t j ∨ endF ps t c = endF ps t j ∧ c ≤ j) ∧ ∀ j, j < ps.length → lefF ps (t + 1) j = if c = j then nowF ps t c - 1 else nowF ps t j := by
  have hln := (planN_len ps t).2
  have hr : ∀ j (hj : j < ps.length), (refK t ps (planN ps t).2 ps.length).getD j 0 = nowF ps t j := fun j hj => by
    rw [refK_get hln _ (Nat.le_refl _) j hj, if_pos hj]; exact fresh_now hj
  rcases bestK_spec (t := t) ps.length (Nat.le_refl _) with ⟨h1, h2⟩ | ⟨c, h1, h2, h3, h4⟩
  · refine .inl ⟨h1, h2, fun j hj => ?_⟩
    show (planStep t ps (planN ps t).2).2.getD j 0 = _
    unfold planStep
    rw [h1, if_pos (by omega)]
    exact hr j hj
  · refine .inr ⟨c, h1, ?_, h3, h4, fun j hj => ?_⟩
    · show (bestK t ps (planN ps t).2 ps.length).1 = _
      rw [h2]
    · show (planStep t ps (planN ps t).2).2.getD j 0 = _
      unfold planStep
      rw [h2]
      simp only [Int.toNat_natCast]
      rw [if_neg (by omega), getD_set _ _ _ _ (by rw [refK_len, hln]; exact h1), hr c h1, hr j hj]
theorem planN_succ (ps : List PartD) (t : Nat) : (planN ps (t + 1)).1 = (planN ps t).1 ++ [tickF ps t] := rfl
theorem sumN_ticks (F : Int) (ps : List PartD) : sumN (fun j => F / perF ps j * durF ps j) ps.length = ticksF F ps := by
  have key : ∀ k, k ≤ ps.length → sumN (fun j => F / perF ps j * durF ps j) k = ticksF F (ps.take k) := by
    intro k
    induction k with
    | zero => intro _; simp [sumN, ticksF]
    | succ k ih =>
      intro hk
      have e : ps.take (k + 1) = ps.take k ++ [ps[k]] := by simp
      simp only [sumN]
      rw [ih (by omega), e]
      unfold ticksF
      rw [List.map_append, List.sum_append]
      unfold perF durF
      rw [dif_pos (by omega), dif_pos (by omega)]
      simp
  have := key ps.length (Nat.le_refl _)
  rwa [List.take_length] at this
structure PartsT (F : Int) (ps : List PartD) : Prop where
  pos : 1 ≤ F
  per : ∀ j (h : j < ps.length), 1 ≤ ps[j].period ∧ F % ps[j].period = 0
  dur : ∀ j (h : j < ps.length), 1 ≤ ps[j].duration
  fit : ticksF F ps ≤ F
theorem PartsT.done {F : Int} {ps : List PartD} (h : PartsT F ps) (t j : Nat) (hj : j < ps.length) : 0 ≤ lefF ps t j ∧ ((t : Int) % perF ps j = 0 → lefF ps t j = 0) := by
  refine edf_done (F := F) (n := ps.length) (P := perF ps) (D := durF ps) (L := lefF ps) (B := fun t => if tickF ps t < 0 then none else some (tickF ps t).toNat) h.pos ?_ ?_ ?_ ?_ t ?_ t (Nat.le_refl _) j hj
  · intro i hi; unfold perF; rw [dif_pos hi]; exact h.per i hi
  · intro i hi; unfold durF; rw [dif_pos hi]; have := h.dur i hi; omega
  · rw [sumN_ticks]; exact h.fit
  · intro i hi
    show (List.replicate ps.length (0 : Int)).getD i 0 = 0
    simp only [List.getD, List.getElem?_replicate]
    split <;> rfl
  · intro s _
    rcases run_spec ps s with ⟨h1, h2, h3⟩ | ⟨c, h1, h2, h3, h4, h5⟩
    · refine ⟨fun _ i hi => ⟨h2 i hi, h3 i hi⟩, fun c hc => ?_⟩
      rw [if_pos (by omega)] at hc
      cases hc
    · refine ⟨fun hn => ?_, fun d hd => ?_⟩
      · rw [if_neg (by omega)] at hn; cases hn
      · rw [if_neg (by omega), h2, Int.toNat_natCast] at hd
        cases hd
        refine ⟨h1, h3, ?_, fun i hi hne => ?_, fun i hi hp => ?_⟩
        · rw [h5 c h1, if_pos rfl]; rfl
        · rw [h5 i hi, if_neg (Ne.symm hne)]; rfl
        · have := h4 i hi hp
          unfold endF at this; omega
end Go.Proofs.YteioennfpkoagaaGreatDoor.C
namespace Go.Proofs.YteioennfpkoagaaGreatDoor.C
open Go.RowKit

/- a heap by the end and the place -/
structure TurnD where
  place : Int
  fin : Int
  left : Int
def zT : TurnD := ⟨0, 0, 0⟩
def atQ (q : List TurnD) (i : Nat) : TurnD := q.getD i zT
def lessB (a b : TurnD) : Bool := if a.fin = b.fin then decide (a.place < b.place) else decide (a.fin < b.fin)
theorem lessB_iff (a b : TurnD) : lessB a b = true ↔ a.fin < b.fin ∨ a.fin = b.fin ∧ a.place < b.place := by
  unfold lessB
  split
  · rename_i h; simp [h]
  · rename_i h; simp [h]
theorem lessB_not (a b : TurnD) : lessB a b = false ↔ b.fin < a.fin ∨ a.fin = b.fin ∧ b.place ≤ a.place := by
  unfold lessB
  split
  · rename_i h; simp [h]
  · rename_i h; simp; omega
def swapQ (q : List TurnD) (i j : Nat) : List TurnD := (q.set i (atQ q j)).set j (atQ q i)
theorem swapQ_len (q : List TurnD) (i j : Nat) : (swapQ q i j).length = q.length := by simp [swapQ]
theorem atQ_eq {q : List TurnD} {i : Nat} (h : i < q.length) : atQ q i = q[i] := by simp [atQ, List.getD, List.getElem?_eq_getElem h]
theorem swapQ_perm {q : List TurnD} {i j : Nat} (hi : i < q.length) (hj : j < q.length) : (swapQ q i j).Perm q := by
  unfold swapQ
  rw [atQ_eq hi, atQ_eq hj]
  exact List.set_set_perm hi hj
theorem atQ_swap {q : List TurnD} {i j : Nat} (hi : i < q.length) (hj : j < q.length) (k : Nat) : atQ (swapQ q i j) k = if k = j then atQ q i else if k = i then atQ q j else atQ q k := by
  unfold swapQ
  conv => lhs; unfold atQ
  simp only [List.getD, List.getElem?_set, List.length_set]
  by_cases h1 : k = j
  · subst h1; simp [hj]; rfl
  · rw [if_neg (Ne.symm h1), if_neg h1]
    by_cases h2 : k = i
    · subst h2; simp [hi]; rfl
    · rw [if_neg (Ne.symm h2), if_neg h2]; rfl
def HeapQ (q : List TurnD) (n : Nat) : Prop := ∀ k, 0 < k → k < n → lessB (atQ q k) (atQ q ((k - 1) / 2)) = false
structure UpI (q : List TurnD) (j : Nat) : Prop where
  lt : j < q.length
  ord : ∀ k, 0 < k → k < q.length → k ≠ j → lessB (atQ q k) (atQ q ((k - 1) / 2)) = false
  jmp : 0 < j → ∀ k, 0 < k → k < q.length → (k - 1) / 2 = j → lessB (atQ q k) (atQ q ((j - 1) / 2)) = false
theorem UpI.stop {q : List TurnD} {j : Nat} (h : UpI q j) (hs : j = 0 ∨ lessB (atQ q j) (atQ q ((j - 1) / 2)) = false) : HeapQ q q.length := by
  intro k h0 hk
  by_cases e : k = j
  · subst e
    rcases hs with hs | hs
    · omega
    · exact hs
  · exact h.ord k h0 hk e
theorem UpI.step {q : List TurnD} {j : Nat} (h : UpI q j) (hj : 0 < j) (hs : lessB (atQ q j) (atQ q ((j - 1) / 2)) = true) : UpI (swapQ q ((j - 1) / 2) j) ((j - 1) / 2) := by
  have hlt := h.lt
  have hi : (j - 1) / 2 < q.length := by omega
  have hij : (j - 1) / 2 < j := by omega
  rw [lessB_iff] at hs
  refine ⟨by rw [swapQ_len]; exact hi, fun k h0 hk hne => ?_, fun hp k h0 hk hkp => ?_⟩
  · rw [swapQ_len] at hk
    rw [atQ_swap hi hlt, atQ_swap hi hlt]
    by_cases e1 : k = j
    · subst e1
      rw [if_pos rfl, if_neg (by omega), if_pos rfl, lessB_not]; omega
    · have ho := h.ord k h0 hk e1
      rw [if_neg e1, if_neg hne]
      by_cases e2 : (k - 1) / 2 = j
      · rw [if_pos e2]; exact h.jmp hj k h0 hk e2
      · rw [if_neg e2]
        by_cases e3 : (k - 1) / 2 = (j - 1) / 2
        · rw [if_pos e3]; rw [e3] at ho; rw [lessB_not] at ho ⊢; omega
        · rw [if_neg e3]; exact ho
  · rw [swapQ_len] at hk
    have hoi := h.ord ((j - 1) / 2) hp hi (by omega)
    rw [atQ_swap hi hlt, atQ_swap hi hlt]
    have e4 : ((j - 1) / 2 - 1) / 2 ≠ j := by omega
    have e5 : ((j - 1) / 2 - 1) / 2 ≠ (j - 1) / 2 := by omega
    rw [if_neg e4, if_neg e5]
    by_cases e1 : k = j
    · rw [if_pos e1]; exact hoi
    · have ho := h.ord k h0 hk e1
      rw [if_neg e1, if_neg (by omega)]
      rw [hkp] at ho
      rw [lessB_not] at ho hoi ⊢; omega
theorem UpI.push {q : List TurnD} (h : HeapQ q q.length) (x : TurnD) : UpI (q ++ [x]) q.length := by
  have hat : ∀ k, k < q.length → atQ (q ++ [x]) k = atQ q k := fun k hk => by simp [atQ, List.getD, List.getElem?_append_left hk]
  refine ⟨by simp, fun k h0 hk hne => ?_, fun hp k h0 hk hkp => ?_⟩
  · simp at hk
    rw [hat _ (by omega), hat _ (by omega)]
    exact h k h0 (by omega)
  · simp at hk; omega
structure DnI (q : List TurnD) (n i : Nat) : Prop where
  le : n ≤ q.length
  ord : ∀ k, 0 < k → k < n → (k - 1) / 2 ≠ i → lessB (atQ q k) (atQ q ((k - 1) / 2)) = false
  jmp : 0 < i → i < n ∧ ∀ k, 0 < k → k < n → (k - 1) / 2 = i → lessB (atQ q k) (atQ q ((i - 1) / 2)) = false
theorem DnI.stop0 {q : List TurnD} {n i : Nat} (h : DnI q n i) (hs : n ≤ 2 * i + 1) : HeapQ q n :=
  fun k h0 hk => h.ord k h0 hk (by omega)
/- the lesser child -/
def kidQ (q : List TurnD) (n i : Nat) : Nat := if 2 * i + 2 < n ∧ lessB (atQ q (2 * i + 2)) (atQ q (2 * i + 1)) = true then 2 * i + 2 else 2 * i + 1
theorem kidQ_le {q : List TurnD} {n i : Nat} (h : 2 * i + 1 < n) : (kidQ q n i = 2 * i + 1 ∨ kidQ q n i = 2 * i + 2) ∧ kidQ q n i < n ∧ ∀ k, 0 < k → k < n → (k - 1) / 2 = i → lessB (atQ q k) (atQ q (kidQ q n i)) = false := by
  unfold kidQ
  split
  · rename_i hc
    refine ⟨.inr rfl, hc.1, fun k h0 hk he => ?_⟩
    rcases (show k = 2 * i + 1 ∨ k = 2 * i + 2 by omega) with rfl | rfl
    · have := hc.2
      rw [lessB_iff] at this
      rw [lessB_not]; omega
    · rw [lessB_not]; omega
  · rename_i hc
    refine ⟨.inl rfl, h, fun k h0 hk he => ?_⟩
    rcases (show k = 2 * i + 1 ∨ k = 2 * i + 2 by omega) with rfl | rfl
    · rw [lessB_not]; omega
    · cases hb : lessB (atQ q (2 * i + 2)) (atQ q (2 * i + 1))
      · rfl
      · exact absurd ⟨hk, hb⟩ hc
theorem DnI.stop {q : List TurnD} {n i : Nat} (h : DnI q n i) (hn : 2 * i + 1 < n) (hs : lessB (atQ q (kidQ q n i)) (atQ q i) = false) : HeapQ q n := by
  intro k h0 hk
  by_cases e : (k - 1) / 2 = i
  · have h1 := (kidQ_le (q := q) hn).2.2 k h0 hk e
    rw [e]
    rw [lessB_not] at h1 hs ⊢; omega
  · exact h.ord k h0 hk e
theorem DnI.step {q : List TurnD} {n i : Nat} (h : DnI q n i) (hn : 2 * i + 1 < n) (hs : lessB (atQ q (kidQ q n i)) (atQ q i) = true) : DnI (swapQ q i (kidQ q n i)) n (kidQ q n i) := by
  obtain ⟨hk0, hkn, hkl⟩ := kidQ_le (q := q) hn
  have hle := h.le
  generalize kidQ q n i = j at *
  have hi : i < q.length := by omega
  have hj : j < q.length := by omega
  rw [lessB_iff] at hs
  refine ⟨by rw [swapQ_len]; exact hle, fun k h0 hk hne => ?_, fun hp => ⟨hkn, fun k h0 hk hkp => ?_⟩⟩
  · rw [atQ_swap hi hj, atQ_swap hi hj]
    rw [if_neg hne]
    by_cases e1 : k = j
    · subst e1
      rw [if_pos rfl, if_pos (by omega), lessB_not]; omega
    · rw [if_neg e1]
      by_cases e2 : k = i
      · subst e2
        have h1 := (h.jmp h0).2 j (by omega) hkn (by omega)
        rw [if_pos rfl, if_neg (by omega)]; exact h1
      · rw [if_neg e2]
        by_cases e3 : (k - 1) / 2 = i
        · rw [if_pos e3]; exact hkl k h0 hk e3
        · rw [if_neg e3]; exact h.ord k h0 hk e3
  · have h1 := h.ord k h0 hk (by omega)
    rw [atQ_swap hi hj, atQ_swap hi hj]
    rw [if_neg (by omega), if_neg (by omega), if_neg (by omega), if_pos (by omega)]
    rw [hkp] at h1; exact h1
theorem DnI.first {q : List TurnD} {n : Nat} (h : HeapQ q (n + 1)) (hn : n + 1 = q.length) : DnI (swapQ q 0 n) n 0 := by
  refine ⟨by rw [swapQ_len]; omega, fun k h0 hk hne => ?_, fun hp => absurd hp (by omega)⟩
  rw [atQ_swap (by omega) (by omega), atQ_swap (by omega) (by omega), if_neg (by omega), if_neg (by omega), if_neg (by omega), if_neg (by omega)]
  exact h k h0 (by omega)
theorem HeapQ.least {q : List TurnD} {n : Nat} (h : HeapQ q n) (k : Nat) (hk : k < n) : lessB (atQ q k) (atQ q 0) = false := by
  induction k using Nat.strongRecOn with
  | ind k ih =>
    rcases Nat.eq_zero_or_pos k with h0 | h0
    · subst h0; rw [lessB_not]; omega
    · have h1 := h k h0 hk
      have h2 := ih ((k - 1) / 2) (by omega) (by omega)
      rw [lessB_not] at h1 h2 ⊢; omega
theorem HeapQ.take {q : List TurnD} {n : Nat} (h : HeapQ q n) (hn : n ≤ q.length) : HeapQ (q.take n) (q.take n).length := by
  intro k h0 hk
  simp at hk
  have hat : ∀ k, k < n → atQ (q.take n) k = atQ q k := fun k hk => by simp [atQ, List.getD, hk]
  rw [hat _ (by omega), hat _ (by omega)]
  exact h k h0 (by omega)

/- what the heap holds: those that have to run -/
structure QD (ps : List PartD) (t : Nat) (R : Nat → Int) (q : List TurnD) : Prop where
  nod : (q.map TurnD.place).Nodup
  mem : ∀ x, x ∈ q ↔ ∃ j, j < ps.length ∧ 0 < R j ∧ x = ⟨j, endF ps t j, R j⟩
theorem QD.perm {ps : List PartD} {t : Nat} {R : Nat → Int} {q q' : List TurnD} (h : QD ps t R q) (hp : q'.Perm q) : QD ps t R q' :=
  ⟨(hp.map TurnD.place).nodup_iff.2 h.nod, fun x => by rw [hp.mem_iff]; exact h.mem x⟩
theorem QD.nil (ps : List PartD) (t : Nat) {R : Nat → Int} (h : ∀ j, j < ps.length → R j ≤ 0) : QD ps t R [] :=
  ⟨by simp, fun x => ⟨fun hx => by simp at hx, fun ⟨j, hj, hp, _⟩ => absurd hp (by have := h j hj; omega)⟩⟩
theorem QD.add {ps : List PartD} {t : Nat} {R R' : Nat → Int} {q : List TurnD} (h : QD ps t R q) {k : Nat} (hk : k < ps.length) (h0 : R k ≤ 0) (h1 : 0 < R' k) (ho : ∀ j, j < ps.length → j ≠ k → R' j = R j) : QD ps t R' (q ++ [⟨k, endF ps t k, R' k⟩]) := by
  refine ⟨?_, fun x => ?_⟩
  · rw [List.map_append, List.nodup_append]
    refine ⟨h.nod, by simp, fun a ha b hb => ?_⟩
    simp at hb
    subst hb
    obtain ⟨y, hy, rfl⟩ := List.mem_map.1 ha
    obtain ⟨j, hj, hp, rfl⟩ := (h.mem y).1 hy
    intro e
    have e2 : (j : Int) = (k : Int) := e
    have : j = k := by omega
    subst this; omega
  · rw [List.mem_append, List.mem_singleton, h.mem]
    constructor
    · rintro (⟨j, hj, hp, rfl⟩ | rfl)
      · have hne : j ≠ k := fun e => by subst e; omega
        exact ⟨j, hj, by rw [ho j hj hne]; exact hp, by rw [ho j hj hne]⟩
      · exact ⟨k, hk, h1, rfl⟩
    · rintro ⟨j, hj, hp, rfl⟩
      by_cases e : j = k
      · subst e; exact .inr rfl
      · refine .inl ⟨j, hj, ?_, ?_⟩
        · rw [← ho j hj e]; exact hp
        · rw [ho j hj e]
theorem QD.drop {ps : List PartD} {t : Nat} {R R' : Nat → Int} {q : List TurnD} {k : Nat} (h : QD ps t R (q ++ [⟨k, endF ps t k, R k⟩])) (h1 : R' k ≤ 0) (ho : ∀ j, j < ps.length → j ≠ k → R' j = R j) : QD ps t R' q := by
  have hn := h.nod
  rw [List.map_append, List.nodup_append] at hn
  refine ⟨hn.1, fun x => ?_⟩
  constructor
  · intro hx
    obtain ⟨j, hj, hp, rfl⟩ := (h.mem x).1 (List.mem_append_left _ hx)
    have hne : j ≠ k := fun e => by
      subst e
      exact hn.2.2 (j : Int) (List.mem_map.2 ⟨_, hx, rfl⟩) (j : Int) (by simp) rfl
    exact ⟨j, hj, by rw [ho j hj hne]; exact hp, by rw [ho j hj hne]⟩
  · rintro ⟨j, hj, hp, rfl⟩
    have hne : j ≠ k := fun e => by subst e; omega
    rw [ho j hj hne] at hp ⊢
    have := (h.mem _).2 ⟨j, hj, hp, rfl⟩
    rcases List.mem_append.1 this with h2 | h2
    · exact h2
    · rw [List.mem_singleton] at h2
      have h3 : (j : Int) = (k : Int) := congrArg TurnD.place h2
      omega
theorem QD.congr {ps : List PartD} {t t' : Nat} {R R' : Nat → Int} {q : List TurnD} (h : QD ps t R q) (hr : ∀ j, j < ps.length → R' j = R j) (he : ∀ j, j < ps.length → 0 < R j → endF ps t' j = endF ps t j) : QD ps t' R' q := by
  refine ⟨h.nod, fun x => ?_⟩
  rw [h.mem]
  constructor
  · rintro ⟨j, hj, hp, rfl⟩; exact ⟨j, hj, by rw [hr j hj]; exact hp, by rw [hr j hj, he j hj hp]⟩
  · rintro ⟨j, hj, hp, rfl⟩
    rw [hr j hj] at hp
    exact ⟨j, hj, hp, by rw [hr j hj, he j hj hp]⟩
/- in the midst of begin -/
def midF (ps : List PartD) (t k j : Nat) : Int := if j < k then nowF ps t j else lefF ps t j
theorem perF_pos {F : Int} {ps : List PartD} (h : PartsT F ps) {j : Nat} (hj : j < ps.length) : 1 ≤ perF ps j := by unfold perF; rw [dif_pos hj]; exact (h.per j hj).1
theorem endF_next {F : Int} {ps : List PartD} (h : PartsT F ps) {t j : Nat} (hj : j < ps.length) (hl : 0 < lefF ps (t + 1) j) : endF ps (t + 1) j = endF ps t j := by
  have h1 : ((t + 1 : Nat) : Int) % perF ps j ≠ 0 := fun e => by have := (h.done (t + 1) j hj).2 e; omega
  have hp := perF_pos h hj
  unfold endF
  have h2 := ceil_not hp h1
  rw [show ((t + 1 : Nat) : Int) + perF ps j - 1 = (t : Int) + perF ps j * 1 by omega, Int.add_mul_ediv_left _ _ (by omega)] at h2
  rw [show ((t + 1 : Nat) : Int) / perF ps j = (t : Int) / perF ps j by omega]
theorem QD.mid0 {F : Int} {ps : List PartD} (h : PartsT F ps) {t : Nat} {q : List TurnD} (hq : QD ps t (lefF ps (t + 1)) q) : QD ps (t + 1) (midF ps (t + 1) 0) q :=
  hq.congr (fun j _ => by unfold midF; rw [if_neg (by omega)]) (fun j hj hp => endF_next h hj hp)
theorem QD.begin {F : Int} {ps : List PartD} (h : PartsT F ps) {t k : Nat} (hk : k < ps.length) {q : List TurnD} (hq : QD ps t (midF ps t k) q) (hm : (t : Int) % perF ps k = 0) : QD ps t (midF ps t (k + 1)) (q ++ [⟨k, t + perF ps k, durF ps k⟩]) := by
  have hp := perF_pos h hk
  have hd : 1 ≤ durF ps k := by unfold durF; rw [dif_pos hk]; exact h.dur k hk
  have e1 : midF ps t (k + 1) k = durF ps k := by unfold midF; rw [if_pos (by omega)]; unfold nowF; rw [if_pos hm]
  have e2 : endF ps t k = t + perF ps k := by
    unfold endF
    have := Int.mul_ediv_add_emod (t : Int) (perF ps k)
    rw [Int.mul_add]; omega
  have := QD.add (R' := midF ps t (k + 1)) hq hk (by unfold midF; rw [if_neg (by omega), (h.done t k hk).2 hm]; omega) (by omega) (fun j hj hne => by
    unfold midF
    by_cases e : j < k
    · rw [if_pos e, if_pos (by omega)]
    · rw [if_neg e, if_neg (by omega)])
  rwa [e1, e2] at this
theorem QD.pass {ps : List PartD} {t k : Nat} {q : List TurnD} (hq : QD ps t (midF ps t k) q) (hm : ¬ (t : Int) % perF ps k = 0) : QD ps t (midF ps t (k + 1)) q :=
  hq.congr (fun j hj => by
    unfold midF
    by_cases e : j < k
    · rw [if_pos e, if_pos (by omega)]
    · rw [if_neg e]
      by_cases e2 : j = k
      · subst e2; rw [if_pos (by omega)]; unfold nowF; rw [if_neg hm]
      · rw [if_neg (by omega)]) (fun _ _ _ => rfl)
theorem QD.full {ps : List PartD} {t : Nat} {q : List TurnD} (hq : QD ps t (midF ps t ps.length) q) : QD ps t (nowF ps t) q :=
  hq.congr (fun j hj => by unfold midF; rw [if_pos hj]) (fun _ _ _ => rfl)
/- nobody has to run -/
theorem QD.idle {ps : List PartD} {t : Nat} (hq : QD ps t (nowF ps t) []) : tickF ps t = -1 ∧ QD ps t (lefF ps (t + 1)) [] := by
  have hz : ∀ j, j < ps.length → ¬ 0 < nowF ps t j := fun j hj hp => by have := (hq.mem _).2 ⟨j, hj, hp, rfl⟩; simp at this
  rcases run_spec ps t with ⟨h1, h2, h3⟩ | ⟨c, h1, h2, h3, h4, h5⟩
  · exact ⟨h1, QD.nil _ _ fun j hj => by rw [h3 j hj]; exact h2 j hj⟩
  · exact absurd h3 (hz c h1)
/- the first of the heap runs -/
theorem QD.runs {ps : List PartD} {t : Nat} {q q1 : List TurnD} (hq : QD ps t (nowF ps t) q) (hh : HeapQ q q.length) (h0 : 0 < q.length) (hp : (q1 ++ [atQ q 0]).Perm q) :
    tickF ps t = (atQ q 0).place ∧ 1 ≤ (atQ q 0).left ∧ ((atQ q 0).left - 1 ≤ 0 → QD ps t (lefF ps (t + 1)) q1) ∧ (0 < (atQ q 0).left - 1 → QD ps t (lefF ps (t + 1)) (q1 ++ [⟨(atQ q 0).place, (atQ q 0).fin, (atQ q 0).left - 1⟩])) := by
  have hm : atQ q 0 ∈ q := by rw [atQ_eq h0]; exact List.getElem_mem h0
  obtain ⟨c, hc, hcp, he⟩ := (hq.mem _).1 hm
  have hq1 := hq.perm hp
  rw [he] at hq1 ⊢
  rcases run_spec ps t with ⟨h1, h2, h3⟩ | ⟨d, h1, h2, h3, h4, h5⟩
  · exact absurd hcp (by have := h2 c hc; omega)
  · have hdq := (hq.mem _).2 ⟨d, h1, h3, rfl⟩
    obtain ⟨k, hk, hke⟩ := List.getElem_of_mem hdq
    have hl := hh.least k hk
    rw [atQ_eq hk, hke, he, lessB_not] at hl
    have h6 := h4 c hc hcp
    have hcd : d = c := by
      have hl' : endF ps t c < endF ps t d ∨ endF ps t d = endF ps t c ∧ (c : Int) ≤ (d : Int) := hl
      omega
    subst hcd
    have hlef : ∀ j, j < ps.length → j ≠ d → lefF ps (t + 1) j = nowF ps t j := fun j hj hne => by rw [h5 j hj, if_neg (Ne.symm hne)]
    have hled : lefF ps (t + 1) d = nowF ps t d - 1 := by rw [h5 d h1, if_pos rfl]
    refine ⟨h2, (show 1 ≤ nowF ps t d by omega), fun hz => ?_, fun hz => ?_⟩
    · exact QD.drop hq1 (by rw [hled]; exact hz) hlef
    · have hdr := QD.drop (R' := fun j => if j = d then 0 else nowF ps t j) hq1 (by simp) (fun j hj hne => by simp [hne])
      have hz' : 0 < nowF ps t d - 1 := hz
      have := QD.add (R' := lefF ps (t + 1)) hdr h1 (by simp) (by rw [hled]; exact hz') (fun j hj hne => by rw [hlef j hj hne]; simp [hne])
      rwa [hled] at this
end Go.Proofs.YteioennfpkoagaaGreatDoor.C
namespace Go.Proofs.YteioennfpkoagaaGreatDoor.C
open Go.RowKit

/- how often one runs -/
def cntQ (ps : List PartD) (i a : Nat) : Nat → Int
  | 0 => 0
  | r + 1 => cntQ ps i a r + if tickF ps (a + r) = (i : Int) then 1 else 0
theorem left_next {ps : List PartD} {t i : Nat} (hi : i < ps.length) : lefF ps (t + 1) i = nowF ps t i - if tickF ps t = (i : Int) then 1 else 0 := by
  rcases run_spec ps t with ⟨h1, h2, h3⟩ | ⟨c, h1, h2, h3, h4, h5⟩
  · rw [h3 i hi, if_neg (by omega)]; omega
  · rw [h5 i hi]
    by_cases e : c = i
    · subst e; rw [if_pos rfl, if_pos h2]
    · rw [if_neg e, if_neg (by omega)]; omega
theorem cnt_left {ps : List PartD} {i P : Nat} (hi : i < ps.length) (hP : perF ps i = (P : Int)) (k r : Nat) (h1 : 1 ≤ r) (h2 : r ≤ P) : cntQ ps i (k * P) r = durF ps i - lefF ps (k * P + r) i := by
  induction r with
  | zero => omega
  | succ r ih =>
    rw [← Nat.add_assoc, left_next hi]
    simp only [cntQ]
    rcases Nat.eq_zero_or_pos r with h0 | h0
    · subst h0
      have hm : ((k * P + 0 : Nat) : Int) % perF ps i = 0 := by
        rw [hP, Nat.add_zero]
        exact_mod_cast Nat.mul_mod_left k P
      unfold nowF
      rw [if_pos hm]
      simp only [cntQ]; omega
    · have hm : ¬ ((k * P + r : Nat) : Int) % perF ps i = 0 := by
        rw [hP]
        have : (k * P + r) % P = r := by rw [Nat.add_comm, Nat.add_mul_mod_self_right]; exact Nat.mod_eq_of_lt (by omega)
        have h3 : ((k * P + r : Nat) : Int) % (P : Int) = (((k * P + r) % P : Nat) : Int) := by norm_cast
        rw [this] at h3
        omega
      rw [ih h0 (by omega)]
      unfold nowF
      rw [if_neg hm]; omega
theorem cnt_whole {F : Int} {ps : List PartD} (h : PartsT F ps) {i P : Nat} (hi : i < ps.length) (hP : perF ps i = (P : Int)) (k : Nat) : cntQ ps i (k * P) P = durF ps i := by
  have hp := perF_pos h hi
  rw [cnt_left hi hP k P (by omega) (Nat.le_refl _)]
  have hm : ((k * P + P : Nat) : Int) % perF ps i = 0 := by
    rw [hP, ← Nat.succ_mul]
    exact_mod_cast Nat.mul_mod_left (k + 1) P
  rw [(h.done _ i hi).2 hm]; omega
theorem plan_at (ps : List PartD) (n t : Nat) (h : t < n) : (planN ps n).1.getD t 0 = tickF ps t := by
  induction n with
  | zero => omega
  | succ n ih =>
    rw [planN_succ]
    have hl := (planN_len ps n).1
    rcases Nat.lt_or_ge t n with h1 | h1
    · rw [← ih h1]
      simp [List.getD, List.getElem?_append_left (show t < (planN ps n).1.length by omega)]
    · have : t = n := by omega
      subst this
      simp [List.getD, hl]
theorem tick_in (ps : List PartD) (t : Nat) : -1 ≤ tickF ps t ∧ tickF ps t < ps.length := by
  rcases run_spec ps t with ⟨h1, _⟩ | ⟨c, h1, h2, _⟩ <;> omega
end Go.Proofs.YteioennfpkoagaaGreatDoor.C
namespace Go.Proofs.YteioennfpkoagaaGreatDoor.C
open Go.RowKit

theorem parts_int {e s b : Nat} {z : Value} (h : (Tryz.prog.info? e).map (fun i => (i.zero, i.size, i.bytes)) = some (some z, s, b)) : ∃ i, Tryz.prog.info? e = some i ∧ i.zero = some z ∧ i.size = s ∧ i.bytes = b := by
  rcases hi : Tryz.prog.info? e with _ | i
  · rw [hi] at h; cases h
  · rw [hi] at h
    simp only [Option.map_some, Option.some.injEq, Prod.mk.injEq] at h
    exact ⟨i, rfl, h.1, h.2.1, h.2.2⟩
theorem intInfo : (Tryz.prog.info? 3).map (fun i => (i.zero, i.size, i.bytes)) = some (some (.int .i64 0), 1, 8) := by kernel_rfl
theorem make_ints (w : World) (c : Nat) (hc : c ≤ 2000000) :
    (Instr.makeSlice 48 (.int .i64 (c : Int)) (.int .i64 (c : Int))).run Tryz.prog w = .ok (.slice (some ⟨w.heap.size, 0, none⟩) c c) (w.alloc (.cells (intsC (List.replicate c 0)).toArray 3)) := by
  obtain ⟨i, hi, hz, hs, hby⟩ := parts_int intInfo
  have hbi : (i.bytes : Int) * (c : Int) ≤ 281474976710656 := by rw [hby]; omega
  have hr := run_make (P := Tryz.prog) w 48 3 i (.int .i64 0) Tryz.underlying48 hi hz .i64 .i64 c c (by omega) (by omega) hbi (by omega)
  simp only [Int.toNat_natCast, hs, Nat.mul_one] at hr
  rw [show (Value.int IntKind.i64 0).cells = #[Value.int .i64 0] from rfl, made_ints] at hr
  exact hr
def PlanC : Prop := ∀ (f : Int) (ps : List PartD) (cs : List ChanD) (pv cv : Value) (w : World), PartsV w pv ps → PartsC w pv ps.length → ChansV w cv cs → capV cv → ps.length ≤ 1048576 → cs.length ≤ 1048576 → (∀ i (hi : i < ps.length), ps[i].regs.length ≤ 1048576) →
    Calls Tryz.prog 20 #[.agg #[.int .i64 f, pv, cv]] w fun e w' => (¬ checkF ⟨f, ps, cs⟩ = 0 ∧ e = .returned (.tuple #[.slice none 0 0, .int .i64 (checkF ⟨f, ps, cs⟩)]) ∧ Below w.heap.size w w') ∨ (checkF ⟨f, ps, cs⟩ = 0 ∧ Below w.heap.size w w' ∧ ∃ v, e = .returned (.tuple #[v, .int .i64 0]) ∧ w'.ownsRow w.heap.size 3 1 v (planF ⟨f, ps, cs⟩).length (intsC (planF ⟨f, ps, cs⟩)))
theorem keepN {w w' : World} {k : Nat} {o : Obj} (h : w.heap[k]? = some o) (hb : Below w.heap.size w w') : w'.heap[k]? = some o := (hb.block _ (lt_of_blk h)).trans h
theorem newB (w : World) (o : Obj) : Below w.heap.size w (w.alloc o) := (Below.refl _ w).alloc (Nat.le_refl _) _
end Go.Proofs.YteioennfpkoagaaGreatDoor.C
