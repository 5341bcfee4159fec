import Derived.Test.YteioennfpkoagaaPlnA
import Derived.Test.YteioennfpkoagaaCdfE
namespace Go.Proofs.Yteioennfpkoagaa.C
open Go.RowKit

/- sums by place -/
def sumN (g : Nat → Int) : Nat → Int
  | 0 => 0
  | n + 1 => sumN g n + g n
theorem sumN_le {g h : Nat → Int} {n : Nat} (hl : ∀ j, j < n → g j ≤ h j) : sumN g n ≤ sumN h n := by
  induction n with
  | zero => exact Int.le_refl _
  | succ n ih =>
    have h1 := ih fun j hj => hl j (by omega)
    have h2 := hl n (by omega)
    simp only [sumN]; omega
theorem sumN_congr {g h : Nat → Int} {n : Nat} (hl : ∀ j, j < n → g j = h j) : sumN g n = sumN h n := by
  induction n with
  | zero => rfl
  | succ n ih =>
    have h1 := ih fun j hj => hl j (by omega)
    have h2 := hl n (by omega)
    simp only [sumN]; omega
theorem sumN_mul (c : Int) (g : Nat → Int) (n : Nat) : sumN (fun j => g j * c) n = sumN g n * c := by
  induction n with
  | zero => simp [sumN]
  | succ n ih => simp only [sumN]; rw [ih, Int.add_mul]
theorem sumN_nonneg {g : Nat → Int} {n : Nat} (hl : ∀ j, j < n → 0 ≤ g j) : 0 ≤ sumN g n := by
  induction n with
  | zero => exact Int.le_refl _
  | succ n ih =>
    have h1 := ih fun j hj => hl j (by omega)
    have h2 := hl n (by omega)
    simp only [sumN]; omega
theorem sumN_all_zero {g : Nat → Int} {n : Nat} (hl : ∀ j, j < n → 0 ≤ g j) (h : sumN g n ≤ 0) : ∀ j, j < n → g j = 0 := by
  induction n with
  | zero => intro j hj; omega
  | succ n ih =>
    have h1 := sumN_nonneg (g := g) (n := n) fun j hj => hl j (by omega)
    have h2 := hl n (by omega)
    simp only [sumN] at h
    intro j hj
    rcases Nat.lt_or_ge j n with h3 | h3
    · exact ih (fun j hj => hl j (by omega)) (by omega) j h3
    · have : j = n := by omega
      subst this; omega
/- one of them is less by one -/
theorem sumN_less {g h : Nat → Int} {n b : Nat} (hb : b < n) (ho : ∀ j, j < n → j ≠ b → h j = g j) (he : h b = g b - 1) : sumN h n = sumN g n - 1 := by
  induction n with
  | zero => omega
  | succ n ih =>
    simp only [sumN]
    rcases Nat.lt_or_ge b n with h3 | h3
    · rw [ih h3 fun j hj hn => ho j (by omega) hn, ho n (by omega) (by omega)]; omega
    · have : b = n := by omega
      subst this
      rw [he, sumN_congr (h := g) fun j hj => ho j (by omega) (by omega)]; omega
/- the work that must be done by d, seen at the tick t: of one partition -/
def dueW (P D d c l : Int) : Int := (if c ≤ d / P then l else 0) + D * max 0 (d / P - c)
theorem dueW_nonneg {P D d c l : Int} (hD : 0 ≤ D) (hl : 0 ≤ l) : 0 ≤ dueW P D d c l := by
  unfold dueW
  have := Int.mul_nonneg hD (Int.le_max_left 0 (d / P - c))
  split <;> omega
theorem ceil_dvd {P t : Int} (hP : 1 ≤ P) (ht : t % P = 0) : (t + P - 1) / P = t / P := by
  have h1 := Int.mul_ediv_add_emod t P
  have h2 : t + P - 1 = (P - 1) + P * (t / P) := by omega
  rw [h2, Int.add_mul_ediv_left _ _ (by omega), Int.ediv_eq_zero_of_lt (by omega) (by omega)]; omega
theorem ceil_not {P t : Int} (hP : 1 ≤ P) (ht : t % P ≠ 0) : (t + P - 1) / P = t / P + 1 := by
  have h1 := Int.mul_ediv_add_emod t P
  have h3 := Int.emod_nonneg t (b := P) (by omega)
  have h4 := Int.emod_lt_of_pos t (b := P) (by omega)
  have h2 : t + P - 1 = (t % P - 1) + P * (t / P + 1) := by rw [Int.mul_add]; omega
  rw [h2, Int.add_mul_ediv_left _ _ (by omega), Int.ediv_eq_zero_of_lt (by omega) (by omega)]; omega
theorem ceil_next {P t : Int} (hP : 1 ≤ P) : (t + 1 + P - 1) / P = t / P + 1 := by
  have h2 : t + 1 + P - 1 = t + P * 1 := by omega
  rw [h2, Int.add_mul_ediv_left _ _ (by omega)]
theorem dueW_reset {P D d t l : Int} (hP : 1 ≤ P) (hD : 0 ≤ D) (hl : 0 ≤ l) :
    dueW P D d (t / P + 1) (if t % P = 0 then D else l) ≤ dueW P D d ((t + P - 1) / P) l := by
  by_cases h : t % P = 0
  · rw [if_pos h, ceil_dvd hP h]
    unfold dueW
    generalize d / P = q
    generalize t / P = k
    by_cases hk : k + 1 ≤ q
    · rw [if_pos hk, if_pos (by omega), Int.max_eq_right (by omega), Int.max_eq_right (by omega), show q - k = (q - (k + 1)) + 1 by omega, Int.mul_add]; omega
    · rw [if_neg hk, Int.max_eq_left (show q - (k + 1) ≤ 0 by omega)]
      have := Int.mul_nonneg hD (Int.le_max_left 0 (q - k))
      split <;> omega
  · rw [if_neg h, ceil_not hP h]; exact Int.le_refl _
theorem free_le {P D d t : Int} (hP : 1 ≤ P) (hD : 0 ≤ D) (hd : t + 1 ≤ d) : D * max 0 (d / P - (t / P + 1)) ≤ D * ((d - t - 1) / P) := by
  apply Int.mul_le_mul_of_nonneg_left _ hD
  have h0 : 0 ≤ (d - t - 1) / P := Int.ediv_nonneg (by omega) (by omega)
  have h1 := Int.mul_ediv_add_emod t P
  have h4 := Int.emod_lt_of_pos t (b := P) (by omega)
  have h5 := Int.mul_ediv_add_emod d P
  have h6 := Int.emod_nonneg d (b := P) (by omega)
  have : d / P - (t / P + 1) ≤ (d - t - 1) / P := by
    rw [Int.le_ediv_iff_mul_le (by omega), Int.sub_mul, Int.add_mul, Int.mul_comm (d / P), Int.mul_comm (t / P)]
    omega
  omega
theorem room_le {F x : Int} {P D : Nat → Int} {n : Nat} (hF : 1 ≤ F) (hx : 0 ≤ x) (hP : ∀ j, j < n → 1 ≤ P j ∧ F % P j = 0) (hD : ∀ j, j < n → 0 ≤ D j) (hU : sumN (fun j => F / P j * D j) n ≤ F) : sumN (fun j => D j * (x / P j)) n ≤ x := by
  have h1 : sumN (fun j => D j * (x / P j) * F) n ≤ sumN (fun j => F / P j * D j * x) n := by
    apply sumN_le
    intro j hj
    obtain ⟨h1, h2⟩ := hP j hj
    have h3 := Int.mul_ediv_add_emod F (P j)
    have h4 := Int.mul_ediv_add_emod x (P j)
    have h5 := Int.emod_nonneg x (b := P j) (by omega)
    have h6 : 0 ≤ F / P j * D j := Int.mul_nonneg (Int.ediv_nonneg (by omega) (by omega)) (hD j hj)
    have h7 : D j * (x / P j) * F = F / P j * D j * (P j * (x / P j)) := by
      rw [h2, Int.add_zero] at h3
      conv => lhs; rw [← h3]
      rw [Int.mul_comm (F / P j) (D j), Int.mul_assoc, Int.mul_assoc]
      congr 1
      rw [Int.mul_comm (x / P j), Int.mul_comm (P j) (F / P j), Int.mul_assoc]
    show D j * (x / P j) * F ≤ F / P j * D j * x
    rw [h7]
    exact Int.mul_le_mul_of_nonneg_left (by omega) h6
  rw [sumN_mul, sumN_mul] at h1
  have h2 : sumN (fun j => F / P j * D j) n * x ≤ F * x := Int.mul_le_mul_of_nonneg_right hU hx
  have h3 : sumN (fun j => D j * (x / P j)) n * F ≤ x * F := by rw [Int.mul_comm x F]; omega
  exact Int.le_of_mul_le_mul_right h3 (by omega)
/- one tick: what each has left, l; who runs, b -/
structure Tick (n : Nat) (P D : Nat → Int) (t : Int) (l : Nat → Int) (b : Option Nat) (l' : Nat → Int) : Prop where
  none_ : b = none → ∀ j, j < n → (if t % P j = 0 then D j else l j) ≤ 0 ∧ l' j = (if t % P j = 0 then D j else l j)
  some_ : ∀ c, b = some c → c < n ∧ 0 < (if t % P c = 0 then D c else l c) ∧ l' c = (if t % P c = 0 then D c else l c) - 1 ∧
    (∀ j, j < n → j ≠ c → l' j = (if t % P j = 0 then D j else l j)) ∧
    (∀ j, j < n → 0 < (if t % P j = 0 then D j else l j) → P c * (t / P c + 1) ≤ P j * (t / P j + 1))
/- earliest first: whatever must be done by d, there is time for it -/
theorem edf {F : Int} {n : Nat} {P D : Nat → Int} {L : Nat → Nat → Int} {B : Nat → Option Nat} (hF : 1 ≤ F) (hP : ∀ j, j < n → 1 ≤ P j ∧ F % P j = 0) (hD : ∀ j, j < n → 0 ≤ D j) (hU : sumN (fun j => F / P j * D j) n ≤ F)
    (h0 : ∀ j, j < n → L 0 j = 0) (T : Nat) (hL : ∀ t, t < T → Tick n P D t (L t) (B t) (L (t + 1))) (t : Nat) (ht : t ≤ T) :
    (∀ j, j < n → 0 ≤ L t j) ∧ ∀ d : Int, (t : Int) ≤ d → sumN (fun j => dueW (P j) (D j) d (((t : Int) + P j - 1) / P j) (L t j)) n ≤ d - t := by
  induction t with
  | zero =>
    refine ⟨fun j hj => by rw [h0 j hj]; omega, fun d hd => ?_⟩
    refine Int.le_trans (sumN_le (h := fun j => D j * (d / P j)) fun j hj => ?_) (Int.le_trans (room_le (x := d) hF hd hP hD hU) (by omega))
    obtain ⟨h1, h2⟩ := hP j hj
    rw [h0 j hj, show ((0 : Nat) : Int) + P j - 1 = P j - 1 by omega, Int.ediv_eq_zero_of_lt (by omega) (by omega)]
    unfold dueW
    have h3 : 0 ≤ d / P j := Int.ediv_nonneg (by omega) (by omega)
    rw [if_pos h3, Int.max_eq_right (by omega)]
    simp
  | succ t ih =>
    obtain ⟨ih1, ih2⟩ := ih (by omega)
    have tk := hL t (by omega)
    have hR : ∀ j, j < n → 0 ≤ (if (t : Int) % P j = 0 then D j else L t j) := fun j hj => by
      split
      · exact hD j hj
      · exact ih1 j hj
    have hN : ∀ j, j < n → 0 ≤ L (t + 1) j := fun j hj => by
      rcases hB : B t with _ | c
      · have := tk.none_ hB j hj; have := hR j hj; omega
      · obtain ⟨c1, c2, c3, c4, c5⟩ := tk.some_ c hB
        by_cases e : j = c
        · subst e; omega
        · rw [c4 j hj e]; exact hR j hj
    refine ⟨hN, fun d hd => ?_⟩
    have hmid : sumN (fun j => dueW (P j) (D j) d ((t : Int) / P j + 1) (if (t : Int) % P j = 0 then D j else L t j)) n ≤ d - t :=
      Int.le_trans (sumN_le fun j hj => dueW_reset (hP j hj).1 (hD j hj) (ih1 j hj)) (ih2 d (by omega))
    have hfree : (∀ j, j < n → 0 < (if (t : Int) % P j = 0 then D j else L t j) → d < P j * ((t : Int) / P j + 1)) → (∀ j, j < n → L (t + 1) j ≤ (if (t : Int) % P j = 0 then D j else L t j)) → sumN (fun j => dueW (P j) (D j) d ((((t + 1 : Nat) : Int) + P j - 1) / P j) (L (t + 1) j)) n ≤ d - ((t + 1 : Nat) : Int) := fun hall hle => by
      refine Int.le_trans (sumN_le (h := fun j => D j * ((d - t - 1) / P j)) fun j hj => ?_) (Int.le_trans (room_le (x := d - t - 1) hF (by omega) hP hD hU) (by omega))
      rw [show ((t + 1 : Nat) : Int) + P j - 1 = (t : Int) + 1 + P j - 1 by omega, ceil_next (hP j hj).1]
      unfold dueW
      have hz : (if (t : Int) / P j + 1 ≤ d / P j then L (t + 1) j else 0) = 0 := by
        split
        · rename_i hc
          rw [Int.le_ediv_iff_mul_le (by have := (hP j hj).1; omega), Int.mul_comm] at hc
          have h1 := hN j hj
          have h2 := hle j hj
          by_cases hpos : 0 < (if (t : Int) % P j = 0 then D j else L t j)
          · have := hall j hj hpos; omega
          · omega
        · rfl
      rw [hz, Int.zero_add]
      exact free_le (hP j hj).1 (hD j hj) (by omega)
    rcases hB : B t with _ | c
    · have hx := tk.none_ hB
      exact hfree (fun j hj hp => absurd hp (by have := (hx j hj).1; omega)) (fun j hj => by rw [(hx j hj).2]; exact Int.le_refl _)
    · obtain ⟨c1, c2, c3, c4, c5⟩ := tk.some_ c hB
      have hle : ∀ j, j < n → L (t + 1) j ≤ (if (t : Int) % P j = 0 then D j else L t j) := fun j hj => by
        by_cases e : j = c
        · subst e; omega
        · rw [c4 j hj e]; exact Int.le_refl _
      by_cases hc : P c * ((t : Int) / P c + 1) ≤ d
      · have := sumN_less (g := fun j => dueW (P j) (D j) d ((t : Int) / P j + 1) (if (t : Int) % P j = 0 then D j else L t j)) (h := fun j => dueW (P j) (D j) d ((((t + 1 : Nat) : Int) + P j - 1) / P j) (L (t + 1) j)) c1 (fun j hj hn => by
          rw [show ((t + 1 : Nat) : Int) + P j - 1 = (t : Int) + 1 + P j - 1 by omega, ceil_next (hP j hj).1, c4 j hj hn]) (by
          rw [show ((t + 1 : Nat) : Int) + P c - 1 = (t : Int) + 1 + P c - 1 by omega, ceil_next (hP c c1).1, c3]
          unfold dueW
          have hq : (t : Int) / P c + 1 ≤ d / P c := by
            rw [Int.le_ediv_iff_mul_le (by have := (hP c c1).1; omega), Int.mul_comm]; exact hc
          rw [if_pos hq, if_pos hq]; omega)
        rw [this]; omega
      · exact hfree (fun j hj hp => by have := c5 j hj hp; omega) hle
/- so each has none left at the end of its period -/
theorem edf_done {F : Int} {n : Nat} {P D : Nat → Int} {L : Nat → Nat → Int} {B : Nat → Option Nat} (hF : 1 ≤ F) (hP : ∀ j, j < n → 1 ≤ P j ∧ F % P j = 0) (hD : ∀ j, j < n → 0 ≤ D j) (hU : sumN (fun j => F / P j * D j) n ≤ F)
    (h0 : ∀ j, j < n → L 0 j = 0) (T : Nat) (hL : ∀ t, t < T → Tick n P D t (L t) (B t) (L (t + 1))) (t : Nat) (ht : t ≤ T) (j : Nat) (hj : j < n) : 0 ≤ L t j ∧ ((t : Int) % P j = 0 → L t j = 0) := by
  obtain ⟨h1, h2⟩ := edf hF hP hD hU h0 T hL t ht
  refine ⟨h1 j hj, fun hm => ?_⟩
  have h3 := h2 t (Int.le_refl _)
  have h4 := sumN_all_zero (fun i hi => dueW_nonneg (hD i hi) (h1 i hi)) (Int.le_trans h3 (by omega)) j hj
  rw [ceil_dvd (hP j hj).1 hm] at h4
  unfold dueW at h4
  rw [if_pos (Int.le_refl _), Int.sub_self, Int.max_self] at h4
  simpa using h4

/- the plan's ticks, by place -/
def perF (ps : List PartD) (j : Nat) : Int := if h : j < ps.length then ps[j].period else 1
def durF (ps : List PartD) (j : Nat) : Int := if h : j < ps.length then ps[j].duration else 0
def lefF (ps : List PartD) (t j : Nat) : Int := (planN ps t).2.getD j 0
def nowF (ps : List PartD) (t j : Nat) : Int := if (t : Int) % perF ps j = 0 then durF ps j else lefF ps t j
def endF (ps : List PartD) (t j : Nat) : Int := perF ps j * ((t : Int) / perF ps j + 1)
def tickF (ps : List PartD) (t : Nat) : Int := (planStep t ps (planN ps t).2).1
theorem endF_eq {ps : List PartD} {t j : Nat} (h : j < ps.length) : dueF t ps[j] = endF ps t j := by
  unfold dueF endF perF
  rw [dif_pos h, Int.mul_add, Int.mul_one]
  have := Int.mul_ediv_add_emod (t : Int) ps[j].period
  omega
theorem refK_get {t : Nat} {ps : List PartD} {ls : List Int} (hl : ls.length = ps.length) (k : Nat) (hk : k ≤ ps.length) (j : Nat) (hj : j < ps.length) : (refK t ps ls k).getD j 0 = if j < k then fresh1 t ps[j] (ls.getD j 0) else ls.getD j 0 := by
  induction k with
  | zero => rw [if_neg (by omega)]; rfl
  | succ k ih =>
    rw [refK_step (by omega), getD_set _ _ _ _ (by rw [refK_len]; omega)]
    by_cases e : k = j
    · subst e
      rw [if_pos rfl, if_pos (by omega), ih (by omega), if_neg (by omega)]
    · rw [if_neg e, ih (by omega)]
      by_cases h1 : j < k
      · rw [if_pos h1, if_pos (by omega)]
      · rw [if_neg h1, if_neg (by omega)]
theorem fresh_now {ps : List PartD} {t j : Nat} (h : j < ps.length) : fresh1 t ps[j] ((planN ps t).2.getD j 0) = nowF ps t j := by
  unfold fresh1 nowF perF durF lefF
  rw [dif_pos h, dif_pos h]
theorem bestK_spec {t : Nat} {ps : List PartD} (k : Nat) (hk : k ≤ ps.length) :
    ((bestK t ps (planN ps t).2 k).1 = -1 ∧ ∀ j, j < k → nowF ps t j ≤ 0) ∨
    ∃ c : Nat, c < k ∧ bestK t ps (planN ps t).2 k = ((c : Int), endF ps t c) ∧ 0 < nowF ps t c ∧ ∀ j, j < k → 0 < nowF ps t j → endF ps t c < endF ps t j ∨ endF ps t c = endF ps t j ∧ c ≤ j := by
  induction k with
  | zero => exact .inl ⟨rfl, fun j hj => absurd hj (by omega)⟩
  | succ k ih =>
    have hk' : k < ps.length := by omega
    have hln := (planN_len ps t).2
    have hr : fresh1 t ps[k] ((refK t ps (planN ps t).2 k).getD k 0) = nowF ps t k := by
      rw [refK_get hln k (by omega) k hk', if_neg (by omega)]; exact fresh_now hk'
    rw [bestK_step hk', hr, endF_eq hk']
    rcases ih (by omega) with ⟨h1, h2⟩ | ⟨c, h1, h2, h3, h4⟩
    · by_cases hp : 0 < nowF ps t k
      · rw [if_pos ⟨hp, .inl (by omega)⟩]
        refine .inr ⟨k, by omega, rfl, hp, fun j hj hpj => ?_⟩
        rcases Nat.lt_or_ge j k with h5 | h5
        · have := h2 j h5; omega
        · have : j = k := by omega
          subst this; omega
      · rw [if_neg (fun h => hp h.1)]
        refine .inl ⟨h1, fun j hj => ?_⟩
        rcases Nat.lt_or_ge j k with h5 | h5
        · exact h2 j h5
        · have : j = k := by omega
          subst this; omega
    · rw [h2]
      by_cases hp : 0 < nowF ps t k ∧ endF ps t k < endF ps t c
      · rw [if_pos ⟨hp.1, .inr hp.2⟩]
        refine .inr ⟨k, by omega, rfl, hp.1, fun j hj hpj => ?_⟩
        rcases Nat.lt_or_ge j k with h5 | h5
        · have := h4 j h5 hpj; omega
        · have : j = k := by omega
          subst this; omega
      · have hn : ¬ (0 < nowF ps t k ∧ (((c : Int), endF ps t c).1 < 0 ∨ endF ps t k < ((c : Int), endF ps t c).2)) := fun h => by
          rcases h.2 with h5 | h5
          · have h6 : (c : Int) < 0 := h5
            omega
          · exact hp ⟨h.1, h5⟩
        rw [if_neg hn]
        refine .inr ⟨c, by omega, rfl, h3, fun j hj hpj => ?_⟩
        rcases Nat.lt_or_ge j k with h5 | h5
        · exact h4 j h5 hpj
        · have : j = k := by omega
          subst this
          have : ¬ endF ps t j < endF ps t c := fun h => hp ⟨hpj, h⟩
          omega
/- one tick of the plan -/
theorem run_spec (ps : List PartD) (t : Nat) :
    (tickF ps t = -1 ∧ (∀ j, j < ps.length → nowF ps t j ≤ 0) ∧ ∀ j, j < ps.length → lefF ps (t + 1) j = nowF ps t j) ∨
    ∃ c : Nat, c < ps.length ∧ tickF ps t = (c : Int) ∧ 0 < nowF ps t c ∧ (∀ j, j < ps.length → 0 < nowF ps t j → endF ps t c < endF ps t j ∨ endF ps t c = endF ps t j ∧ c ≤ j) ∧ ∀ j, j < ps.length → lefF ps (t + 1) j = if c = j then nowF ps t c - 1 else nowF ps t j := by
  have hln := (planN_len ps t).2
  have hr : ∀ j (hj : j < ps.length), (refK t ps (planN ps t).2 ps.length).getD j 0 = nowF ps t j := fun j hj => by
    rw [refK_get hln _ (Nat.le_refl _) j hj, if_pos hj]; exact fresh_now hj
  rcases bestK_spec (t := t) ps.length (Nat.le_refl _) with ⟨h1, h2⟩ | ⟨c, h1, h2, h3, h4⟩
  · refine .inl ⟨h1, h2, fun j hj => ?_⟩
    show (planStep t ps (planN ps t).2).2.getD j 0 = _
    unfold planStep
    rw [h1, if_pos (by omega)]
    exact hr j hj
  · refine .inr ⟨c, h1, ?_, h3, h4, fun j hj => ?_⟩
    · show (bestK t ps (planN ps t).2 ps.length).1 = _
      rw [h2]
    · show (planStep t ps (planN ps t).2).2.getD j 0 = _
      unfold planStep
      rw [h2]
      simp only [Int.toNat_natCast]
      rw [if_neg (by omega), getD_set _ _ _ _ (by rw [refK_len, hln]; exact h1), hr c h1, hr j hj]
theorem planN_succ (ps : List PartD) (t : Nat) : (planN ps (t + 1)).1 = (planN ps t).1 ++ [tickF ps t] := rfl
theorem sumN_ticks (F : Int) (ps : List PartD) : sumN (fun j => F / perF ps j * durF ps j) ps.length = ticksF F ps := by
  have key : ∀ k, k ≤ ps.length → sumN (fun j => F / perF ps j * durF ps j) k = ticksF F (ps.take k) := by
    intro k
    induction k with
    | zero => intro _; simp [sumN, ticksF]
    | succ k ih =>
      intro hk
      have e : ps.take (k + 1) = ps.take k ++ [ps[k]] := by simp
      simp only [sumN]
      rw [ih (by omega), e]
      unfold ticksF
      rw [List.map_append, List.sum_append]
      unfold perF durF
      rw [dif_pos (by omega), dif_pos (by omega)]
      simp
  have := key ps.length (Nat.le_refl _)
  rwa [List.take_length] at this
structure PartsT (F : Int) (ps : List PartD) : Prop where
  pos : 1 ≤ F
  per : ∀ j (h : j < ps.length), 1 ≤ ps[j].period ∧ F % ps[j].period = 0
  dur : ∀ j (h : j < ps.length), 1 ≤ ps[j].duration
  fit : ticksF F ps ≤ F
theorem PartsT.done {F : Int} {ps : List PartD} (h : PartsT F ps) (t j : Nat) (hj : j < ps.length) : 0 ≤ lefF ps t j ∧ ((t : Int) % perF ps j = 0 → lefF ps t j = 0) := by
  refine edf_done (F := F) (n := ps.length) (P := perF ps) (D := durF ps) (L := lefF ps) (B := fun t => if tickF ps t < 0 then none else some (tickF ps t).toNat) h.pos ?_ ?_ ?_ ?_ t ?_ t (Nat.le_refl _) j hj
  · intro i hi; unfold perF; rw [dif_pos hi]; exact h.per i hi
  · intro i hi; unfold durF; rw [dif_pos hi]; have := h.dur i hi; omega
  · rw [sumN_ticks]; exact h.fit
  · intro i hi
    show (List.replicate ps.length (0 : Int)).getD i 0 = 0
    simp only [List.getD, List.getElem?_replicate]
    split <;> rfl
  · intro s _
    rcases run_spec ps s with ⟨h1, h2, h3⟩ | ⟨c, h1, h2, h3, h4, h5⟩
    · refine ⟨fun _ i hi => ⟨h2 i hi, h3 i hi⟩, fun c hc => ?_⟩
      rw [if_pos (by omega)] at hc
      cases hc
    · refine ⟨fun hn => ?_, fun d hd => ?_⟩
      · rw [if_neg (by omega)] at hn; cases hn
      · rw [if_neg (by omega), h2, Int.toNat_natCast] at hd
        cases hd
        refine ⟨h1, h3, ?_, fun i hi hne => ?_, fun i hi hp => ?_⟩
        · rw [h5 c h1, if_pos rfl]; rfl
        · rw [h5 i hi, if_neg (Ne.symm hne)]; rfl
        · have := h4 i hi hp
          unfold endF at this; omega
end Go.Proofs.Yteioennfpkoagaa.C
