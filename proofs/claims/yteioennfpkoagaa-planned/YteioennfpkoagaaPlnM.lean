import Derived.Test.YteioennfpkoagaaPlnL
namespace Go.Proofs.Yteioennfpkoagaa.C
open Go.RowKit

/- how often one runs -/
def cntF (ps : List PartD) (i a : Nat) : Nat → Int
  | 0 => 0
  | r + 1 => cntF ps i a r + if tickF ps (a + r) = (i : Int) then 1 else 0
theorem left_next {ps : List PartD} {t i : Nat} (hi : i < ps.length) : lefF ps (t + 1) i = nowF ps t i - if tickF ps t = (i : Int) then 1 else 0 := by
  rcases run_spec ps t with ⟨h1, h2, h3⟩ | ⟨c, h1, h2, h3, h4, h5⟩
  · rw [h3 i hi, if_neg (by omega)]; omega
  · rw [h5 i hi]
    by_cases e : c = i
    · subst e; rw [if_pos rfl, if_pos h2]
    · rw [if_neg e, if_neg (by omega)]; omega
theorem cnt_left {ps : List PartD} {i P : Nat} (hi : i < ps.length) (hP : perF ps i = (P : Int)) (k r : Nat) (h1 : 1 ≤ r) (h2 : r ≤ P) : cntF ps i (k * P) r = durF ps i - lefF ps (k * P + r) i := by
  induction r with
  | zero => omega
  | succ r ih =>
    rw [← Nat.add_assoc, left_next hi]
    simp only [cntF]
    rcases Nat.eq_zero_or_pos r with h0 | h0
    · subst h0
      have hm : ((k * P + 0 : Nat) : Int) % perF ps i = 0 := by
        rw [hP, Nat.add_zero]
        exact_mod_cast Nat.mul_mod_left k P
      unfold nowF
      rw [if_pos hm]
      simp only [cntF]; omega
    · have hm : ¬ ((k * P + r : Nat) : Int) % perF ps i = 0 := by
        rw [hP]
        have : (k * P + r) % P = r := by rw [Nat.add_comm, Nat.add_mul_mod_self_right]; exact Nat.mod_eq_of_lt (by omega)
        have h3 : ((k * P + r : Nat) : Int) % (P : Int) = (((k * P + r) % P : Nat) : Int) := by norm_cast
        rw [this] at h3
        omega
      rw [ih h0 (by omega)]
      unfold nowF
      rw [if_neg hm]; omega
theorem cnt_whole {F : Int} {ps : List PartD} (h : PartsT F ps) {i P : Nat} (hi : i < ps.length) (hP : perF ps i = (P : Int)) (k : Nat) : cntF ps i (k * P) P = durF ps i := by
  have hp := perF_pos h hi
  rw [cnt_left hi hP k P (by omega) (Nat.le_refl _)]
  have hm : ((k * P + P : Nat) : Int) % perF ps i = 0 := by
    rw [hP, ← Nat.succ_mul]
    exact_mod_cast Nat.mul_mod_left (k + 1) P
  rw [(h.done _ i hi).2 hm]; omega
theorem plan_at (ps : List PartD) (n t : Nat) (h : t < n) : (planN ps n).1.getD t 0 = tickF ps t := by
  induction n with
  | zero => omega
  | succ n ih =>
    rw [planN_succ]
    have hl := (planN_len ps n).1
    rcases Nat.lt_or_ge t n with h1 | h1
    · rw [← ih h1]
      simp [List.getD, List.getElem?_append_left (show t < (planN ps n).1.length by omega)]
    · have : t = n := by omega
      subst this
      simp [List.getD, hl]
theorem tick_in (ps : List PartD) (t : Nat) : -1 ≤ tickF ps t ∧ tickF ps t < ps.length := by
  rcases run_spec ps t with ⟨h1, _⟩ | ⟨c, h1, h2, _⟩ <;> omega
end Go.Proofs.Yteioennfpkoagaa.C
