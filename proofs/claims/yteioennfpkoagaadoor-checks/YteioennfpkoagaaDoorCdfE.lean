import Derived.Test.YteioennfpkoagaaDoorCdfD
namespace Go.Proofs.YteioennfpkoagaaDoor.C
open Go.RowKit
attribute [local go_sem ↓] Go.wp_at_zero Go.wp_at_succ

def firstNZ (f : Nat → Int) : Nat → Int
  | 0 => 0
  | n + 1 => if firstNZ f n = 0 then f n else firstNZ f n
theorem firstNZ_stop {f : Nat → Int} {i n : Nat} (h0 : firstNZ f i = 0) (h1 : ¬ f i = 0) (hi : i < n) : firstNZ f n = f i := by
  induction n with
  | zero => omega
  | succ n ih =>
    rcases Nat.lt_or_ge i n with h | h
    · have := ih h
      show (if firstNZ f n = 0 then f n else firstNZ f n) = f i
      rw [this, if_neg h1]
    · have : i = n := by omega
      subst this
      show (if firstNZ f i = 0 then f i else firstNZ f i) = f i
      rw [if_pos h0]
theorem firstNZ_step {f : Nat → Int} {i : Nat} (h0 : firstNZ f i = 0) (h1 : f i = 0) : firstNZ f (i + 1) = 0 := by
  show (if firstNZ f i = 0 then f i else firstNZ f i) = 0
  rw [if_pos h0, h1]
theorem firstNZ_all {f : Nat → Int} {n i : Nat} (h : firstNZ f n = 0) (hi : i < n) : f i = 0 := by
  rcases Decidable.em (f i = 0) with e | e
  · exact e
  · exfalso
    have h0 : ∀ m, m ≤ n → firstNZ f m = 0 := by
      intro m hm
      induction n with
      | zero => have : m = 0 := by omega
                subst this; rfl
      | succ n ih =>
        have hn : firstNZ f n = 0 := by
          rcases Decidable.em (firstNZ f n = 0) with e | e
          · exact e
          · have : (if firstNZ f n = 0 then f n else firstNZ f n) = 0 := h
            rw [if_neg e] at this; exact absurd this e
        rcases Nat.lt_or_ge n m with h' | h'
        · have : m = n + 1 := by omega
          subst this; exact h
        · rcases Nat.lt_or_ge i n with h2 | h2
          · exact ih hn h2 h'
          · have : i = n := by omega
            subst this
            exfalso
            have : (if firstNZ f i = 0 then f i else firstNZ f i) = 0 := h
            rw [if_pos hn] at this; exact e this
    rw [firstNZ_stop (h0 i (by omega)) e hi] at h
    exact e h
def partAt (M : ManD) (i : Nat) : Int := if h : i < M.parts.length then partErr M.frame (M.parts.take i) M.parts[i] else 0
def chanAt (M : ManD) (i : Nat) : Int := if h : i < M.chans.length then chanErr M.frame M.parts.length (M.chans.take i) M.chans[i] else 0
def wideB (ps : List PartD) : Bool := ps.any fun p => decide ((4 : Int) < (p.regs.length : Int))
def manyB (M : ManD) : Bool := decide (M.parts.length < 1) || decide (8 < M.parts.length) || decide (8 < M.chans.length) || wideB M.parts
def ticksF (f : Int) (ps : List PartD) : Int := (ps.map fun p => f / p.period * p.duration).sum
def regPages (rs : List RegD) : Int := (rs.map RegD.pages).sum
def pagesF (ps : List PartD) : Int := (ps.map fun p => regPages p.regs).sum
def checkF (M : ManD) : Int :=
  if M.frame < 1 ∨ 240 < M.frame then 5
  else if manyB M = true then 6
  else if ¬ firstNZ (partAt M) M.parts.length = 0 then firstNZ (partAt M) M.parts.length
  else if ¬ firstNZ (chanAt M) M.chans.length = 0 then firstNZ (chanAt M) M.chans.length
  else if M.frame < ticksF M.frame M.parts then 16
  else if 64 < pagesF M.parts then 17 else 0
theorem wideB_step {ps : List PartD} {k : Nat} (hk : k < ps.length) : wideB (ps.take (k + 1)) = (wideB (ps.take k) || decide ((4 : Int) < (ps[k].regs.length : Int))) := by
  unfold wideB
  rw [take_snocD ps k hk, List.any_append]; simp
theorem ticksF_step (f : Int) {ps : List PartD} {k : Nat} (hk : k < ps.length) : ticksF f (ps.take (k + 1)) = ticksF f (ps.take k) + f / ps[k].period * ps[k].duration := by
  unfold ticksF
  rw [take_snocD ps k hk, List.map_append, List.sum_append]; simp
theorem pagesF_step {ps : List PartD} {k : Nat} (hk : k < ps.length) : pagesF (ps.take (k + 1)) = pagesF (ps.take k) + regPages ps[k].regs := by
  unfold pagesF
  rw [take_snocD ps k hk, List.map_append, List.sum_append]; simp
theorem regPages_step {rs : List RegD} {k : Nat} (hk : k < rs.length) : regPages (rs.take (k + 1)) = regPages (rs.take k) + rs[k].pages := by
  unfold regPages
  rw [take_snocD rs k hk, List.map_append, List.sum_append]; simp
/- what a right partition gives -/
theorem partErr_ok {f : Int} {bef : List PartD} {x : PartD} (h : partErr f bef x = 0) : 1 ≤ x.period ∧ x.period ≤ f ∧ 1 ≤ x.duration ∧ x.duration ≤ x.period ∧ 1 ≤ x.action ∧ x.action ≤ 3 ∧ RegsOK x.regs := by
  unfold partErr at h
  split at h
  · cases h
  split at h
  · cases h
  split at h
  · cases h
  split at h
  · cases h
  split at h
  · cases h
  rename_i h1 h2 h3 h4
  refine ⟨by omega, by omega, by omega, by omega, by omega, by omega, ?_⟩
  rw [← regsF_iff]; simpa using h4
theorem regPages_bd {rs : List RegD} (h : RegsOK rs) (k : Nat) : 0 ≤ regPages (rs.take k) ∧ regPages (rs.take k) ≤ 64 * k := by
  induction k with
  | zero => simp [regPages]
  | succ k ih =>
    rcases Nat.lt_or_ge k rs.length with hk | hk
    · rw [regPages_step hk]
      have := h.1 rs[k] (List.getElem_mem _)
      unfold regB at this
      simp at this
      omega
    · rw [List.take_of_length_le (by omega)] at *
      omega
end Go.Proofs.YteioennfpkoagaaDoor.C
