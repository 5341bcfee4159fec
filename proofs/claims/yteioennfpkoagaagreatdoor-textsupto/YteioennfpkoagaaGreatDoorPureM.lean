import Derived.Test.YteioennfpkoagaaGreatDoorPure
namespace Go.Proofs.YteioennfpkoagaaGreatDoor
open Go.RowKit

/- the place behind bytes that are read from a place on -/
def placeFrom (p : Int × Int) (l : List UInt8) : Int × Int := l.foldl (fun p b => if b.toNat = 10 then (p.1 + 1, 1) else (p.1, p.2 + 1)) p
theorem placeFrom_nil (p : Int × Int) : placeFrom p [] = p := rfl
theorem placeFrom_cons (p : Int × Int) (b : UInt8) (l : List UInt8) : placeFrom p (b :: l) = placeFrom (if b.toNat = 10 then (p.1 + 1, 1) else (p.1, p.2 + 1)) l := rfl
theorem placeFrom_append (p : Int × Int) (a b : List UInt8) : placeFrom p (a ++ b) = placeFrom (placeFrom p a) b := by simp [placeFrom, List.foldl_append]
theorem placeL_from (l : List UInt8) : placeL l = placeFrom (1, 1) l := rfl
theorem ten (b : UInt8) : b.toNat = 10 ↔ b = 10 := by
  constructor
  · intro h; apply UInt8.toNat_inj.1; exact h
  · intro h; rw [h]; rfl
theorem placeFrom_none (p : Int × Int) (l : List UInt8) (h : l.count 10 = 0) : placeFrom p l = (p.1, p.2 + l.length) := by
  induction l generalizing p with
  | nil => simp [placeFrom]
  | cons b l ih =>
    have hb : ¬ b = 10 := by intro e; subst e; simp at h
    have hl : l.count 10 = 0 := by rw [List.count_cons] at h; omega
    rw [placeFrom_cons, if_neg (by rw [ten]; exact hb), ih _ hl]
    simp; omega
theorem placeFrom_line (p : Int × Int) (l : List UInt8) : (placeFrom p l).1 = p.1 + l.count 10 := by
  induction l generalizing p with
  | nil => simp [placeFrom]
  | cons b l ih =>
    rw [placeFrom_cons, ih, List.count_cons]
    by_cases hb : b = 10
    · subst hb; rw [if_pos (show UInt8.toNat 10 = 10 from rfl)]; simp; omega
    · rw [if_neg (by rw [ten]; exact hb)]; simp [hb]
theorem placeFrom_last (p : Int × Int) (a b : List UInt8) (h : b.count 10 = 0) : placeFrom p (a ++ 10 :: b) = (p.1 + (a ++ 10 :: b).count 10, 1 + (b.length : Int)) := by
  rw [placeFrom_append, placeFrom_cons, if_pos (show UInt8.toNat 10 = 10 from rfl), placeFrom_none _ _ h, placeFrom_line]
  simp [List.count_append, h]; omega
/- the last line feed of a string -/
def LastNl (s : ByteArray) (m : Int) : Prop := (m = -1 ∧ ∀ j (h : j < s.size), ¬ s[j].toNat = 10) ∨ ∃ k : Nat, m = k ∧ ∃ hk : k < s.size, s[k].toNat = 10 ∧ ∀ j (h : j < s.size), k < j → ¬ s[j].toNat = 10
theorem count_zero_of (l : List UInt8) (h : ∀ b ∈ l, ¬ b.toNat = 10) : l.count 10 = 0 := by
  rw [List.count_eq_zero]
  intro hm; exact h 10 hm rfl
theorem lastNl_place (p : Int × Int) (s : ByteArray) (m : Int) (h : LastNl s m) (hc : s.data.toList.count 10 ≠ 0) : placeFrom p s.data.toList = (p.1 + s.data.toList.count 10, (s.size : Int) - m) := by
  rcases h with ⟨rfl, hn⟩ | ⟨k, rfl, hk, h10, hn⟩
  · exfalso; apply hc; apply count_zero_of
    intro b hb
    obtain ⟨j, hj, rfl⟩ := List.mem_iff_getElem.1 hb
    exact hn j (by simpa using hj)
  · have e : s.data.toList = s.data.toList.take k ++ 10 :: s.data.toList.drop (k + 1) := by
      have h1 := drop_cons s k hk
      have h2 : s[k] = 10 := (ten _).1 h10
      rw [h2] at h1
      rw [← h1, List.take_append_drop]
    have hz : (s.data.toList.drop (k + 1)).count 10 = 0 := by
      apply count_zero_of
      intro b hb
      obtain ⟨j, hj, rfl⟩ := List.mem_iff_getElem.1 hb
      rw [List.getElem_drop]
      simp at hj
      exact hn (k + 1 + j) (by omega) (by omega)
    have hl : ((s.data.toList.drop (k + 1)).length : Int) = s.size - (k + 1) := by simp; omega
    have := placeFrom_last p (s.data.toList.take k) (s.data.toList.drop (k + 1)) hz
    rw [← e] at this
    rw [this, hl]
    ext
    · rfl
    · simp; omega
theorem gapF_none (r : Bool) (s : ByteArray) (k : Nat) (h : s.size ≤ k) : gapF r (s.data.toList.drop k) = 0 := gapF_end r s k h
end Go.Proofs.YteioennfpkoagaaGreatDoor
