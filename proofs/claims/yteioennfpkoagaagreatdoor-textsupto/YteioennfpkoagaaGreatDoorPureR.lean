import Derived.Test.YteioennfpkoagaaGreatDoorPure
namespace Go.Proofs.YteioennfpkoagaaGreatDoor
open Go.RowKit

/- The reference's reader: the place of the next token; the error; its line and column. -/
structure RS where
  at' : Nat
  e : Nat
  ln : Int
  cl : Int
def lk (l : List UInt8) (k : Nat) : Nat := looksF (tk l k).sort (tk l k).text
def failR (l : List UInt8) (r : RS) (er : Nat) : RS :=
  if r.e ≠ 0 then r else ⟨r.at', if lk l r.at' ≠ 0 then lk l r.at' else er, (tk l r.at').line, (tk l r.at').col⟩
def isR (l : List UInt8) (r : RS) (kw : List UInt8) : Bool := decide (r.e = 0 ∧ (tk l r.at').sort ≠ 0 ∧ (tk l r.at').text = kw)
def nextR (r : RS) : RS := ⟨r.at' + 1, r.e, r.ln, r.cl⟩
def mustR (l : List UInt8) (r : RS) : List (List UInt8) → RS
  | [] => r
  | kw :: t => if isR l r kw = true then mustR l (nextR r) t else failR l r 1
def someR (l : List UInt8) (r : RS) (sort : Nat) : List UInt8 × RS :=
  if r.e ≠ 0 then ([], r) else if (tk l r.at').sort ≠ sort ∨ lk l r.at' ≠ 0 then ([], failR l r 1) else ((tk l r.at').text, nextR r)
def numberR (l : List UInt8) (r : RS) : Int × RS := (valF (someR l r 2).1, (someR l r 2).2)
def oneOfR (l : List UInt8) (r : RS) (i : Nat) : List (List UInt8) → Nat × RS
  | [] => (0, failR l r 1)
  | kw :: t => if isR l r kw = true then (i + 1, nextR r) else oneOfR l r (i + 1) t
def endGo (l : List UInt8) (r : RS) (i : Nat) : List (List UInt8) → Nat × RS
  | [] => (0, failR l r (if (tk l r.at').sort = 1 then 4 else 1))
  | nm :: t => if (tk l r.at').sort = 1 ∧ nm = (tk l r.at').text then (i, nextR r) else endGo l r (i + 1) t
def endR (l : List UInt8) (r : RS) (names : List (List UInt8)) : Nat × RS := if r.e ≠ 0 then (0, r) else endGo l r 0 names

/- a text parted at its blanks -/
def wordsF (cur : List UInt8) : List UInt8 → List (List UInt8)
  | [] => [cur]
  | b :: t => if b.toNat = 32 then cur :: wordsF [] t else wordsF (cur ++ [b]) t

/- the sorts -/
theorem tokF_sort (l : List UInt8) : (tokF l).2 ≤ 4 ∧ ((tokF l).2 = 0 ↔ l = []) := by
  cases l with
  | nil => simp [tokF]
  | cons b r =>
    simp only [tokF]
    split; · simp
    split; · simp
    split; · simp
    split <;> simp
theorem tk_sort_le (l : List UInt8) (k : Nat) : (tk l k).sort ≤ 4 := (tokF_sort _).1
theorem tk_end (l : List UInt8) (k : Nat) : (tk l k).sort = 0 ↔ pos l k = l.length := by
  have h := (tokF_sort (l.drop (pos l k))).2
  have h2 := pos_le l k
  show (tokF (l.drop (pos l k))).2 = 0 ↔ _
  rw [h, List.drop_eq_nil_iff]; omega
theorem tk_len (l : List UInt8) (k : Nat) : (tk l k).text.length ≤ l.length := by
  show ((l.drop (pos l k)).take _).length ≤ _
  rw [List.length_take, List.length_drop]; omega
/- the count of tokens: n: the end stands at n -/
theorem tk_lt (l : List UInt8) (n k : Nat) (hn : pos l n = l.length) (hk : k ≤ n) (h : (tk l k).sort ≠ 0) : k < n := by
  rcases Nat.lt_or_ge k n with h' | h'
  · exact h'
  · have : k = n := by omega
    subst this; exact absurd ((tk_end l k).2 hn) h
theorem lk_cases (l : List UInt8) (k : Nat) : lk l k = 0 ∨ lk l k = 2 ∨ lk l k = 3 := by
  unfold lk looksF
  split; · simp
  split; · simp
  split; · simp
  split <;> simp
theorem lk_end (l : List UInt8) (k : Nat) (h : (tk l k).sort = 0) : lk l k = 0 := by
  unfold lk looksF; rw [h]; simp
end Go.Proofs.YteioennfpkoagaaGreatDoor
