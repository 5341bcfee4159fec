import Derived.Test.YteioennfpkoagaaGreatDoorPureQ
import Derived.Test.YteioennfpkoagaaGreatDoorPureM
namespace Go.Proofs.YteioennfpkoagaaGreatDoor
open Go.RowKit

/- The program's parser: at a token that is right in itself; or an error, its line and column. -/
def St := Sum Nat (Nat × Int × Int)
def normP (l : List UInt8) (k : Nat) : St := if lk l k = 0 then .inl k else .inr (lk l k, (tk l k).line, (tk l k).col)
def badP (l : List UInt8) (k er : Nat) : St := .inr (er, (tk l k).line, (tk l k).col)
def advP (l : List UInt8) : St → St
  | .inl k => normP l (k + 1)
  | .inr e => .inr e
def refP (l : List UInt8) (er : Nat) : St → St
  | .inl k => badP l k er
  | .inr e => .inr e
def atP (l : List UInt8) (kw : List UInt8) : St → Bool
  | .inl k => decide ((tk l k).text = kw)
  | .inr _ => false
def expP (l : List UInt8) (kw : List UInt8) (st : St) : St := if atP l kw st = true then advP l st else refP l 1 st
def kindT (t : Tok) : Nat := if t.sort = 1 then 1 else if t.sort = 2 then 2 else 0
def wordP (l : List UInt8) : St → List UInt8 × St
  | .inl k => if kindT (tk l k) = 1 then ((tk l k).text, normP l (k + 1)) else ([], badP l k 1)
  | .inr e => ([], .inr e)
def numP (l : List UInt8) : St → Int × St
  | .inl k => if kindT (tk l k) = 2 then (valF (tk l k).text, normP l (k + 1)) else (0, badP l k 1)
  | .inr e => (0, .inr e)
def choP (l : List UInt8) (st : St) (i : Nat) : List (List UInt8) → Nat × St
  | [] => (0, refP l 1 st)
  | kw :: t => if atP l kw st = true then (i + 1, advP l st) else choP l st (i + 1) t
def plcGo (l : List UInt8) (k i : Nat) : List (List UInt8) → Nat × St
  | [] => (0, badP l k 4)
  | nm :: t => if nm = (tk l k).text then (i, normP l (k + 1)) else plcGo l k (i + 1) t
def plcP (l : List UInt8) (names : List (List UInt8)) : St → Nat × St
  | .inl k => if kindT (tk l k) = 1 then plcGo l k 0 names else (0, badP l k 1)
  | .inr e => (0, .inr e)
/- where the k-th token ends -/
def endp (l : List UInt8) (k : Nat) : Nat := pos l k + (tokF (l.drop (pos l k))).1
theorem endp_le (l : List UInt8) (k : Nat) : endp l k ≤ l.length := by
  have h1 := tokF_le (l.drop (pos l k))
  have h2 := pos_le l k
  simp only [List.length_drop] at h1
  unfold endp; omega
theorem pos_endp (l : List UInt8) (k : Nat) : pos l (k + 1) = endp l k + gapF false (l.drop (endp l k)) := rfl
/- the place at an index -/
def plc (l : List UInt8) (i : Nat) : Int × Int := placeL (l.take i)
theorem plc_bd (l : List UInt8) (i : Nat) (h : l.length ≤ 8192) : 1 ≤ (plc l i).1 ∧ (plc l i).1 ≤ 8193 ∧ 1 ≤ (plc l i).2 ∧ (plc l i).2 ≤ 8193 := by
  have h1 := placeL_bd (l.take i)
  have h2 : (l.take i).length ≤ l.length := by rw [List.length_take]; omega
  unfold plc; omega
theorem plc_on (l : List UInt8) (i n : Nat) : placeFrom (plc l i) ((l.drop i).take n) = plc l (i + n) := by
  unfold plc
  rw [placeL_from, placeL_from, ← placeFrom_append, ← List.take_add]
theorem tk_line (l : List UInt8) (k : Nat) : (tk l k).line = (plc l (pos l k)).1 := rfl
theorem tk_col (l : List UInt8) (k : Nat) : (tk l k).col = (plc l (pos l k)).2 := rfl
theorem tk_text (l : List UInt8) (k : Nat) : (tk l k).text = (l.drop (pos l k)).take (tokF (l.drop (pos l k))).1 := rfl
/- the kind by the first byte is the kind by the sort -/
theorem kind_tok (m : List UInt8) : (if (tokF m).2 = 1 then 1 else if (tokF m).2 = 2 then 2 else 0) = (match m.take (tokF m).1 with | [] => 0 | b :: _ => if smallB b.toNat = true then 1 else if digitB b.toNat = true then 2 else 0) := by
  cases m with
  | nil => simp [tokF]
  | cons b r =>
    have hp := tokF_pos (b :: r) (by simp)
    obtain ⟨q, hq⟩ : ∃ q, (tokF (b :: r)).1 = q + 1 := ⟨(tokF (b :: r)).1 - 1, by omega⟩
    rw [hq, List.take_succ_cons]
    simp only [tokF]
    by_cases h1 : smallB b.toNat = true
    · simp [h1]
    · by_cases h2 : digitB b.toNat = true
      · simp [h1, h2]
      · simp only [h1, h2, if_false, Bool.false_eq_true]
        split; · simp
        split <;> simp
theorem looks_kind (s : Nat) (m : List UInt8) : looksF (if s = 1 then 1 else if s = 2 then 2 else 0) m = looksF s m := by
  unfold looksF
  by_cases h1 : s = 1
  · subst h1; simp
  · by_cases h2 : s = 2
    · subst h2; simp
    · simp [h1, h2]
end Go.Proofs.YteioennfpkoagaaGreatDoor
