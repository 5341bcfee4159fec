import Derived.Below
namespace Go.Proofs.YteioennfpkoagaaDoor
open Go.RowKit

def smallB (n : Int) : Bool := decide (97 ≤ n ∧ n ≤ 122)
def digitB (n : Int) : Bool := decide (48 ≤ n ∧ n ≤ 57)
def insideB (n : Int) : Bool := smallB n || digitB n || n == 95

/- the place behind the first k bytes -/
def placeL (l : List UInt8) : Int × Int := l.foldl (fun p b => if b.toNat = 10 then (p.1 + 1, 1) else (p.1, p.2 + 1)) (1, 1)
theorem placeL_snoc (l : List UInt8) (b : UInt8) : placeL (l ++ [b]) = if b.toNat = 10 then ((placeL l).1 + 1, 1) else ((placeL l).1, (placeL l).2 + 1) := by
  simp [placeL, List.foldl_append]
theorem placeL_bd (l : List UInt8) : 1 ≤ (placeL l).1 ∧ (placeL l).1 ≤ l.length + 1 ∧ 1 ≤ (placeL l).2 ∧ (placeL l).2 ≤ l.length + 1 := by
  have key : ∀ (n : Nat) (l : List UInt8), l.length = n → 1 ≤ (placeL l).1 ∧ (placeL l).1 ≤ l.length + 1 ∧ 1 ≤ (placeL l).2 ∧ (placeL l).2 ≤ l.length + 1 := by
    intro n
    induction n with
    | zero => intro l h; have := List.eq_nil_of_length_eq_zero h; subst this; simp [placeL]
    | succ n ih =>
      intro l h
      have hne : l ≠ [] := by intro h0; subst h0; simp at h
      rw [← List.dropLast_concat_getLast hne, placeL_snoc]
      have := ih l.dropLast (by simp [h])
      have hd : (l.dropLast.length : Int) = l.length - 1 := by simp [h]
      simp only [List.length_append, List.length_singleton]
      split <;> simp only [] <;> omega
  exact key _ l rfl

theorem take_snoc (s : ByteArray) (k : Nat) (h : k < s.size) : s.data.toList.take (k + 1) = s.data.toList.take k ++ [s[k]] := by
  rw [List.take_succ_eq_append_getElem (by simpa using h)]; rfl
theorem drop_cons (s : ByteArray) (k : Nat) (h : k < s.size) : s.data.toList.drop k = s[k] :: s.data.toList.drop (k + 1) := by
  rw [List.drop_eq_getElem_cons (by simpa using h)]; rfl

theorem placeL_step (s : ByteArray) (k : Nat) (h : k < s.size) : placeL (s.data.toList.take (k + 1)) = if s[k].toNat = 10 then ((placeL (s.data.toList.take k)).1 + 1, 1) else ((placeL (s.data.toList.take k)).1, (placeL (s.data.toList.take k)).2 + 1) := by
  rw [take_snoc s k h, placeL_snoc]

/- how many bytes stand ahead of the next token -/
def gapF : Bool → List UInt8 → Nat
  | _, [] => 0
  | r, b :: l => if b.toNat = 10 then gapF false l + 1 else if b.toNat = 35 then gapF true l + 1 else if b.toNat = 32 ∨ r = true then gapF r l + 1 else 0
theorem gapF_le (r : Bool) (l : List UInt8) : gapF r l ≤ l.length := by
  induction l generalizing r with
  | nil => simp [gapF]
  | cons b l ih =>
    have h1 := ih false; have h2 := ih true; have h3 := ih r
    simp only [gapF, List.length_cons]; split; omega; split; omega; split; omega; omega
theorem gapF_at (r : Bool) (s : ByteArray) (k : Nat) (h : k < s.size) : gapF r (s.data.toList.drop k) = if s[k].toNat = 10 then gapF false (s.data.toList.drop (k + 1)) + 1 else if s[k].toNat = 35 then gapF true (s.data.toList.drop (k + 1)) + 1 else if s[k].toNat = 32 ∨ r = true then gapF r (s.data.toList.drop (k + 1)) + 1 else 0 := by
  rw [drop_cons s k h]; rfl
theorem gapF_end (r : Bool) (s : ByteArray) (k : Nat) (h : s.size ≤ k) : gapF r (s.data.toList.drop k) = 0 := by
  rw [List.drop_eq_nil_of_le (by simpa using h)]; rfl
theorem gap_line {r : Bool} {s : ByteArray} {k e : Nat} (h : k < s.size) (hr : k + gapF r (s.data.toList.drop k) = e) (hc : s[k].toNat = 10) : (k + 1) + gapF false (s.data.toList.drop (k + 1)) = e := by
  rw [gapF_at r s k h, if_pos hc] at hr; omega
theorem gap_blank {r : Bool} {s : ByteArray} {k e : Nat} (h : k < s.size) (hr : k + gapF r (s.data.toList.drop k) = e) (hc : s[k].toNat = 32) : (k + 1) + gapF r (s.data.toList.drop (k + 1)) = e := by
  rw [gapF_at r s k h, if_neg (by omega), if_neg (by omega), if_pos (Or.inl hc)] at hr; omega
theorem gap_hash {r : Bool} {s : ByteArray} {k e : Nat} (h : k < s.size) (hr : k + gapF r (s.data.toList.drop k) = e) (hc : s[k].toNat = 35) : k + gapF true (s.data.toList.drop k) = e := by
  rw [gapF_at r s k h, if_neg (by omega), if_pos hc] at hr; rw [gapF_at true s k h, if_neg (by omega), if_pos hc]; omega
theorem gap_in {s : ByteArray} {k e : Nat} (h : k < s.size) (hr : k + gapF true (s.data.toList.drop k) = e) (hc : ¬ s[k].toNat = 10) : (k + 1) + gapF true (s.data.toList.drop (k + 1)) = e := by
  rw [gapF_at true s k h, if_neg hc] at hr
  split at hr
  · omega
  · rw [if_pos (Or.inr rfl)] at hr; omega
theorem gap_out {s : ByteArray} {k e : Nat} (h : k < s.size) (hr : k + gapF true (s.data.toList.drop k) = e) (hc : s[k].toNat = 10) : k + gapF false (s.data.toList.drop k) = e := by
  rw [gapF_at true s k h, if_pos hc] at hr; rw [gapF_at false s k h, if_pos hc]; omega
theorem gap_stop {s : ByteArray} {k e : Nat} (h : k < s.size) (hr : k + gapF false (s.data.toList.drop k) = e) (h1 : ¬ s[k].toNat = 10) (h2 : ¬ s[k].toNat = 35) (h3 : ¬ s[k].toNat = 32) : k = e := by
  rw [gapF_at false s k h, if_neg h1, if_neg h2, if_neg (by simp [h3])] at hr; omega
theorem byteT {b : UInt8} {c : Nat} (h : ((b.toNat : Int) == (c : Int)) = true) : b.toNat = c := by simp at h; omega
theorem byteF {b : UInt8} {c : Nat} (h : ((b.toNat : Int) == (c : Int)) = false) : ¬ b.toNat = c := by simp at h; omega
/- how many bytes of a word or number a list begins with -/
def runF : List UInt8 → Nat
  | [] => 0
  | b :: l => if insideB b.toNat = true then runF l + 1 else 0
theorem runF_le (l : List UInt8) : runF l ≤ l.length := by
  induction l with
  | nil => simp [runF]
  | cons b l ih => simp only [runF, List.length_cons]; split <;> omega
theorem runF_in {s : ByteArray} {k : Nat} (h : k < s.size) (hc : insideB s[k].toNat = true) : runF (s.data.toList.drop k) = runF (s.data.toList.drop (k + 1)) + 1 := by
  rw [drop_cons s k h]; simp [runF, hc]
theorem runF_out {s : ByteArray} {k : Nat} (h : k < s.size) (hc : insideB s[k].toNat = false) : runF (s.data.toList.drop k) = 0 := by
  rw [drop_cons s k h]; simp [runF, hc]
theorem runF_end {s : ByteArray} {k : Nat} (h : s.size ≤ k) : runF (s.data.toList.drop k) = 0 := by
  rw [List.drop_eq_nil_of_le (by simpa using h)]; rfl
/- the length of the token that a list begins with, and its sort: 0 the end, 1 a word, 2 a number, 3 a sign, 4 another byte -/
def tokF : List UInt8 → Nat × Nat
  | [] => (0, 0)
  | b :: l => if smallB b.toNat = true then (runF l + 1, 1) else if digitB b.toNat = true then (runF l + 1, 2) else
      if b.toNat = 123 ∨ b.toNat = 125 ∨ b.toNat = 59 then (1, 3) else if b.toNat = 45 ∧ l.head?.map UInt8.toNat = some 62 then (2, 3) else (1, 4)

theorem tok_none {b : UInt8} {l : List UInt8} (h1 : smallB b.toNat = false) (h2 : digitB b.toNat = false) : tokF (b :: l) = if b.toNat = 123 ∨ b.toNat = 125 ∨ b.toNat = 59 then (1, 3) else if b.toNat = 45 ∧ l.head?.map UInt8.toNat = some 62 then (2, 3) else (1, 4) := by
  simp [tokF, h1, h2]
theorem head_at {s : ByteArray} {k : Nat} (h : k < s.size) : (s.data.toList.drop k).head?.map UInt8.toNat = some s[k].toNat := by
  rw [drop_cons s k h]; rfl
theorem head_end {s : ByteArray} {k : Nat} (h : s.size ≤ k) : (s.data.toList.drop k).head?.map UInt8.toNat = none := by
  rw [List.drop_eq_nil_of_le (by simpa using h)]; rfl
theorem tok_sign {b : UInt8} {l : List UInt8} (h1 : smallB b.toNat = false) (h2 : digitB b.toNat = false) (h : b.toNat = 123 ∨ b.toNat = 125 ∨ b.toNat = 59) : tokF (b :: l) = (1, 3) := by
  rw [tok_none h1 h2, if_pos h]
theorem tok_arrow {b : UInt8} {l : List UInt8} (h1 : smallB b.toNat = false) (h2 : digitB b.toNat = false) (h : b.toNat = 45 ∧ l.head?.map UInt8.toNat = some 62) : tokF (b :: l) = (2, 3) := by
  rw [tok_none h1 h2, if_neg (by omega), if_pos h]
theorem tok_odd {b : UInt8} {l : List UInt8} (h1 : smallB b.toNat = false) (h2 : digitB b.toNat = false) (h : ¬ (b.toNat = 123 ∨ b.toNat = 125 ∨ b.toNat = 59)) (h' : ¬ (b.toNat = 45 ∧ l.head?.map UInt8.toNat = some 62)) : tokF (b :: l) = (1, 4) := by
  rw [tok_none h1 h2, if_neg h, if_neg h']
theorem tok_word {b : UInt8} {l : List UInt8} (h1 : smallB b.toNat = true) : tokF (b :: l) = (runF l + 1, 1) := by simp [tokF, h1]
theorem tok_number {b : UInt8} {l : List UInt8} (h1 : smallB b.toNat = false) (h2 : digitB b.toNat = true) : tokF (b :: l) = (runF l + 1, 2) := by simp [tokF, h1, h2]

/- A token: its sort, its text, its line and column. -/
structure Tok where
  sort : Nat
  text : List UInt8
  line : Int
  col : Int
def tokAt (l : List UInt8) (i : Nat) : Tok := ⟨(tokF (l.drop i)).2, (l.drop i).take (tokF (l.drop i)).1, (placeL (l.take i)).1, (placeL (l.take i)).2⟩
/- where the k-th token begins -/
def pos (l : List UInt8) : Nat → Nat
  | 0 => gapF false l
  | k + 1 => (pos l k + (tokF (l.drop (pos l k))).1) + gapF false (l.drop (pos l k + (tokF (l.drop (pos l k))).1))
/- the k-th token; the end again and again -/
def tk (l : List UInt8) (k : Nat) : Tok := tokAt l (pos l k)

theorem tokF_le (l : List UInt8) : (tokF l).1 ≤ l.length := by
  cases l with
  | nil => simp [tokF]
  | cons b r =>
    have h := runF_le r
    simp only [tokF, List.length_cons]
    split; · simp; omega
    split; · simp; omega
    split; · simp
    split
    · rename_i h2
      cases r with
      | nil => simp at h2
      | cons c r => simp
    · simp
theorem tokF_pos (l : List UInt8) (h : l ≠ []) : 1 ≤ (tokF l).1 := by
  cases l with
  | nil => exact absurd rfl h
  | cons b r =>
    simp only [tokF]
    split; · simp
    split; · simp
    split; · simp
    split <;> simp
theorem pos_le (l : List UInt8) (k : Nat) : pos l k ≤ l.length := by
  induction k with
  | zero => exact gapF_le _ _
  | succ k ih =>
    simp only [pos]
    have h1 := tokF_le (l.drop (pos l k))
    have h2 := gapF_le false (l.drop (pos l k + (tokF (l.drop (pos l k))).1))
    simp only [List.length_drop] at h1 h2
    omega
theorem pos_lt (l : List UInt8) (k : Nat) (h : pos l k < l.length) : pos l k < pos l (k + 1) := by
  simp only [pos]
  have h1 := tokF_pos (l.drop (pos l k)) (by intro h0; have := congrArg List.length h0; simp at this; omega)
  omega
theorem pos_end (l : List UInt8) (k : Nat) (h : pos l k = l.length) : pos l (k + 1) = l.length := by
  simp [pos, h, tokF, gapF]
theorem pos_after (l : List UInt8) (n k : Nat) (h : pos l n = l.length) (hk : n ≤ k) : pos l k = l.length := by
  induction k with
  | zero => have : n = 0 := by omega
            subst this; exact h
  | succ k ih =>
    by_cases hn : n ≤ k
    · exact pos_end l k (ih hn)
    · have : n = k + 1 := by omega
      subst this; exact h
theorem pos_ge (l : List UInt8) (k : Nat) (h : ∀ j, j < k → pos l j < l.length) : k ≤ pos l k := by
  induction k with
  | zero => omega
  | succ k ih => have h1 := ih (fun j hj => h j (by omega)); have h2 := pos_lt l k (h k (by omega)); omega

/- what is wrong with a token, wherever it stands: an error's number; 0: nothing -/
def digitsB (l : List UInt8) : Bool := l.all fun b => digitB b.toNat
def looksF (sort : Nat) (l : List UInt8) : Nat :=
  if sort = 1 ∧ 16 < l.length then 3 else if sort ≠ 2 then 0 else
  if 6 < l.length ∨ (1 < l.length ∧ l.head?.map UInt8.toNat = some 48) then 2 else if digitsB l = true then 0 else 2
def valF (l : List UInt8) : Int := l.foldl (fun n b => 10 * n + (b.toNat : Int) - 48) 0
theorem valF_snoc (l : List UInt8) (b : UInt8) : valF (l ++ [b]) = 10 * valF l + (b.toNat : Int) - 48 := by simp [valF, List.foldl_append]
theorem valF_step (s : ByteArray) (k : Nat) (h : k < s.size) : valF (s.data.toList.take (k + 1)) = 10 * valF (s.data.toList.take k) + (s[k].toNat : Int) - 48 := by
  rw [take_snoc s k h, valF_snoc]
theorem valF_bd (s : ByteArray) (k : Nat) (h : k ≤ s.size) (h6 : k ≤ 6) : -1000000000 ≤ valF (s.data.toList.take k) ∧ valF (s.data.toList.take k) ≤ 1000000000 := by
  have key : ∀ k : Nat, k ≤ s.size → k ≤ 6 → -(6 * (10 ^ k - 1) : Int) ≤ valF (s.data.toList.take k) ∧ valF (s.data.toList.take k) ≤ (23 * (10 ^ k - 1) : Int) := by
    intro k
    induction k with
    | zero => intro _ _; simp [valF]
    | succ k ih =>
      intro h1 h2
      have := ih (by omega) (by omega)
      rw [valF_step s k (by omega)]
      have hb : s[k].toNat < 256 := UInt8.toNat_lt _
      have hp : (1 : Int) ≤ 10 ^ k := by
        have : (0 : Int) < 10 ^ k := Int.pow_pos (by omega)
        omega
      have he : (10 : Int) ^ (k + 1) = 10 * 10 ^ k := by rw [Int.pow_succ]; omega
      rw [he]
      generalize (10 : Int) ^ k = z at *
      omega
  have := key k h h6
  have hp : (10 : Int) ^ k ≤ 1000000 := by
    have : ∀ m : Nat, m ≤ 6 → (10 : Int) ^ m ≤ 1000000 := by decide
    exact this k h6
  generalize (10 : Int) ^ k = z at *
  omega
end Go.Proofs.YteioennfpkoagaaDoor
