import Derived.Below
namespace Go.Proofs.YteioennfpkoagaaGreatDoor
open Go.RowKit

def smallB (n : Int) : Bool := decide (97 ≤ n ∧ n ≤ 122)
def digitB (n : Int) : Bool := decide (48 ≤ n ∧ n ≤ 57)
def insideB (n : Int) : Bool := smallB n || digitB n || n == 95

/- the place behind the first k bytes -/
def placeL (l : List UInt8) : Int × Int := l.foldl (fun p b => if b.toNat = 10 then (p.1 + 1, 1) else (p.1, p.2 + 1)) (1, 1)
theorem placeL_snoc (l : List UInt8) (b : UInt8) : placeL (l ++ [b]) = if b.toNat = 10 then ((placeL l).1 + 1, 1) else ((placeL l).1, (placeL l).2 + 1) := by
  simp [placeL, List.foldl_append]
theorem placeL_bd (l : List UInt8) : 1 ≤ (placeL l).1 ∧ (placeL l).1 ≤ l.length + 1 ∧ 1 ≤ (placeL l).2 ∧ (placeL l).2 ≤ l.length + 1 := by
  have key : ∀ (n : Nat) (l : List UInt8), l.length = n → 1 ≤ (placeL l).1 ∧ (placeL l).1 ≤ l.length + 1 ∧ 1 ≤ (placeL l).2 ∧ (placeL l).2 ≤ l.length + 1 := by
    intro n
    induction n with
    | zero => intro l h; have := List.eq_nil_of_length_eq_zero h; subst this; simp [placeL]
    | succ n ih =>
      intro l h
      have hne : l ≠ [] := by intro h0; subst h0; simp at h
      rw [← List.dropLast_concat_getLast hne, placeL_snoc]
      have := ih l.dropLast (by simp [h])
      have hd : (l.dropLast.length : Int) = l.length - 1 := by simp [h]
      simp only [List.length_append, List.length_singleton]
      split <;> simp only [] <;> omega
  exact key _ l rfl

theorem take_snoc (s : ByteArray) (k : Nat) (h : k < s.size) : s.data.toList.take (k + 1) = s.data.toList.take k ++ [s[k]] := by
  rw [List.take_succ_eq_append_getElem (by simpa using h)]; rfl
theorem drop_cons (s : ByteArray) (k : Nat) (h : k < s.size) : s.data.toList.drop k = s[k] :: s.data.toList.drop (k + 1) := by
  rw [List.drop_eq_getElem_cons (by simpa using h)]; rfl

theorem placeL_step (s : ByteArray) (k : Nat) (h : k < s.size) : placeL (s.data.toList.take (k + 1)) = if s[k].toNat = 10 then ((placeL (s.data.toList.take k)).1 + 1, 1) else ((placeL (s.data.toList.take k)).1, (placeL (s.data.toList.take k)).2 + 1) := by
  rw [take_snoc s k h, placeL_snoc]

/- how many bytes stand ahead of the next token -/
def gapF : Bool → List UInt8 → Nat
  | _, [] => 0
  | r, b :: l => if b.toNat = 10 then gapF false l + 1 else if b.toNat = 35 then gapF true l + 1 else if b.toNat = 32 ∨ r = true then gapF r l + 1 else 0
theorem gapF_le (r : Bool) (l : List UInt8) : gapF r l ≤ l.length := by
  induction l generalizing r with
  | nil => simp [gapF]
  | cons b l ih =>
    have h1 := ih false; have h2 := ih true; have h3 := ih r
    simp only [gapF, List.length_cons]; split; omega; split; omega; split; omega; omega
theorem gapF_at (r : Bool) (s : ByteArray) (k : Nat) (h : k < s.size) : gapF r (s.data.toList.drop k) = if s[k].toNat = 10 then gapF false (s.data.toList.drop (k + 1)) + 1 else if s[k].toNat = 35 then gapF true (s.data.toList.drop (k + 1)) + 1 else if s[k].toNat = 32 ∨ r = true then gapF r (s.data.toList.drop (k + 1)) + 1 else 0 := by
  rw [drop_cons s k h]; rfl
theorem gapF_end (r : Bool) (s : ByteArray) (k : Nat) (h : s.size ≤ k) : gapF r (s.data.toList.drop k) = 0 := by
  rw [List.drop_eq_nil_of_le (by simpa using h)]; rfl
theorem gap_line {r : Bool} {s : ByteArray} {k e : Nat} (h : k < s.size) (hr : k + gapF r (s.data.toList.drop k) = e) (hc : s[k].toNat = 10) : (k + 1) + gapF false (s.data.toList.drop (k + 1)) = e := by
  rw [gapF_at r s k h, if_pos hc] at hr; omega
theorem gap_blank {r : Bool} {s : ByteArray} {k e : Nat} (h : k < s.size) (hr : k + gapF r (s.data.toList.drop k) = e) (hc : s[k].toNat = 32) : (k + 1) + gapF r (s.data.toList.drop (k + 1)) = e := by
  rw [gapF_at r s k h, if_neg (by omega), if_neg (by omega), if_pos (Or.inl hc)] at hr; omega
theorem gap_hash {r : Bool} {s : ByteArray} {k e : Nat} (h : k < s.size) (hr : k + gapF r (s.data.toList.drop k) = e) (hc : s[k].toNat = 35) : k + gapF true (s.data.toList.drop k) = e := by
  rw [gapF_at r s k h, if_neg (by omega), if_pos hc] at hr; rw [gapF_at true s k h, if_neg (by omega), if_pos hc]; omega
theorem gap_in {s : ByteArray} {k e : Nat} (h : k < s.size) (hr : k + gapF true (s.data.toList.drop k) = e) (hc : ¬ s[k].toNat = 10) : (k + 1) + gapF true (s.data.toList.drop (k + 1)) = e := by
  rw [gapF_at true s k h, if_neg hc] at hr
  split at hr
  · omega
  · rw [if_pos (Or.inr rfl)] at hr; omega
theorem gap_out {s : ByteArray} {k e : Nat} (h : k < s.size) (hr : k + gapF true (s.data.toList.drop k) = e) (hc : s[k].toNat = 10) : k + gapF false (s.data.toList.drop k) = e := by
  rw [gapF_at true s k h, if_pos hc] at hr; rw [gapF_at false s k h, if_pos hc]; omega
theorem gap_stop {s : ByteArray} {k e : Nat} (h : k < s.size) (hr : k + gapF false (s.data.toList.drop k) = e) (h1 : ¬ s[k].toNat = 10) (h2 : ¬ s[k].toNat = 35) (h3 : ¬ s[k].toNat = 32) : k = e := by
  rw [gapF_at false s k h, if_neg h1, if_neg h2, if_neg (by simp [h3])] at hr; omega
theorem byteT {b : UInt8} {c : Nat} (h : ((b.toNat : Int) == (c : Int)) = true) : b.toNat = c := by simp at h; omega
theorem byteF {b : UInt8} {c : Nat} (h : ((b.toNat : Int) == (c : Int)) = false) : ¬ b.toNat = c := by simp at h; omega
/- how many bytes of a word or number a list begins with -/
def runF : List UInt8 → Nat
  | [] => 0
  | b :: l => if insideB b.toNat = true then runF l + 1 else 0
theorem runF_le (l : List UInt8) : runF l ≤ l.length := by
  induction l with
  | nil => simp [runF]
  | cons b l ih => simp only [runF, List.length_cons]; split <;> omega
theorem runF_in {s : ByteArray} {k : Nat} (h : k < s.size) (hc : insideB s[k].toNat = true) : runF (s.data.toList.drop k) = runF (s.data.toList.drop (k + 1)) + 1 := by
  rw [drop_cons s k h]; simp [runF, hc]
theorem runF_out {s : ByteArray} {k : Nat} (h : k < s.size) (hc : insideB s[k].toNat = false) : runF (s.data.toList.drop k) = 0 := by
  rw [drop_cons s k h]; simp [runF, hc]
theorem runF_end {s : ByteArray} {k : Nat} (h : s.size ≤ k) : runF (s.data.toList.drop k) = 0 := by
  rw [List.drop_eq_nil_of_le (by simpa using h)]; rfl
/- the length of the token that a list begins with, and its sort: 0 the end, 1 a word, 2 a number, 3 a sign, 4 another byte -/
def tokF : List UInt8 → Nat × Nat
  | [] => (0, 0)
  | b :: l => if smallB b.toNat = true then (runF l + 1, 1) else if digitB b.toNat = true then (runF l + 1, 2) else
      if b.toNat = 123 ∨ b.toNat = 125 ∨ b.toNat = 59 then (1, 3) else if b.toNat = 45 ∧ l.head?.map UInt8.toNat = some 62 then (2, 3) else (1, 4)

theorem tok_none {b : UInt8} {l : List UInt8} (h1 : smallB b.toNat = false) (h2 : digitB b.toNat = false) : tokF (b :: l) = if b.toNat = 123 ∨ b.toNat = 125 ∨ b.toNat = 59 then (1, 3) else if b.toNat = 45 ∧ l.head?.map UInt8.toNat = some 62 then (2, 3) else (1, 4) := by
  simp [tokF, h1, h2]
theorem head_at {s : ByteArray} {k : Nat} (h : k < s.size) : (s.data.toList.drop k).head?.map UInt8.toNat = some s[k].toNat := by
  rw [drop_cons s k h]; rfl
theorem head_end {s : ByteArray} {k : Nat} (h : s.size ≤ k) : (s.data.toList.drop k).head?.map UInt8.toNat = none := by
  rw [List.drop_eq_nil_of_le (by simpa using h)]; rfl
theorem tok_sign {b : UInt8} {l : List UInt8} (h1 : smallB b.toNat = false) (h2 : digitB b.toNat = false) (h : b.toNat = 123 ∨ b.toNat = 125 ∨ b.toNat = 59) : tokF (b :: l) = (1, 3) := by
  rw [tok_none h1 h2, if_pos h]
theorem tok_arrow {b : UInt8} {l : List UInt8} (h1 : smallB b.toNat = false) (h2 : digitB b.toNat = false) (h : b.toNat = 45 ∧ l.head?.map UInt8.toNat = some 62) : tokF (b :: l) = (2, 3) := by
  rw [tok_none h1 h2, if_neg (by omega), if_pos h]
theorem tok_odd {b : UInt8} {l : List UInt8} (h1 : smallB b.toNat = false) (h2 : digitB b.toNat = false) (h : ¬ (b.toNat = 123 ∨ b.toNat = 125 ∨ b.toNat = 59)) (h' : ¬ (b.toNat = 45 ∧ l.head?.map UInt8.toNat = some 62)) : tokF (b :: l) = (1, 4) := by
  rw [tok_none h1 h2, if_neg h, if_neg h']
theorem tok_word {b : UInt8} {l : List UInt8} (h1 : smallB b.toNat = true) : tokF (b :: l) = (runF l + 1, 1) := by simp [tokF, h1]
theorem tok_number {b : UInt8} {l : List UInt8} (h1 : smallB b.toNat = false) (h2 : digitB b.toNat = true) : tokF (b :: l) = (runF l + 1, 2) := by simp [tokF, h1, h2]

/- A token: its sort, its text, its line and column. -/
structure Tok where
  sort : Nat
  text : List UInt8
  line : Int
  col : Int
def tokAt (l : List UInt8) (i : Nat) : Tok := ⟨(tokF (l.drop i)).2, (l.drop i).take (tokF (l.drop i)).1, (placeL (l.take i)).1, (placeL (l.take i)).2⟩
/- where the k-th token begins -/
def pos (l : List UInt8) : Nat → Nat
  | 0 => gapF false l
  | k + 1 => (pos l k + (tokF (l.drop (pos l k))).1) + gapF false (l.drop (pos l k + (tokF (l.drop (pos l k))).1))
/- the k-th token; the end again and again -/
def tk (l : List UInt8) (k : Nat) : Tok := tokAt l (pos l k)

theorem tokF_le (l : List UInt8) : (tokF l).1 ≤ l.length := by
  cases l with
  | nil => simp [tokF]
  | cons b r =>
    have h := runF_le r
    simp only [tokF, List.length_cons]
    split; · simp; omega
    split; · simp; omega
    split; · simp
    split
    · rename_i h2
      cases r with
      | nil => simp at h2
      | cons c r => simp
    · simp
theorem tokF_pos (l : List UInt8) (h : l ≠ []) : 1 ≤ (tokF l).1 := by
  cases l with
  | nil => exact absurd rfl h
  | cons b r =>
    simp only [tokF]
    split; · simp
    split; · simp
    split; · simp
    split <;> simp
theorem pos_le (l : List UInt8) (k : Nat) : pos l k ≤ l.length := by
  induction k with
  | zero => exact gapF_le _ _
  | succ k ih =>
    simp only [pos]
    have h1 := tokF_le (l.drop (pos l k))
    have h2 := gapF_le false (l.drop (pos l k + (tokF (l.drop (pos l k))).1))
    simp only [List.length_drop] at h1 h2
    omega
theorem pos_lt (l : List UInt8) (k : Nat) (h : pos l k < l.length) : pos l k < pos l (k + 1) := by
  simp only [pos]
  have h1 := tokF_pos (l.drop (pos l k)) (by intro h0; have := congrArg List.length h0; simp at this; omega)
  omega
theorem pos_end (l : List UInt8) (k : Nat) (h : pos l k = l.length) : pos l (k + 1) = l.length := by
  simp [pos, h, tokF, gapF]
theorem pos_after (l : List UInt8) (n k : Nat) (h : pos l n = l.length) (hk : n ≤ k) : pos l k = l.length := by
  induction k with
  | zero => have : n = 0 := by omega
            subst this; exact h
  | succ k ih =>
    by_cases hn : n ≤ k
    · exact pos_end l k (ih hn)
    · have : n = k + 1 := by omega
      subst this; exact h
theorem pos_ge (l : List UInt8) (k : Nat) (h : ∀ j, j < k → pos l j < l.length) : k ≤ pos l k := by
  induction k with
  | zero => omega
  | succ k ih => have h1 := ih (fun j hj => h j (by omega)); have h2 := pos_lt l k (h k (by omega)); omega

/- what is wrong with a token, wherever it stands: an error's number; 0: nothing -/
def digitsB (l : List UInt8) : Bool := l.all fun b => digitB b.toNat
def looksF (sort : Nat) (l : List UInt8) : Nat :=
  if sort = 1 ∧ 16 < l.length then 3 else if sort ≠ 2 then 0 else
  if 6 < l.length ∨ (1 < l.length ∧ l.head?.map UInt8.toNat = some 48) then 2 else if digitsB l = true then 0 else 2
def valF (l : List UInt8) : Int := l.foldl (fun n b => 10 * n + (b.toNat : Int) - 48) 0
theorem valF_snoc (l : List UInt8) (b : UInt8) : valF (l ++ [b]) = 10 * valF l + (b.toNat : Int) - 48 := by simp [valF, List.foldl_append]
theorem valF_step (s : ByteArray) (k : Nat) (h : k < s.size) : valF (s.data.toList.take (k + 1)) = 10 * valF (s.data.toList.take k) + (s[k].toNat : Int) - 48 := by
  rw [take_snoc s k h, valF_snoc]
theorem valF_bd (s : ByteArray) (k : Nat) (h : k ≤ s.size) (h6 : k ≤ 6) : -1000000000 ≤ valF (s.data.toList.take k) ∧ valF (s.data.toList.take k) ≤ 1000000000 := by
  have key : ∀ k : Nat, k ≤ s.size → k ≤ 6 → -(6 * (10 ^ k - 1) : Int) ≤ valF (s.data.toList.take k) ∧ valF (s.data.toList.take k) ≤ (23 * (10 ^ k - 1) : Int) := by
    intro k
    induction k with
    | zero => intro _ _; simp [valF]
    | succ k ih =>
      intro h1 h2
      have := ih (by omega) (by omega)
      rw [valF_step s k (by omega)]
      have hb : s[k].toNat < 256 := UInt8.toNat_lt _
      have hp : (1 : Int) ≤ 10 ^ k := by
        have : (0 : Int) < 10 ^ k := Int.pow_pos (by omega)
        omega
      have he : (10 : Int) ^ (k + 1) = 10 * 10 ^ k := by rw [Int.pow_succ]; omega
      rw [he]
      generalize (10 : Int) ^ k = z at *
      omega
  have := key k h h6
  have hp : (10 : Int) ^ k ≤ 1000000 := by
    have : ∀ m : Nat, m ≤ 6 → (10 : Int) ^ m ≤ 1000000 := by decide
    exact this k h6
  generalize (10 : Int) ^ k = z at *
  omega
end Go.Proofs.YteioennfpkoagaaGreatDoor
namespace Go.Proofs.YteioennfpkoagaaGreatDoor
open Go.RowKit

/- The reference's reader: the place of the next token; the error; its line and column. -/
structure RS where
  at' : Nat
  e : Nat
  ln : Int
  cl : Int
def lk (l : List UInt8) (k : Nat) : Nat := looksF (tk l k).sort (tk l k).text
def failR (l : List UInt8) (r : RS) (er : Nat) : RS :=
  if r.e ≠ 0 then r else ⟨r.at', if lk l r.at' ≠ 0 then lk l r.at' else er, (tk l r.at').line, (tk l r.at').col⟩
def isR (l : List UInt8) (r : RS) (kw : List UInt8) : Bool := decide (r.e = 0 ∧ (tk l r.at').sort ≠ 0 ∧ (tk l r.at').text = kw)
def nextR (r : RS) : RS := ⟨r.at' + 1, r.e, r.ln, r.cl⟩
def mustR (l : List UInt8) (r : RS) : List (List UInt8) → RS
  | [] => r
  | kw :: t => if isR l r kw = true then mustR l (nextR r) t else failR l r 1
def someR (l : List UInt8) (r : RS) (sort : Nat) : List UInt8 × RS :=
  if r.e ≠ 0 then ([], r) else if (tk l r.at').sort ≠ sort ∨ lk l r.at' ≠ 0 then ([], failR l r 1) else ((tk l r.at').text, nextR r)
def numberR (l : List UInt8) (r : RS) : Int × RS := (valF (someR l r 2).1, (someR l r 2).2)
def oneOfR (l : List UInt8) (r : RS) (i : Nat) : List (List UInt8) → Nat × RS
  | [] => (0, failR l r 1)
  | kw :: t => if isR l r kw = true then (i + 1, nextR r) else oneOfR l r (i + 1) t
def endGo (l : List UInt8) (r : RS) (i : Nat) : List (List UInt8) → Nat × RS
  | [] => (0, failR l r (if (tk l r.at').sort = 1 then 4 else 1))
  | nm :: t => if (tk l r.at').sort = 1 ∧ nm = (tk l r.at').text then (i, nextR r) else endGo l r (i + 1) t
def endR (l : List UInt8) (r : RS) (names : List (List UInt8)) : Nat × RS := if r.e ≠ 0 then (0, r) else endGo l r 0 names

/- a text parted at its blanks -/
def wordsF (cur : List UInt8) : List UInt8 → List (List UInt8)
  | [] => [cur]
  | b :: t => if b.toNat = 32 then cur :: wordsF [] t else wordsF (cur ++ [b]) t

/- the sorts -/
theorem tokF_sort (l : List UInt8) : (tokF l).2 ≤ 4 ∧ ((tokF l).2 = 0 ↔ l = []) := by
  cases l with
  | nil => simp [tokF]
  | cons b r =>
    simp only [tokF]
    split; · simp
    split; · simp
    split; · simp
    split <;> simp
theorem tk_sort_le (l : List UInt8) (k : Nat) : (tk l k).sort ≤ 4 := (tokF_sort _).1
theorem tk_end (l : List UInt8) (k : Nat) : (tk l k).sort = 0 ↔ pos l k = l.length := by
  have h := (tokF_sort (l.drop (pos l k))).2
  have h2 := pos_le l k
  show (tokF (l.drop (pos l k))).2 = 0 ↔ _
  rw [h, List.drop_eq_nil_iff]; omega
theorem tk_len (l : List UInt8) (k : Nat) : (tk l k).text.length ≤ l.length := by
  show ((l.drop (pos l k)).take _).length ≤ _
  rw [List.length_take, List.length_drop]; omega
/- the count of tokens: n: the end stands at n -/
theorem tk_lt (l : List UInt8) (n k : Nat) (hn : pos l n = l.length) (hk : k ≤ n) (h : (tk l k).sort ≠ 0) : k < n := by
  rcases Nat.lt_or_ge k n with h' | h'
  · exact h'
  · have : k = n := by omega
    subst this; exact absurd ((tk_end l k).2 hn) h
theorem lk_cases (l : List UInt8) (k : Nat) : lk l k = 0 ∨ lk l k = 2 ∨ lk l k = 3 := by
  unfold lk looksF
  split; · simp
  split; · simp
  split; · simp
  split <;> simp
theorem lk_end (l : List UInt8) (k : Nat) (h : (tk l k).sort = 0) : lk l k = 0 := by
  unfold lk looksF; rw [h]; simp
end Go.Proofs.YteioennfpkoagaaGreatDoor
namespace Go.Proofs.YteioennfpkoagaaGreatDoor
open Go.RowKit

/- what is read: a region, a partition, a channel -/
structure Reg where
  page : Int
  pages : Int
  rights : Nat
structure Part where
  name : List UInt8
  period : Int
  duration : Int
  action : Nat
  regs : List Reg
structure Chan where
  name : List UInt8
  source : Nat
  target : Nat
  kind : Nat
  size : Int
  depth : Int
def kModule : List UInt8 := [109, 111, 100, 117, 108, 101]
def kPartition : List UInt8 := [112, 97, 114, 116, 105, 116, 105, 111, 110]
def kPeriod : List UInt8 := [112, 101, 114, 105, 111, 100]
def kDuration : List UInt8 := [100, 117, 114, 97, 116, 105, 111, 110]
def kFault : List UInt8 := [102, 97, 117, 108, 116]
def kMemory : List UInt8 := [109, 101, 109, 111, 114, 121]
def kChannel : List UInt8 := [99, 104, 97, 110, 110, 101, 108]
def kActions : List (List UInt8) := [[105, 103, 110, 111, 114, 101], [115, 116, 111, 112], [114, 101, 115, 116, 97, 114, 116]]
def kRights : List (List UInt8) := [[108, 111, 111, 107], [99, 104, 97, 110, 103, 101]]
def kKinds : List (List UInt8) := [[113, 117, 101, 117, 101], [115, 97, 109, 112, 108, 101]]
def kOpen : List UInt8 := [123]
def kShut : List UInt8 := [125]
def kSemi : List UInt8 := [59]
def kArrow : List UInt8 := [45, 62]

/- Measures: how many tokens are left, none if something was wrong. -/
def leftR (N : Nat) (r : RS) : Nat := if r.e ≠ 0 then 0 else N - r.at'
/- r2 comes behind r1: not back in the text, and an error stays -/
def LeR (r1 r2 : RS) : Prop := r1.at' ≤ r2.at' ∧ (r1.e ≠ 0 → r2.e ≠ 0)
theorem LeR.refl (r : RS) : LeR r r := ⟨Nat.le_refl _, id⟩
theorem LeR.trans {a b c : RS} (h : LeR a b) (k : LeR b c) : LeR a c := ⟨Nat.le_trans h.1 k.1, fun x => k.2 (h.2 x)⟩
theorem failR_le (l : List UInt8) (r : RS) (er : Nat) : LeR r (failR l r er) := by
  unfold failR; split
  · exact LeR.refl r
  · exact ⟨Nat.le_refl _, fun h => absurd h (by assumption)⟩
theorem nextR_le (r : RS) : LeR r (nextR r) := ⟨Nat.le_succ _, id⟩
theorem mustR_le (l : List UInt8) (r : RS) (kws : List (List UInt8)) : LeR r (mustR l r kws) := by
  induction kws generalizing r with
  | nil => exact LeR.refl r
  | cons kw t ih =>
    simp only [mustR]; split
    · exact (nextR_le r).trans (ih _)
    · exact failR_le l r 1
theorem someR_le (l : List UInt8) (r : RS) (st : Nat) : LeR r (someR l r st).2 := by
  unfold someR; split
  · exact LeR.refl r
  · split
    · exact failR_le l r 1
    · exact nextR_le r
theorem numberR_le (l : List UInt8) (r : RS) : LeR r (numberR l r).2 := someR_le l r 2
theorem oneOfR_le (l : List UInt8) (r : RS) (i : Nat) (kws : List (List UInt8)) : LeR r (oneOfR l r i kws).2 := by
  induction kws generalizing i with
  | nil => exact failR_le l r 1
  | cons kw t ih =>
    simp only [oneOfR]; split
    · exact nextR_le r
    · exact ih _
theorem endGo_le (l : List UInt8) (r : RS) (i : Nat) (kws : List (List UInt8)) : LeR r (endGo l r i kws).2 := by
  induction kws generalizing i with
  | nil => exact failR_le l r _
  | cons kw t ih =>
    simp only [endGo]; split
    · exact nextR_le r
    · exact ih _
theorem endR_le (l : List UInt8) (r : RS) (names : List (List UInt8)) : LeR r (endR l r names).2 := by
  unfold endR; split
  · exact LeR.refl r
  · exact endGo_le l r 0 names

def regionR (l : List UInt8) (r0 : RS) : Reg × RS :=
  let r := nextR r0
  let p := numberR l r
  let q := numberR l p.2
  let o := oneOfR l q.2 0 kRights
  (⟨p.1, q.1, o.1⟩, mustR l o.2 [kSemi])
theorem regionR_le (l : List UInt8) (r : RS) : LeR (nextR r) (regionR l r).2 :=
  (((numberR_le l _).trans (numberR_le l _)).trans (oneOfR_le l _ 0 _)).trans (mustR_le l _ _)
def regsR (l : List UInt8) : Nat → RS → List Reg → List Reg × RS
  | 0, r, acc => (acc, r)
  | f + 1, r, acc => if isR l r kMemory = true then regsR l f (regionR l r).2 (acc ++ [(regionR l r).1]) else (acc, r)
theorem isR_e {l : List UInt8} {r : RS} {kw : List UInt8} (h : isR l r kw = true) : r.e = 0 := by simp [isR] at h; exact h.1
theorem left_lt {N : Nat} {r r' : RS} (hat : r.at' < N) (he : r.e = 0) (h : LeR (nextR r) r') : leftR N r' < leftR N r := by
  have h1 : r.at' + 1 ≤ r'.at' := h.1
  have e : leftR N r = N - r.at' := by unfold leftR; rw [if_neg (by simp [he])]
  rw [e]; unfold leftR
  split <;> omega
theorem regsR_stop (l : List UInt8) (f : Nat) (r : RS) (acc : List Reg) (h : isR l r kMemory = false) : regsR l f r acc = (acc, r) := by
  cases f <;> simp [regsR, h]
theorem regsR_on (l : List UInt8) (f : Nat) (r : RS) (acc : List Reg) (h : isR l r kMemory = true) : regsR l (f + 1) r acc = regsR l f (regionR l r).2 (acc ++ [(regionR l r).1]) := by
  simp [regsR, h]
def partHeadR (l : List UInt8) (r0 : RS) : (List UInt8 × Int × Int × Nat) × RS :=
  let r1 := mustR l r0 [kPartition]
  let n := someR l r1 1
  let p := numberR l (mustR l n.2 [kOpen, kPeriod])
  let d := numberR l (mustR l p.2 [kSemi, kDuration])
  let a := oneOfR l (mustR l d.2 [kSemi, kFault]) 0 kActions
  ((n.1, p.1, d.1, a.1), mustR l a.2 [kSemi])
def partitionR (l : List UInt8) (F : Nat) (r0 : RS) : Part × RS :=
  let h := partHeadR l r0
  let g := regsR l F h.2 []
  (⟨h.1.1, h.1.2.1, h.1.2.2.1, h.1.2.2.2, g.1⟩, mustR l g.2 [kShut])
def channelR (l : List UInt8) (names : List (List UInt8)) (r0 : RS) : Chan × RS :=
  let n := someR l (mustR l r0 [kChannel]) 1
  let s := endR l n.2 names
  let t := endR l (mustR l s.2 [kArrow]) names
  let k := oneOfR l t.2 0 kKinds
  let z := numberR l k.2
  let d := numberR l z.2
  (⟨n.1, s.1, t.1, k.1, z.1, d.1⟩, mustR l d.2 [kSemi])
end Go.Proofs.YteioennfpkoagaaGreatDoor
namespace Go.Proofs.YteioennfpkoagaaGreatDoor
open Go.RowKit

theorem mustR_one {l : List UInt8} {r : RS} {kw : List UInt8} (h : isR l r kw = true) : mustR l r [kw] = nextR r := by simp [mustR, h]
theorem regsR_le (l : List UInt8) (f : Nat) (r : RS) (acc : List Reg) : LeR r (regsR l f r acc).2 := by
  induction f generalizing r acc with
  | zero => exact LeR.refl r
  | succ f ih =>
    simp only [regsR]; split
    · exact ((nextR_le r).trans (regionR_le l r)).trans (ih _ _)
    · exact LeR.refl r
theorem partHeadR_le (l : List UInt8) (r : RS) : LeR (mustR l r [kPartition]) (partHeadR l r).2 := by
  unfold partHeadR
  simp only []
  refine LeR.trans ?_ (mustR_le _ _ _)
  refine LeR.trans ?_ (oneOfR_le _ _ _ _)
  refine LeR.trans ?_ (mustR_le _ _ _)
  refine LeR.trans ?_ (numberR_le _ _)
  refine LeR.trans ?_ (mustR_le _ _ _)
  refine LeR.trans ?_ (numberR_le _ _)
  refine LeR.trans ?_ (mustR_le _ _ _)
  exact someR_le _ _ _
theorem partitionR_le (l : List UInt8) (F : Nat) (r : RS) (h : isR l r kPartition = true) : LeR (nextR r) (partitionR l F r).2 := by
  have h1 := partHeadR_le l r
  rw [mustR_one h] at h1
  unfold partitionR
  simp only []
  refine LeR.trans ?_ (mustR_le _ _ _)
  refine LeR.trans ?_ (regsR_le _ _ _ _)
  exact h1
theorem channelR_le (l : List UInt8) (names : List (List UInt8)) (r : RS) (h : isR l r kChannel = true) : LeR (nextR r) (channelR l names r).2 := by
  have : LeR (mustR l r [kChannel]) (channelR l names r).2 := by
    unfold channelR
    simp only []
    refine LeR.trans ?_ (mustR_le _ _ _)
    refine LeR.trans ?_ (numberR_le _ _)
    refine LeR.trans ?_ (numberR_le _ _)
    refine LeR.trans ?_ (oneOfR_le _ _ _ _)
    refine LeR.trans ?_ (endR_le _ _ _)
    refine LeR.trans ?_ (mustR_le _ _ _)
    refine LeR.trans ?_ (endR_le _ _ _)
    exact someR_le _ _ _
  rw [mustR_one h] at this
  exact this
def partsR (l : List UInt8) (N : Nat) : Nat → RS → List Part → List Part × RS
  | 0, r, acc => (acc, r)
  | f + 1, r, acc => if isR l r kPartition = true then partsR l N f (partitionR l N r).2 (acc ++ [(partitionR l N r).1]) else (acc, r)
theorem partsR_stop (l : List UInt8) (N f : Nat) (r : RS) (acc : List Part) (h : isR l r kPartition = false) : partsR l N f r acc = (acc, r) := by
  cases f <;> simp [partsR, h]
theorem partsR_on (l : List UInt8) (N f : Nat) (r : RS) (acc : List Part) (h : isR l r kPartition = true) : partsR l N (f + 1) r acc = partsR l N f (partitionR l N r).2 (acc ++ [(partitionR l N r).1]) := by
  simp [partsR, h]
def chansR (l : List UInt8) (names : List (List UInt8)) : Nat → RS → List Chan → List Chan × RS
  | 0, r, acc => (acc, r)
  | f + 1, r, acc => if isR l r kChannel = true then chansR l names f (channelR l names r).2 (acc ++ [(channelR l names r).1]) else (acc, r)
theorem chansR_stop (l : List UInt8) (names : List (List UInt8)) (f : Nat) (r : RS) (acc : List Chan) (h : isR l r kChannel = false) : chansR l names f r acc = (acc, r) := by
  cases f <;> simp [chansR, h]
theorem chansR_on (l : List UInt8) (names : List (List UInt8)) (f : Nat) (r : RS) (acc : List Chan) (h : isR l r kChannel = true) : chansR l names (f + 1) r acc = chansR l names f (channelR l names r).2 (acc ++ [(channelR l names r).1]) := by
  simp [chansR, h]
/- all of it -/
structure Mani where
  frame : Int
  parts : List Part
  chans : List Chan
def parseR (l : List UInt8) (N : Nat) : Mani × RS :=
  let f := numberR l (mustR l ⟨0, 0, 0, 0⟩ [kModule])
  let p := partsR l N N (mustR l f.2 [kSemi]) []
  let c := chansR l (p.1.map Part.name) N p.2 []
  (⟨f.1, p.1, c.1⟩, if c.2.e = 0 ∧ (tk l c.2.at').sort ≠ 0 then failR l c.2 1 else c.2)
/- N is the number of a text's tokens, the end with them -/
def TokN (l : List UInt8) (N : Nat) : Prop := 1 ≤ N ∧ pos l (N - 1) = l.length ∧ ∀ j, j < N - 1 → pos l j < l.length
end Go.Proofs.YteioennfpkoagaaGreatDoor
namespace Go.Proofs.YteioennfpkoagaaGreatDoor
open Go.RowKit

/- the place behind bytes that are read from a place on -/
def placeFrom (p : Int × Int) (l : List UInt8) : Int × Int := l.foldl (fun p b => if b.toNat = 10 then (p.1 + 1, 1) else (p.1, p.2 + 1)) p
theorem placeFrom_nil (p : Int × Int) : placeFrom p [] = p := rfl
theorem placeFrom_cons (p : Int × Int) (b : UInt8) (l : List UInt8) : placeFrom p (b :: l) = placeFrom (if b.toNat = 10 then (p.1 + 1, 1) else (p.1, p.2 + 1)) l := rfl
theorem placeFrom_append (p : Int × Int) (a b : List UInt8) : placeFrom p (a ++ b) = placeFrom (placeFrom p a) b := by simp [placeFrom, List.foldl_append]
theorem placeL_from (l : List UInt8) : placeL l = placeFrom (1, 1) l := rfl
theorem ten (b : UInt8) : b.toNat = 10 ↔ b = 10 := by
  constructor
  · intro h; apply UInt8.toNat_inj.1; exact h
  · intro h; rw [h]; rfl
theorem placeFrom_none (p : Int × Int) (l : List UInt8) (h : l.count 10 = 0) : placeFrom p l = (p.1, p.2 + l.length) := by
  induction l generalizing p with
  | nil => simp [placeFrom]
  | cons b l ih =>
    have hb : ¬ b = 10 := by intro e; subst e; simp at h
    have hl : l.count 10 = 0 := by rw [List.count_cons] at h; omega
    rw [placeFrom_cons, if_neg (by rw [ten]; exact hb), ih _ hl]
    simp; omega
theorem placeFrom_line (p : Int × Int) (l : List UInt8) : (placeFrom p l).1 = p.1 + l.count 10 := by
  induction l generalizing p with
  | nil => simp [placeFrom]
  | cons b l ih =>
    rw [placeFrom_cons, ih, List.count_cons]
    by_cases hb : b = 10
    · subst hb; rw [if_pos (show UInt8.toNat 10 = 10 from rfl)]; simp; omega
    · rw [if_neg (by rw [ten]; exact hb)]; simp [hb]
theorem placeFrom_last (p : Int × Int) (a b : List UInt8) (h : b.count 10 = 0) : placeFrom p (a ++ 10 :: b) = (p.1 + (a ++ 10 :: b).count 10, 1 + (b.length : Int)) := by
  rw [placeFrom_append, placeFrom_cons, if_pos (show UInt8.toNat 10 = 10 from rfl), placeFrom_none _ _ h, placeFrom_line]
  simp [List.count_append, h]; omega
/- the last line feed of a string -/
def LastNl (s : ByteArray) (m : Int) : Prop := (m = -1 ∧ ∀ j (h : j < s.size), ¬ s[j].toNat = 10) ∨ ∃ k : Nat, m = k ∧ ∃ hk : k < s.size, s[k].toNat = 10 ∧ ∀ j (h : j < s.size), k < j → ¬ s[j].toNat = 10
theorem count_zero_of (l : List UInt8) (h : ∀ b ∈ l, ¬ b.toNat = 10) : l.count 10 = 0 := by
  rw [List.count_eq_zero]
  intro hm; exact h 10 hm rfl
theorem lastNl_place (p : Int × Int) (s : ByteArray) (m : Int) (h : LastNl s m) (hc : s.data.toList.count 10 ≠ 0) : placeFrom p s.data.toList = (p.1 + s.data.toList.count 10, (s.size : Int) - m) := by
  rcases h with ⟨rfl, hn⟩ | ⟨k, rfl, hk, h10, hn⟩
  · exfalso; apply hc; apply count_zero_of
    intro b hb
    obtain ⟨j, hj, rfl⟩ := List.mem_iff_getElem.1 hb
    exact hn j (by simpa using hj)
  · have e : s.data.toList = s.data.toList.take k ++ 10 :: s.data.toList.drop (k + 1) := by
      have h1 := drop_cons s k hk
      have h2 : s[k] = 10 := (ten _).1 h10
      rw [h2] at h1
      rw [← h1, List.take_append_drop]
    have hz : (s.data.toList.drop (k + 1)).count 10 = 0 := by
      apply count_zero_of
      intro b hb
      obtain ⟨j, hj, rfl⟩ := List.mem_iff_getElem.1 hb
      rw [List.getElem_drop]
      simp at hj
      exact hn (k + 1 + j) (by omega) (by omega)
    have hl : ((s.data.toList.drop (k + 1)).length : Int) = s.size - (k + 1) := by simp; omega
    have := placeFrom_last p (s.data.toList.take k) (s.data.toList.drop (k + 1)) hz
    rw [← e] at this
    rw [this, hl]
    ext
    · rfl
    · simp; omega
theorem gapF_none (r : Bool) (s : ByteArray) (k : Nat) (h : s.size ≤ k) : gapF r (s.data.toList.drop k) = 0 := gapF_end r s k h
end Go.Proofs.YteioennfpkoagaaGreatDoor
namespace Go.Proofs.YteioennfpkoagaaGreatDoor
open Go.RowKit

/- The program's parser: at a token that is right in itself; or an error, its line and column. -/
def St := Sum Nat (Nat × Int × Int)
def normP (l : List UInt8) (k : Nat) : St := if lk l k = 0 then .inl k else .inr (lk l k, (tk l k).line, (tk l k).col)
def badP (l : List UInt8) (k er : Nat) : St := .inr (er, (tk l k).line, (tk l k).col)
def advP (l : List UInt8) : St → St
  | .inl k => normP l (k + 1)
  | .inr e => .inr e
def refP (l : List UInt8) (er : Nat) : St → St
  | .inl k => badP l k er
  | .inr e => .inr e
def atP (l : List UInt8) (kw : List UInt8) : St → Bool
  | .inl k => decide ((tk l k).text = kw)
  | .inr _ => false
def expP (l : List UInt8) (kw : List UInt8) (st : St) : St := if atP l kw st = true then advP l st else refP l 1 st
def kindT (t : Tok) : Nat := if t.sort = 1 then 1 else if t.sort = 2 then 2 else 0
def wordP (l : List UInt8) : St → List UInt8 × St
  | .inl k => if kindT (tk l k) = 1 then ((tk l k).text, normP l (k + 1)) else ([], badP l k 1)
  | .inr e => ([], .inr e)
def numP (l : List UInt8) : St → Int × St
  | .inl k => if kindT (tk l k) = 2 then (valF (tk l k).text, normP l (k + 1)) else (0, badP l k 1)
  | .inr e => (0, .inr e)
def choP (l : List UInt8) (st : St) (i : Nat) : List (List UInt8) → Nat × St
  | [] => (0, refP l 1 st)
  | kw :: t => if atP l kw st = true then (i + 1, advP l st) else choP l st (i + 1) t
def plcGo (l : List UInt8) (k i : Nat) : List (List UInt8) → Nat × St
  | [] => (0, badP l k 4)
  | nm :: t => if nm = (tk l k).text then (i, normP l (k + 1)) else plcGo l k (i + 1) t
def plcP (l : List UInt8) (names : List (List UInt8)) : St → Nat × St
  | .inl k => if kindT (tk l k) = 1 then plcGo l k 0 names else (0, badP l k 1)
  | .inr e => (0, .inr e)
/- where the k-th token ends -/
def endp (l : List UInt8) (k : Nat) : Nat := pos l k + (tokF (l.drop (pos l k))).1
theorem endp_le (l : List UInt8) (k : Nat) : endp l k ≤ l.length := by
  have h1 := tokF_le (l.drop (pos l k))
  have h2 := pos_le l k
  simp only [List.length_drop] at h1
  unfold endp; omega
theorem pos_endp (l : List UInt8) (k : Nat) : pos l (k + 1) = endp l k + gapF false (l.drop (endp l k)) := rfl
/- the place at an index -/
def plc (l : List UInt8) (i : Nat) : Int × Int := placeL (l.take i)
theorem plc_bd (l : List UInt8) (i : Nat) (h : l.length ≤ 8192) : 1 ≤ (plc l i).1 ∧ (plc l i).1 ≤ 8193 ∧ 1 ≤ (plc l i).2 ∧ (plc l i).2 ≤ 8193 := by
  have h1 := placeL_bd (l.take i)
  have h2 : (l.take i).length ≤ l.length := by rw [List.length_take]; omega
  unfold plc; omega
theorem plc_on (l : List UInt8) (i n : Nat) : placeFrom (plc l i) ((l.drop i).take n) = plc l (i + n) := by
  unfold plc
  rw [placeL_from, placeL_from, ← placeFrom_append, ← List.take_add]
theorem tk_line (l : List UInt8) (k : Nat) : (tk l k).line = (plc l (pos l k)).1 := rfl
theorem tk_col (l : List UInt8) (k : Nat) : (tk l k).col = (plc l (pos l k)).2 := rfl
theorem tk_text (l : List UInt8) (k : Nat) : (tk l k).text = (l.drop (pos l k)).take (tokF (l.drop (pos l k))).1 := rfl
/- the kind by the first byte is the kind by the sort -/
theorem kind_tok (m : List UInt8) : (if (tokF m).2 = 1 then 1 else if (tokF m).2 = 2 then 2 else 0) = (match m.take (tokF m).1 with | [] => 0 | b :: _ => if smallB b.toNat = true then 1 else if digitB b.toNat = true then 2 else 0) := by
  cases m with
  | nil => simp [tokF]
  | cons b r =>
    have hp := tokF_pos (b :: r) (by simp)
    obtain ⟨q, hq⟩ : ∃ q, (tokF (b :: r)).1 = q + 1 := ⟨(tokF (b :: r)).1 - 1, by omega⟩
    rw [hq, List.take_succ_cons]
    simp only [tokF]
    by_cases h1 : smallB b.toNat = true
    · simp [h1]
    · by_cases h2 : digitB b.toNat = true
      · simp [h1, h2]
      · simp only [h1, h2, if_false, Bool.false_eq_true]
        split; · simp
        split <;> simp
theorem looks_kind (s : Nat) (m : List UInt8) : looksF (if s = 1 then 1 else if s = 2 then 2 else 0) m = looksF s m := by
  unfold looksF
  by_cases h1 : s = 1
  · subst h1; simp
  · by_cases h2 : s = 2
    · subst h2; simp
    · simp [h1, h2]
end Go.Proofs.YteioennfpkoagaaGreatDoor
