import Derived.Below
namespace Go.Proofs.YteioennfpkoagaaGreatDoor
open Go.RowKit

def smallB (n : Int) : Bool := decide (97 ≤ n ∧ n ≤ 122)
def digitB (n : Int) : Bool := decide (48 ≤ n ∧ n ≤ 57)
def insideB (n : Int) : Bool := smallB n || digitB n || n == 95

/- the place behind the first k bytes -/
def placeL (l : List UInt8) : Int × Int := l.foldl (fun p b => if b.toNat = 10 then (p.1 + 1, 1) else (p.1, p.2 + 1)) (1, 1)
theorem placeL_snoc (l : List UInt8) (b : UInt8) : placeL (l ++ [b]) = if b.toNat = 10 then ((placeL l).1 + 1, 1) else ((placeL l).1, (placeL l).2 + 1) := by
  simp [placeL, List.foldl_append]
theorem placeL_bd (l : List UInt8) : 1 ≤ (placeL l).1 ∧ (placeL l).1 ≤ l.length + 1 ∧ 1 ≤ (placeL l).2 ∧ (placeL l).2 ≤ l.length + 1 := by
  have key : ∀ (n : Nat) (l : List UInt8), l.length = n → 1 ≤ (placeL l).1 ∧ (placeL l).1 ≤ l.length + 1 ∧ 1 ≤ (placeL l).2 ∧ (placeL l).2 ≤ l.length + 1 := by
    intro n
    induction n with
    | zero => intro l h; have := List.eq_nil_of_length_eq_zero h; subst this; simp [placeL]
    | succ n ih =>
      intro l h
      have hne : l ≠ [] := by intro h0; subst h0; simp at h
      rw [← List.dropLast_concat_getLast hne, placeL_snoc]
      have := ih l.dropLast (by simp [h])
      have hd : (l.dropLast.length : Int) = l.length - 1 := by simp [h]
      simp only [List.length_append, List.length_singleton]
      split <;> simp only [] <;> omega
  exact key _ l rfl

theorem take_snoc (s : ByteArray) (k : Nat) (h : k < s.size) : s.data.toList.take (k + 1) = s.data.toList.take k ++ [s[k]] := by
  rw [List.take_succ_eq_append_getElem (by simpa using h)]; rfl
theorem drop_cons (s : ByteArray) (k : Nat) (h : k < s.size) : s.data.toList.drop k = s[k] :: s.data.toList.drop (k + 1) := by
  rw [List.drop_eq_getElem_cons (by simpa using h)]; rfl

theorem placeL_step (s : ByteArray) (k : Nat) (h : k < s.size) : placeL (s.data.toList.take (k + 1)) = if s[k].toNat = 10 then ((placeL (s.data.toList.take k)).1 + 1, 1) else ((placeL (s.data.toList.take k)).1, (placeL (s.data.toList.take k)).2 + 1) := by
  rw [take_snoc s k h, placeL_snoc]

/- how many bytes stand ahead of the next token -/
def gapF : Bool → List UInt8 → Nat
  | _, [] => 0
  | r, b :: l => if b.toNat = 10 then gapF false l + 1 else if b.toNat = 35 then gapF true l + 1 else if b.toNat = 32 ∨ r = true then gapF r l + 1 else 0
theorem gapF_le (r : Bool) (l : List UInt8) : gapF r l ≤ l.length := by
  induction l generalizing r with
  | nil => simp [gapF]
  | cons b l ih =>
    have h1 := ih false; have h2 := ih true; have h3 := ih r
    simp only [gapF, List.length_cons]; split; omega; split; omega; split; omega; omega
theorem gapF_at (r : Bool) (s : ByteArray) (k : Nat) (h : k < s.size) : gapF r (s.data.toList.drop k) = if s[k].toNat = 10 then gapF false (s.data.toList.drop (k + 1)) + 1 else if s[k].toNat = 35 then gapF true (s.data.toList.drop (k + 1)) + 1 else if s[k].toNat = 32 ∨ r = true then gapF r (s.data.toList.drop (k + 1)) + 1 else 0 := by
  rw [drop_cons s k h]; rfl
theorem gapF_end (r : Bool) (s : ByteArray) (k : Nat) (h : s.size ≤ k) : gapF r (s.data.toList.drop k) = 0 := by
  rw [List.drop_eq_nil_of_le (by simpa using h)]; rfl
theorem gap_line {r : Bool} {s : ByteArray} {k e : Nat} (h : k < s.size) (hr : k + gapF r (s.data.toList.drop k) = e) (hc : s[k].toNat = 10) : (k + 1) + gapF false (s.data.toList.drop (k + 1)) = e := by
  rw [gapF_at r s k h, if_pos hc] at hr; omega
theorem gap_blank {r : Bool} {s : ByteArray} {k e : Nat} (h : k < s.size) (hr : k + gapF r (s.data.toList.drop k) = e) (hc : s[k].toNat = 32) : (k + 1) + gapF r (s.data.toList.drop (k + 1)) = e := by
  rw [gapF_at r s k h, if_neg (by omega), if_neg (by omega), if_pos (Or.inl hc)] at hr; omega
theorem gap_hash {r : Bool} {s : ByteArray} {k e : Nat} (h : k < s.size) (hr : k + gapF r (s.data.toList.drop k) = e) (hc : s[k].toNat = 35) : k + gapF true (s.data.toList.drop k) = e := by
  rw [gapF_at r s k h, if_neg (by omega), if_pos hc] at hr; rw [gapF_at true s k h, if_neg (by omega), if_pos hc]; omega
theorem gap_in {s : ByteArray} {k e : Nat} (h : k < s.size) (hr : k + gapF true (s.data.toList.drop k) = e) (hc : ¬ s[k].toNat = 10) : (k + 1) + gapF true (s.data.toList.drop (k + 1)) = e := by
  rw [gapF_at true s k h, if_neg hc] at hr
  split at hr
  · omega
  · rw [if_pos (Or.inr rfl)] at hr; omega
theorem gap_out {s : ByteArray} {k e : Nat} (h : k < s.size) (hr : k + gapF true (s.data.toList.drop k) = e) (hc : s[k].toNat = 10) : k + gapF false (s.data.toList.drop k) = e := by
  rw [gapF_at true s k h, if_pos hc] at hr; rw [gapF_at false s k h, if_pos hc]; omega
theorem gap_stop {s : ByteArray} {k e : Nat} (h : k < s.size) (hr : k + gapF false (s.data.toList.drop k) = e) (h1 : ¬ s[k].toNat = 10) (h2 : ¬ s[k].toNat = 35) (h3 : ¬ s[k].toNat = 32) : k = e := by
  rw [gapF_at false s k h, if_neg h1, if_neg h2, if_neg (by simp [h3])] at hr; omega
theorem byteT {b : UInt8} {c : Nat} (h : ((b.toNat : Int) == (c : Int)) = true) : b.toNat = c := by simp at h; omega
theorem byteF {b : UInt8} {c : Nat} (h : ((b.toNat : Int) == (c : Int)) = false) : ¬ b.toNat = c := by simp at h; omega
/- how many bytes of a word or number a list begins with -/
def runF : List UInt8 → Nat
  | [] => 0
  | b :: l => if insideB b.toNat = true then runF l + 1 else 0
theorem runF_le (l : List UInt8) : runF l ≤ l.length := by
  induction l with
  | nil => simp [runF]
  | cons b l ih => simp only [runF, List.length_cons]; split <;> omega
theorem runF_in {s : ByteArray} {k : Nat} (h : k < s.size) (hc : insideB s[k].toNat = true) : runF (s.data.toList.drop k) = runF (s.data.toList.drop (k + 1)) + 1 := by
  rw [drop_cons s k h]; simp [runF, hc]
theorem runF_out {s : ByteArray} {k : Nat} (h : k < s.size) (hc : insideB s[k].toNat = false) : runF (s.data.toList.drop k) = 0 := by
  rw [drop_cons s k h]; simp [runF, hc]
theorem runF_end {s : ByteArray} {k : Nat} (h : s.size ≤ k) : runF (s.data.toList.drop k) = 0 := by
  rw [List.drop_eq_nil_of_le (by simpa using h)]; rfl
/- the length of the token that a list begins with, and its sort: 0 the end, 1 a word, 2 a number, 3 a sign, 4 another byte -/
def tokF : List UInt8 → Nat × Nat
  | [] => (0, 0)
  | b :: l => if smallB b.toNat = true then (runF l + 1, 1) else if digitB b.toNat = true then (runF l + 1, 2) else
      if b.toNat = 123 ∨ b.toNat = 125 ∨ b.toNat = 59 then (1, 3) else if b.toNat = 45 ∧ l.head?.map UInt8.toNat = some 62 then (2, 3) else (1, 4)

theorem tok_none {b : UInt8} {l : List UInt8} (h1 : smallB b.toNat = false) (h2 : digitB b.toNat = false) : tokF (b :: l) = if b.toNat = 123 ∨ b.toNat = 125 ∨ b.toNat = 59 then (1, 3) else if b.toNat = 45 ∧ l.head?.map UInt8.toNat = some 62 then (2, 3) else (1, 4) := by
  simp [tokF, h1, h2]
theorem head_at {s : ByteArray} {k : Nat} (h : k < s.size) : (s.data.toList.drop k).head?.map UInt8.toNat = some s[k].toNat := by
  rw [drop_cons s k h]; rfl
theorem head_end {s : ByteArray} {k : Nat} (h : s.size ≤ k) : (s.data.toList.drop k).head?.map UInt8.toNat = none := by
  rw [List.drop_eq_nil_of_le (by simpa using h)]; rfl
theorem tok_sign {b : UInt8} {l : List UInt8} (h1 : smallB b.toNat = false) (h2 : digitB b.toNat = false) (h : b.toNat = 123 ∨ b.toNat = 125 ∨ b.toNat = 59) : tokF (b :: l) = (1, 3) := by
  rw [tok_none h1 h2, if_pos h]
theorem tok_arrow {b : UInt8} {l : List UInt8} (h1 : smallB b.toNat = false) (h2 : digitB b.toNat = false) (h : b.toNat = 45 ∧ l.head?.map UInt8.toNat = some 62) : tokF (b :: l) = (2, 3) := by
  rw [tok_none h1 h2, if_neg (by omega), if_pos h]
theorem tok_odd {b : UInt8} {l : List UInt8} (h1 : smallB b.toNat = false) (h2 : digitB b.toNat = false) (h : ¬ (b.toNat = 123 ∨ b.toNat = 125 ∨ b.toNat = 59)) (h' : ¬ (b.toNat = 45 ∧ l.head?.map UInt8.toNat = some 62)) : tokF (b :: l) = (1, 4) := by
  rw [tok_none h1 h2, if_neg h, if_neg h']
theorem tok_word {b : UInt8} {l : List UInt8} (h1 : smallB b.toNat = true) : tokF (b :: l) = (runF l + 1, 1) := by simp [tokF, h1]
theorem tok_number {b : UInt8} {l : List UInt8} (h1 : smallB b.toNat = false) (h2 : digitB b.toNat = true) : tokF (b :: l) = (runF l + 1, 2) := by simp [tokF, h1, h2]

/- A token: its sort, its text, its line and column. -/
structure Tok where
  sort : Nat
  text : List UInt8
  line : Int
  col : Int
def tokAt (l : List UInt8) (i : Nat) : Tok := ⟨(tokF (l.drop i)).2, (l.drop i).take (tokF (l.drop i)).1, (placeL (l.take i)).1, (placeL (l.take i)).2⟩
/- where the k-th token begins -/
def pos (l : List UInt8) : Nat → Nat
  | 0 => gapF false l
  | k + 1 => (pos l k + (tokF (l.drop (pos l k))).1) + gapF false (l.drop (pos l k + (tokF (l.drop (pos l k))).1))
/- the k-th token; the end again and again -/
def tk (l : List UInt8) (k : Nat) : Tok := tokAt l (pos l k)

theorem tokF_le (l : List UInt8) : (tokF l).1 ≤ l.length := by
  cases l with
  | nil => simp [tokF]
  | cons b r =>
    have h := runF_le r
    simp only [tokF, List.length_cons]
    split; · simp; omega
    split; · simp; omega
    split; · simp
    split
    · rename_i h2
      cases r with
      | nil => simp at h2
      | cons c r => simp
    · simp
theorem tokF_pos (l : List UInt8) (h : l ≠ []) : 1 ≤ (tokF l).1 := by
  cases l with
  | nil => exact absurd rfl h
  | cons b r =>
    simp only [tokF]
    split; · simp
    split; · simp
    split; · simp
    split <;> simp
theorem pos_le (l : List UInt8) (k : Nat) : pos l k ≤ l.length := by
  induction k with
  | zero => exact gapF_le _ _
  | succ k ih =>
    simp only [pos]
    have h1 := tokF_le (l.drop (pos l k))
    have h2 := gapF_le false (l.drop (pos l k + (tokF (l.drop (pos l k))).1))
    simp only [List.length_drop] at h1 h2
    omega
theorem pos_lt (l : List UInt8) (k : Nat) (h : pos l k < l.length) : pos l k < pos l (k + 1) := by
  simp only [pos]
  have h1 := tokF_pos (l.drop (pos l k)) (by intro h0; have := congrArg List.length h0; simp at this; omega)
  omega
theorem pos_end (l : List UInt8) (k : Nat) (h : pos l k = l.length) : pos l (k + 1) = l.length := by
  simp [pos, h, tokF, gapF]
theorem pos_after (l : List UInt8) (n k : Nat) (h : pos l n = l.length) (hk : n ≤ k) : pos l k = l.length := by
  induction k with
  | zero => have : n = 0 := by omega
            subst this; exact h
  | succ k ih =>
    by_cases hn : n ≤ k
    · exact pos_end l k (ih hn)
    · have : n = k + 1 := by omega
      subst this; exact h
theorem pos_ge (l : List UInt8) (k : Nat) (h : ∀ j, j < k → pos l j < l.length) : k ≤ pos l k := by
  induction k with
  | zero => omega
  | succ k ih => have h1 := ih (fun j hj => h j (by omega)); have h2 := pos_lt l k (h k (by omega)); omega

/- what is wrong with a token, wherever it stands: an error's number; 0: nothing -/
def digitsB (l : List UInt8) : Bool := l.all fun b => digitB b.toNat
def looksF (sort : Nat) (l : List UInt8) : Nat :=
  if sort = 1 ∧ 16 < l.length then 3 else if sort ≠ 2 then 0 else
  if 6 < l.length ∨ (1 < l.length ∧ l.head?.map UInt8.toNat = some 48) then 2 else if digitsB l = true then 0 else 2
def valF (l : List UInt8) : Int := l.foldl (fun n b => 10 * n + (b.toNat : Int) - 48) 0
theorem valF_snoc (l : List UInt8) (b : UInt8) : valF (l ++ [b]) = 10 * valF l + (b.toNat : Int) - 48 := by simp [valF, List.foldl_append]
theorem valF_step (s : ByteArray) (k : Nat) (h : k < s.size) : valF (s.data.toList.take (k + 1)) = 10 * valF (s.data.toList.take k) + (s[k].toNat : Int) - 48 := by
  rw [take_snoc s k h, valF_snoc]
theorem valF_bd (s : ByteArray) (k : Nat) (h : k ≤ s.size) (h6 : k ≤ 6) : -1000000000 ≤ valF (s.data.toList.take k) ∧ valF (s.data.toList.take k) ≤ 1000000000 := by
  have key : ∀ k : Nat, k ≤ s.size → k ≤ 6 → -(6 * (10 ^ k - 1) : Int) ≤ valF (s.data.toList.take k) ∧ valF (s.data.toList.take k) ≤ (23 * (10 ^ k - 1) : Int) := by
    intro k
    induction k with
    | zero => intro _ _; simp [valF]
    | succ k ih =>
      intro h1 h2
      have := ih (by omega) (by omega)
      rw [valF_step s k (by omega)]
      have hb : s[k].toNat < 256 := UInt8.toNat_lt _
      have hp : (1 : Int) ≤ 10 ^ k := by
        have : (0 : Int) < 10 ^ k := Int.pow_pos (by omega)
        omega
      have he : (10 : Int) ^ (k + 1) = 10 * 10 ^ k := by rw [Int.pow_succ]; omega
      rw [he]
      generalize (10 : Int) ^ k = z at *
      omega
  have := key k h h6
  have hp : (10 : Int) ^ k ≤ 1000000 := by
    have : ∀ m : Nat, m ≤ 6 → (10 : Int) ^ m ≤ 1000000 := by decide
    exact this k h6
  generalize (10 : Int) ^ k = z at *
  omega
end Go.Proofs.YteioennfpkoagaaGreatDoor
namespace Go.Proofs.YteioennfpkoagaaGreatDoor.K

def cstep (s : BitVec 32) : BitVec 32 := (s >>> 1) ^^^ ((s &&& 1#32) * 0xEDB88320#32)
def csteps : Nat → BitVec 32 → BitVec 32
  | 0, s => s
  | n + 1, s => csteps n (cstep s)
def cbyte (s : BitVec 32) (b : UInt8) : BitVec 32 := csteps 8 (s ^^^ b.toBitVec.setWidth 32)
def cfold (l : List UInt8) (s : BitVec 32) : BitVec 32 := l.foldl cbyte s
def ctop : BitVec 32 := 0x80000000#32

theorem and_one (s : BitVec 32) : s &&& 1#32 = if s.getLsbD 0 then 1#32 else 0#32 := by
  apply BitVec.eq_of_getLsbD_eq
  intro i hi
  by_cases h : i = 0
  · subst h
    rw [BitVec.getLsbD_and]
    cases s.getLsbD 0 <;> rfl
  · cases s.getLsbD 0 <;> simp [h, BitVec.getLsbD_one]

theorem cstep_eq (s : BitVec 32) : cstep s = (s >>> 1) ^^^ (if s.getLsbD 0 then 0xEDB88320#32 else 0#32) := by
  unfold cstep
  rw [and_one]
  cases s.getLsbD 0 <;> simp

theorem cstep_xor (a b : BitVec 32) : cstep (a ^^^ b) = cstep a ^^^ cstep b := by
  rw [cstep_eq, cstep_eq, cstep_eq]
  have h : (a ^^^ b) >>> 1 = (a >>> 1) ^^^ (b >>> 1) := by
    apply BitVec.eq_of_getLsbD_eq
    intro i hi
    simp
  rw [h, BitVec.getLsbD_xor]
  generalize a >>> 1 = x
  generalize b >>> 1 = y
  generalize (0xEDB88320#32 : BitVec 32) = p
  cases a.getLsbD 0 <;> cases b.getLsbD 0
  · simp
  · simp [BitVec.xor_assoc]
  · simp only [↓reduceIte, Bool.false_eq_true, BitVec.xor_zero, Bool.bne_false]
    rw [BitVec.xor_assoc, BitVec.xor_assoc, BitVec.xor_comm y p]
  · simp only [bne_self_eq_false, Bool.false_eq_true, ↓reduceIte, BitVec.xor_zero]
    rw [BitVec.xor_assoc x p, BitVec.xor_comm y p, ← BitVec.xor_assoc p p y, BitVec.xor_self, BitVec.zero_xor]

theorem csteps_xor (n : Nat) (a b : BitVec 32) : csteps n (a ^^^ b) = csteps n a ^^^ csteps n b := by
  induction n generalizing a b with
  | zero => rfl
  | succ n ih => rw [csteps, csteps, csteps, cstep_xor, ih]

theorem csteps_add (m n : Nat) (a : BitVec 32) : csteps m (csteps n a) = csteps (n + m) a := by
  induction n generalizing a with
  | zero => rw [csteps, Nat.zero_add]
  | succ n ih => rw [csteps, ih, Nat.succ_add, csteps]

theorem cbyte_xor (s t : BitVec 32) (b : UInt8) : cbyte (s ^^^ t) b = cbyte s b ^^^ csteps 8 t := by
  unfold cbyte
  rw [← csteps_xor]
  congr 1
  rw [BitVec.xor_assoc, BitVec.xor_comm t, ← BitVec.xor_assoc]

theorem cfold_xor (l : List UInt8) (s t : BitVec 32) : cfold l (s ^^^ t) = cfold l s ^^^ csteps (8 * l.length) t := by
  induction l generalizing s t with
  | nil => rfl
  | cons b l ih =>
    unfold cfold at *
    rw [List.foldl_cons, List.foldl_cons, cbyte_xor, ih, csteps_add, List.length_cons]
    congr 2
    omega

theorem ext_xor (a b : UInt8) : (a ^^^ b).toBitVec.setWidth 32 = a.toBitVec.setWidth 32 ^^^ b.toBitVec.setWidth 32 := by
  apply BitVec.eq_of_getLsbD_eq
  intro i hi
  simp

theorem cfold_set (l : List UInt8) (m : Nat) (d : UInt8) (s : BitVec 32) (h : m < l.length) :
    cfold (l.set m (l[m] ^^^ d)) s = cfold l s ^^^ csteps (8 * (l.length - m)) (d.toBitVec.setWidth 32) := by
  induction l generalizing m s with
  | nil => simp at h
  | cons b l ih =>
    cases m with
    | zero =>
      have h1 : cbyte s (b ^^^ d) = cbyte s b ^^^ csteps 8 (d.toBitVec.setWidth 32) := by
        unfold cbyte
        rw [ext_xor, ← BitVec.xor_assoc, csteps_xor]
      show cfold (l) (cbyte s (b ^^^ d)) = cfold l (cbyte s b) ^^^ _
      rw [h1, cfold_xor, csteps_add, List.length_cons]
      congr 2
      omega
    | succ m =>
      have h2 : m < l.length := by simpa using h
      show cfold (l.set m (l[m] ^^^ d)) (cbyte s b) = cfold l (cbyte s b) ^^^ _
      rw [ih m _ h2, List.length_cons]
      congr 2
      omega

theorem top_down : ∀ k : Nat, k < 32 → csteps (31 - k) ctop = 1#32 <<< k := by decide

theorem cstep_inj (a b : BitVec 32) (h : cstep a = cstep b) : a = b := by
  rw [cstep_eq, cstep_eq] at h
  have h0 : a.getLsbD 0 = b.getLsbD 0 := by
    have := congrArg (fun v => BitVec.getLsbD v 31) h
    simp only [BitVec.getLsbD_xor, BitVec.getLsbD_ushiftRight] at this
    rw [BitVec.getLsbD_of_ge a (1 + 31) (by decide), BitVec.getLsbD_of_ge b (1 + 31) (by decide)] at this
    revert this
    cases a.getLsbD 0 <;> cases b.getLsbD 0 <;> decide
  rw [h0] at h
  have h1 : a >>> 1 = b >>> 1 := by
    have := congrArg (fun v => v ^^^ (if b.getLsbD 0 then 0xEDB88320#32 else 0#32)) h
    simpa [BitVec.xor_assoc] using this
  apply BitVec.eq_of_getLsbD_eq
  intro i hi
  cases i with
  | zero => exact h0
  | succ i =>
    have := congrArg (fun v => BitVec.getLsbD v i) h1
    simp only [BitVec.getLsbD_ushiftRight] at this
    rwa [Nat.add_comm] at this

theorem csteps_inj (n : Nat) (a b : BitVec 32) (h : csteps n a = csteps n b) : a = b := by
  induction n generalizing a b with
  | zero => exact h
  | succ n ih => exact cstep_inj _ _ (ih _ _ h)

def nstep (s : Nat) : Nat := (s >>> 1) ^^^ ((s % 2) * 0xEDB88320)
theorem cstep_toNat (s : BitVec 32) : (cstep s).toNat = nstep s.toNat := by
  rw [cstep_eq, nstep, BitVec.toNat_xor, BitVec.toNat_ushiftRight]
  congr 1
  have : s.getLsbD 0 = decide (s.toNat % 2 = 1) := by simp [BitVec.getLsbD, Nat.testBit_zero]
  rw [this]
  rcases Nat.mod_two_eq_zero_or_one s.toNat with h | h <;> simp [h]
def nchk : Nat → Nat → Bool
  | 0, _ => true
  | n + 1, s => match nstep s with
    | 0 => false
    | t + 1 => !Nat.beq (t + 1) 0x80000000 && nchk n (t + 1)
theorem nchk_all : nchk 16384 0x80000000 = true := by decide +kernel

theorem csteps_zero (n : Nat) : csteps n 0#32 = 0#32 := by
  induction n with
  | zero => rfl
  | succ n ih => exact ih
theorem csteps_succ (n : Nat) (s : BitVec 32) : csteps (n + 1) s = cstep (csteps n s) := by
  have := csteps_add 1 n s
  exact this.symm
theorem nchk_ne : ∀ (n : Nat) (s : BitVec 32), nchk n s.toNat = true → ∀ k, 1 ≤ k → k ≤ n → csteps k s ≠ ctop := by
  intro n
  induction n with
  | zero => intro s _ k h1 h2; omega
  | succ n ih =>
    intro s h k h1 h2
    rw [nchk, ← cstep_toNat] at h
    have h3 : cstep s ≠ ctop ∧ nchk n (cstep s).toNat = true := by
      generalize cstep s = c at h
      split at h
      · simp at h
      · rename_i t ht
        rw [ht]
        rw [Bool.and_eq_true] at h
        refine ⟨fun hc => ?_, h.2⟩
        rw [hc] at ht
        have : t + 1 = 0x80000000 := ht.symm
        rw [this] at h
        exact absurd h.1 (by decide)
    cases k with
    | zero => omega
    | succ k =>
      rw [csteps]
      by_cases hk : k = 0
      · subst hk
        exact h3.1
      · exact ih _ h3.2 k (by omega) (by omega)
theorem pow_ne {a b : Nat} (h : a < b) (hb : b ≤ 16384) : csteps a ctop ≠ csteps b ctop := by
  intro he
  have h1 : csteps b ctop = csteps a (csteps (b - a) ctop) := by
    rw [csteps_add]
    congr 1
    omega
  rw [h1] at he
  exact nchk_ne 16384 ctop nchk_all (b - a) (by omega) (by omega) (csteps_inj a _ _ he).symm
theorem pow_inj {a b : Nat} (ha : a ≤ 16384) (hb : b ≤ 16384) (h : csteps a ctop = csteps b ctop) : a = b := by
  rcases Nat.lt_trichotomy a b with h1 | h1 | h1
  · exact absurd h (pow_ne h1 hb)
  · exact h1
  · exact absurd h.symm (pow_ne h1 ha)
theorem pow_zero (a : Nat) : csteps a ctop ≠ 0#32 := by
  intro h
  have := csteps_inj a ctop 0#32 (by rw [h, csteps_zero])
  exact absurd this (by decide)

def be4 (a b c d : UInt8) : BitVec 32 :=
  (a.toBitVec.setWidth 32 <<< 24) ^^^ (b.toBitVec.setWidth 32 <<< 16) ^^^ (c.toBitVec.setWidth 32 <<< 8) ^^^ d.toBitVec.setWidth 32
def beL (l : List UInt8) : BitVec 32 := be4 (l.getD 0 0) (l.getD 1 0) (l.getD 2 0) (l.getD 3 0)
def sumL (l : List UInt8) : BitVec 32 := ~~~(cfold l (~~~0#32))
def synL (l : List UInt8) : BitVec 32 := sumL (l.take (l.length - 4)) ^^^ beL (l.drop (l.length - 4))
def bit8 (k : Nat) : UInt8 := UInt8.ofNat (2 ^ k)
def expo (n i : Nat) : Nat := if i / 8 < n - 4 then 31 + 8 * (n - 4) - i else 7 + 8 * (i / 8 - (n - 4)) - i % 8

theorem bit8_ext : ∀ k : Nat, k < 8 → (bit8 k).toBitVec.setWidth 32 = 1#32 <<< k := by decide
theorem shl_xor (a b : BitVec 32) (k : Nat) : (a ^^^ b) <<< k = (a <<< k) ^^^ (b <<< k) := by
  apply BitVec.eq_of_getLsbD_eq
  intro i hi
  simp only [BitVec.getLsbD_xor, BitVec.getLsbD_shiftLeft]
  cases decide (i < 32) <;> cases decide (i < k) <;> simp
theorem not_xor32 (a b : BitVec 32) : ~~~(a ^^^ b) = ~~~a ^^^ b := by
  apply BitVec.eq_of_getLsbD_eq
  intro i hi
  simp only [BitVec.getLsbD_not, BitVec.getLsbD_xor, hi, decide_true, Bool.true_and]
  cases a.getLsbD i <;> cases b.getLsbD i <;> rfl
theorem be4_bit : ∀ q : Nat, q < 4 → ∀ k : Nat, k < 8 → (1#32 <<< k) <<< (8 * (3 - q)) = csteps (7 + 8 * q - k) ctop := by decide
theorem xor_right (a b c : BitVec 32) : a ^^^ b ^^^ c = a ^^^ c ^^^ b := by
  rw [BitVec.xor_assoc, BitVec.xor_comm b c, ← BitVec.xor_assoc]
theorem beL_set (l : List UInt8) (h : l.length = 4) (q k : Nat) (hq : q < 4) (hk : k < 8) :
    beL (l.set q (l.getD q 0 ^^^ bit8 k)) = beL l ^^^ csteps (7 + 8 * q - k) ctop := by
  rw [← be4_bit q hq k hk, ← bit8_ext k hk]
  match l, h with
  | [a, b, c, d], _ =>
    match q, hq with
    | 0, _ => simp only [beL, be4, List.getD_cons_zero, List.getD_cons_succ, List.set_cons_zero, ext_xor, shl_xor]; simp only [xor_right _ ((bit8 k).toBitVec.setWidth 32 <<< 24)]
    | 1, _ => simp only [beL, be4, List.getD_cons_zero, List.getD_cons_succ, List.set_cons_zero, List.set_cons_succ, ext_xor, shl_xor, ← BitVec.xor_assoc]; simp only [xor_right _ ((bit8 k).toBitVec.setWidth 32 <<< 16)]
    | 2, _ => simp only [beL, be4, List.getD_cons_zero, List.getD_cons_succ, List.set_cons_zero, List.set_cons_succ, ext_xor, shl_xor, ← BitVec.xor_assoc]; simp only [xor_right _ ((bit8 k).toBitVec.setWidth 32 <<< 8)]
    | 3, _ => simp only [beL, be4, List.getD_cons_zero, List.getD_cons_succ, List.set_cons_zero, List.set_cons_succ, ext_xor, ← BitVec.xor_assoc]; simp
theorem synL_set (l : List UInt8) (i : Nat) (hn : 4 ≤ l.length) (hi : i / 8 < l.length) :
    synL (l.set (i / 8) (l.getD (i / 8) 0 ^^^ bit8 (i % 8))) = synL l ^^^ csteps (expo l.length i) ctop := by
  unfold synL expo
  rw [List.length_set]
  have hk : i % 8 < 8 := Nat.mod_lt _ (by decide)
  by_cases h : i / 8 < l.length - 4
  · rw [if_pos h, List.take_set, List.drop_set_of_lt h]
    have h1 : i / 8 < (l.take (l.length - 4)).length := by simp; omega
    have h2 : l.getD (i / 8) 0 = (l.take (l.length - 4))[i / 8] := by
      simp [List.getD_eq_getElem?_getD, List.getElem?_eq_getElem hi]
    unfold sumL
    rw [h2, cfold_set _ _ _ _ h1, not_xor32, bit8_ext _ hk, ← top_down _ (by omega), csteps_add, xor_right]
    congr 2
    simp
    omega
  · rw [if_neg h, List.take_set_of_le (by omega), List.drop_set, if_neg h]
    have h2 : l.getD (i / 8) 0 = (l.drop (l.length - 4)).getD (i / 8 - (l.length - 4)) 0 := by
      simp only [List.getD_eq_getElem?_getD, List.getElem?_drop]
      congr 2
      omega
    rw [h2, beL_set _ (by simp; omega) _ _ (by omega) hk, BitVec.xor_assoc]
theorem expo_le (n i : Nat) (hn : 4 ≤ n) (hi : i / 8 < n) : expo n i ≤ 8 * n := by
  unfold expo
  split <;> omega
theorem expo_inj (n i j : Nat) (hi : i / 8 < n) (hj : j / 8 < n) (h : expo n i = expo n j) : i = j := by
  unfold expo at h
  split at h <;> split at h <;> omega
theorem syn_one (l : List UInt8) (i : Nat) (hn : 4 ≤ l.length) (hi : i / 8 < l.length) (h0 : synL l = 0#32) :
    synL (l.set (i / 8) (l.getD (i / 8) 0 ^^^ bit8 (i % 8))) ≠ 0#32 := by
  rw [synL_set l i hn hi, h0, BitVec.zero_xor]
  exact pow_zero _
theorem syn_two (l : List UInt8) (i j : Nat) (hn : 4 ≤ l.length) (hm : l.length ≤ 2048) (hi : i / 8 < l.length) (hj : j / 8 < l.length) (hij : i ≠ j) (h0 : synL l = 0#32) :
    synL ((l.set (i / 8) (l.getD (i / 8) 0 ^^^ bit8 (i % 8))).set (j / 8) ((l.set (i / 8) (l.getD (i / 8) 0 ^^^ bit8 (i % 8))).getD (j / 8) 0 ^^^ bit8 (j % 8))) ≠ 0#32 := by
  rw [synL_set _ j (by rw [List.length_set]; exact hn) (by rw [List.length_set]; exact hj), synL_set l i hn hi, h0, BitVec.zero_xor, List.length_set]
  intro h
  have h1 : csteps (expo l.length i) ctop = csteps (expo l.length j) ctop := by
    have := congrArg (fun v => v ^^^ csteps (expo l.length j) ctop) h
    simpa [BitVec.xor_assoc] using this
  have h2 := expo_le l.length i hn hi
  have h3 := expo_le l.length j hn hj
  exact hij (expo_inj _ _ _ hi hj (pow_inj (by omega) (by omega) h1))

def sb (k : Nat) (s : BitVec 32) : UInt8 := UInt8.ofNat (s.toNat >>> k)
def sumB (s : BitVec 32) : List UInt8 := [sb 24 s, sb 16 s, sb 8 s, sb 0 s]
theorem sb_bit (k i : Nat) (s : BitVec 32) : ((sb k s).toBitVec.setWidth 32).getLsbD i = (decide (i < 8) && s.getLsbD (k + i)) := by
  have h : (sb k s).toBitVec = BitVec.ofNat 8 (s.toNat >>> k) := rfl
  rw [h, BitVec.getLsbD_setWidth]
  simp only [BitVec.getLsbD_ofNat, Nat.testBit_shiftRight, BitVec.testBit_toNat]
  by_cases h1 : i < 8
  · simp [h1, show i < 32 by omega]
  · simp [h1]
theorem be_sumB (s : BitVec 32) : beL (sumB s) = s := by
  apply BitVec.eq_of_getLsbD_eq
  intro i hi
  simp only [beL, sumB, List.getD_cons_zero, List.getD_cons_succ, be4, BitVec.getLsbD_xor, BitVec.getLsbD_shiftLeft, sb_bit]
  have e0 : (0 : Nat) + i = i := by omega
  rcases (show i < 8 ∨ (8 ≤ i ∧ i < 16) ∨ (16 ≤ i ∧ i < 24) ∨ 24 ≤ i by omega) with h | ⟨h, h'⟩ | ⟨h, h'⟩ | h
  · simp [hi, h, show i < 24 by omega, show i < 16 by omega]
  · simp [hi, show ¬ i < 8 by omega, show i < 24 by omega, show i < 16 by omega, show i - 8 < 8 by omega, show 8 + (i - 8) = i by omega]
  · simp [hi, show ¬ i < 8 by omega, show i < 24 by omega, show ¬ i < 16 by omega, show i - 16 < 8 by omega, show ¬ i - 8 < 8 by omega, show 16 + (i - 16) = i by omega]
  · simp [hi, show ¬ i < 8 by omega, show ¬ i < 24 by omega, show ¬ i < 16 by omega, show i - 24 < 8 by omega, show ¬ i - 8 < 8 by omega, show ¬ i - 16 < 8 by omega, show 24 + (i - 24) = i by omega]
def sealL (l : List UInt8) : List UInt8 := l ++ sumB (sumL l)
theorem sealL_len (l : List UInt8) : (sealL l).length = l.length + 4 := by simp [sealL, sumB]
theorem synL_seal (l : List UInt8) : synL (sealL l) = 0#32 := by
  unfold synL
  have h1 : (sealL l).length - 4 = l.length := by rw [sealL_len]; omega
  rw [h1]
  unfold sealL
  rw [List.take_left, List.drop_left, be_sumB, BitVec.xor_self]

end Go.Proofs.YteioennfpkoagaaGreatDoor.K
