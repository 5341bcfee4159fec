import Derived.Test.YteioennfpkoagaaGreatDoorPureN
namespace Go.Proofs.YteioennfpkoagaaGreatDoor
open Go.RowKit

/- the program's state at the reference's -/
def absS (l : List UInt8) (r : RS) : St := if r.e ≠ 0 then .inr (r.e, r.ln, r.cl) else normP l r.at'
theorem abs_dead {l : List UInt8} {r : RS} (h : r.e ≠ 0) : absS l r = .inr (r.e, r.ln, r.cl) := if_pos h
theorem abs_live {l : List UInt8} {r : RS} (h : r.e = 0) : absS l r = normP l r.at' := if_neg (by simp [h])
theorem norm_ok {l : List UInt8} {k : Nat} (h : lk l k = 0) : normP l k = .inl k := if_pos h
theorem norm_bad {l : List UInt8} {k : Nat} (h : lk l k ≠ 0) : normP l k = .inr (lk l k, (tk l k).line, (tk l k).col) := if_neg h
theorem abs_fail (l : List UInt8) (r : RS) (er : Nat) (her : er ≠ 0) : absS l (failR l r er) = refP l er (absS l r) := by
  by_cases he : r.e = 0
  · have hf : failR l r er = ⟨r.at', if lk l r.at' ≠ 0 then lk l r.at' else er, (tk l r.at').line, (tk l r.at').col⟩ := if_neg (by simp [he])
    rw [hf, abs_live he]
    by_cases hl : lk l r.at' = 0
    · rw [norm_ok hl, if_neg (by simp [hl]), abs_dead (by simpa using her)]; rfl
    · rw [norm_bad hl, if_pos hl, abs_dead (by simpa using hl)]; rfl
  · have hf : failR l r er = r := if_pos he
    rw [hf, abs_dead he]; rfl
/- a word of the language: short, and no number -/
def okK (kw : List UInt8) : Bool := decide (kw.length ≤ 16) && (match kw with | [] => false | b :: _ => ! digitB b.toNat)
theorem sort_two (m : List UInt8) (h : (tokF m).2 = 2) : ∃ b t, m.take (tokF m).1 = b :: t ∧ digitB b.toNat = true := by
  cases m with
  | nil => simp [tokF] at h
  | cons b r =>
    have hp := tokF_pos (b :: r) (by simp)
    obtain ⟨q, hq⟩ : ∃ q, (tokF (b :: r)).1 = q + 1 := ⟨(tokF (b :: r)).1 - 1, by omega⟩
    refine ⟨b, r.take q, by rw [hq, List.take_succ_cons], ?_⟩
    simp only [tokF] at h
    split at h
    · simp at h
    split at h
    · assumption
    split at h
    · simp at h
    split at h <;> simp at h
theorem kw_look {l : List UInt8} {k : Nat} {kw : List UInt8} (hk : okK kw = true) (h : (tk l k).text = kw) : lk l k = 0 ∧ (tk l k).sort ≠ 0 := by
  have hs2 : (tk l k).sort ≠ 2 := by
    intro h2
    obtain ⟨b, t, e1, e2⟩ := sort_two (l.drop (pos l k)) h2
    have e3 : kw = b :: t := by rw [← h]; exact e1
    rw [e3] at hk; simp [okK, e2] at hk
  have hl : kw.length ≤ 16 := by simp [okK] at hk; exact hk.1
  refine ⟨?_, ?_⟩
  · unfold lk looksF
    rw [h]
    by_cases h1 : (tk l k).sort = 1
    · simp [h1]; omega
    · simp [h1, hs2]
  · intro h0
    have e : l.drop (pos l k) = [] := (tokF_sort _).2.1 h0
    have : (tk l k).text = [] := by show (l.drop (pos l k)).take _ = []; rw [e]; simp
    rw [this] at h; subst h; simp [okK] at hk
theorem at_abs (l : List UInt8) (r : RS) (kw : List UInt8) (hk : okK kw = true) : atP l kw (absS l r) = isR l r kw := by
  by_cases he : r.e = 0
  · rw [abs_live he]
    by_cases ht : (tk l r.at').text = kw
    · have := kw_look hk ht
      rw [norm_ok this.1]
      simp [atP, isR, he, ht, this.2]
    · have hi : isR l r kw = false := by simp [isR, ht]
      rw [hi]
      by_cases hl : lk l r.at' = 0
      · rw [norm_ok hl]; simp [atP, ht]
      · rw [norm_bad hl]; rfl
  · rw [abs_dead he]; simp [atP, isR, he]
theorem is_adv {l : List UInt8} {r : RS} {kw : List UInt8} (hk : okK kw = true) (h : isR l r kw = true) : absS l (nextR r) = advP l (absS l r) := by
  have he := isR_e h
  have ht : (tk l r.at').text = kw := by simp [isR] at h; exact h.2.2
  rw [abs_live (by exact he), abs_live he, norm_ok (kw_look hk ht).1]; rfl
theorem exp_abs (l : List UInt8) (r : RS) (kw : List UInt8) (hk : okK kw = true) : expP l kw (absS l r) = absS l (mustR l r [kw]) := by
  unfold expP
  rw [at_abs l r kw hk]
  by_cases h : isR l r kw = true
  · rw [if_pos h, mustR_one h, is_adv hk h]
  · rw [if_neg h]
    have : mustR l r [kw] = failR l r 1 := by simp [mustR, h]
    rw [this, abs_fail l r 1 (by decide)]
theorem mustR_two (l : List UInt8) (r : RS) (a b : List UInt8) : mustR l r [a, b] = mustR l (mustR l r [a]) [b] := by
  by_cases h : isR l r a = true
  · simp [mustR, h]
  · have hd : (failR l r 1).e ≠ 0 := by
      unfold failR; split
      · assumption
      · simp only []; split
        · assumption
        · simp
    have h2 : isR l (failR l r 1) b = false := by simp [isR, hd]
    have h3 : failR l (failR l r 1) 1 = failR l r 1 := by
      generalize failR l r 1 = x at *
      unfold failR; rw [if_pos hd]
    simp [mustR, h, h2, h3]
/- a token of a sort -/
theorem kind_sort (t : Tok) (s : Nat) (hs : s = 1 ∨ s = 2) : kindT t = s ↔ t.sort = s := by
  unfold kindT; split
  · omega
  split <;> omega
theorem word_abs (l : List UInt8) (r : RS) : (wordP l (absS l r)).2 = absS l (someR l r 1).2 ∧ ((someR l r 1).2.e = 0 → ∃ k, absS l r = .inl k ∧ (wordP l (absS l r)).1 = (someR l r 1).1) := by
  by_cases he : r.e = 0
  · rw [abs_live he]
    have hs : someR l r 1 = if (tk l r.at').sort ≠ 1 ∨ lk l r.at' ≠ 0 then ([], failR l r 1) else ((tk l r.at').text, nextR r) := if_neg (by simp [he])
    by_cases hl : lk l r.at' = 0
    · rw [norm_ok hl]
      by_cases hq : (tk l r.at').sort = 1
      · have h2 : wordP l (.inl r.at') = ((tk l r.at').text, normP l (r.at' + 1)) := by simp only [wordP]; rw [if_pos ((kind_sort _ 1 (by simp)).2 hq)]
        rw [hs, if_neg (by simp [hq, hl]), h2]
        exact ⟨(abs_live (r := nextR r) he).symm, fun _ => ⟨_, rfl, rfl⟩⟩
      · have h2 : wordP l (.inl r.at') = ([], badP l r.at' 1) := by simp only [wordP]; rw [if_neg (fun h => hq ((kind_sort _ 1 (by simp)).1 h))]
        rw [hs, if_pos (.inl hq), h2]
        refine ⟨?_, fun h => ?_⟩
        · rw [abs_fail l r 1 (by decide), abs_live he, norm_ok hl]; rfl
        · exact absurd h (by unfold failR; rw [if_neg (by simp [he])]; simp [hl])
    · rw [norm_bad hl, hs, if_pos (.inr hl)]
      refine ⟨?_, fun h => ?_⟩
      · rw [abs_fail l r 1 (by decide), abs_live he, norm_bad hl]; rfl
      · exact absurd h (by unfold failR; rw [if_neg (by simp [he])]; simp [hl])
  · have hs : someR l r 1 = ([], r) := if_pos he
    rw [abs_dead he, hs]
    exact ⟨(abs_dead he).symm, fun h => absurd h he⟩
theorem num_abs (l : List UInt8) (r : RS) : (numP l (absS l r)).2 = absS l (numberR l r).2 ∧ ((numberR l r).2.e = 0 → ∃ k, absS l r = .inl k ∧ (numP l (absS l r)).1 = (numberR l r).1) := by
  unfold numberR
  by_cases he : r.e = 0
  · rw [abs_live he]
    have hs : someR l r 2 = if (tk l r.at').sort ≠ 2 ∨ lk l r.at' ≠ 0 then ([], failR l r 1) else ((tk l r.at').text, nextR r) := if_neg (by simp [he])
    by_cases hl : lk l r.at' = 0
    · rw [norm_ok hl]
      by_cases hq : (tk l r.at').sort = 2
      · have h2 : numP l (.inl r.at') = (valF (tk l r.at').text, normP l (r.at' + 1)) := by simp only [numP]; rw [if_pos ((kind_sort _ 2 (by simp)).2 hq)]
        rw [hs, if_neg (by simp [hq, hl]), h2]
        exact ⟨(abs_live (r := nextR r) he).symm, fun _ => ⟨_, rfl, rfl⟩⟩
      · have h2 : numP l (.inl r.at') = (0, badP l r.at' 1) := by simp only [numP]; rw [if_neg (fun h => hq ((kind_sort _ 2 (by simp)).1 h))]
        rw [hs, if_pos (.inl hq), h2]
        refine ⟨?_, fun h => ?_⟩
        · rw [abs_fail l r 1 (by decide), abs_live he, norm_ok hl]; rfl
        · exact absurd h (by show (failR l r 1).e ≠ 0; unfold failR; rw [if_neg (by simp [he])]; simp [hl])
    · rw [norm_bad hl, hs, if_pos (.inr hl)]
      refine ⟨?_, fun h => ?_⟩
      · rw [abs_fail l r 1 (by decide), abs_live he, norm_bad hl]; rfl
      · exact absurd h (by show (failR l r 1).e ≠ 0; unfold failR; rw [if_neg (by simp [he])]; simp [hl])
  · have hs : someR l r 2 = ([], r) := if_pos he
    rw [abs_dead he, hs]
    exact ⟨(abs_dead he).symm, fun h => absurd h he⟩
theorem cho_abs (l : List UInt8) (r : RS) (i : Nat) (kws : List (List UInt8)) (hk : ∀ kw ∈ kws, okK kw = true) : choP l (absS l r) i kws = ((oneOfR l r i kws).1, absS l (oneOfR l r i kws).2) := by
  induction kws generalizing i with
  | nil => simp only [choP, oneOfR]; rw [abs_fail l r 1 (by decide)]
  | cons kw t ih =>
    simp only [choP, oneOfR]
    have h1 := hk kw (by simp)
    rw [at_abs l r kw h1]
    by_cases h : isR l r kw = true
    · rw [if_pos h, if_pos h, is_adv h1 h]
    · rw [if_neg h, if_neg h]; exact ih (i + 1) (fun x hx => hk x (by simp [hx]))
theorem long_word {l : List UInt8} {k : Nat} (h1 : (tk l k).sort = 1) : lk l k = if 16 < (tk l k).text.length then 3 else 0 := by
  unfold lk looksF; simp [h1]
theorem plc_abs (l : List UInt8) (r : RS) (names : List (List UInt8)) (hn : ∀ nm ∈ names, nm.length ≤ 16) : (plcP l names (absS l r)).2 = absS l (endR l r names).2 ∧ ((endR l r names).2.e = 0 → ∃ k, absS l r = .inl k ∧ (plcP l names (absS l r)).1 = (endR l r names).1) := by
  by_cases he : r.e = 0
  · have hs : endR l r names = endGo l r 0 names := if_neg (by simp [he])
    rw [hs, abs_live he]
    by_cases hl : lk l r.at' = 0
    · rw [norm_ok hl]
      have key : ∀ (i : Nat) (ns : List (List UInt8)), (if kindT (tk l r.at') = 1 then plcGo l r.at' i ns else (0, badP l r.at' 1)) = ((endGo l r i ns).1, absS l (endGo l r i ns).2) := by
        intro i ns
        induction ns generalizing i with
        | nil =>
          simp only [plcGo, endGo]
          by_cases hq : (tk l r.at').sort = 1
          · rw [if_pos ((kind_sort _ 1 (by simp)).2 hq), if_pos hq, abs_fail l r 4 (by decide), abs_live he, norm_ok hl]; rfl
          · rw [if_neg (fun h => hq ((kind_sort _ 1 (by simp)).1 h)), if_neg hq, abs_fail l r 1 (by decide), abs_live he, norm_ok hl]; rfl
        | cons a t ih =>
          simp only [plcGo, endGo]
          by_cases hq : (tk l r.at').sort = 1
          · rw [if_pos ((kind_sort _ 1 (by simp)).2 hq)]
            by_cases ha : a = (tk l r.at').text
            · rw [if_pos ha, if_pos ⟨hq, ha⟩, abs_live (by exact he)]; rfl
            · rw [if_neg ha, if_neg (by simp [ha]), ← ih (i + 1), if_pos ((kind_sort _ 1 (by simp)).2 hq)]
          · rw [if_neg (fun h => hq ((kind_sort _ 1 (by simp)).1 h)), if_neg (by simp [hq]), ← ih (i + 1), if_neg (fun h => hq ((kind_sort _ 1 (by simp)).1 h))]
      have h2 : plcP l names (.inl r.at') = ((endGo l r 0 names).1, absS l (endGo l r 0 names).2) := key 0 names
      rw [h2]
      exact ⟨rfl, fun _ => ⟨_, rfl, rfl⟩⟩
    · rw [norm_bad hl]
      have key : ∀ (i : Nat) (ns : List (List UInt8)), (∀ nm ∈ ns, nm.length ≤ 16) → (endGo l r i ns).2 = ⟨r.at', lk l r.at', (tk l r.at').line, (tk l r.at').col⟩ := by
        intro i ns
        induction ns generalizing i with
        | nil => intro _; simp only [endGo]; unfold failR; rw [if_neg (by simp [he]), if_pos hl]
        | cons a t ih =>
          intro hb
          simp only [endGo]
          rw [if_neg ?_]
          · exact ih (i + 1) (fun x hx => hb x (by simp [hx]))
          · rintro ⟨h1, h2⟩
            have := hb a (by simp)
            rw [long_word h1, if_neg (by rw [← h2]; omega)] at hl
            exact hl rfl
      rw [key 0 names hn, abs_dead (by exact hl)]
      exact ⟨rfl, fun h => absurd h hl⟩
  · have hs : endR l r names = (0, r) := if_pos he
    rw [abs_dead he, hs]
    exact ⟨(abs_dead he).symm, fun h => absurd h he⟩
/- the end -/
theorem end_text (l : List UInt8) (k : Nat) : (tk l k).text = [] ↔ (tk l k).sort = 0 := by
  constructor
  · intro h
    have h1 : (l.drop (pos l k)).take (tokF (l.drop (pos l k))).1 = [] := h
    by_cases he : l.drop (pos l k) = []
    · exact (tokF_sort _).2.2 he
    · have := tokF_pos _ he
      have h2 := congrArg List.length h1
      have h3 : 1 ≤ (l.drop (pos l k)).length := by
        rcases hx : l.drop (pos l k) with _ | ⟨a, t⟩
        · exact absurd hx he
        · simp
      rw [List.length_take] at h2
      simp only [List.length_nil] at h2
      omega
  · intro h
    have e : l.drop (pos l k) = [] := (tokF_sort _).2.1 h
    show (l.drop (pos l k)).take _ = []; rw [e]; simp
theorem pos_stay (l : List UInt8) (k : Nat) (h : pos l k = l.length) : pos l (k + 1) = l.length := by
  have h1 := pos_le l (k + 1)
  have : pos l k ≤ pos l (k + 1) := by simp only [pos]; omega
  omega
theorem final_ok (l : List UInt8) (r : RS) (he : r.e = 0) (hs : (tk l r.at').sort = 0) : expP l [] (absS l r) = (.inl (r.at' + 1) : St) := by
  rw [abs_live he, norm_ok (lk_end l _ hs)]
  have h2 : atP l [] (.inl r.at') = true := by simp [atP, (end_text l _).2 hs]
  unfold expP; rw [if_pos h2]
  show normP l (r.at' + 1) = _
  exact norm_ok (lk_end l _ ((tk_end l _).2 (pos_stay l _ ((tk_end l _).1 hs))))
theorem final_bad (l : List UInt8) (r : RS) (he : r.e = 0) (hs : (tk l r.at').sort ≠ 0) : expP l [] (absS l r) = absS l (failR l r 1) := by
  rw [abs_fail l r 1 (by decide)]
  have h2 : atP l [] (absS l r) = false := by
    rw [abs_live he]
    by_cases hl : lk l r.at' = 0
    · rw [norm_ok hl]; simp [atP, end_text, hs]
    · rw [norm_bad hl]; rfl
  unfold expP; rw [if_neg (by simp [h2])]
theorem final_dead (l : List UInt8) (r : RS) (he : r.e ≠ 0) : expP l [] (absS l r) = absS l r := by
  rw [abs_dead he]; rfl
theorem fail_e (l : List UInt8) (r : RS) : (failR l r 1).e ≠ 0 := by
  unfold failR; split
  · assumption
  · simp only []; split
    · assumption
    · simp
theorem pos_mono (l : List UInt8) (j k : Nat) (h : j ≤ k) : pos l j ≤ pos l k := by
  induction k with
  | zero => have : j = 0 := by omega
            subst this; exact Nat.le_refl _
  | succ k ih =>
    rcases Nat.lt_or_ge j (k + 1) with h' | h'
    · have h1 := ih (by omega)
      have : pos l k ≤ pos l (k + 1) := by simp only [pos]; omega
      omega
    · have : j = k + 1 := by omega
      subst this; exact Nat.le_refl _
theorem is_lt {l : List UInt8} {N : Nat} {r : RS} {kw : List UInt8} (hN : TokN l N) (h : isR l r kw = true) : r.at' < N := by
  have hs : (tk l r.at').sort ≠ 0 := by simp [isR] at h; exact h.2.1
  rcases Nat.lt_or_ge r.at' N with h' | h'
  · exact h'
  · have h1 := pos_mono l (N - 1) r.at' (by omega)
    have h2 := pos_le l r.at'
    rw [hN.2.1] at h1
    exact absurd ((tk_end l _).2 (by omega)) hs
theorem tokN_ex (l : List UInt8) : ∃ N, TokN l N ∧ N ≤ l.length + 1 := by
  have key : ∀ m, (∃ N, TokN l N ∧ N ≤ m) ∨ ∀ j, j < m → pos l j < l.length := by
    intro m
    induction m with
    | zero => right; intro j hj; omega
    | succ m ih =>
      rcases ih with ⟨N, h1, h2⟩ | h
      · exact .inl ⟨N, h1, by omega⟩
      · have h3 := pos_le l m
        by_cases he : pos l m = l.length
        · exact .inl ⟨m + 1, ⟨by omega, he, fun j hj => h j (by omega)⟩, Nat.le_refl _⟩
        · right; intro j hj
          rcases Nat.lt_or_ge j m with h' | h'
          · exact h j h'
          · have : j = m := by omega
            subst this; omega
  rcases key (l.length + 1) with h | h
  · exact h
  · have h1 := pos_ge l l.length (fun j hj => h j (by omega))
    have h2 := h l.length (by omega)
    omega
theorem tokN_eq {l : List UInt8} {N M : Nat} (h : TokN l N) (k : TokN l M) : N = M := by
  rcases Nat.lt_trichotomy N M with h' | h' | h'
  · have := k.2.2 (N - 1) (by have := h.1; omega)
    rw [h.2.1] at this; omega
  · exact h'
  · have := h.2.2 (M - 1) (by have := k.1; omega)
    rw [k.2.1] at this; omega
end Go.Proofs.YteioennfpkoagaaGreatDoor
