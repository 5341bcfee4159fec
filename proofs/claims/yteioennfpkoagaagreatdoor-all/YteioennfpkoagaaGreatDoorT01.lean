import Derived.Test.YteioennfpkoagaaGreatDoorB06
namespace Go.Proofs.YteioennfpkoagaaGreatDoor.C

/- the reference's kernel: all that was written, the last one last; all messages -/
structure CellD where
  p : Int
  a : Int
  b : Int
structure MsgR where
  c : Int
  text : ByteArray
  time : Nat
def memOf : List CellD → Nat → Int → Int
  | [], _, _ => 0
  | x :: l, p, a => if l.any (fun y => decide (y.p = (p : Int) ∧ y.a = a)) then memOf l p a else if x.p = (p : Int) ∧ x.a = a then x.b else 0
def chsOf (l : List MsgR) (c : Nat) : List MsgD := (l.filter fun m => decide (m.c = (c : Int))).map fun m => ⟨m.text, m.time⟩
theorem memOf_snoc (l : List CellD) (x : CellD) (p : Nat) (a : Int) : memOf (l ++ [x]) p a = if x.p = (p : Int) ∧ x.a = a then x.b else memOf l p a := by
  induction l with
  | nil => simp [memOf]
  | cons y l ih =>
    rw [List.cons_append, memOf, ih, List.any_append, memOf]
    by_cases h : x.p = (p : Int) ∧ x.a = a
    · simp [h]
    · simp [h]
theorem memOf_none {l : List CellD} {p : Nat} {a : Int} (h : ∀ x ∈ l, ¬ (x.p = (p : Int) ∧ x.a = a)) : memOf l p a = 0 := by
  induction l with
  | nil => rfl
  | cons y l ih =>
    have h1 : l.any (fun y => decide (y.p = (p : Int) ∧ y.a = a)) = false := by
      rw [List.any_eq_false]
      intro x hx
      have := h x (by simp [hx])
      simpa using this
    rw [memOf, h1]
    have := h y (by simp)
    simp [this]
theorem memOf_filter (l : List CellD) (p q : Nat) (a : Int) : memOf (l.filter fun x => decide (x.p ≠ (p : Int))) q a = if q = p then 0 else memOf l q a := by
  by_cases h : q = p
  · subst h
    rw [if_pos rfl]
    apply memOf_none
    intro x hx
    have := (List.mem_filter.1 hx).2
    simp at this
    intro h2
    exact this h2.1
  · rw [if_neg h]
    induction l with
    | nil => rfl
    | cons y l ih =>
      have hany : ∀ m : List CellD, (m.filter fun x => decide (x.p ≠ (p : Int))).any (fun y => decide (y.p = (q : Int) ∧ y.a = a)) = m.any (fun y => decide (y.p = (q : Int) ∧ y.a = a)) := by
        intro m
        induction m with
        | nil => rfl
        | cons z m ih =>
          rw [List.filter_cons]
          by_cases hz : z.p = (p : Int)
          · have hzq : ¬ z.p = (q : Int) := by omega
            simp only [hz, ne_eq, not_true_eq_false, decide_false, Bool.false_eq_true, ↓reduceIte, List.any_cons]
            rw [ih]
            have : decide ((p : Int) = (q : Int) ∧ z.a = a) = false := by simp; omega
            rw [this, Bool.false_or]
          · simp only [ne_eq, hz, not_false_eq_true, decide_true, ↓reduceIte, List.any_cons]
            rw [ih]
      rw [List.filter_cons]
      by_cases hy : y.p = (p : Int)
      · have hyq : ¬ y.p = (q : Int) := by omega
        have e1 : decide (y.p ≠ (p : Int)) = false := by simp [hy]
        rw [e1]
        simp only [Bool.false_eq_true, ↓reduceIte]
        rw [ih, memOf, if_neg (show ¬ (y.p = (q : Int) ∧ y.a = a) from fun h => hyq h.1)]
        split
        · rfl
        · rename_i hn
          apply memOf_none
          intro x hx h2
          apply hn
          rw [List.any_eq_true]
          exact ⟨x, hx, by simpa using h2⟩
      · have e1 : decide (y.p ≠ (p : Int)) = true := by simp [hy]
        rw [e1]
        simp only [↓reduceIte]
        rw [memOf, memOf, hany, ih]
theorem chsOf_snoc (l : List MsgR) (m : MsgR) (c : Nat) : chsOf (l ++ [m]) c = if m.c = (c : Int) then chsOf l c ++ [⟨m.text, m.time⟩] else chsOf l c := by
  unfold chsOf
  rw [List.filter_append, List.map_append]
  by_cases h : m.c = (c : Int)
  · rw [if_pos h]
    simp [h]
  · rw [if_neg h]
    simp [h]
/- the place of the first one of a channel -/
def atF (l : List MsgR) (c : Int) : Nat := l.findIdx fun m => decide (m.c = c)
theorem at_head (l : List MsgR) (c : Nat) (h : atF l c < l.length) : ∃ r, chsOf l c = ⟨(l[atF l c]).text, (l[atF l c]).time⟩ :: r ∧ (l[atF l c]).c = (c : Int) ∧ r = chsOf (l.take (atF l c) ++ l.drop (atF l c + 1)) c := by
  induction l with
  | nil => simp at h
  | cons m l ih =>
    unfold atF at *
    by_cases hm : m.c = (c : Int)
    · have e : (m :: l).findIdx (fun m => decide (m.c = (c : Int))) = 0 := by simp [List.findIdx_cons, hm]
      refine ⟨chsOf l c, ?_, ?_, ?_⟩
      · simp only [e, List.getElem_cons_zero]
        unfold chsOf
        simp [hm]
      · simp only [e, List.getElem_cons_zero]; exact hm
      · rw [e]; simp
    · have e : (m :: l).findIdx (fun m => decide (m.c = (c : Int))) = l.findIdx (fun m => decide (m.c = (c : Int))) + 1 := by simp [List.findIdx_cons, hm]
      have h2 : l.findIdx (fun m => decide (m.c = (c : Int))) < l.length := by
        rw [e] at h; simpa using h
      obtain ⟨r, h3, h4, h5⟩ := ih h2
      refine ⟨r, ?_, ?_, ?_⟩
      · simp only [e, List.getElem_cons_succ]
        rw [← h3]
        unfold chsOf
        simp [hm]
      · simp only [e, List.getElem_cons_succ]; exact h4
      · rw [e, h5]
        unfold chsOf
        simp [hm]
theorem at_none (l : List MsgR) (c : Nat) (h : ¬ atF l c < l.length) : chsOf l c = [] := by
  unfold chsOf
  rw [List.map_eq_nil_iff, List.filter_eq_nil_iff]
  intro m hm
  have h2 : atF l c = l.length := by
    have := List.findIdx_le_length (p := fun m : MsgR => decide (m.c = (c : Int))) (xs := l)
    unfold atF at *
    omega
  unfold atF at h2
  rw [List.findIdx_eq_length] at h2
  have := h2 m hm
  simpa using this
theorem gone_other (l : List MsgR) (c : Int) (k : Nat) (d : Nat) (hk : k < l.length) (hc : (l[k]).c = c) (hd : ¬ c = (d : Int)) : chsOf (l.take k ++ l.drop (k + 1)) d = chsOf l d := by
  have e : l = l.take k ++ l[k] :: l.drop (k + 1) := by
    rw [List.getElem_cons_drop, List.take_append_drop]
  conv => rhs; rw [e]
  unfold chsOf
  rw [List.filter_append, List.filter_append, List.filter_cons]
  have : decide ((l[k]).c = (d : Int)) = false := by rw [hc]; simpa using hd
  rw [this]
  simp
theorem chs_len (l : List MsgR) (c : Nat) : (chsOf l c).length = (l.filter fun m => decide (m.c = (c : Int))).length := by simp [chsOf]
end Go.Proofs.YteioennfpkoagaaGreatDoor.C
