import Derived.Test.YteioennfpkoagaaDoorCdfA
namespace Go.Proofs.YteioennfpkoagaaDoor.C
open Go.RowKit
attribute [local go_sem ↓] Go.wp_at_zero Go.wp_at_succ

/- a partition's regions: each in itself, and no page twice -/
def regB (r : RegD) : Bool := decide (0 ≤ r.page ∧ r.page ≤ 63 ∧ 1 ≤ r.pages ∧ r.pages ≤ 64 ∧ r.page + r.pages ≤ 64 ∧ (r.rights = 1 ∨ r.rights = 2))
def apartB (a b : RegD) : Bool := decide (a.page + a.pages ≤ b.page ∨ b.page + b.pages ≤ a.page)
def hit (r : RegD) (k : Int) : Prop := r.page ≤ k ∧ k < r.page + r.pages
def RegsOK (rs : List RegD) : Prop := (∀ r ∈ rs, regB r = true) ∧ rs.Pairwise (fun a b => apartB a b = true)
def regsF (rs : List RegD) : Bool := rs.all regB && decide (rs.Pairwise (fun a b => apartB a b = true))
theorem regsF_iff (rs : List RegD) : regsF rs = true ↔ RegsOK rs := by simp [regsF, RegsOK]
theorem regsF_not {rs : List RegD} (h : ¬ RegsOK rs) : regsF rs = false := by rw [← regsF_iff] at h; simpa using h
theorem RegsOK.take {rs : List RegD} (h : RegsOK rs) (k : Nat) : RegsOK (rs.take k) :=
  ⟨fun r hr => h.1 r (List.mem_of_mem_take hr), h.2.sublist (List.take_sublist _ _)⟩
theorem RegsOK.snoc {rs : List RegD} {r : RegD} : RegsOK (rs ++ [r]) ↔ RegsOK rs ∧ regB r = true ∧ ∀ a ∈ rs, apartB a r = true := by
  unfold RegsOK
  rw [List.pairwise_append]
  constructor
  · rintro ⟨h1, h2, _, h4⟩
    exact ⟨⟨fun a ha => h1 a (by simp [ha]), h2⟩, h1 r (by simp), fun a ha => h4 a ha r (by simp)⟩
  · rintro ⟨⟨h1, h2⟩, h3, h4⟩
    refine ⟨fun a ha => ?_, h2, by simp, fun a ha b hb => ?_⟩
    · rcases List.mem_append.1 ha with h | h
      · exact h1 a h
      · rw [List.mem_singleton.1 h]; exact h3
    · rw [List.mem_singleton.1 hb]; exact h4 a ha
theorem take_snocD {α : Type} (l : List α) (k : Nat) (h : k < l.length) : l.take (k + 1) = l.take k ++ [l[k]] := by
  rw [List.take_succ_eq_append_getElem h]
/- the used pages, as the array has them -/
def usedV (u : Nat → Bool) : Array Value := ((List.range 64).map fun j => Value.bool (u j)).toArray
theorem usedV_at (u : Nat → Bool) (j : Nat) (h : j < 64) : (usedV u)[j]? = some (.bool (u j)) := by
  simp [usedV, h]
theorem usedV_set (u : Nat → Bool) (j : Nat) : (usedV u).setIfInBounds j (.bool true) = usedV (fun k => if k = j then true else u k) := by
  apply Array.ext_getElem?
  intro i
  rw [Array.getElem?_setIfInBounds]
  by_cases h : i < 64
  · rw [usedV_at u i h, usedV_at _ i h]
    by_cases e : j = i
    · subst e; simp [usedV, h]
    · rw [if_neg e, if_neg (fun x => e x.symm)]
  · have h1 : (usedV u)[i]? = none := by rw [Array.getElem?_eq_none]; simp [usedV]; omega
    have h2 : (usedV fun k => if k = j then true else u k)[i]? = none := by rw [Array.getElem?_eq_none]; simp [usedV]; omega
    rw [h1, h2]
    split
    · simp [usedV]; omega
    · rfl
theorem used_lit : usedV (fun _ => false) = #[.bool false, .bool false, .bool false, .bool false, .bool false, .bool false, .bool false, .bool false, .bool false, .bool false, .bool false, .bool false, .bool false, .bool false, .bool false, .bool false, .bool false, .bool false, .bool false, .bool false, .bool false, .bool false, .bool false, .bool false, .bool false, .bool false, .bool false, .bool false, .bool false, .bool false, .bool false, .bool false, .bool false, .bool false, .bool false, .bool false, .bool false, .bool false, .bool false, .bool false, .bool false, .bool false, .bool false, .bool false, .bool false, .bool false, .bool false, .bool false, .bool false, .bool false, .bool false, .bool false, .bool false, .bool false, .bool false, .bool false, .bool false, .bool false, .bool false, .bool false, .bool false, .bool false, .bool false, .bool false] := by kernel_rfl

theorem regs_bad {rs : List RegD} {k : Nat} (hk : k < rs.length) (h : regB rs[k] = false) : regsF rs = false := by
  apply regsF_not
  intro ho
  have := ho.1 rs[k] (List.getElem_mem _)
  rw [h] at this; cases this
theorem regs_hit {rs : List RegD} {k : Nat} {q : Int} (hk : k < rs.length) (h1 : hit rs[k] q) (h2 : ∃ a ∈ rs.take k, hit a q) : regsF rs = false := by
  apply regsF_not
  intro ho
  have := ho.take (k + 1)
  rw [take_snocD rs k hk, RegsOK.snoc] at this
  obtain ⟨a, ha, hq⟩ := h2
  have := this.2.2 a ha
  unfold apartB at this
  unfold hit at h1 hq
  simp at this
  omega
theorem regs_step {rs : List RegD} {k : Nat} (hk : k < rs.length) (h0 : RegsOK (rs.take k)) (hb : regB rs[k] = true) (h : ∀ q : Nat, q < 64 → hit rs[k] q → ¬ ∃ a ∈ rs.take k, hit a q) : RegsOK (rs.take (k + 1)) := by
  rw [take_snocD rs k hk, RegsOK.snoc]
  refine ⟨h0, hb, fun a ha => ?_⟩
  have ha' := h0.1 a ha
  unfold regB at hb ha'
  unfold apartB
  simp only [decide_eq_true_eq] at *
  rcases Int.lt_or_le a.page rs[k].page with hlt | hle
  · rcases Int.lt_or_le rs[k].page (a.page + a.pages) with h1 | h1
    · exfalso
      refine h rs[k].page.toNat (by omega) ?_ ⟨a, ha, ?_⟩ <;> unfold hit <;> omega
    · omega
  · rcases Int.lt_or_le a.page (rs[k].page + rs[k].pages) with h1 | h1
    · exfalso
      refine h a.page.toNat (by omega) ?_ ⟨a, ha, ?_⟩ <;> unfold hit <;> omega
    · omega
theorem hit_step {rs : List RegD} {k : Nat} (hk : k < rs.length) (q : Nat) : (∃ a ∈ rs.take (k + 1), hit a q) ↔ (∃ a ∈ rs.take k, hit a q) ∨ hit rs[k] q := by
  rw [take_snocD rs k hk]
  constructor
  · rintro ⟨a, ha, h⟩
    rcases List.mem_append.1 ha with h1 | h1
    · exact .inl ⟨a, h1, h⟩
    · rw [List.mem_singleton.1 h1] at h; exact .inr h
  · rintro (⟨a, ha, h⟩ | h)
    · exact ⟨a, List.mem_append.2 (.inl ha), h⟩
    · exact ⟨rs[k], List.mem_append.2 (.inr (List.mem_singleton.2 rfl)), h⟩
theorem wrap_small (n : Int) (h1 : -4611686018427387904 ≤ n) (h2 : n ≤ 4611686018427387904) : IntKind.i64.wrap n = n := by
  simp [IntKind.wrap, IntKind.bits, IntKind.signed]
  omega
end Go.Proofs.YteioennfpkoagaaDoor.C
