import Derived.Test.YteioennfpkoagaaDoorCdfF
namespace Go.Proofs.YteioennfpkoagaaDoor.C
open Go.RowKit

theorem nameF_len {l : List UInt8} (h : nameF l = true) : l.length ≤ 16 := by
  unfold nameF at h; simp at h; omega
theorem partErr_name {f : Int} {bef : List PartD} {x : PartD} (h : partErr f bef x = 0) : x.name.size ≤ 16 := by
  unfold partErr at h
  split at h
  · cases h
  rename_i h1
  have : nameF x.name.data.toList = true := by
    cases hn : nameF x.name.data.toList
    · rw [hn] at h1; simp at h1
    · rfl
  have := nameF_len this
  simpa using this
theorem chanErr_ok {f : Int} {n : Nat} {bef : List ChanD} {c : ChanD} (h : chanErr f n bef c = 0) (hf : 8 ≤ 240 ∧ f ≤ 240) : c.name.size ≤ 16 ∧ 0 ≤ c.source ∧ c.source < n ∧ 0 ≤ c.target ∧ c.target < n ∧ 1 ≤ c.kind ∧ c.kind ≤ 2 ∧ 1 ≤ c.size ∧ c.size ≤ 32 ∧ 1 ≤ c.depth ∧ c.depth ≤ 240 := by
  unfold chanErr at h
  split at h
  · cases h
  split at h
  · cases h
  split at h
  · cases h
  split at h
  · cases h
  rename_i h1 h2 h3 h4
  have hn : nameF c.name.data.toList = true := by
    cases hn : nameF c.name.data.toList
    · rw [hn] at h1; simp at h1
    · rfl
  have := nameF_len hn
  have hd : 1 ≤ c.depth ∧ c.depth ≤ 240 := by
    by_cases hk : c.kind = 1
    · rw [if_pos hk] at h
      split at h
      · cases h
      · omega
    · rw [if_neg hk] at h
      split at h
      · cases h
      · omega
  refine ⟨by simpa using this, ?_⟩
  omega
theorem check_ok {M : ManD} (h : checkF M = 0) : 1 ≤ M.frame ∧ M.frame ≤ 240 ∧ M.parts.length ≤ 8 ∧ M.chans.length ≤ 8 ∧ (∀ k (hk : k < M.parts.length), M.parts[k].regs.length ≤ 4 ∧ partErr M.frame (M.parts.take k) M.parts[k] = 0) ∧ (∀ k (hk : k < M.chans.length), chanErr M.frame M.parts.length (M.chans.take k) M.chans[k] = 0) := by
  unfold checkF at h
  split at h
  · cases h
  split at h
  · cases h
  rename_i h1 h2
  have hm : manyB M = false := by simpa using h2
  have hmany : ¬ (M.parts.length < 1 ∨ 8 < M.parts.length ∨ 8 < M.chans.length) := by
    intro hx; rw [many_true hx] at hm; cases hm
  have hw : wideB M.parts = false := by rw [← many_wide hmany]; exact hm
  split at h
  · rename_i h3; exact absurd h h3
  split at h
  · rename_i h3; exact absurd h h3
  rename_i h3 h4
  have e3 : firstNZ (partAt M) M.parts.length = 0 := by omega
  have e4 : firstNZ (chanAt M) M.chans.length = 0 := by omega
  refine ⟨by omega, by omega, by omega, by omega, fun k hk => ⟨wide_len hw k hk, ?_⟩, fun k hk => ?_⟩
  · have := firstNZ_all e3 hk
    unfold partAt at this; rw [dif_pos hk] at this; exact this
  · have := firstNZ_all e4 hk
    unfold chanAt at this; rw [dif_pos hk] at this; exact this
end Go.Proofs.YteioennfpkoagaaDoor.C
