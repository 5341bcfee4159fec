import Derived.Test.YteioennfpkoagaaGreatDoorLawC
namespace Go.Proofs.YteioennfpkoagaaGreatDoor
open Go.RowKit
attribute [local go_sem ↓] Go.wp_at_zero Go.wp_at_succ

/- all is kept but the blocks of A, and what is new -/
structure KB (A : Nat → Prop) (w w' : World) : Prop where
  os : w'.os = w.os
  tape : w'.tape = w.tape
  output : w'.output = w.output
  size : w.heap.size ≤ w'.heap.size
  block : ∀ k, k < w.heap.size → ¬ A k → w'.heap[k]? = w.heap[k]?
theorem KB.refl (A : Nat → Prop) (w : World) : KB A w w := ⟨rfl, rfl, rfl, Nat.le_refl _, fun _ _ _ => rfl⟩
theorem KB.trans {A : Nat → Prop} {a b d : World} (h : KB A a b) (k : KB A b d) : KB A a d :=
  ⟨k.os.trans h.os, k.tape.trans h.tape, k.output.trans h.output, Nat.le_trans h.size k.size, fun i hi hA => (k.block i (Nat.lt_of_lt_of_le hi h.size) hA).trans (h.block i hi hA)⟩
/- a step behind: its blocks are those of A, or new since the start -/
theorem KB.step {A A' : Nat → Prop} {a b d : World} (h : KB A a b) (k : KB A' b d) (hA : ∀ x, x < a.heap.size → A' x → A x) : KB A a d :=
  ⟨k.os.trans h.os, k.tape.trans h.tape, k.output.trans h.output, Nat.le_trans h.size k.size, fun i hi hn => (k.block i (Nat.lt_of_lt_of_le hi h.size) (fun hx => hn (hA i hi hx))).trans (h.block i hi hn)⟩
theorem KB.of {A : Nat → Prop} {w w' : World} {row : Option Nat} (h : w.grownBy w' row) (hr : ∀ k, row = some k → A k) : KB A w w' :=
  ⟨h.os, h.tape, h.output, h.size, fun k hk hA => h.block k hk (fun e => hA (hr k e.symm))⟩
theorem KB.below {A : Nat → Prop} {w w' : World} (h : Below w.heap.size w w') : KB A w w' := KB.of (row := none) (grown_below h none) (by simp)
theorem KB.toBelow {A : Nat → Prop} {B : Nat} {w w' : World} (h : KB A w w') (hB : B ≤ w.heap.size) (hA : ∀ k, A k → B ≤ k) : Below B w w' :=
  ⟨h.os, h.tape, h.output, h.size, fun k hk => h.block k (by omega) (fun ha => by have := hA k ha; omega)⟩
theorem KB.own {A : Nat → Prop} {w w' : World} {base e size n : Nat} {v : Value} {xs : List Value} (h : w.ownsRow base e size v n xs) (hk : KB A w w') (hA : ∀ x, v.ownBlock = some x → ¬ A x) : w'.ownsRow base e size v n xs := by
  rcases h with ⟨hl, ⟨rfl, h0⟩ | ⟨g, cap, cur, rfl, h4, hg, h5⟩⟩
  · exact ⟨hl, .inl ⟨rfl, h0⟩⟩
  · exact ⟨hl, .inr ⟨g, cap, cur, rfl, h4, by rw [hk.block g (lt_of_blk hg) (hA g rfl)]; exact hg, h5⟩⟩

/- The book lies in block bb: its lists, and every list that is kept is full of its mark. -/
structure BookOK (w : World) (B bb : Nat) (rv pv cv : Value) (R P C : List Value) : Prop where
  blk : w.heap[bb]? = some (.cells #[rv, pv, cv, .slice none 0 0] 29 (0, 0))
  hB : B ≤ bb
  rR : w.ownsRow B 40 1 rv R.length R
  rP : w.ownsRow B 31 1 pv P.length P
  rC : w.ownsRow B 32 1 cv C.length C
  kR : ∀ i (h : i < R.length), ∃ n, n ≤ 8200 ∧ w.ownsRow B 90 3 R[i] n (rep (badR (i / 4)) n)
  kP : ∀ i (h : i < P.length), ∃ n, n ≤ 8200 ∧ w.ownsRow B 42 5 P[i] n (rep (badP' (i / 4)) n)
  kC : ∀ i (h : i < C.length), ∃ n, n ≤ 8200 ∧ w.ownsRow B 92 6 C[i] n (rep (badC (i / 4)) n)
  dR : R.length % 4 = 0
  dP : P.length % 4 = 0
  dC : C.length % 4 = 0
theorem infoRegions : (Tryz.prog.info? 40).map (fun i => (i.zero, i.size, i.bytes)) = some (some (.slice none 0 0), 1, 24) := by kernel_rfl
theorem infoPartitions : (Tryz.prog.info? 31).map (fun i => (i.zero, i.size, i.bytes)) = some (some (.slice none 0 0), 1, 24) := by kernel_rfl
theorem infoChannels : (Tryz.prog.info? 32).map (fun i => (i.zero, i.size, i.bytes)) = some (some (.slice none 0 0), 1, 24) := by kernel_rfl
theorem quo4 (n : Nat) : ((n : Int) / 4) = ((n / 4 : Nat) : Int) := by omega
theorem own_step {w w' : World} {base e size n base' e' size' n' bb : Nat} {v v' : Value} {xs xs' : List Value} {o : Array Value} (h : w.ownsRow base e size v n xs) (hr : w.ownsRow base' e' size' v' n' xs') (hne : e ≠ e') (hg : w.grownBy w' v'.ownBlock) (hb : w'.heap[bb]? = some (.cells o 29 (0, 0))) (he : e ≠ 29) (i : Nat) (u : Value) : (w'.setCell ⟨bb, i, none⟩ u).ownsRow base e size v n xs := own_other (own_apart h hr hne hg) hb he i u
/- a block of another type than a row's is not the row's -/
theorem own_not {w : World} {base e size n T K : Nat} {v : Value} {xs : List Value} {o : Array Value} (h : w.ownsRow base e size v n xs) (hK : w.heap[K]? = some (.cells o T (0, 0))) (hT : e ≠ T) : v.ownBlock ≠ some K := by
  rcases h.2 with ⟨rfl, _⟩ | ⟨g, cap, cur, rfl, _, hg, _⟩
  · simp [Value.ownBlock]
  · simp [Value.ownBlock]
    rintro rfl
    rw [hg] at hK
    simp at hK
    exact hT hK.2
/- the book stands where a list of its own is written, that none of its lists shares -/
theorem BookOK.kept {w w' : World} {B bb e size n : Nat} {rv pv cv l : Value} {R P C xs : List Value} (h : BookOK w B bb rv pv cv R P C) (hl : w.ownsRow B e size l n xs) (hk : KB (fun k => l.ownBlock = some k) w w')
    (h1 : e ≠ 29) (h2 : e ≠ 40) (h3 : e ≠ 31) (h4 : e ≠ 32) (hR : ∀ u ∈ R, e = 90 → ∀ x, u.ownBlock = some x → l.ownBlock ≠ some x) (hP : ∀ u ∈ P, e = 42 → ∀ x, u.ownBlock = some x → l.ownBlock ≠ some x) (hC : ∀ u ∈ C, e = 92 → ∀ x, u.ownBlock = some x → l.ownBlock ≠ some x) : BookOK w' B bb rv pv cv R P C := by
  have key : ∀ {e' size' n' : Nat} {v' : Value} {xs' : List Value}, w.ownsRow B e' size' v' n' xs' → (e = e' → ∀ x, v'.ownBlock = some x → l.ownBlock ≠ some x) → w'.ownsRow B e' size' v' n' xs' := by
    intro e' size' n' v' xs' h' hne
    refine KB.own h' hk (fun x hx hl2 => ?_)
    by_cases he : e = e'
    · exact hne he x hx hl2
    · exact own_types hl h' he hl2 hx
  refine ⟨?_, h.hB, key h.rR (fun e => absurd e h2), key h.rP (fun e => absurd e h3), key h.rC (fun e => absurd e h4), ?_, ?_, ?_, h.dR, h.dP, h.dC⟩
  · rw [hk.block bb (lt_of_blk h.blk) (own_not hl h.blk h1)]; exact h.blk
  · intro i hi
    obtain ⟨m, hm, ho⟩ := h.kR i hi
    exact ⟨m, hm, key ho (hR _ (List.getElem_mem hi))⟩
  · intro i hi
    obtain ⟨m, hm, ho⟩ := h.kP i hi
    exact ⟨m, hm, key ho (hP _ (List.getElem_mem hi))⟩
  · intro i hi
    obtain ⟨m, hm, ho⟩ := h.kC i hi
    exact ⟨m, hm, key ho (hC _ (List.getElem_mem hi))⟩
theorem BookOK.below {w w' : World} {B bb : Nat} {rv pv cv : Value} {R P C : List Value} (h : BookOK w B bb rv pv cv R P C) (hb : Below w.heap.size w w') : BookOK w' B bb rv pv cv R P C :=
  h.kept (World.ownsRow_nil w B 0 0) (KB.below hb) (by decide) (by decide) (by decide) (by decide) (fun _ _ _ _ _ => by simp [Value.ownBlock]) (fun _ _ _ _ _ => by simp [Value.ownBlock]) (fun _ _ _ _ _ => by simp [Value.ownBlock])
theorem four_at {P : Nat → Value → Prop} {R : List Value} {a b d f : Value} (h : ∀ i (hi : i < R.length), P i R[i]) (h4 : R.length % 4 = 0) (hn : ∀ u ∈ [a, b, d, f], ∀ t, t < 4 → P (R.length + t) u) : ∀ i (hi : i < (R ++ [a, b, d, f]).length), P i (R ++ [a, b, d, f])[i] := by
  intro i hi
  by_cases hlt : i < R.length
  · rw [List.getElem_append_left hlt]; exact h i hlt
  · rw [List.getElem_append_right (by omega)]
    have h2 : i - R.length < 4 := by simp at hi; omega
    have e : i = R.length + (i - R.length) := by omega
    have := hn ([a, b, d, f][i - R.length]'(by simp; omega)) (List.getElem_mem _) (i - R.length) h2
    rw [← e] at this; exact this
theorem BookOK.addR {w w' : World} {B bb g c : Nat} {rv pv cv a b d f : Value} {R P C : List Value} (h : BookOK w B bb rv pv cv R P C) (hn : ∀ u ∈ [a, b, d, f], ∃ n, n ≤ 8200 ∧ w.ownsRow B 90 3 u n (rep (badR (R.length / 4)) n)) (hg : w.grownBy w' rv.ownBlock) (hnew : w'.ownsRow B 40 1 (.slice (some ⟨g, 0, none⟩) (R.length + 4) c) (R.length + 4) (R ++ [a, b, d, f])) :
    BookOK (w'.setCell ⟨bb, 0, none⟩ (.slice (some ⟨g, 0, none⟩) (R.length + 4) c)) B bb (.slice (some ⟨g, 0, none⟩) (R.length + 4) c) pv cv (R ++ [a, b, d, f]) P C := by
  have hbk : w'.heap[bb]? = some (.cells #[rv, pv, cv, .slice none 0 0] 29 (0, 0)) := by rw [hg.block bb (lt_of_blk h.blk) (fun e => own_not h.rR h.blk (by decide) e.symm)]; exact h.blk
  refine ⟨by rw [blk_set 0 _ hbk]; rfl, h.hB, ?_, own_step h.rP h.rR (by decide) hg hbk (by decide) _ _, own_step h.rC h.rR (by decide) hg hbk (by decide) _ _, ?_, ?_, ?_, by have := h.dR; simp; omega, h.dP, h.dC⟩
  · have := own_other hnew hbk (by decide) 0 (.slice (some ⟨g, 0, none⟩) (R.length + 4) c)
    simpa using this
  · refine four_at (P := fun i u => ∃ n, n ≤ 8200 ∧ (w'.setCell ⟨bb, 0, none⟩ (.slice (some ⟨g, 0, none⟩) (R.length + 4) c)).ownsRow B 90 3 u n (rep (badR (i / 4)) n)) ?_ h.dR ?_
    · intro i hi
      obtain ⟨m, hm, ho⟩ := h.kR i hi
      exact ⟨m, hm, own_step ho h.rR (by decide) hg hbk (by decide) _ _⟩
    · intro u hu t ht
      obtain ⟨m, hm, ho⟩ := hn u hu
      have e : (R.length + t) / 4 = R.length / 4 := by have := h.dR; omega
      rw [e]
      exact ⟨m, hm, own_step ho h.rR (by decide) hg hbk (by decide) _ _⟩
  · intro i hi
    obtain ⟨m, hm, ho⟩ := h.kP i hi
    exact ⟨m, hm, own_step ho h.rR (by decide) hg hbk (by decide) _ _⟩
  · intro i hi
    obtain ⟨m, hm, ho⟩ := h.kC i hi
    exact ⟨m, hm, own_step ho h.rR (by decide) hg hbk (by decide) _ _⟩
theorem BookOK.addP {w w' : World} {B bb g c : Nat} {rv pv cv a b d f : Value} {R P C : List Value} (h : BookOK w B bb rv pv cv R P C) (hn : ∀ u ∈ [a, b, d, f], ∃ n, n ≤ 8200 ∧ w.ownsRow B 42 5 u n (rep (badP' (P.length / 4)) n)) (hg : w.grownBy w' pv.ownBlock) (hnew : w'.ownsRow B 31 1 (.slice (some ⟨g, 0, none⟩) (P.length + 4) c) (P.length + 4) (P ++ [a, b, d, f])) :
    BookOK (w'.setCell ⟨bb, 1, none⟩ (.slice (some ⟨g, 0, none⟩) (P.length + 4) c)) B bb rv (.slice (some ⟨g, 0, none⟩) (P.length + 4) c) cv R (P ++ [a, b, d, f]) C := by
  have hbk : w'.heap[bb]? = some (.cells #[rv, pv, cv, .slice none 0 0] 29 (0, 0)) := by rw [hg.block bb (lt_of_blk h.blk) (fun e => own_not h.rP h.blk (by decide) e.symm)]; exact h.blk
  refine ⟨by rw [blk_set 1 _ hbk]; rfl, h.hB, own_step h.rR h.rP (by decide) hg hbk (by decide) _ _, ?_, own_step h.rC h.rP (by decide) hg hbk (by decide) _ _, ?_, ?_, ?_, h.dR, by have := h.dP; simp; omega, h.dC⟩
  · have := own_other hnew hbk (by decide) 1 (.slice (some ⟨g, 0, none⟩) (P.length + 4) c)
    simpa using this
  · intro i hi
    obtain ⟨m, hm, ho⟩ := h.kR i hi
    exact ⟨m, hm, own_step ho h.rP (by decide) hg hbk (by decide) _ _⟩
  · refine four_at (P := fun i u => ∃ n, n ≤ 8200 ∧ (w'.setCell ⟨bb, 1, none⟩ (.slice (some ⟨g, 0, none⟩) (P.length + 4) c)).ownsRow B 42 5 u n (rep (badP' (i / 4)) n)) ?_ h.dP ?_
    · intro i hi
      obtain ⟨m, hm, ho⟩ := h.kP i hi
      exact ⟨m, hm, own_step ho h.rP (by decide) hg hbk (by decide) _ _⟩
    · intro u hu t ht
      obtain ⟨m, hm, ho⟩ := hn u hu
      have e : (P.length + t) / 4 = P.length / 4 := by have := h.dP; omega
      rw [e]
      exact ⟨m, hm, own_step ho h.rP (by decide) hg hbk (by decide) _ _⟩
  · intro i hi
    obtain ⟨m, hm, ho⟩ := h.kC i hi
    exact ⟨m, hm, own_step ho h.rP (by decide) hg hbk (by decide) _ _⟩
theorem BookOK.addC {w w' : World} {B bb g c : Nat} {rv pv cv a b d f : Value} {R P C : List Value} (h : BookOK w B bb rv pv cv R P C) (hn : ∀ u ∈ [a, b, d, f], ∃ n, n ≤ 8200 ∧ w.ownsRow B 92 6 u n (rep (badC (C.length / 4)) n)) (hg : w.grownBy w' cv.ownBlock) (hnew : w'.ownsRow B 32 1 (.slice (some ⟨g, 0, none⟩) (C.length + 4) c) (C.length + 4) (C ++ [a, b, d, f])) :
    BookOK (w'.setCell ⟨bb, 2, none⟩ (.slice (some ⟨g, 0, none⟩) (C.length + 4) c)) B bb rv pv (.slice (some ⟨g, 0, none⟩) (C.length + 4) c) R P (C ++ [a, b, d, f]) := by
  have hbk : w'.heap[bb]? = some (.cells #[rv, pv, cv, .slice none 0 0] 29 (0, 0)) := by rw [hg.block bb (lt_of_blk h.blk) (fun e => own_not h.rC h.blk (by decide) e.symm)]; exact h.blk
  refine ⟨by rw [blk_set 2 _ hbk]; rfl, h.hB, own_step h.rR h.rC (by decide) hg hbk (by decide) _ _, own_step h.rP h.rC (by decide) hg hbk (by decide) _ _, ?_, ?_, ?_, ?_, h.dR, h.dP, by have := h.dC; simp; omega⟩
  · have := own_other hnew hbk (by decide) 2 (.slice (some ⟨g, 0, none⟩) (C.length + 4) c)
    simpa using this
  · intro i hi
    obtain ⟨m, hm, ho⟩ := h.kR i hi
    exact ⟨m, hm, own_step ho h.rC (by decide) hg hbk (by decide) _ _⟩
  · intro i hi
    obtain ⟨m, hm, ho⟩ := h.kP i hi
    exact ⟨m, hm, own_step ho h.rC (by decide) hg hbk (by decide) _ _⟩
  · refine four_at (P := fun i u => ∃ n, n ≤ 8200 ∧ (w'.setCell ⟨bb, 2, none⟩ (.slice (some ⟨g, 0, none⟩) (C.length + 4) c)).ownsRow B 92 6 u n (rep (badC (i / 4)) n)) ?_ h.dC ?_
    · intro i hi
      obtain ⟨m, hm, ho⟩ := h.kC i hi
      exact ⟨m, hm, own_step ho h.rC (by decide) hg hbk (by decide) _ _⟩
    · intro u hu t ht
      obtain ⟨m, hm, ho⟩ := hn u hu
      have e : (C.length + t) / 4 = C.length / 4 := by have := h.dC; omega
      rw [e]
      exact ⟨m, hm, own_step ho h.rC (by decide) hg hbk (by decide) _ _⟩
end Go.Proofs.YteioennfpkoagaaGreatDoor
