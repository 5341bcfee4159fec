import Derived.Test.YteioennfpkoagaaGreatDoorRefI
import Derived.Test.YteioennfpkoagaaGreatDoorPureQ
namespace Go.Proofs.YteioennfpkoagaaGreatDoor
open Go.RowKit
attribute [local go_sem ↓] Go.wp_at_zero Go.wp_at_succ

def partCells (p : Part) (v : Value) : List Value := [.string ⟨p.name.toArray⟩, .int .i64 p.period, .int .i64 p.duration, .int .i64 p.action, v]
def partRows : List Part → List Value → List Value
  | p :: ps, v :: vs => partCells p v ++ partRows ps vs
  | _, _ => []
theorem partRows_snoc (ps : List Part) (vs : List Value) (h : ps.length = vs.length) (p : Part) (v : Value) : partRows (ps ++ [p]) (vs ++ [v]) = partRows ps vs ++ partCells p v := by
  induction ps generalizing vs with
  | nil => cases vs with
    | nil => simp [partRows]
    | cons _ _ => simp at h
  | cons a ps ih => cases vs with
    | nil => simp at h
    | cons u vs => simp at h; simp [partRows, ih vs h]
theorem partRows_name (ps : List Part) (vs : List Value) (h : ps.length = vs.length) (j : Nat) (hj : j < ps.length) : (partRows ps vs)[j * 5]? = some (.string ⟨ps[j].name.toArray⟩) := by
  induction ps generalizing vs j with
  | nil => simp at hj
  | cons a ps ih => cases vs with
    | nil => simp at h
    | cons u vs =>
      simp at h
      cases j with
      | zero => simp [partRows, partCells]
      | succ j =>
        have e : (j + 1) * 5 = 5 + j * 5 := by omega
        rw [e]
        have := ih vs h j (by simpa using hj)
        simp only [partRows]
        rw [List.getElem?_append_right (by simp [partCells])]
        simpa [partCells] using this
def chanCells (c : Chan) : List Value := [.string ⟨c.name.toArray⟩, .int .i64 c.source, .int .i64 c.target, .int .i64 c.kind, .int .i64 c.size, .int .i64 c.depth]
def chanRows (cs : List Chan) : List Value := cs.flatMap chanCells
theorem chanRows_snoc (cs : List Chan) (c : Chan) : chanRows (cs ++ [c]) = chanRows cs ++ chanCells c := by simp [chanRows]

/- A list of partitions in memory, with their regions. -/
def PartsAt (w : World) (base : Nat) (v : Value) (ps : List Part) (vs : List Value) : Prop :=
  ps.length = vs.length ∧ w.ownsRow base 42 5 v ps.length (partRows ps vs) ∧ ∀ i (h : i < ps.length) (h' : i < vs.length), w.ownsRow base 90 3 vs[i] ps[i].regs.length (regRows ps[i].regs)

theorem PartsAt.partS {w : World} {base : Nat} {v : Value} {ps : List Part} {vs : List Value} (h : PartsAt w base v ps vs) : PartS w v (ps.map Part.name) := by
  obtain ⟨h1, h2, _⟩ := h
  rcases h2 with ⟨hl, ⟨rfl, h0⟩ | ⟨g, cap, cur, rfl, _, hg, _, _, _, ht⟩⟩
  · left; refine ⟨rfl, ?_⟩
    have : ps = [] := List.eq_nil_of_length_eq_zero h0
    rw [this]; rfl
  · right
    refine ⟨g, cap, by simp, cur, _, _, hg, ?_⟩
    intro j hj
    simp at hj
    have := partRows_name ps vs h1 j hj
    rw [← ht, List.getElem?_take_of_lt (by omega)] at this
    simpa using this
/- two rows of different types lie in different blocks -/
theorem own_types {w : World} {base base' e e' size size' n n' : Nat} {v v' : Value} {xs xs' : List Value} (h : w.ownsRow base e size v n xs) (h' : w.ownsRow base' e' size' v' n' xs') (hne : e ≠ e') {k : Nat} (hk : v.ownBlock = some k) (hk' : v'.ownBlock = some k) : False := by
  rcases h.2 with ⟨rfl, _⟩ | ⟨g, cap, cur, rfl, _, hg, _⟩
  · simp [Value.ownBlock] at hk
  rcases h'.2 with ⟨rfl, _⟩ | ⟨g', cap', cur', rfl, _, hg', _⟩
  · simp [Value.ownBlock] at hk'
  simp [Value.ownBlock] at hk hk'
  subst hk hk'
  rw [hg] at hg'
  simp at hg'
  exact hne hg'.2

/- In the midst of the reference's Parse: the results' blocks, the reader, the manifest's block M. -/
structure FW (w0 wr : World) (b g N cap M : Nat) (l : List UInt8) (r : RS) (ms : Array Value) : Prop where
  rd : RdOK wr b g N cap l r
  res0 : wr.heap[w0.heap.size]? = some (.cells #[.int .i64 0, .slice none 0 0, .slice none 0 0] 34 (0, 0))
  res1 : wr.heap[w0.heap.size + 1]? = some (.cells #[.int .i64 0, .int .i64 0] 36 (0, 0))
  loc : wr.heap[M]? = some (.cells ms 34 (0, 0))
  gr : Below w0.heap.size w0 wr
  o1 : w0.heap.size + 1 < b
  o2 : w0.heap.size + 1 < g
  o3 : b < M
  o4 : g < M
theorem below_grown {a w w' : World} {B : Nat} {row : Option Nat} (h : Below B a w) (hB : B ≤ w.heap.size) (hg : w.grownBy w' row) (hr : ∀ k, row = some k → B ≤ k) : Below B a w' := h.grown hg hB hr
theorem FW.step {w0 wr wr' : World} {b g N cap M : Nat} {l : List UInt8} {r r' : RS} {ms : Array Value} (h : FW w0 wr b g N cap M l r ms) (hr : RdOK wr' b g N cap l r') (hg : wr.grownBy wr' (some b)) : FW w0 wr' b g N cap M l r' ms := by
  have h1 := h.o1; have h3 := h.o3; have h4 := lt_of_blk h.loc
  exact ⟨hr, kp h.res0 hg (by omega), kp h.res1 hg (by omega), kp h.loc hg (by omega), below_grown h.gr (by omega) hg (by intro k hk; injection hk; omega), h.o1, h.o2, h.o3, h.o4⟩
theorem FW.aside {w0 wr wr' : World} {b g N cap M : Nat} {l : List UInt8} {r : RS} {ms : Array Value} {row : Option Nat} (h : FW w0 wr b g N cap M l r ms) (hg : wr.grownBy wr' row) (hrow : ∀ k, row = some k → M < k) : FW w0 wr' b g N cap M l r ms := by
  have h1 := h.o1; have h2 := h.o2; have h3 := h.o3; have h4 := lt_of_blk h.loc; have h5 := h.o4
  have ne : ∀ k, k ≤ M → some k ≠ row := fun k hk e => by have := hrow k e.symm; omega
  exact ⟨h.rd.kept hg (ne _ (by omega)) (ne _ (by omega)), by rw [hg.block _ (lt_of_blk h.res0) (ne _ (by omega))]; exact h.res0, by rw [hg.block _ (lt_of_blk h.res1) (ne _ (by omega))]; exact h.res1,
    by rw [hg.block _ (lt_of_blk h.loc) (ne _ (by omega))]; exact h.loc, below_grown h.gr (by omega) hg (by intro k hk; have := hrow k hk; omega), h.o1, h.o2, h.o3, h.o4⟩
theorem FW.set {w0 wr : World} {b g N cap M : Nat} {l : List UInt8} {r : RS} {ms : Array Value} (h : FW w0 wr b g N cap M l r ms) (i : Nat) (v : Value) : FW w0 (wr.setCell ⟨M, i, none⟩ v) b g N cap M l r (ms.setIfInBounds i v) := by
  have h1 := h.o1; have h2 := h.o2; have h3 := h.o3; have h4 := lt_of_blk h.loc; have h5 := h.o4
  have hg := grown_set wr M i v
  exact ⟨h.rd.kept hg (by simp; omega) (by simp; omega), by rw [blk_far _ _ (by omega)]; exact h.res0, by rw [blk_far _ _ (by omega)]; exact h.res1, blk_set i v h.loc, below_grown h.gr (by omega) hg (by intro k hk; injection hk; omega), h.o1, h.o2, h.o3, h.o4⟩
theorem FW.cell {w0 wr : World} {b g N cap M : Nat} {l : List UInt8} {r : RS} {ms : Array Value} (h : FW w0 wr b g N cap M l r ms) (i : Nat) : wr.cell? ⟨M, i, none⟩ = ms[i]? := cell_of_blk h.loc
theorem FW.fz {w0 wr : World} {b g N cap M : Nat} {l : List UInt8} {r : RS} {ms : Array Value} (h : FW w0 wr b g N cap M l r ms) (i : Nat) : wr.frozen? ⟨M, i, none⟩ = false := frozen_of_blk h.loc

theorem tokB_of {w : World} {base g N cap : Nat} {l : List UInt8} (h : w.ownsRow base 164 4 (.slice (some ⟨g, 0, none⟩) N cap) N (tokRows l N)) : TokB w g N l := by
  rcases h.2 with ⟨h1, _⟩ | ⟨g', cap', cur, hv, _, hg, _, _, _, ht⟩
  · cases h1
  · cases hv
    refine ⟨cur, hg, ?_⟩
    intro k hk
    have key : ∀ j (hj : j < 4), cur[k * 4 + j]? = (tokCells (tk l k))[j]? := by
      intro j hj
      have e1 : cur[k * 4 + j]? = (tokRows l N)[k * 4 + j]? := by
        rw [← ht, List.getElem?_take_of_lt (by omega)]; simp
      rw [e1]
      have gen : ∀ N, k < N → (tokRows l N)[k * 4 + j]? = (tokCells (tk l k))[j]? := by
        intro N
        induction N with
        | zero => intro h; omega
        | succ N ih =>
          intro hkN
          have hlenN : (tokRows l N).length = N * 4 := by
            clear ih hkN
            induction N with
            | zero => rfl
            | succ N ih => rw [tokRows_succ, List.length_append, ih]; simp [tokCells]; omega
          rw [tokRows_succ]
          by_cases hc : k < N
          · rw [List.getElem?_append_left (by omega)]; exact ih hc
          · have : k = N := by omega
            subst this
            rw [List.getElem?_append_right (by omega), hlenN]
            congr 1; omega
      exact gen N hk
    have k0 := key 0 (by omega)
    have k1 := key 1 (by omega)
    have k2 := key 2 (by omega)
    have k3 := key 3 (by omega)
    simp [tokCells] at k0 k1 k2 k3
    exact ⟨k0, k1, k2, k3⟩
end Go.Proofs.YteioennfpkoagaaGreatDoor
