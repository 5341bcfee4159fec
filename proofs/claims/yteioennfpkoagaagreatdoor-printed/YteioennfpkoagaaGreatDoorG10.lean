import Derived.Test.YteioennfpkoagaaGreatDoorG09
import Derived.Test.YteioennfpkoagaaGreatDoorG01
namespace Go.Proofs.YteioennfpkoagaaGreatDoor
open Go.RowKit
attribute [local go_sem ↓] Go.wp_at_zero Go.wp_at_succ

theorem PartS.kept {w w' : World} {v : Value} {names : List (List UInt8)} (h : PartS w v names) {b : Nat} (hg : w.grownBy w' (some b)) (hne : v.ownBlock ≠ some b) : PartS w' v names := by
  rcases h with ⟨rfl, rfl⟩ | ⟨pb, c, rfl, hp⟩
  · exact .inl ⟨rfl, rfl⟩
  · exact .inr ⟨pb, c, rfl, hp.kept hg (by intro e; apply hne; rw [← e]; rfl)⟩

set_option maxRecDepth 100000 in
set_option maxHeartbeats 1000000 in
theorem channel_any (w : World) (b g N cap : Nat) (pv : Value) (l : List UInt8) (r : RS) (names : List (List UInt8)) (h : RdOK w b g N cap l r) (hps : PartS w pv names) (hpb : pv.ownBlock ≠ some b) (hm : names.length ≤ 10000) (hlen : l.length ≤ 8192) (hn : pos l (N - 1) = l.length) (hN : N ≤ 8193) :
    Calls Tryz.prog 83 #[.pointer (some ⟨b, 0, none⟩), pv] w fun e w' => e = .returned (.agg #[.string ⟨(channelR l names r).1.name.toArray⟩, .int .i64 (channelR l names r).1.source, .int .i64 (channelR l names r).1.target, .int .i64 (channelR l names r).1.kind, .int .i64 (channelR l names r).1.size, .int .i64 (channelR l names r).1.depth]) ∧ RdOK w' b g N cap l (channelR l names r).2 ∧ w.grownBy w' (some b) := by
  generalize hfinal : channelR l names r = final
  have HFN : Hid _ := hfinal
  clear hfinal
  have h0 := PW.start h 92 #[.string ⟨#[]⟩, .int .i64 0, .int .i64 0, .int .i64 0, .int .i64 0, .int .i64 0] #[.string ⟨#[]⟩, .int .i64 0, .int .i64 0, .int .i64 0, .int .i64 0, .int .i64 0]
  have HPS : Hid (PartS w pv names) := hps
  have HPB : Hid (pv.ownBlock ≠ some b) := hpb
  clear hps hpb
  go_enter Tryz.func83, Tryz.ntmps83
  go_wp2_with fail
  generalize (w.alloc (Obj.cells #[.string ⟨#[]⟩, .int .i64 0, .int .i64 0, .int .i64 0, .int .i64 0, .int .i64 0] 92)).alloc (Obj.cells #[.string ⟨#[]⟩, .int .i64 0, .int .i64 0, .int .i64 0, .int .i64 0, .int .i64 0] 92) = W0 at *
  refine (must_w W0 b g N cap l r _ [kChannel] h0.rd hlen hn hN (by decide) (by decide)).mono ?_
  rintro e W1 ⟨rfl, hr, hg⟩
  have h1 := h0.step hr hg
  clear hr hg h0
  generalize hq : mustR l r [kChannel] = r1 at *
  have Q1 : Hid _ := hq
  clear hq
  go_wp2_with fail
  refine (some_any W1 b g N cap l r1 1 h1.rd hlen hn (by omega) hN).mono ?_
  rintro e W2 ⟨rfl, hr, hg⟩
  have h2 := h1.step hr hg
  clear hr hg h1
  generalize hq : someR l r1 1 = q at *
  obtain ⟨nm, r2⟩ := q
  have Q2 : Hid _ := hq
  clear hq
  simp only [] at h2
  have x0 := h2.cell 0
  have f0 := h2.fz 0
  simp at x0
  go_wp2_with fail
  have h3 : PW w _ b g N cap l r2 92 _ #[.string ⟨nm.toArray⟩, .int .i64 0, .int .i64 0, .int .i64 0, .int .i64 0, .int .i64 0] := h2.set 0 (.string ⟨nm.toArray⟩)
  generalize W2.setCell ⟨w.heap.size + 1, 0, none⟩ (.string ⟨nm.toArray⟩) = W3 at *
  clear h2 x0 f0
  refine (end_any W3 b g N cap pv l r2 names h3.rd (HPS.out.kept h3.gr HPB.out) hm hlen hn hN).mono ?_
  rintro e W4 ⟨rfl, hr, hg⟩
  have h4 := h3.step hr hg
  clear hr hg h3
  generalize hq : endR l r2 names = q at *
  obtain ⟨sv, r3⟩ := q
  have Q3 : Hid _ := hq
  clear hq
  simp only [] at h4
  have x0 := h4.cell 1
  have f0 := h4.fz 1
  simp at x0
  go_wp2_with fail
  have h5 : PW w _ b g N cap l r3 92 _ #[.string ⟨nm.toArray⟩, .int .i64 sv, .int .i64 0, .int .i64 0, .int .i64 0, .int .i64 0] := h4.set 1 (.int .i64 sv)
  generalize W4.setCell ⟨w.heap.size + 1, 1, none⟩ (.int .i64 sv) = W5 at *
  clear h4 x0 f0
  refine (must_w W5 b g N cap l r3 _ [kArrow] h5.rd hlen hn hN (by decide) (by decide)).mono ?_
  rintro e W6 ⟨rfl, hr, hg⟩
  have h6 := h5.step hr hg
  clear hr hg h5
  generalize hq : mustR l r3 [kArrow] = r4 at *
  have Q4 : Hid _ := hq
  clear hq
  go_wp2_with fail
  refine (end_any W6 b g N cap pv l r4 names h6.rd (HPS.out.kept h6.gr HPB.out) hm hlen hn hN).mono ?_
  rintro e W7 ⟨rfl, hr, hg⟩
  have h7 := h6.step hr hg
  clear hr hg h6
  generalize hq : endR l r4 names = q at *
  obtain ⟨tv, r5⟩ := q
  have Q5 : Hid _ := hq
  clear hq
  simp only [] at h7
  have x0 := h7.cell 2
  have f0 := h7.fz 2
  simp at x0
  go_wp2_with fail
  have h8 : PW w _ b g N cap l r5 92 _ #[.string ⟨nm.toArray⟩, .int .i64 sv, .int .i64 tv, .int .i64 0, .int .i64 0, .int .i64 0] := h7.set 2 (.int .i64 tv)
  have hs8 : (W7.setCell ⟨w.heap.size + 1, 2, none⟩ (.int .i64 tv)).heap.size = W7.heap.size := by simp [World.setCell]
  generalize W7.setCell ⟨w.heap.size + 1, 2, none⟩ (.int .i64 tv) = W8 at *
  clear h7 x0 f0
  have hsb : StrB (W8.alloc (Obj.cells #[.string ⟨#[113, 117, 101, 117, 101]⟩, .string ⟨#[115, 97, 109, 112, 108, 101]⟩] 9)) W8.heap.size kKinds := strB_new _ _ _ _ (by intro j hj; match j, hj with | 0, _ => rfl | 1, _ => rfl)
  rw [hs8] at hsb
  clear hs8
  have h8' := h8.aside (grown_alloc W8 (Obj.cells #[.string ⟨#[113, 117, 101, 117, 101]⟩, .string ⟨#[115, 97, 109, 112, 108, 101]⟩] 9) none) (by simp)
  refine (oneOf_any _ b g N cap W7.heap.size 2 l r5 kKinds h8'.rd hsb (by decide) hlen hn hN).mono ?_
  rintro e W9 ⟨rfl, hr, hg⟩
  have h9 := h8'.step hr hg
  clear hr hg h8' h8 hsb
  generalize hq : oneOfR l r5 0 kKinds = q at *
  obtain ⟨kv, r6⟩ := q
  have Q6 : Hid _ := hq
  clear hq
  simp only [] at h9
  have x0 := h9.cell 3
  have f0 := h9.fz 3
  simp at x0
  go_wp2_with fail
  have h10 : PW w _ b g N cap l r6 92 _ #[.string ⟨nm.toArray⟩, .int .i64 sv, .int .i64 tv, .int .i64 kv, .int .i64 0, .int .i64 0] := h9.set 3 (.int .i64 kv)
  generalize W9.setCell ⟨w.heap.size + 1, 3, none⟩ (.int .i64 kv) = W10 at *
  clear h9 x0 f0
  refine (number_any W10 b g N cap l r6 h10.rd hlen hn hN).mono ?_
  rintro e W11 ⟨rfl, hr, hg⟩
  have h11 := h10.step hr hg
  clear hr hg h10
  generalize hq : numberR l r6 = q at *
  obtain ⟨zv, r7⟩ := q
  have Q7 : Hid _ := hq
  clear hq
  simp only [] at h11
  have x0 := h11.cell 4
  have f0 := h11.fz 4
  simp at x0
  go_wp2_with fail
  have h12 : PW w _ b g N cap l r7 92 _ #[.string ⟨nm.toArray⟩, .int .i64 sv, .int .i64 tv, .int .i64 kv, .int .i64 zv, .int .i64 0] := h11.set 4 (.int .i64 zv)
  generalize W11.setCell ⟨w.heap.size + 1, 4, none⟩ (.int .i64 zv) = W12 at *
  clear h11 x0 f0
  refine (number_any W12 b g N cap l r7 h12.rd hlen hn hN).mono ?_
  rintro e W13 ⟨rfl, hr, hg⟩
  have h13 := h12.step hr hg
  clear hr hg h12
  generalize hq : numberR l r7 = q at *
  obtain ⟨dv, r8⟩ := q
  have Q8 : Hid _ := hq
  clear hq
  simp only [] at h13
  have x0 := h13.cell 5
  have f0 := h13.fz 5
  simp at x0
  go_wp2_with fail
  have h14 : PW w _ b g N cap l r8 92 _ #[.string ⟨nm.toArray⟩, .int .i64 sv, .int .i64 tv, .int .i64 kv, .int .i64 zv, .int .i64 dv] := h13.set 5 (.int .i64 dv)
  generalize W13.setCell ⟨w.heap.size + 1, 5, none⟩ (.int .i64 dv) = W14 at *
  clear h13 x0 f0
  refine (must_w W14 b g N cap l r8 _ [kSemi] h14.rd hlen hn hN (by decide) (by decide)).mono ?_
  rintro e W15 ⟨rfl, hr, hg⟩
  have hp2 := h14.step hr hg
  clear hr hg h14
  generalize hq : mustR l r8 [kSemi] = r9 at *
  have Q9 : Hid _ := hq
  clear hq
  have HZ : Hid (final = (⟨nm, sv, tv, kv, zv, dv⟩, r9)) := by
    rw [← HFN.out]
    show _ = _
    simp only [channelR, Q1.out, Q2.out, Q3.out, Q4.out, Q5.out, Q6.out, Q7.out, Q8.out, Q9.out]
  clear HFN Q1 Q2 Q3 Q4 Q5 Q6 Q7 Q8 Q9
  have x0 := hp2.cell 0
  have z0 := hp2.cellz 0
  have f0 := hp2.fzz 0
  have x1 := hp2.cell 1
  have z1 := hp2.cellz 1
  have f1 := hp2.fzz 1
  have x2 := hp2.cell 2
  have z2 := hp2.cellz 2
  have f2 := hp2.fzz 2
  have x3 := hp2.cell 3
  have z3 := hp2.cellz 3
  have f3 := hp2.fzz 3
  have x4 := hp2.cell 4
  have z4 := hp2.cellz 4
  have f4 := hp2.fzz 4
  have x5 := hp2.cell 5
  have z5 := hp2.cellz 5
  have f5 := hp2.fzz 5
  simp at x0 x1 x2 x3 x4 x5 z0 z1 z2 z3 z4 z5
  have hB1 := lt_of_blk hp2.loc
  go_wp2_with fail
  have k1 : PW w _ b g N cap l _ 92 #[.string ⟨nm.toArray⟩, .int .i64 sv, .int .i64 tv, .int .i64 kv, .int .i64 zv, .int .i64 dv] _ := ((((((hp2.setz 0 (.string ⟨nm.toArray⟩)).setz 1 (.int .i64 sv)).setz 2 (.int .i64 tv)).setz 3 (.int .i64 kv)).setz 4 (.int .i64 zv)).setz 5 (.int .i64 dv))
  generalize ((((((W15.setCell ⟨w.heap.size, 0, none⟩ (.string ⟨nm.toArray⟩)).setCell ⟨w.heap.size, 1, none⟩ (.int .i64 sv)).setCell ⟨w.heap.size, 2, none⟩ (.int .i64 tv)).setCell ⟨w.heap.size, 3, none⟩ (.int .i64 kv)).setCell ⟨w.heap.size, 4, none⟩ (.int .i64 zv)).setCell ⟨w.heap.size, 5, none⟩ (.int .i64 dv)) = WF at *
  have y0 := k1.cellz 0
  have y1 := k1.cellz 1
  have y2 := k1.cellz 2
  have y3 := k1.cellz 3
  have y4 := k1.cellz 4
  have y5 := k1.cellz 5
  simp at y0 y1 y2 y3 y4 y5
  rw [HZ.out]
  refine bodyPost_ret (v := .agg #[.string ⟨nm.toArray⟩, .int .i64 sv, .int .i64 tv, .int .i64 kv, .int .i64 zv, .int .i64 dv]) (by simp [results, Tryz.results83, go_sem, y0, y1, y2, y3, y4, y5]) rfl ⟨rfl, k1.rd, k1.gr⟩
end Go.Proofs.YteioennfpkoagaaGreatDoor
namespace Go.Proofs.YteioennfpkoagaaGreatDoor
open Go.RowKit
attribute [local go_sem ↓] Go.wp_at_zero Go.wp_at_succ

def partCells (p : Part) (v : Value) : List Value := [.string ⟨p.name.toArray⟩, .int .i64 p.period, .int .i64 p.duration, .int .i64 p.action, v]
def partRows : List Part → List Value → List Value
  | p :: ps, v :: vs => partCells p v ++ partRows ps vs
  | _, _ => []
theorem partRows_snoc (ps : List Part) (vs : List Value) (h : ps.length = vs.length) (p : Part) (v : Value) : partRows (ps ++ [p]) (vs ++ [v]) = partRows ps vs ++ partCells p v := by
  induction ps generalizing vs with
  | nil => cases vs with
    | nil => simp [partRows]
    | cons _ _ => simp at h
  | cons a ps ih => cases vs with
    | nil => simp at h
    | cons u vs => simp at h; simp [partRows, ih vs h]
theorem partRows_name (ps : List Part) (vs : List Value) (h : ps.length = vs.length) (j : Nat) (hj : j < ps.length) : (partRows ps vs)[j * 5]? = some (.string ⟨ps[j].name.toArray⟩) := by
  induction ps generalizing vs j with
  | nil => simp at hj
  | cons a ps ih => cases vs with
    | nil => simp at h
    | cons u vs =>
      simp at h
      cases j with
      | zero => simp [partRows, partCells]
      | succ j =>
        have e : (j + 1) * 5 = 5 + j * 5 := by omega
        rw [e]
        have := ih vs h j (by simpa using hj)
        simp only [partRows]
        rw [List.getElem?_append_right (by simp [partCells])]
        simpa [partCells] using this
def chanCells (c : Chan) : List Value := [.string ⟨c.name.toArray⟩, .int .i64 c.source, .int .i64 c.target, .int .i64 c.kind, .int .i64 c.size, .int .i64 c.depth]
def chanRows (cs : List Chan) : List Value := cs.flatMap chanCells
theorem chanRows_snoc (cs : List Chan) (c : Chan) : chanRows (cs ++ [c]) = chanRows cs ++ chanCells c := by simp [chanRows]

/- A list of partitions in memory, with their regions. -/
def PartsAt (w : World) (base : Nat) (v : Value) (ps : List Part) (vs : List Value) : Prop :=
  ps.length = vs.length ∧ w.ownsRow base 42 5 v ps.length (partRows ps vs) ∧ ∀ i (h : i < ps.length) (h' : i < vs.length), w.ownsRow base 90 3 vs[i] ps[i].regs.length (regRows ps[i].regs)

theorem PartsAt.partS {w : World} {base : Nat} {v : Value} {ps : List Part} {vs : List Value} (h : PartsAt w base v ps vs) : PartS w v (ps.map Part.name) := by
  obtain ⟨h1, h2, _⟩ := h
  rcases h2 with ⟨hl, ⟨rfl, h0⟩ | ⟨g, cap, cur, rfl, _, hg, _, _, _, ht⟩⟩
  · left; refine ⟨rfl, ?_⟩
    have : ps = [] := List.eq_nil_of_length_eq_zero h0
    rw [this]; rfl
  · right
    refine ⟨g, cap, by simp, cur, _, _, hg, ?_⟩
    intro j hj
    simp at hj
    have := partRows_name ps vs h1 j hj
    rw [← ht, List.getElem?_take_of_lt (by omega)] at this
    simpa using this
/- two rows of different types lie in different blocks -/
theorem own_types {w : World} {base base' e e' size size' n n' : Nat} {v v' : Value} {xs xs' : List Value} (h : w.ownsRow base e size v n xs) (h' : w.ownsRow base' e' size' v' n' xs') (hne : e ≠ e') {k : Nat} (hk : v.ownBlock = some k) (hk' : v'.ownBlock = some k) : False := by
  rcases h.2 with ⟨rfl, _⟩ | ⟨g, cap, cur, rfl, _, hg, _⟩
  · simp [Value.ownBlock] at hk
  rcases h'.2 with ⟨rfl, _⟩ | ⟨g', cap', cur', rfl, _, hg', _⟩
  · simp [Value.ownBlock] at hk'
  simp [Value.ownBlock] at hk hk'
  subst hk hk'
  rw [hg] at hg'
  simp at hg'
  exact hne hg'.2

/- In the midst of the reference's Parse: the results' blocks, the reader, the manifest's block M. -/
structure FW (w0 wr : World) (b g N cap M : Nat) (l : List UInt8) (r : RS) (ms : Array Value) : Prop where
  rd : RdOK wr b g N cap l r
  res0 : wr.heap[w0.heap.size]? = some (.cells #[.int .i64 0, .slice none 0 0, .slice none 0 0] 34 (0, 0))
  res1 : wr.heap[w0.heap.size + 1]? = some (.cells #[.int .i64 0, .int .i64 0] 36 (0, 0))
  loc : wr.heap[M]? = some (.cells ms 34 (0, 0))
  gr : Below w0.heap.size w0 wr
  o1 : w0.heap.size + 1 < b
  o2 : w0.heap.size + 1 < g
  o3 : b < M
  o4 : g < M
theorem below_grown {a w w' : World} {B : Nat} {row : Option Nat} (h : Below B a w) (hB : B ≤ w.heap.size) (hg : w.grownBy w' row) (hr : ∀ k, row = some k → B ≤ k) : Below B a w' := h.grown hg hB hr
theorem FW.step {w0 wr wr' : World} {b g N cap M : Nat} {l : List UInt8} {r r' : RS} {ms : Array Value} (h : FW w0 wr b g N cap M l r ms) (hr : RdOK wr' b g N cap l r') (hg : wr.grownBy wr' (some b)) : FW w0 wr' b g N cap M l r' ms := by
  have h1 := h.o1; have h3 := h.o3; have h4 := lt_of_blk h.loc
  exact ⟨hr, kp h.res0 hg (by omega), kp h.res1 hg (by omega), kp h.loc hg (by omega), below_grown h.gr (by omega) hg (by intro k hk; injection hk; omega), h.o1, h.o2, h.o3, h.o4⟩
theorem FW.aside {w0 wr wr' : World} {b g N cap M : Nat} {l : List UInt8} {r : RS} {ms : Array Value} {row : Option Nat} (h : FW w0 wr b g N cap M l r ms) (hg : wr.grownBy wr' row) (hrow : ∀ k, row = some k → M < k) : FW w0 wr' b g N cap M l r ms := by
  have h1 := h.o1; have h2 := h.o2; have h3 := h.o3; have h4 := lt_of_blk h.loc; have h5 := h.o4
  have ne : ∀ k, k ≤ M → some k ≠ row := fun k hk e => by have := hrow k e.symm; omega
  exact ⟨h.rd.kept hg (ne _ (by omega)) (ne _ (by omega)), by rw [hg.block _ (lt_of_blk h.res0) (ne _ (by omega))]; exact h.res0, by rw [hg.block _ (lt_of_blk h.res1) (ne _ (by omega))]; exact h.res1,
    by rw [hg.block _ (lt_of_blk h.loc) (ne _ (by omega))]; exact h.loc, below_grown h.gr (by omega) hg (by intro k hk; have := hrow k hk; omega), h.o1, h.o2, h.o3, h.o4⟩
theorem FW.set {w0 wr : World} {b g N cap M : Nat} {l : List UInt8} {r : RS} {ms : Array Value} (h : FW w0 wr b g N cap M l r ms) (i : Nat) (v : Value) : FW w0 (wr.setCell ⟨M, i, none⟩ v) b g N cap M l r (ms.setIfInBounds i v) := by
  have h1 := h.o1; have h2 := h.o2; have h3 := h.o3; have h4 := lt_of_blk h.loc; have h5 := h.o4
  have hg := grown_set wr M i v
  exact ⟨h.rd.kept hg (by simp; omega) (by simp; omega), by rw [blk_far _ _ (by omega)]; exact h.res0, by rw [blk_far _ _ (by omega)]; exact h.res1, blk_set i v h.loc, below_grown h.gr (by omega) hg (by intro k hk; injection hk; omega), h.o1, h.o2, h.o3, h.o4⟩
theorem FW.cell {w0 wr : World} {b g N cap M : Nat} {l : List UInt8} {r : RS} {ms : Array Value} (h : FW w0 wr b g N cap M l r ms) (i : Nat) : wr.cell? ⟨M, i, none⟩ = ms[i]? := cell_of_blk h.loc
theorem FW.fz {w0 wr : World} {b g N cap M : Nat} {l : List UInt8} {r : RS} {ms : Array Value} (h : FW w0 wr b g N cap M l r ms) (i : Nat) : wr.frozen? ⟨M, i, none⟩ = false := frozen_of_blk h.loc

theorem tokB_of {w : World} {base g N cap : Nat} {l : List UInt8} (h : w.ownsRow base 164 4 (.slice (some ⟨g, 0, none⟩) N cap) N (tokRows l N)) : TokB w g N l := by
  rcases h.2 with ⟨h1, _⟩ | ⟨g', cap', cur, hv, _, hg, _, _, _, ht⟩
  · cases h1
  · cases hv
    refine ⟨cur, hg, ?_⟩
    intro k hk
    have key : ∀ j (hj : j < 4), cur[k * 4 + j]? = (tokCells (tk l k))[j]? := by
      intro j hj
      have e1 : cur[k * 4 + j]? = (tokRows l N)[k * 4 + j]? := by
        rw [← ht, List.getElem?_take_of_lt (by omega)]; simp
      rw [e1]
      have gen : ∀ N, k < N → (tokRows l N)[k * 4 + j]? = (tokCells (tk l k))[j]? := by
        intro N
        induction N with
        | zero => intro h; omega
        | succ N ih =>
          intro hkN
          have hlenN : (tokRows l N).length = N * 4 := by
            clear ih hkN
            induction N with
            | zero => rfl
            | succ N ih => rw [tokRows_succ, List.length_append, ih]; simp [tokCells]; omega
          rw [tokRows_succ]
          by_cases hc : k < N
          · rw [List.getElem?_append_left (by omega)]; exact ih hc
          · have : k = N := by omega
            subst this
            rw [List.getElem?_append_right (by omega), hlenN]
            congr 1; omega
      exact gen N hk
    have k0 := key 0 (by omega)
    have k1 := key 1 (by omega)
    have k2 := key 2 (by omega)
    have k3 := key 3 (by omega)
    simp [tokCells] at k0 k1 k2 k3
    exact ⟨k0, k1, k2, k3⟩
end Go.Proofs.YteioennfpkoagaaGreatDoor
