import Derived.Test.YteioennfpkoagaaGreatDoorG08
import Derived.Test.YteioennfpkoagaaGreatDoorG01
import Derived.Deep.LoopGhost
namespace Go.Proofs.YteioennfpkoagaaGreatDoor
open Go.RowKit
attribute [local go_sem ↓] Go.wp_at_zero Go.wp_at_succ

theorem blk_set {w : World} {b : Nat} {cs : Array Value} {t : TypeId} {fr : Nat × Nat} (i : Nat) (v : Value) (h : w.heap[b]? = some (.cells cs t fr)) :
    (w.setCell ⟨b, i, none⟩ v).heap[b]? = some (.cells (cs.setIfInBounds i v) t fr) := by
  simp [World.setCell, Array.getElem?_modify, h]
theorem blk_far {w : World} {b c : Nat} (i : Nat) (v : Value) (h : c ≠ b) : (w.setCell ⟨b, i, none⟩ v).heap[c]? = w.heap[c]? := Below.heap_setCell _ _ _ _ h

/- In the midst of a method of the reference: the result's block, a local variable's block behind it, the reader. -/
structure PW (w0 wr : World) (b g N cap : Nat) (l : List UInt8) (r : RS) (T : Nat) (z xs : Array Value) : Prop where
  rd : RdOK wr b g N cap l r
  gr : w0.grownBy wr (some b)
  res : wr.heap[w0.heap.size]? = some (.cells z T (0, 0))
  loc : wr.heap[w0.heap.size + 1]? = some (.cells xs T (0, 0))
  lt : b < w0.heap.size
  ltg : g < w0.heap.size
theorem PW.step {w0 wr wr' : World} {b g N cap : Nat} {l : List UInt8} {r r' : RS} {T : Nat} {z xs : Array Value} (h : PW w0 wr b g N cap l r T z xs) (hr : RdOK wr' b g N cap l r') (hg : wr.grownBy wr' (some b)) : PW w0 wr' b g N cap l r' T z xs :=
  ⟨hr, grown_trans h.gr hg, by rw [hg.block _ (lt_of_blk h.res) (by have := h.lt; simp; omega)]; exact h.res, by rw [hg.block _ (lt_of_blk h.loc) (by have := h.lt; simp; omega)]; exact h.loc, h.lt, h.ltg⟩
/- a step that makes or writes other blocks than these -/
theorem PW.aside {w0 wr wr' : World} {b g N cap : Nat} {l : List UInt8} {r : RS} {T : Nat} {z xs : Array Value} {row : Option Nat} (h : PW w0 wr b g N cap l r T z xs) (hg : wr.grownBy wr' row) (hrow : ∀ k, row = some k → w0.heap.size + 1 < k) : PW w0 wr' b g N cap l r T z xs := by
  have h1 := h.lt
  have h2 := h.ltg
  have ne : ∀ k, k ≤ w0.heap.size + 1 → some k ≠ row := fun k hk e => by have := hrow k e.symm; omega
  exact ⟨h.rd.kept hg (ne _ (by omega)) (ne _ (by omega)), ⟨hg.os.trans h.gr.os, hg.tape.trans h.gr.tape, hg.output.trans h.gr.output, Nat.le_trans h.gr.size hg.size, fun i hi hne => by rw [hg.block i (Nat.lt_of_lt_of_le hi h.gr.size) (ne i (by omega))]; exact h.gr.block i hi hne⟩,
    by rw [hg.block _ (lt_of_blk h.res) (ne _ (by omega))]; exact h.res, by rw [hg.block _ (lt_of_blk h.loc) (ne _ (by omega))]; exact h.loc, h1, h2⟩
theorem PW.set {w0 wr : World} {b g N cap : Nat} {l : List UInt8} {r : RS} {T : Nat} {z xs : Array Value} (h : PW w0 wr b g N cap l r T z xs) (i : Nat) (v : Value) : PW w0 (wr.setCell ⟨w0.heap.size + 1, i, none⟩ v) b g N cap l r T z (xs.setIfInBounds i v) := by
  have h1 := h.lt
  have h2 := h.ltg
  have hg := grown_set wr (w0.heap.size + 1) i v
  exact ⟨h.rd.kept hg (by simp; omega) (by simp; omega), ⟨hg.os.trans h.gr.os, hg.tape.trans h.gr.tape, hg.output.trans h.gr.output, Nat.le_trans h.gr.size hg.size, fun k hk hne => by rw [hg.block k (Nat.lt_of_lt_of_le hk h.gr.size) (by simp; omega)]; exact h.gr.block k hk hne⟩,
    by rw [blk_far _ _ (by omega)]; exact h.res, blk_set i v h.loc, h1, h2⟩
theorem PW.setz {w0 wr : World} {b g N cap : Nat} {l : List UInt8} {r : RS} {T : Nat} {z xs : Array Value} (h : PW w0 wr b g N cap l r T z xs) (i : Nat) (v : Value) : PW w0 (wr.setCell ⟨w0.heap.size, i, none⟩ v) b g N cap l r T (z.setIfInBounds i v) xs := by
  have h1 := h.lt
  have h2 := h.ltg
  have hg := grown_set wr (w0.heap.size) i v
  exact ⟨h.rd.kept hg (by simp; omega) (by simp; omega), ⟨hg.os.trans h.gr.os, hg.tape.trans h.gr.tape, hg.output.trans h.gr.output, Nat.le_trans h.gr.size hg.size, fun k hk hne => by rw [hg.block k (Nat.lt_of_lt_of_le hk h.gr.size) (by simp; omega)]; exact h.gr.block k hk hne⟩,
    blk_set i v h.res, by rw [blk_far _ _ (by omega)]; exact h.loc, h1, h2⟩
theorem own_setz {w : World} {S e size n : Nat} {v : Value} {xs : List Value} (h : w.ownsRow (S + 2) e size v n xs) (i : Nat) (u : Value) : (w.setCell ⟨S, i, none⟩ u).ownsRow (S + 2) e size v n xs :=
  h.kept (grown_set w S i u) (.inr fun hk => by have := (h.lt _ hk).1; omega)
theorem PW.cell {w0 wr : World} {b g N cap : Nat} {l : List UInt8} {r : RS} {T : Nat} {z xs : Array Value} (h : PW w0 wr b g N cap l r T z xs) (i : Nat) : wr.cell? ⟨w0.heap.size + 1, i, none⟩ = xs[i]? := cell_of_blk h.loc
theorem PW.fz {w0 wr : World} {b g N cap : Nat} {l : List UInt8} {r : RS} {T : Nat} {z xs : Array Value} (h : PW w0 wr b g N cap l r T z xs) (i : Nat) : wr.frozen? ⟨w0.heap.size + 1, i, none⟩ = false := frozen_of_blk h.loc
theorem PW.cellz {w0 wr : World} {b g N cap : Nat} {l : List UInt8} {r : RS} {T : Nat} {z xs : Array Value} (h : PW w0 wr b g N cap l r T z xs) (i : Nat) : wr.cell? ⟨w0.heap.size, i, none⟩ = z[i]? := cell_of_blk h.res
theorem PW.fzz {w0 wr : World} {b g N cap : Nat} {l : List UInt8} {r : RS} {T : Nat} {z xs : Array Value} (h : PW w0 wr b g N cap l r T z xs) (i : Nat) : wr.frozen? ⟨w0.heap.size, i, none⟩ = false := frozen_of_blk h.res
theorem heap_new (w : World) (o : Obj) : (w.alloc o).heap[w.heap.size]? = some o := by
  show (w.heap.push o)[w.heap.size]? = _; simp
theorem grown_alloc (w : World) (o : Obj) (row : Option Nat) : w.grownBy (w.alloc o) row := grown_below ((Below.refl _ _).alloc (Nat.le_refl _) _) row
theorem PW.start {w : World} {b g N cap : Nat} {l : List UInt8} {r : RS} (h : RdOK w b g N cap l r) (T : Nat) (z xs : Array Value) : PW w ((w.alloc (.cells z T)).alloc (.cells xs T)) b g N cap l r T z xs := by
  have hg : w.grownBy ((w.alloc (.cells z T)).alloc (.cells xs T)) none := grown_trans (grown_alloc _ _ _) (grown_alloc _ _ _)
  refine ⟨h.kept hg (by simp) (by simp), ⟨hg.os, hg.tape, hg.output, hg.size, fun k hk _ => hg.block k hk (by simp)⟩, ?_, ?_, lt_of_blk h.blk, ?_⟩
  · rw [Below.heap_alloc _ _ _ (by simp), heap_new]
  · have := heap_new (w.alloc (.cells z T)) (.cells xs T)
    simpa using this
  · obtain ⟨cur, hc, _⟩ := h.toks; exact lt_of_blk hc

def zPart : Array Value := #[.string ⟨#[]⟩, .int .i64 0, .int .i64 0, .int .i64 0, .slice none 0 0]
theorem must_w (w : World) (b g N cap : Nat) (l : List UInt8) (r : RS) (s : ByteArray) (kws : List (List UInt8)) (h : RdOK w b g N cap l r) (hlen : l.length ≤ 8192) (hn : pos l (N - 1) = l.length) (hN : N ≤ 8193) (hs : s.size ≤ 100) (hw : wordsF [] s.data.toList = kws) :
    Calls Tryz.prog 79 #[.pointer (some ⟨b, 0, none⟩), .string s] w fun e w' => e = .returned (.tuple #[]) ∧ RdOK w' b g N cap l (mustR l r kws) ∧ w.grownBy w' (some b) := by
  rw [← hw]; exact must_any w b g N cap l r s h hs hlen hn hN
theorem kp {w w' : World} {b K : Nat} {o : Obj} (h : w.heap[K]? = some o) (hg : w.grownBy w' (some b)) (hne : K ≠ b) : w'.heap[K]? = some o := by
  rw [hg.block K (lt_of_blk h) (by simp [hne])]; exact h
theorem own_kp {w w' : World} {b base e size n : Nat} {v : Value} {xs : List Value} (h : w.ownsRow base e size v n xs) (hg : w.grownBy w' (some b)) (hb : b < base) : w'.ownsRow base e size v n xs :=
  h.kept hg (by
    cases hv : v.ownBlock with
    | none => exact .inl rfl
    | some k => right; intro hk; injection hk with hk; have := (h.lt k hv).1; omega)
theorem strB_new (w : World) (kws : List (List UInt8)) (cs : Array Value) (t : TypeId) (h : ∀ j (hj : j < kws.length), cs[j]? = some (.string ⟨kws[j].toArray⟩)) : StrB (w.alloc (.cells cs t)) w.heap.size kws :=
  ⟨cs, t, _, heap_new w _, h⟩
theorem own_shape {w : World} {base e size n : Nat} {v : Value} {xs : List Value} (h : w.ownsRow base e size v n xs) : ∃ a c, v = .slice a n c := by
  rcases h.2 with ⟨rfl, rfl⟩ | ⟨g, cap, cur, rfl, _⟩
  · exact ⟨_, _, rfl⟩
  · exact ⟨_, _, rfl⟩
theorem own_mono {w : World} {base base' e size n : Nat} {v : Value} {xs : List Value} (h : w.ownsRow base e size v n xs) (hb : base' ≤ base) : w.ownsRow base' e size v n xs := by
  rcases h with ⟨h1, ⟨rfl, rfl⟩ | ⟨g, cap, cur, rfl, h2, h3⟩⟩
  · exact ⟨h1, .inl ⟨rfl, rfl⟩⟩
  · exact ⟨h1, .inr ⟨g, cap, cur, rfl, by omega, h3⟩⟩
def regCells (g : Reg) : List Value := [.int .i64 g.page, .int .i64 g.pages, .int .i64 g.rights]
def regRows (gs : List Reg) : List Value := gs.flatMap regCells
theorem regRows_snoc (gs : List Reg) (g : Reg) : regRows (gs ++ [g]) = regRows gs ++ regCells g := by simp [regRows]
theorem infoRegion : (Tryz.prog.info? 90).map (fun i => (i.zero, i.size, i.bytes)) = some (some (.agg #[.int .i64 0, .int .i64 0, .int .i64 0]), 3, 24) := by kernel_rfl

/- likewise, with one local variable more in block K, and a row that is being made -/
structure LW (w0 wr : World) (b g N cap : Nat) (l : List UInt8) (r : RS) (T : Nat) (z xs : Array Value) (K TK : Nat) (ks : Array Value) (e size n : Nat) (v : Value) (rows : List Value) : Prop where
  pw : PW w0 wr b g N cap l r T z xs
  kk : wr.heap[K]? = some (.cells ks TK (0, 0))
  own : wr.ownsRow (w0.heap.size + 2) e size v n rows
  hK : w0.heap.size + 1 < K
  hv : v.ownBlock ≠ some K
theorem LW.step {w0 wr wr' : World} {b g N cap : Nat} {l : List UInt8} {r r' : RS} {T : Nat} {z xs ks : Array Value} {K TK e size n : Nat} {v : Value} {rows : List Value} (h : LW w0 wr b g N cap l r T z xs K TK ks e size n v rows) (hr : RdOK wr' b g N cap l r') (hg : wr.grownBy wr' (some b)) : LW w0 wr' b g N cap l r' T z xs K TK ks e size n v rows :=
  ⟨h.pw.step hr hg, kp h.kk hg (by have := h.pw.lt; have := h.hK; omega), own_kp h.own hg (by have := h.pw.lt; omega), h.hK, h.hv⟩
theorem LW.alloc {w0 wr : World} {b g N cap : Nat} {l : List UInt8} {r : RS} {T : Nat} {z xs ks : Array Value} {K TK e size n : Nat} {v : Value} {rows : List Value} (h : LW w0 wr b g N cap l r T z xs K TK ks e size n v rows) (o : Obj) : LW w0 (wr.alloc o) b g N cap l r T z xs K TK ks e size n v rows :=
  ⟨h.pw.aside (grown_alloc wr o none) (by simp), by rw [(grown_alloc wr o none).block K (lt_of_blk h.kk) (by simp)]; exact h.kk, h.own.alloc _, h.hK, h.hv⟩
theorem LW.setK {w0 wr : World} {b g N cap : Nat} {l : List UInt8} {r : RS} {T : Nat} {z xs ks : Array Value} {K TK e size n : Nat} {v : Value} {rows : List Value} (h : LW w0 wr b g N cap l r T z xs K TK ks e size n v rows) (i : Nat) (u : Value) : LW w0 (wr.setCell ⟨K, i, none⟩ u) b g N cap l r T z xs K TK (ks.setIfInBounds i u) e size n v rows :=
  ⟨h.pw.aside (grown_set wr K i u) (by intro k hk; injection hk with hk; have := h.hK; omega), blk_set i u h.kk, h.own.kept (grown_set wr K i u) (.inr h.hv), h.hK, h.hv⟩
theorem LW.cell {w0 wr : World} {b g N cap : Nat} {l : List UInt8} {r : RS} {T : Nat} {z xs ks : Array Value} {K TK e size n : Nat} {v : Value} {rows : List Value} (h : LW w0 wr b g N cap l r T z xs K TK ks e size n v rows) (i : Nat) : wr.cell? ⟨K, i, none⟩ = ks[i]? := cell_of_blk h.kk
theorem LW.fz {w0 wr : World} {b g N cap : Nat} {l : List UInt8} {r : RS} {T : Nat} {z xs ks : Array Value} {K TK e size n : Nat} {v : Value} {rows : List Value} (h : LW w0 wr b g N cap l r T z xs K TK ks e size n v rows) (i : Nat) : wr.frozen? ⟨K, i, none⟩ = false := frozen_of_blk h.kk

set_option maxRecDepth 100000 in
set_option maxHeartbeats 1000000 in
theorem partition_any (w : World) (b g N cap : Nat) (l : List UInt8) (r : RS) (h : RdOK w b g N cap l r) (hlen : l.length ≤ 8192) (hn : pos l (N - 1) = l.length) (hN : N ≤ 8193) :
    Calls Tryz.prog 82 #[.pointer (some ⟨b, 0, none⟩)] w fun e w' => ∃ v, e = .returned (.agg #[.string ⟨(partitionR l N r).1.name.toArray⟩, .int .i64 (partitionR l N r).1.period, .int .i64 (partitionR l N r).1.duration, .int .i64 (partitionR l N r).1.action, v]) ∧ RdOK w' b g N cap l (partitionR l N r).2 ∧ w.grownBy w' (some b) ∧ w'.ownsRow w.heap.size 90 3 v (partitionR l N r).1.regs.length (regRows (partitionR l N r).1.regs) := by
  generalize hfinal : partitionR l N r = final
  have HFN : Hid _ := hfinal
  clear hfinal
  obtain ⟨i0, hi0, hz0, hz1, hz2⟩ := info_parts infoRegion
  have h0 := PW.start h 42 zPart zPart
  go_enter Tryz.func82, Tryz.ntmps82
  go_wp2_with fail
  unfold zPart at h0
  generalize (w.alloc (Obj.cells #[.string ⟨#[]⟩, .int .i64 0, .int .i64 0, .int .i64 0, .slice none 0 0] 42)).alloc (Obj.cells #[.string ⟨#[]⟩, .int .i64 0, .int .i64 0, .int .i64 0, .slice none 0 0] 42) = W0 at *
  refine (must_w W0 b g N cap l r _ [kPartition] h0.rd hlen hn hN (by decide) (by decide)).mono ?_
  rintro e W1 ⟨rfl, hr, hg⟩
  have h1 := h0.step hr hg
  clear hr hg h0
  generalize hq : mustR l r [kPartition] = r1 at *
  have Q1 : Hid _ := hq
  clear hq
  go_wp2_with fail
  refine (some_any W1 b g N cap l r1 1 h1.rd hlen hn (by omega) hN).mono ?_
  rintro e W2 ⟨rfl, hr, hg⟩
  have h2 := h1.step hr hg
  clear hr hg h1
  generalize hq : someR l r1 1 = q at *
  obtain ⟨nm, r2⟩ := q
  have Q2 : Hid _ := hq
  clear hq
  simp only [] at h2
  have x0 := h2.cell 0
  have f0 := h2.fz 0
  simp at x0
  go_wp2_with fail
  have h3 : PW w _ b g N cap l r2 42 _ #[.string ⟨nm.toArray⟩, .int .i64 0, .int .i64 0, .int .i64 0, .slice none 0 0] := h2.set 0 (.string ⟨nm.toArray⟩)
  generalize W2.setCell ⟨w.heap.size + 1, 0, none⟩ (.string ⟨nm.toArray⟩) = W3 at *
  clear h2 x0 f0
  refine (must_w W3 b g N cap l r2 _ [kOpen, kPeriod] h3.rd hlen hn hN (by decide) (by decide)).mono ?_
  rintro e W4 ⟨rfl, hr, hg⟩
  have h4 := h3.step hr hg
  clear hr hg h3
  generalize hq : mustR l r2 [kOpen, kPeriod] = r3 at *
  have Q3 : Hid _ := hq
  clear hq
  go_wp2_with fail
  refine (number_any W4 b g N cap l r3 h4.rd hlen hn hN).mono ?_
  rintro e W5 ⟨rfl, hr, hg⟩
  have h5 := h4.step hr hg
  clear hr hg h4
  generalize hq : numberR l r3 = q at *
  obtain ⟨pv, r4⟩ := q
  have Q4 : Hid _ := hq
  clear hq
  simp only [] at h5
  have x0 := h5.cell 1
  have f0 := h5.fz 1
  simp at x0
  go_wp2_with fail
  have h6 : PW w _ b g N cap l r4 42 _ #[.string ⟨nm.toArray⟩, .int .i64 pv, .int .i64 0, .int .i64 0, .slice none 0 0] := h5.set 1 (.int .i64 pv)
  generalize W5.setCell ⟨w.heap.size + 1, 1, none⟩ (.int .i64 pv) = W6 at *
  clear h5 x0 f0
  refine (must_w W6 b g N cap l r4 _ [kSemi, kDuration] h6.rd hlen hn hN (by decide) (by decide)).mono ?_
  rintro e W7 ⟨rfl, hr, hg⟩
  have h7 := h6.step hr hg
  clear hr hg h6
  generalize hq : mustR l r4 [kSemi, kDuration] = r5 at *
  have Q5 : Hid _ := hq
  clear hq
  go_wp2_with fail
  refine (number_any W7 b g N cap l r5 h7.rd hlen hn hN).mono ?_
  rintro e W8 ⟨rfl, hr, hg⟩
  have h8 := h7.step hr hg
  clear hr hg h7
  generalize hq : numberR l r5 = q at *
  obtain ⟨dv, r6⟩ := q
  have Q6 : Hid _ := hq
  clear hq
  simp only [] at h8
  have x0 := h8.cell 2
  have f0 := h8.fz 2
  simp at x0
  go_wp2_with fail
  have h9 : PW w _ b g N cap l r6 42 _ #[.string ⟨nm.toArray⟩, .int .i64 pv, .int .i64 dv, .int .i64 0, .slice none 0 0] := h8.set 2 (.int .i64 dv)
  generalize W8.setCell ⟨w.heap.size + 1, 2, none⟩ (.int .i64 dv) = W9 at *
  clear h8 x0 f0
  refine (must_w W9 b g N cap l r6 _ [kSemi, kFault] h9.rd hlen hn hN (by decide) (by decide)).mono ?_
  rintro e W10 ⟨rfl, hr, hg⟩
  have h10 := h9.step hr hg
  clear hr hg h9
  generalize hq : mustR l r6 [kSemi, kFault] = r7 at *
  have Q7 : Hid _ := hq
  clear hq
  go_wp2_with fail
  have hga := grown_alloc W10 (Obj.cells #[.string ⟨#[105, 103, 110, 111, 114, 101]⟩, .string ⟨#[115, 116, 111, 112]⟩, .string ⟨#[114, 101, 115, 116, 97, 114, 116]⟩] 9) none
  have h11 := h10.aside hga (by simp)
  have hsb : StrB (W10.alloc (Obj.cells #[.string ⟨#[105, 103, 110, 111, 114, 101]⟩, .string ⟨#[115, 116, 111, 112]⟩, .string ⟨#[114, 101, 115, 116, 97, 114, 116]⟩] 9)) W10.heap.size kActions := strB_new _ _ _ _ (by intro j hj; match j, hj with | 0, _ => rfl | 1, _ => rfl | 2, _ => rfl)
  refine (oneOf_any _ b g N cap W10.heap.size 3 l r7 kActions h11.rd hsb (by decide) hlen hn hN).mono ?_
  rintro e W11 ⟨rfl, hr, hg⟩
  have h12 := h11.step hr hg
  clear hr hg h11 h10 hga hsb
  generalize hq : oneOfR l r7 0 kActions = q at *
  obtain ⟨av, r8⟩ := q
  have Q8 : Hid _ := hq
  clear hq
  simp only [] at h12
  have x0 := h12.cell 3
  have f0 := h12.fz 3
  simp at x0
  go_wp2_with fail
  have h13 : PW w _ b g N cap l r8 42 _ #[.string ⟨nm.toArray⟩, .int .i64 pv, .int .i64 dv, .int .i64 av, .slice none 0 0] := h12.set 3 (.int .i64 av)
  generalize W11.setCell ⟨w.heap.size + 1, 3, none⟩ (.int .i64 av) = W13 at *
  clear h12 x0 f0
  refine (must_w W13 b g N cap l r8 _ [kSemi] h13.rd hlen hn hN (by decide) (by decide)).mono ?_
  rintro e W14 ⟨rfl, hr, hg⟩
  have h14 := h13.step hr hg
  clear hr hg h13
  generalize hq : mustR l r8 [kSemi] = r9 at *
  have Q9 : Hid _ := hq
  clear hq
  go_wp2_with fail
  generalize hfin : regsR l N r9 [] = fin
  have HF : Hid (fin = regsR l N r9 []) := hfin.symm
  have HF2 : Hid (fin = regsR l N r9 []) := hfin.symm
  clear hfin
  go_loopg [] N (fun f wr => ∃ acc r1 v, Hid (fin = regsR l f r1 acc) ∧ leftR N r1 ≤ f ∧ acc.length + f ≤ N ∧ PW w wr b g N cap l r1 42 #[.string ⟨#[]⟩, .int .i64 0, .int .i64 0, .int .i64 0, .slice none 0 0] #[.string ⟨nm.toArray⟩, .int .i64 pv, .int .i64 dv, .int .i64 av, v] ∧ wr.ownsRow (w.heap.size + 2) 90 3 v acc.length (regRows acc))
  case atStart => exact ⟨[], r9, _, HF, by unfold leftR; split <;> omega, by simp, h14, World.ownsRow_nil _ _ _ _⟩
  case round =>
    obtain ⟨acc, r10, v, HK, hf, hacc, hp, hown⟩ := hrel
    clear HF h14
    go_wp2_with fail
    refine (is_any wr b g N cap l r10 _ hp.rd).mono ?_
    rintro e w2 ⟨rfl, q, rfl⟩
    have hp1 := hp.step (hp.rd.drewN q) (grown_drewN wr q _)
    have hown1 := own_kp hown (grown_drewN wr q (some b)) (by have := hp.lt; omega)
    generalize wr.drewN q = V0 at *
    clear hp hown
    cases hi : isR l r10 kMemory
    · have hi' : isR l r10 [109, 101, 109, 111, 114, 121] = false := hi
      have HX : Hid (fin = (acc, r10)) := HK.out.trans (regsR_stop _ _ _ _ hi)
      clear HK hi
      go_wp2_with fail
      refine (must_w V0 b g N cap l r10 _ [kShut] hp1.rd hlen hn hN (by decide) (by decide)).mono ?_
      rintro e V1 ⟨rfl, hr, hg⟩
      have hp2 := hp1.step hr hg
      have hown2 := own_kp hown1 hg (by have := hp1.lt; omega)
      clear hr hg hp1 hown1
      have x0 := hp2.cell 0
      have x1 := hp2.cell 1
      have x2 := hp2.cell 2
      have x3 := hp2.cell 3
      have x4 := hp2.cell 4
      have z0 := hp2.cellz 0
      have z1 := hp2.cellz 1
      have z2 := hp2.cellz 2
      have z3 := hp2.cellz 3
      have z4 := hp2.cellz 4
      have f0 := hp2.fzz 0
      have f1 := hp2.fzz 1
      have f2 := hp2.fzz 2
      have f3 := hp2.fzz 3
      have f4 := hp2.fzz 4
      simp at x0 x1 x2 x3 x4 z0 z1 z2 z3 z4
      have hB1 := lt_of_blk hp2.loc
      obtain ⟨va, vc, rfl⟩ := own_shape hown2
      have HZ : Hid (final = (⟨nm, pv, dv, av, acc⟩, mustR l r10 [kShut])) := by
        rw [← HFN.out]
        have hx := HX.out
        show _ = _
        simp only [partitionR, partHeadR, Q1.out, Q2.out, Q3.out, Q4.out, Q5.out, Q6.out, Q7.out, Q8.out, Q9.out]
        rw [← HF2.out, hx]
      clear HFN Q1 Q2 Q3 Q4 Q5 Q6 Q7 Q8 Q9 HX
      go_wp2_with fail
      have k1 : PW w _ b g N cap l _ 42 #[.string ⟨nm.toArray⟩, .int .i64 pv, .int .i64 dv, .int .i64 av, .slice va acc.length vc] _ := ((((hp2.setz 0 (.string ⟨nm.toArray⟩)).setz 1 (.int .i64 pv)).setz 2 (.int .i64 dv)).setz 3 (.int .i64 av)).setz 4 (.slice va acc.length vc)
      have k2 := own_setz (own_setz (own_setz (own_setz (own_setz hown2 0 (.string ⟨nm.toArray⟩)) 1 (.int .i64 pv)) 2 (.int .i64 dv)) 3 (.int .i64 av)) 4 (.slice va acc.length vc)
      generalize ((((V1.setCell ⟨w.heap.size, 0, none⟩ (.string ⟨nm.toArray⟩)).setCell ⟨w.heap.size, 1, none⟩ (.int .i64 pv)).setCell ⟨w.heap.size, 2, none⟩ (.int .i64 dv)).setCell ⟨w.heap.size, 3, none⟩ (.int .i64 av)).setCell ⟨w.heap.size, 4, none⟩ (.slice va acc.length vc) = WF at *
      have y0 := k1.cellz 0
      have y1 := k1.cellz 1
      have y2 := k1.cellz 2
      have y3 := k1.cellz 3
      have y4 := k1.cellz 4
      simp at y0 y1 y2 y3 y4
      rw [HZ.out]
      refine bodyPost_ret (v := .agg #[.string ⟨nm.toArray⟩, .int .i64 pv, .int .i64 dv, .int .i64 av, .slice va acc.length vc]) (by simp [results, Tryz.results82, go_sem, y0, y1, y2, y3, y4]) rfl ⟨_, rfl, k1.rd, k1.gr, own_mono k2 (by omega)⟩
    · have hi' : isR l r10 [109, 101, 109, 111, 114, 121] = true := hi
      have he10 := isR_e hi
      have hat : r10.at' + 1 < N := hp1.rd.next hn (isR_sort hi)
      have hgk : 1 ≤ gk := by unfold leftR at hf; rw [if_neg (by simp [he10])] at hf; omega
      have HX : Hid (fin = regsR l (gk - 1) (regionR l r10).2 (acc ++ [(regionR l r10).1])) := by
        have := HK.out
        obtain ⟨m, rfl⟩ : ∃ m, gk = m + 1 := ⟨gk - 1, by omega⟩
        rw [regsR_on _ _ _ _ hi] at this; exact this
      have HL : Hid (leftR N (regionR l r10).2 ≤ gk - 1) := by
        have h1 := left_lt (N := N) (r := r10) (by omega) he10 (regionR_le l r10)
        show _ ≤ _; omega
      clear HK hi hf
      have c1 := hp1.rd.c1
      have f1 := hp1.rd.fz 1
      have hB := hp1.lt
      have hB1 := lt_of_blk hp1.loc
      have hvb : v.ownBlock ≠ some V0.heap.size := fun hk => by have := (hown1.lt _ hk).2; omega
      go_wp2_with fail
      have hp2 := hp1.step (hp1.rd.setAt (r10.at' + 1) hat) (grown_set V0 b 1 _)
      have hown2 := own_kp hown1 (grown_set V0 b 1 (.int .i64 ((r10.at' + 1 : Nat) : Int))) (by omega)
      have q0 : LW w ((V0.setCell ⟨b, 1, none⟩ (.int .i64 ((r10.at' + 1 : Nat) : Int))).alloc (.cells #[.int .i64 0, .int .i64 0, .int .i64 0] 90)) b g N cap l (nextR r10) 42 _ _ V0.heap.size 90 #[.int .i64 0, .int .i64 0, .int .i64 0] 90 3 acc.length v (regRows acc) :=
        ⟨hp2.aside (grown_alloc _ _ none) (by simp), by have := heap_new (V0.setCell ⟨b, 1, none⟩ (.int .i64 ((r10.at' + 1 : Nat) : Int))) (.cells #[.int .i64 0, .int .i64 0, .int .i64 0] 90); simpa [World.setCell] using this, hown2.alloc _, by omega, hvb⟩
      rw [show (((r10.at' + 1 : Nat) : Int)) = (r10.at' : Int) + 1 from by omega] at q0
      generalize (V0.setCell ⟨b, 1, none⟩ (.int .i64 ((r10.at' : Int) + 1))).alloc (.cells #[.int .i64 0, .int .i64 0, .int .i64 0] 90) = V1 at *
      clear hp1 hp2 hown1 hown2 c1 f1
      refine (number_any V1 b g N cap l _ q0.pw.rd hlen hn hN).mono ?_
      rintro e V2 ⟨rfl, hr, hg⟩
      have q1 := q0.step hr hg
      clear hr hg q0
      generalize hq : numberR l (nextR r10) = qq at *
      obtain ⟨pg, r11⟩ := qq
      have Q10 : Hid _ := hq
      clear hq
      simp only [] at q1
      have x0 := q1.cell 0
      have f0 := q1.fz 0
      simp at x0
      go_wp2_with fail
      have q2 : LW w _ b g N cap l r11 42 _ _ V0.heap.size 90 #[.int .i64 pg, .int .i64 0, .int .i64 0] 90 3 acc.length v (regRows acc) := q1.setK 0 (.int .i64 pg)
      generalize V2.setCell ⟨V0.heap.size, 0, none⟩ (.int .i64 pg) = V3 at *
      clear q1 x0 f0
      refine (number_any V3 b g N cap l _ q2.pw.rd hlen hn hN).mono ?_
      rintro e V4 ⟨rfl, hr, hg⟩
      have q3 := q2.step hr hg
      clear hr hg q2
      generalize hq : numberR l r11 = qq at *
      obtain ⟨ps, r12⟩ := qq
      have Q11 : Hid _ := hq
      clear hq
      simp only [] at q3
      have x0 := q3.cell 1
      have f0 := q3.fz 1
      simp at x0
      go_wp2_with fail
      have q4 : LW w _ b g N cap l r12 42 _ _ V0.heap.size 90 #[.int .i64 pg, .int .i64 ps, .int .i64 0] 90 3 acc.length v (regRows acc) := q3.setK 1 (.int .i64 ps)
      have hs5 : (V4.setCell ⟨V0.heap.size, 1, none⟩ (.int .i64 ps)).heap.size = V4.heap.size := by simp [World.setCell]
      generalize V4.setCell ⟨V0.heap.size, 1, none⟩ (.int .i64 ps) = V5 at *
      clear q3 x0 f0
      have hsb : StrB (V5.alloc (Obj.cells #[.string ⟨#[108, 111, 111, 107]⟩, .string ⟨#[99, 104, 97, 110, 103, 101]⟩] 9)) V5.heap.size kRights := strB_new _ _ _ _ (by intro j hj; match j, hj with | 0, _ => rfl | 1, _ => rfl)
      rw [hs5] at hsb
      clear hs5
      have q5 := q4.alloc (Obj.cells #[.string ⟨#[108, 111, 111, 107]⟩, .string ⟨#[99, 104, 97, 110, 103, 101]⟩] 9)
      refine (oneOf_any _ b g N cap V4.heap.size 2 l r12 kRights q5.pw.rd hsb (by decide) hlen hn hN).mono ?_
      rintro e V6 ⟨rfl, hr, hg⟩
      have q6 := q5.step hr hg
      clear hr hg q5 q4 hsb
      generalize hq : oneOfR l r12 0 kRights = qq at *
      obtain ⟨rv, r13⟩ := qq
      have Q12 : Hid _ := hq
      clear hq
      simp only [] at q6
      have x0 := q6.cell 2
      have f0 := q6.fz 2
      simp at x0
      go_wp2_with fail
      have q7 : LW w _ b g N cap l r13 42 _ _ V0.heap.size 90 #[.int .i64 pg, .int .i64 ps, .int .i64 rv] 90 3 acc.length v (regRows acc) := q6.setK 2 (.int .i64 rv)
      generalize V6.setCell ⟨V0.heap.size, 2, none⟩ (.int .i64 rv) = V7 at *
      clear q6 x0 f0
      refine (must_w V7 b g N cap l r13 _ [kSemi] q7.pw.rd hlen hn hN (by decide) (by decide)).mono ?_
      rintro e V8 ⟨rfl, hr, hg⟩
      have q8 := q7.step hr hg
      clear hr hg q7
      generalize hq : mustR l r13 [kSemi] = r14 at *
      have Q13 : Hid _ := hq
      clear hq
      have HRG : Hid (regionR l r10 = (⟨pg, ps, rv⟩, r14)) := by show _ = _; simp only [regionR, Q10.out, Q11.out, Q12.out, Q13.out]
      clear Q10 Q11 Q12 Q13
      have y0 := q8.cell 0
      have y1 := q8.cell 1
      have y2 := q8.cell 2
      have x4 := q8.pw.cell 4
      have g4 := q8.pw.fz 4
      simp at y0 y1 y2 x4
      have hb8 := lt_of_blk q8.kk
      go_wp2_with (
        at_builtin; refine wpList_append_lies _ rfl _ _ _ rfl (w.heap.size + 2) 90 i0 _ 3 24 Tryz.underlying40 hi0 hz0 hz1 hz2 rfl (by omega) v acc.length (regRows acc) rfl (q8.own.alloc _)
            ⟨V8.heap.size, 0, none⟩ 1 1 [.int .i64 pg, .int .i64 ps, .int .i64 rv] rfl rfl
            (World.news_of_block (cs := #[.int .i64 pg, .int .i64 ps, .int .i64 rv]) (t := 90) (fr := (0, 0)) (heap_alloc_new V8 _)) (by simp [Value.oneCell'])
            (by omega) (by unfold maxLen; omega) (by omega) (by simp; omega) (V8.heap.size + 1) (by simp) ?_; intro gg cc V9 hown3 hgrow hat9 hlt9; have q9 := (q8.alloc _).pw.aside hgrow (fun k hk => by have := (q8.own.lt k hk).1; omega); have x9 := q9.cell 4; have g9 := q9.fz 4; simp at x9)
      have q10 : PW w _ b g N cap l r14 42 _ #[.string ⟨nm.toArray⟩, .int .i64 pv, .int .i64 dv, .int .i64 av, .slice (some ⟨gg, 0, none⟩) (acc.length + 1) cc] := q9.set 4 (.slice (some ⟨gg, 0, none⟩) (acc.length + 1) cc)
      have hne : (Value.slice (some ⟨gg, 0, none⟩) (acc.length + 1) cc).ownBlock ≠ some (w.heap.size + 1) := fun hk => by have := (hown3.lt _ hk).1; omega
      have hown4 := hown3.kept (grown_set V9 (w.heap.size + 1) 4 (.slice (some ⟨gg, 0, none⟩) (acc.length + 1) cc)) (.inr hne)
      go_roundg (gk - 1)
      case measure => omega
      case rel =>
        have e1 : Hid (fin = regsR l (gk - 1) r14 (acc ++ [⟨pg, ps, rv⟩])) := by have := HX.out; rw [HRG.out] at this; exact this
        have e2 : leftR N r14 ≤ gk - 1 := by have := HL.out; rw [HRG.out] at this; exact this
        exact ⟨acc ++ [⟨pg, ps, rv⟩], r14, _, e1, e2, by simp; omega, q10, by simpa [regRows_snoc, regCells] using hown4⟩
end Go.Proofs.YteioennfpkoagaaGreatDoor
