import Derived.Test.YteioennfpkoagaaGreatDoorManO
import Derived.Test.YteioennfpkoagaaGreatDoorPureS
namespace Go.Proofs.YteioennfpkoagaaGreatDoor
open Go.RowKit
attribute [local go_sem ↓] Go.wp_at_zero Go.wp_at_succ

theorem LeR.back {a b : RS} (h : LeR a b) : b.e = 0 → a.e = 0 := fun hb => by
  rcases Nat.eq_zero_or_pos a.e with h0 | h0
  · exact h0
  · exact absurd hb (h.2 (by omega))
theorem ba_kw (kw : List UInt8) : (⟨kw.toArray⟩ : ByteArray).data.toList = kw := rfl
theorem expect_r (w : World) (pb c B : Nat) (ew en eu es ex : Addr) (l : List UInt8) (r : RS) (pv : Value) (s : ByteArray) (kw : List UInt8) (h : PR w pb c B ew en eu es ex l (absS l r) pv) (hk : okK kw = true) (hs : s.data.toList = kw) :
    Calls Tryz.prog 147 #[.pointer (some ⟨pb, 0, none⟩), .string s] w fun e w' => e = .returned (.tuple #[]) ∧ PR w' pb c B ew en eu es ex l (absS l (mustR l r [kw])) pv ∧ KP pb c w w' := by
  have := expect_any w pb c B ew en eu es ex l (absS l r) pv s h
  rw [hs, exp_abs l r kw hk] at this
  exact this
theorem at_r (w : World) (pb c B : Nat) (ew en eu es ex : Addr) (l : List UInt8) (r : RS) (pv : Value) (s : ByteArray) (kw : List UInt8) (h : PR w pb c B ew en eu es ex l (absS l r) pv) (hk : okK kw = true) (hs : s.data.toList = kw) :
    Calls Tryz.prog 144 #[.pointer (some ⟨pb, 0, none⟩), .string s] w fun e w' => e = .returned (.bool (isR l r kw)) ∧ w' = w := by
  have := at_any w pb c B ew en eu es ex l (absS l r) pv s h
  rw [hs, at_abs l r kw hk] at this
  exact this
theorem number_r (w : World) (pb c B : Nat) (ew en eu es ex : Addr) (l : List UInt8) (r : RS) (pv : Value) (h : PR w pb c B ew en eu es ex l (absS l r) pv) :
    Calls Tryz.prog 201 #[.pointer (some ⟨pb, 0, none⟩)] w fun e w' => ∃ v, e = .returned (.int .i64 v) ∧ Hid ((numberR l r).2.e = 0 → v = (numberR l r).1) ∧ PR w' pb c B ew en eu es ex l (absS l (numberR l r).2) pv ∧ KP pb c w w' := by
  refine (pnumber_any w pb c B ew en eu es ex l (absS l r) pv h).mono ?_
  rintro e w' ⟨v, rfl, hv, hp, hk⟩
  have ha := num_abs l r
  rw [ha.1] at hp
  refine ⟨v, rfl, fun he => ?_, hp, hk⟩
  obtain ⟨k, h1, h2⟩ := ha.2 he
  rw [hv k h1, h2]
theorem name_r (w : World) (pb c B : Nat) (ew en eu es ex : Addr) (l : List UInt8) (r : RS) (pv : Value) (h : PR w pb c B ew en eu es ex l (absS l r) pv) :
    Calls Tryz.prog 202 #[.pointer (some ⟨pb, 0, none⟩)] w fun e w' => ∃ v : List UInt8, e = .returned (.string ⟨v.toArray⟩) ∧ Hid ((someR l r 1).2.e = 0 → v = (someR l r 1).1) ∧ PR w' pb c B ew en eu es ex l (absS l (someR l r 1).2) pv ∧ KP pb c w w' := by
  refine (name_any w pb c B ew en eu es ex l (absS l r) pv h).mono ?_
  rintro e w' ⟨v, rfl, hv, hp, hk⟩
  have ha := word_abs l r
  rw [ha.1] at hp
  refine ⟨v, rfl, fun he => ?_, hp, hk⟩
  obtain ⟨k, h1, h2⟩ := ha.2 he
  rw [hv k h1, h2]
theorem place_r (w : World) (pb c B : Nat) (ew en eu es ex : Addr) (l : List UInt8) (r : RS) (pv : Value) (names : List (List UInt8)) (h : PR w pb c B ew en eu es ex l (absS l r) pv) (hst : PartT w pv names) (hm : names.length ≤ 10000) (hn : ∀ nm ∈ names, nm.length ≤ 16) :
    Calls Tryz.prog 205 #[.pointer (some ⟨pb, 0, none⟩)] w fun e w' => ∃ v : Nat, e = .returned (.int .i64 v) ∧ Hid ((endR l r names).2.e = 0 → v = (endR l r names).1) ∧ PR w' pb c B ew en eu es ex l (absS l (endR l r names).2) pv ∧ KP pb c w w' := by
  refine (pplace_any w pb c B ew en eu es ex l (absS l r) pv names h hst hm).mono ?_
  rintro e w' ⟨v, rfl, hv, hp, hk⟩
  have ha := plc_abs l r names hn
  rw [ha.1] at hp
  refine ⟨v, rfl, fun he => ?_, hp, hk⟩
  obtain ⟨k, h1, h2⟩ := ha.2 he
  rw [hv k h1, h2]
theorem choice_r (w : World) (pb c B : Nat) (ew en eu es ex : Addr) (ob oc n : Nat) (l : List UInt8) (r : RS) (pv : Value) (kws : List (List UInt8)) (h : PR w pb c B ew en eu es ex l (absS l r) pv) (hst : OptB w ob kws) (hn : n = kws.length) (hm : kws.length ≤ 100) (hk : ∀ kw ∈ kws, okK kw = true) :
    Calls Tryz.prog 203 #[.pointer (some ⟨pb, 0, none⟩), .slice (some ⟨ob, 0, none⟩) n oc] w fun e w' => e = .returned (.int .i64 (oneOfR l r 0 kws).1) ∧ PR w' pb c B ew en eu es ex l (absS l (oneOfR l r 0 kws).2) pv ∧ KP pb c w w' := by
  subst hn
  have := choice_any w pb c B ew en eu es ex ob oc l (absS l r) pv kws h hst hm
  rw [cho_abs l r 0 kws hk] at this
  exact this
theorem setting_r (w : World) (pb c B : Nat) (ew en eu es ex : Addr) (l : List UInt8) (r : RS) (pv : Value) (s : ByteArray) (kw : List UInt8) (h : PR w pb c B ew en eu es ex l (absS l r) pv) (hk : okK kw = true) (hs : s.data.toList = kw) :
    Calls Tryz.prog 143 #[.pointer (some ⟨pb, 0, none⟩), .string s] w fun e w' => ∃ v, e = .returned (.int .i64 v) ∧ Hid ((numberR l (mustR l r [kw])).2.e = 0 → v = (numberR l (mustR l r [kw])).1) ∧ PR w' pb c B ew en eu es ex l (absS l (mustR l (numberR l (mustR l r [kw])).2 [kSemi])) pv ∧ KP pb c w w' := by
  refine (setting_any w pb c B ew en eu es ex l (absS l r) pv s h).mono ?_
  rintro e w' ⟨v, rfl, hv, hp, hk'⟩
  rw [hs, exp_abs l r kw hk] at hv hp
  have ha := num_abs l (mustR l r [kw])
  rw [ha.1, exp_abs l _ kSemi (by decide)] at hp
  refine ⟨v, rfl, fun he => ?_, hp, hk'⟩
  obtain ⟨k, h1, h2⟩ := ha.2 he
  rw [hv k h1, h2]

/- In the midst of a method of the parser: the result's block, a local variable's block behind it, the parser. -/
structure QW (w0 wr : World) (pb c B : Nat) (ew en eu es ex : Addr) (l : List UInt8) (r : RS) (pv : Value) (T : Nat) (z xs : Array Value) : Prop where
  rd : PR wr pb c B ew en eu es ex l (absS l r) pv
  kp : KP pb c w0 wr
  res : wr.heap[w0.heap.size]? = some (.cells z T (0, 0))
  loc : wr.heap[w0.heap.size + 1]? = some (.cells xs T (0, 0))
  lt : pb < w0.heap.size
  ty : T ≠ 182
theorem QW.step {w0 wr wr' : World} {pb c B : Nat} {ew en eu es ex : Addr} {l : List UInt8} {r r' : RS} {pv : Value} {T : Nat} {z xs : Array Value} (h : QW w0 wr pb c B ew en eu es ex l r pv T z xs) (hr : PR wr' pb c B ew en eu es ex l (absS l r') pv) (hk : KP pb c wr wr') : QW w0 wr' pb c B ew en eu es ex l r' pv T z xs := by
  have h1 := h.lt; have h2 := hr.ord
  exact ⟨hr, h.kp.trans hk, KP.kp h.res hk (by omega) (by omega) (by omega), KP.kp h.loc hk (by omega) (by omega) (by omega), h.lt, h.ty⟩
theorem PR.setFar {w : World} {pb c B : Nat} {ew en eu es ex : Addr} {l : List UInt8} {st : St} {pv : Value} {T K : Nat} {xs : Array Value} (h : PR w pb c B ew en eu es ex l st pv) (hK : w.heap[K]? = some (.cells xs T (0, 0))) (hT : T ≠ 182) (hp : pb < K) (i : Nat) (v : Value) : PR (w.setCell ⟨K, i, none⟩ v) pb c B ew en eu es ex l st pv := by
  have h2 := h.ord; have h3 := h.hBp
  refine h.kept (by simp [World.setCell]) (h.gl.grown (grown_set w K i v) (by intro k hk; injection hk; omega)) ?_
  intro k hk hc
  refine Below.heap_setCell _ _ _ _ ?_
  rintro rfl
  rcases hc with hc | hc | hc | hc | ⟨o, hc⟩
  · omega
  · omega
  · omega
  · omega
  · rw [hK] at hc; simp at hc; exact hT hc.2
theorem QW.set {w0 wr : World} {pb c B : Nat} {ew en eu es ex : Addr} {l : List UInt8} {r : RS} {pv : Value} {T : Nat} {z xs : Array Value} (h : QW w0 wr pb c B ew en eu es ex l r pv T z xs) (i : Nat) (v : Value) : QW w0 (wr.setCell ⟨w0.heap.size + 1, i, none⟩ v) pb c B ew en eu es ex l r pv T z (xs.setIfInBounds i v) := by
  have h1 := h.lt; have h2 := h.rd.ord
  exact ⟨h.rd.setFar h.loc h.ty (by omega) i v, h.kp.setNew i v (by omega), by rw [blk_far _ _ (by omega)]; exact h.res, blk_set i v h.loc, h.lt, h.ty⟩
theorem QW.setz {w0 wr : World} {pb c B : Nat} {ew en eu es ex : Addr} {l : List UInt8} {r : RS} {pv : Value} {T : Nat} {z xs : Array Value} (h : QW w0 wr pb c B ew en eu es ex l r pv T z xs) (i : Nat) (v : Value) : QW w0 (wr.setCell ⟨w0.heap.size, i, none⟩ v) pb c B ew en eu es ex l r pv T (z.setIfInBounds i v) xs := by
  have h1 := h.lt; have h2 := h.rd.ord
  exact ⟨h.rd.setFar h.res h.ty (by omega) i v, h.kp.setNew i v (Nat.le_refl _), blk_set i v h.res, by rw [blk_far _ _ (by omega)]; exact h.loc, h.lt, h.ty⟩
theorem QW.aside {w0 wr wr' : World} {pb c B : Nat} {ew en eu es ex : Addr} {l : List UInt8} {r : RS} {pv : Value} {T : Nat} {z xs : Array Value} {row : Option Nat} (h : QW w0 wr pb c B ew en eu es ex l r pv T z xs) (hg : wr.grownBy wr' row) (hrow : ∀ k, row = some k → w0.heap.size + 1 < k ∧ ∀ o, wr.heap[k]? ≠ some (.cells o 182 (0, 0))) : QW w0 wr' pb c B ew en eu es ex l r pv T z xs := by
  have h1 := h.lt; have h2 := h.rd.ord; have h3 := h.rd.hBp
  have ne : ∀ k, k ≤ w0.heap.size + 1 → some k ≠ row := fun k hk e => by have := (hrow k e.symm).1; omega
  refine ⟨h.rd.kept hg.size (h.rd.gl.grown hg (fun k hk => by have := (hrow k hk).1; omega)) ?_, ?_, by rw [hg.block _ (lt_of_blk h.res) (ne _ (by omega))]; exact h.res, by rw [hg.block _ (lt_of_blk h.loc) (ne _ (by omega))]; exact h.loc, h1, h.ty⟩
  · intro k hk hc
    rcases hc with hc | hc | hc | hc | ⟨o, hc⟩
    · exact hg.block k hk (ne k (by omega))
    · exact hg.block k hk (ne k (by omega))
    · exact hg.block k hk (ne k (by omega))
    · exact hg.block k hk (ne k (by omega))
    · exact hg.block k hk (fun e => (hrow k e.symm).2 o hc)
  · exact ⟨hg.os.trans h.kp.os, hg.tape.trans h.kp.tape, hg.output.trans h.kp.output, Nat.le_trans h.kp.size hg.size, fun k hk a1 a2 a3 => by rw [hg.block k (Nat.lt_of_lt_of_le hk h.kp.size) (ne k (by omega))]; exact h.kp.block k hk a1 a2 a3⟩
theorem QW.below {w0 wr wr' : World} {pb c B : Nat} {ew en eu es ex : Addr} {l : List UInt8} {r : RS} {pv : Value} {T : Nat} {z xs : Array Value} (h : QW w0 wr pb c B ew en eu es ex l r pv T z xs) (hb : Below wr.heap.size wr wr') : QW w0 wr' pb c B ew en eu es ex l r pv T z xs := h.aside (grown_below hb none) (by simp)
theorem QW.start {w : World} {pb c B : Nat} {ew en eu es ex : Addr} {l : List UInt8} {r : RS} {pv : Value} (h : PR w pb c B ew en eu es ex l (absS l r) pv) (T : Nat) (hT : T ≠ 182) (z xs : Array Value) : QW w ((w.alloc (.cells z T)).alloc (.cells xs T)) pb c B ew en eu es ex l r pv T z xs := by
  have hb : Below w.heap.size w ((w.alloc (.cells z T)).alloc (.cells xs T)) := ((Below.refl _ _).alloc (Nat.le_refl _) _).alloc (by simp) _
  refine ⟨h.aside hb, KP.below hb, ?_, ?_, h.lt, hT⟩
  · rw [Below.heap_alloc _ _ _ (by simp), heap_new]
  · have := heap_new (w.alloc (.cells z T)) (.cells xs T)
    simpa using this
theorem QW.cell {w0 wr : World} {pb c B : Nat} {ew en eu es ex : Addr} {l : List UInt8} {r : RS} {pv : Value} {T : Nat} {z xs : Array Value} (h : QW w0 wr pb c B ew en eu es ex l r pv T z xs) (i : Nat) : wr.cell? ⟨w0.heap.size + 1, i, none⟩ = xs[i]? := cell_of_blk h.loc
theorem QW.fz {w0 wr : World} {pb c B : Nat} {ew en eu es ex : Addr} {l : List UInt8} {r : RS} {pv : Value} {T : Nat} {z xs : Array Value} (h : QW w0 wr pb c B ew en eu es ex l r pv T z xs) (i : Nat) : wr.frozen? ⟨w0.heap.size + 1, i, none⟩ = false := frozen_of_blk h.loc
theorem QW.cellz {w0 wr : World} {pb c B : Nat} {ew en eu es ex : Addr} {l : List UInt8} {r : RS} {pv : Value} {T : Nat} {z xs : Array Value} (h : QW w0 wr pb c B ew en eu es ex l r pv T z xs) (i : Nat) : wr.cell? ⟨w0.heap.size, i, none⟩ = z[i]? := cell_of_blk h.res
theorem QW.fzz {w0 wr : World} {pb c B : Nat} {ew en eu es ex : Addr} {l : List UInt8} {r : RS} {pv : Value} {T : Nat} {z xs : Array Value} (h : QW w0 wr pb c B ew en eu es ex l r pv T z xs) (i : Nat) : wr.frozen? ⟨w0.heap.size, i, none⟩ = false := frozen_of_blk h.res
end Go.Proofs.YteioennfpkoagaaGreatDoor
