import Derived.Test.YteioennfpkoagabGreatDoorH21
import Derived.Test.YteioennfpkoagabGreatDoorH22
import Derived.Test.YteioennfpkoagabGreatDoorH30
import Derived.Lib.LaidTab
import Derived.Test.YteioennfpkoagabGreatDoorH20
import Derived.Test.YteioennfpkoagabGreatDoorRows
namespace Go.Proofs.YteioennfpkoagabGreatDoor.C
open Go.ChangeShapes Go.WideShapes Go.ChangeAt Go.RowKit

section
variable {H : Type} {enc : TypeId × Value → H} {w : World} {base : Nat} {spare : Nat → Bool} {held : Bool}
theorem cStep : Tryz.prog.cellsOf 41 = 5 := by kernel_rfl
theorem fld_intR {n : Nat} {cs : List Value} {xs : List (DataW H × List MemPlace)} {fs : Array Field} (hf : ∀ (i : Nat) (f : Field), fs[i]? = some f → DataW.trod enc Tryz.prog w base spare held n f.type ((cs.drop f.offset).take (Tryz.prog.cellsOf f.type)) = xs[i]?)
    (i o : Nat) (hi : (fs[i]?).map (fun f => (f.type, f.offset)) = some (3, o)) (hx : i < xs.length) {v : Value} (hv : (cs.drop o).take 1 = [v]) : ∃ n, v = .int .i64 n ∧ inR n := by
  have h := fld hf i o 3 hi hx
  rw [cInt, hv] at h
  obtain ⟨n, hc, _, hw⟩ := DataW.trod_int Tryz.underlying3 h
  exact ⟨n, by simpa using hc, wf_in hw⟩
theorem fld_strR {n : Nat} {cs : List Value} {xs : List (DataW H × List MemPlace)} {fs : Array Field} (hf : ∀ (i : Nat) (f : Field), fs[i]? = some f → DataW.trod enc Tryz.prog w base spare held n f.type ((cs.drop f.offset).take (Tryz.prog.cellsOf f.type)) = xs[i]?)
    (i o : Nat) (hi : (fs[i]?).map (fun f => (f.type, f.offset)) = some (9, o)) (hx : i < xs.length) {v : Value} (hv : (cs.drop o).take 1 = [v]) : ∃ s : ByteArray, v = .string s ∧ s.size ≤ 9223372036854775807 := by
  have h := fld hf i o 9 hi hx
  rw [cStr, hv] at h
  obtain ⟨s, hc, _, hw⟩ := DataW.trod_string Tryz.underlying9 h
  exact ⟨s, by simpa using hc, hw⟩
theorem open_step {fuel : Nat} {cs : List Value} {x : DataW H × List MemPlace} (h : DataW.trod enc Tryz.prog w base spare held fuel 41 cs = some x) :
    ∃ r : StepD, cs = [.int .i64 r.kind, .int .i64 r.p, .int .i64 r.n, .int .i64 r.b, .string r.text] ∧ StepR r := by
  obtain ⟨xs, n, _, _, hl, hx, hf⟩ := DataW.trod_struct Tryz.underlying41 h
  rw [cStep] at hl
  obtain ⟨a, b, c, d, e, rfl⟩ := lst5 hl
  have hx5 : xs.length = 5 := hx
  obtain ⟨p, rfl, g1⟩ := fld_intR hf 0 0 rfl (by omega) rfl
  obtain ⟨q, rfl, g2⟩ := fld_intR hf 1 1 rfl (by omega) rfl
  obtain ⟨s, rfl, g3⟩ := fld_intR hf 2 2 rfl (by omega) rfl
  obtain ⟨u, rfl, g4⟩ := fld_intR hf 3 3 rfl (by omega) rfl
  obtain ⟨v, rfl, g5⟩ := fld_strR hf 4 4 rfl (by omega) rfl
  exact ⟨⟨p, q, s, u, v⟩, rfl, ⟨g1, g2, g3, g4, g5⟩⟩
theorem open_steps {fuel : Nat} {cs : List Value} {x : DataW H × List MemPlace} (h : DataW.trod enc Tryz.prog w base spare held fuel 23 cs = some x) :
    ∃ v os, cs = [v] ∧ os.length + 1 ≤ Rows.uptoBulk x.1 ∧ (os.length ≤ 1152921504606846976 → StepsV w v os) := by
  obtain ⟨va, n, cap, rfl, hbk, hrow⟩ := open_rows Tryz.underlying23 cStep (by omega) h
  obtain ⟨rs, hl, hr⟩ := list_of (p := fun i (r : StepD) => StepR r ∧ ∃ b off, va = some ⟨b, off, none⟩ ∧ w.cell? ⟨b, off + i * 5, none⟩ = some (.int .i64 r.kind) ∧ w.cell? ⟨b, off + i * 5 + 1, none⟩ = some (.int .i64 r.p) ∧ w.cell? ⟨b, off + i * 5 + 2, none⟩ = some (.int .i64 r.n) ∧ w.cell? ⟨b, off + i * 5 + 3, none⟩ = some (.int .i64 r.b) ∧ w.cell? ⟨b, off + i * 5 + 4, none⟩ = some (.string r.text)) n (fun i hi => by
    obtain ⟨b, off, row, y, k, e1, e2, e3, e4, _⟩ := hrow i hi
    obtain ⟨r, rfl, hg⟩ := open_step e4
    exact ⟨r, hg, b, off, e1, e3 0 (by omega), e3 1 (by omega), e3 2 (by omega), e3 3 (by omega), e3 4 (by omega)⟩)
  subst hl
  refine ⟨_, rs, rfl, hbk, fun hlen => ⟨hlen, fun x hx => ?_, va, cap, rfl, fun i hi => (hr i hi).2⟩⟩
  obtain ⟨i, hi, rfl⟩ := List.getElem_of_mem hx
  exact (hr i hi).1
end
theorem filtNoneK : (Rows.aheadUptoRow.laid.filter fun x => x.2.handleName?.isNone) = Rows.aheadUptoRow.laid := by kernel_rfl
theorem filtSomeK : (Rows.aheadUptoRow.laid.filter fun x => x.2.handleName?.isSome) = [] := by kernel_rfl
theorem laid_allK {W : World} (h : laidMetH Tryz.prog Rows.aheadUptoRow.laid W) : laidMet Tryz.prog Rows.aheadUptoRow.laid W := by
  unfold laidMetH at h
  rw [filtSomeK, filtNoneK] at h
  exact h
theorem tb_of_laidK {W : World} (h : laidMetH Tryz.prog Rows.aheadUptoRow.laid W) : TB W := by
  have h3 := (laid_allK h).tail.tail
  exact Lib.tabIs_of_head (g := 0) (t := 175) (e := 169) (n := 20) (rest := []) (by kernel_rfl) (by kernel_rfl) Tryz.underlying175 Tryz.underlying169 (by kernel_rfl) (by kernel_rfl) h3
/- a world for the witness -/
def tab32K : Array Value := #[.int .u8 0, .int .u8 1, .int .u8 28, .int .u8 2, .int .u8 29, .int .u8 14, .int .u8 24, .int .u8 3, .int .u8 30, .int .u8 22, .int .u8 20, .int .u8 15, .int .u8 25, .int .u8 17, .int .u8 4, .int .u8 8, .int .u8 31, .int .u8 27, .int .u8 13, .int .u8 23, .int .u8 21, .int .u8 19, .int .u8 16, .int .u8 7, .int .u8 26, .int .u8 12, .int .u8 18, .int .u8 6, .int .u8 11, .int .u8 5, .int .u8 10, .int .u8 9]
def tab64K : Array Value := #[.int .u8 0, .int .u8 1, .int .u8 56, .int .u8 2, .int .u8 57, .int .u8 49, .int .u8 28, .int .u8 3, .int .u8 61, .int .u8 58, .int .u8 42, .int .u8 50, .int .u8 38, .int .u8 29, .int .u8 17, .int .u8 4, .int .u8 62, .int .u8 47, .int .u8 59, .int .u8 36, .int .u8 45, .int .u8 43, .int .u8 51, .int .u8 22, .int .u8 53, .int .u8 39, .int .u8 33, .int .u8 30, .int .u8 24, .int .u8 18, .int .u8 12, .int .u8 5, .int .u8 63, .int .u8 55, .int .u8 48, .int .u8 27, .int .u8 60, .int .u8 41, .int .u8 37, .int .u8 16, .int .u8 46, .int .u8 35, .int .u8 44, .int .u8 21, .int .u8 52, .int .u8 32, .int .u8 23, .int .u8 11, .int .u8 54, .int .u8 26, .int .u8 40, .int .u8 15, .int .u8 34, .int .u8 20, .int .u8 31, .int .u8 10, .int .u8 25, .int .u8 14, .int .u8 19, .int .u8 9, .int .u8 13, .int .u8 8, .int .u8 7, .int .u8 6]
def tabTenK : Array Value := #[.int .u64 1, .int .u64 10, .int .u64 100, .int .u64 1000, .int .u64 10000, .int .u64 100000, .int .u64 1000000, .int .u64 10000000, .int .u64 100000000, .int .u64 1000000000, .int .u64 10000000000, .int .u64 100000000000, .int .u64 1000000000000, .int .u64 10000000000000, .int .u64 100000000000000, .int .u64 1000000000000000, .int .u64 10000000000000000, .int .u64 100000000000000000, .int .u64 1000000000000000000, .int .u64 10000000000000000000]
def putK (cs : Array Value) : Obj → Obj
  | .cells _ t z => .cells cs t z
  | o => o
def baseK (P : Program) (os : Os) : World := World.holding P os ⟨#[], #[], []⟩
def laidK (P : Program) (os : Os) : World :=
  { baseK P os with heap := (((baseK P os).heap.modify 1 (putK tab32K)).modify 2 (putK tab64K)).modify 0 (putK tabTenK) }
end Go.Proofs.YteioennfpkoagabGreatDoor.C
namespace Go.Proofs.YteioennfpkoagabGreatDoor.C
open Go.ChangeShapes Go.WideShapes Go.ChangeAt Go.RowKit

/- a list of an argument is no longer than its room -/
theorem rows_w {H : Type} {enc : TypeId × Value → H} {w : World} {base : Nat} {spare : Nat → Bool} {held : Bool} {t e : TypeId} {fuel n cap : Nat} {va : Option Addr} {x : DataW H × List MemPlace} (ht : Tryz.prog.underlying t = some (.slice e))
    (h : DataW.trod enc Tryz.prog w base spare held fuel t [.slice va n cap] = some x) (hw : (x.1.weights Tryz.prog t).all (· ≤ reachBytes) = true) : n * Tryz.prog.bytesOf e ≤ 140737488351232 := by
  rcases DataW.trod_slice ht h with ⟨hc, _⟩ | ⟨a, len, cap', elems, rest, m, _, hc, hx, _, _, _, hlen, _⟩
  · have : n = 0 := by simpa using (show (Value.slice va n cap) = .slice none 0 0 from by simpa using hc) |> fun e => by injection e
    rw [this]; omega
  · have hn : n = len := by
      have e1 : (Value.slice va n cap) = .slice (some a) len cap' := by simpa using hc
      injection e1
    rw [hx] at hw
    simp only [DataW.weights, ht, List.all_cons, Bool.and_eq_true, decide_eq_true_eq, List.length_map] at hw
    have h1 := hw.1
    have h2 : n * Tryz.prog.bytesOf e ≤ (elems.length + rest.length) * Tryz.prog.bytesOf e := Nat.mul_le_mul_right _ (by omega)
    unfold reachBytes at h1
    omega
end Go.Proofs.YteioennfpkoagabGreatDoor.C
namespace Go.Proofs.YteioennfpkoagabGreatDoor.C
open Go.ChangeShapes Go.WideShapes Go.ChangeAt Go.RowKit

section
variable {H : Type} {enc : TypeId × Value → H} {w : World} {base : Nat} {spare : Nat → Bool} {held : Bool}
theorem bStep : Tryz.prog.bytesOf 41 = 48 := by kernel_rfl
theorem open_stepsF {fuel : Nat} {cs : List Value} {x : DataW H × List MemPlace} (h : DataW.trod enc Tryz.prog w base spare held fuel 23 cs = some x) (hw : (x.1.weights Tryz.prog 23).all (· ≤ reachBytes) = true) :
    ∃ v os, cs = [v] ∧ StepsV w v os := by
  obtain ⟨va, n, cap, rfl, _, hrow⟩ := open_rows Tryz.underlying23 cStep (by omega) h
  have hn := rows_w Tryz.underlying23 h hw
  rw [bStep] at hn
  obtain ⟨rs, hl, hr⟩ := list_of (p := fun i (r : StepD) => StepR r ∧ ∃ b off, va = some ⟨b, off, none⟩ ∧ w.cell? ⟨b, off + i * 5, none⟩ = some (.int .i64 r.kind) ∧ w.cell? ⟨b, off + i * 5 + 1, none⟩ = some (.int .i64 r.p) ∧ w.cell? ⟨b, off + i * 5 + 2, none⟩ = some (.int .i64 r.n) ∧ w.cell? ⟨b, off + i * 5 + 3, none⟩ = some (.int .i64 r.b) ∧ w.cell? ⟨b, off + i * 5 + 4, none⟩ = some (.string r.text)) n (fun i hi => by
    obtain ⟨b, off, row, y, k, e1, e2, e3, e4, _⟩ := hrow i hi
    obtain ⟨r, rfl, hg⟩ := open_step e4
    exact ⟨r, hg, b, off, e1, e3 0 (by omega), e3 1 (by omega), e3 2 (by omega), e3 3 (by omega), e3 4 (by omega)⟩)
  subst hl
  refine ⟨_, rs, rfl, by omega, fun x hx => ?_, va, cap, rfl, fun i hi => (hr i hi).2⟩
  obtain ⟨i, hi, rfl⟩ := List.getElem_of_mem hx
  exact (hr i hi).1
end
end Go.Proofs.YteioennfpkoagabGreatDoor.C
