import Derived.Test.YteioennfpkoagaaDoorChkT
import Derived.Laws.MakeOwn
namespace Go.Proofs.YteioennfpkoagaaDoor.C
open Go.RowKit
attribute [local go_sem ↓] Go.wp_at_zero Go.wp_at_succ

/- what a new row of so many elements is -/
theorem infoPart : (Tryd.prog.info? 51).map (fun i => (i.zero.isSome, i.size, i.bytes)) = some (true, 5, 64) := by kernel_rfl
theorem infoReg : (Tryd.prog.info? 48).map (fun i => (i.zero.isSome, i.size, i.bytes)) = some (true, 3, 24) := by kernel_rfl
theorem infoChan : (Tryd.prog.info? 53).map (fun i => (i.zero.isSome, i.size, i.bytes)) = some (true, 6, 56) := by kernel_rfl
theorem make_row {t e size bytes : Nat} (ht : Tryd.prog.underlying t = some (.slice e)) (hi : (Tryd.prog.info? e).map (fun i => (i.zero.isSome, i.size, i.bytes)) = some (true, size, bytes)) (w : World) (c : Nat) (hb : bytes * c ≤ 281474976710656) (hc : c ≤ 9000000000000000000) :
    ∃ cs : Array Value, cs.size = c * size ∧ (Instr.makeSlice t (.int .i64 (c : Int)) (.int .i64 (c : Int))).run Tryd.prog w = .ok (.slice (some ⟨w.heap.size, 0, none⟩) c c) (w.alloc (.cells cs e)) := by
  obtain ⟨i, hi1, hi2⟩ := Option.map_eq_some_iff.1 hi
  simp only [Prod.mk.injEq] at hi2
  obtain ⟨hz, hs, hby⟩ := hi2
  obtain ⟨z, hz⟩ := Option.isSome_iff_exists.1 hz
  have hbc : i.bytes * c ≤ 281474976710656 := by rw [hby]; exact hb
  have hbi : (i.bytes : Int) * (c : Int) ≤ 281474976710656 := by
    have h : ((i.bytes * c : Nat) : Int) ≤ 281474976710656 := by omega
    rwa [Int.natCast_mul] at h
  have hr := run_make (P := Tryd.prog) w t e i z ht hi1 hz .i64 .i64 c c (by omega) (by omega) hbi (by omega)
  simp only [Int.toNat_natCast] at hr
  exact ⟨_, by rw [size_madeCells, hs], hr⟩

/- the caller's own marks -/
def badRC : List Value := [.int .i64 (-1000), .int .i64 3, .int .i64 9]
def badPC : List Value := [.string ⟨#[63, 63]⟩, .int .i64 (-1000), .int .i64 0, .int .i64 0, .slice none 0 0]
def badCC : List Value := [.string ⟨#[63, 63]⟩, .int .i64 (-1000), .int .i64 0, .int .i64 0, .int .i64 0, .int .i64 0]
set_option maxHeartbeats 400000 in
theorem badR_0 (w : World) : Calls Tryd.prog 15 #[.int .i64 0] w fun e w' => e = .returned (.agg #[.int .i64 (-1000), .int .i64 3, .int .i64 9]) ∧ Below w.heap.size w w' := by
  have h : IntKind.i64.wrap (-1000 - 0) = -1000 := by decide
  go_enter Tryd.func15, Tryd.ntmps15
  go_wp2_with fail
  refine bodyPost_ret (v := .agg #[.int .i64 (-1000), .int .i64 3, .int .i64 9]) (by simp [results, Tryd.results15, go_sem]) rfl ⟨rfl, ?_⟩
  exact (Below.refl _ _).alloc (Nat.le_refl _) _
set_option maxHeartbeats 400000 in
theorem badP_0 (w : World) : Calls Tryd.prog 14 #[.int .i64 0] w fun e w' => e = .returned (.agg #[.string ⟨#[63, 63]⟩, .int .i64 (-1000), .int .i64 0, .int .i64 0, .slice none 0 0]) ∧ Below w.heap.size w w' := by
  have h : IntKind.i64.wrap (-1000 - 0) = -1000 := by decide
  go_enter Tryd.func14, Tryd.ntmps14
  go_wp2_with fail
  refine bodyPost_ret (v := .agg #[.string ⟨#[63, 63]⟩, .int .i64 (-1000), .int .i64 0, .int .i64 0, .slice none 0 0]) (by simp [results, Tryd.results14, go_sem]) rfl ⟨rfl, ?_⟩
  exact (Below.refl _ _).alloc (Nat.le_refl _) _
set_option maxHeartbeats 400000 in
theorem badC_0 (w : World) : Calls Tryd.prog 16 #[.int .i64 0] w fun e w' => e = .returned (.agg #[.string ⟨#[63, 63]⟩, .int .i64 (-1000), .int .i64 0, .int .i64 0, .int .i64 0, .int .i64 0]) ∧ Below w.heap.size w w' := by
  have h : IntKind.i64.wrap (-1000 - 0) = -1000 := by decide
  go_enter Tryd.func16, Tryd.ntmps16
  go_wp2_with fail
  refine bodyPost_ret (v := .agg #[.string ⟨#[63, 63]⟩, .int .i64 (-1000), .int .i64 0, .int .i64 0, .int .i64 0, .int .i64 0]) (by simp [results, Tryd.results16, go_sem]) rfl ⟨rfl, ?_⟩
  exact (Below.refl _ _).alloc (Nat.le_refl _) _

/- the rows of a manifest's lists -/
def regC (r : RegD) : List Value := [.int .i64 r.page, .int .i64 r.pages, .int .i64 r.rights]
def regsC (rs : List RegD) : List Value := rs.flatMap regC
def chanC (c : ChanD) : List Value := [.string c.name, .int .i64 c.source, .int .i64 c.target, .int .i64 c.kind, .int .i64 c.size, .int .i64 c.depth]
def chansC (cs : List ChanD) : List Value := cs.flatMap chanC
def partC (x : PartD) (g : Nat) : List Value := [.string x.name, .int .i64 x.period, .int .i64 x.duration, .int .i64 x.action, .slice (some ⟨g, 0, none⟩) x.regs.length (x.regs.length + 8)]
def partsC : List PartD → List Nat → List Value
  | x :: ps, g :: gs => partC x g ++ partsC ps gs
  | _, _ => []
theorem regsC_len (rs : List RegD) : (regsC rs).length = rs.length * 3 := by
  induction rs with
  | nil => rfl
  | cons r rs ih =>
    show (regC r ++ regsC rs).length = _
    rw [List.length_append, ih]; simp [regC]; omega
theorem chansC_len (cs : List ChanD) : (chansC cs).length = cs.length * 6 := by
  induction cs with
  | nil => rfl
  | cons r rs ih =>
    show (chanC r ++ chansC rs).length = _
    rw [List.length_append, ih]; simp [chanC]; omega
theorem regsC_at (rs : List RegD) (i j : Nat) (hi : i < rs.length) (hj : j < 3) : (regsC rs)[i * 3 + j]? = (regC rs[i])[j]? := by
  induction rs generalizing i with
  | nil => simp at hi
  | cons r rs ih =>
    show (regC r ++ regsC rs)[i * 3 + j]? = _
    cases i with
    | zero => rw [List.getElem?_append_left (by simp [regC]; omega)]; simp
    | succ i =>
      rw [List.getElem?_append_right (by simp [regC]; omega)]
      have e : (i + 1) * 3 + j - (regC r).length = i * 3 + j := by simp [regC]; omega
      rw [e, ih i (by simpa using hi)]; simp
theorem chansC_at (rs : List ChanD) (i j : Nat) (hi : i < rs.length) (hj : j < 6) : (chansC rs)[i * 6 + j]? = (chanC rs[i])[j]? := by
  induction rs generalizing i with
  | nil => simp at hi
  | cons r rs ih =>
    show (chanC r ++ chansC rs)[i * 6 + j]? = _
    cases i with
    | zero => rw [List.getElem?_append_left (by simp [chanC]; omega)]; simp
    | succ i =>
      rw [List.getElem?_append_right (by simp [chanC]; omega)]
      have e : (i + 1) * 6 + j - (chanC r).length = i * 6 + j := by simp [chanC]; omega
      rw [e, ih i (by simpa using hi)]; simp
theorem partsC_len (ps : List PartD) (gs : List Nat) (h : gs.length ≤ ps.length) : (partsC ps gs).length = gs.length * 5 := by
  induction ps generalizing gs with
  | nil => have : gs = [] := List.eq_nil_of_length_eq_zero (by simpa using h)
           subst this; rfl
  | cons x ps ih =>
    cases gs with
    | nil => rfl
    | cons g gs => simp only [partsC, List.length_append, List.length_cons, ih gs (by simpa using h)]; simp [partC]; omega
theorem partsC_snoc (ps : List PartD) (gs : List Nat) (g : Nat) (h : gs.length < ps.length) : partsC ps (gs ++ [g]) = partsC ps gs ++ partC ps[gs.length] g := by
  induction ps generalizing gs with
  | nil => simp at h
  | cons x ps ih =>
    cases gs with
    | nil => cases ps <;> simp [partsC]
    | cons g' gs => simp only [List.cons_append, partsC, ih gs (by simpa using h), List.append_assoc]; simp
theorem partsC_at (ps : List PartD) (gs : List Nat) (i j : Nat) (hi : i < gs.length) (hp : gs.length ≤ ps.length) (hj : j < 5) : (partsC ps gs)[i * 5 + j]? = (partC ps[i] gs[i])[j]? := by
  induction ps generalizing gs i with
  | nil => simp at hp; subst hp; simp at hi
  | cons x ps ih =>
    cases gs with
    | nil => simp at hi
    | cons g gs =>
      show (partC x g ++ partsC ps gs)[i * 5 + j]? = _
      cases i with
      | zero => rw [List.getElem?_append_left (by simp [partC]; omega)]; simp
      | succ i =>
        rw [List.getElem?_append_right (by simp [partC]; omega)]
        have e : (i + 1) * 5 + j - (partC x g).length = i * 5 + j := by simp [partC]; omega
        rw [e, ih gs i (by simpa using hi) (by simpa using hp)]; simp
end Go.Proofs.YteioennfpkoagaaDoor.C
