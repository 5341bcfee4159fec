import Derived.Test.YteioennfpkoagaaGreatDoorG16
import Derived.Test.YteioennfpkoagaaGreatDoorG09
namespace Go.Proofs.YteioennfpkoagaaGreatDoor
open Go.RowKit
attribute [local go_sem ↓] Go.wp_at_zero Go.wp_at_succ

/- the kind of a token: 1 a word, 2 a number, 0 another -/
def kindF : List UInt8 → Nat
  | [] => 0
  | b :: _ => if smallB b.toNat = true then 1 else if digitB b.toNat = true then 2 else 0
/- a misfit in block mb -/
def MisAt (w : World) (mb : Nat) (eb : Addr) (ln cl : Int) : Prop := w.heap[mb]? = some (.cells #[errV eb, .int .i64 ln, .int .i64 cl] 182 (0, 0))
def misV (mb : Nat) : Value := .iface 178 (.pointer (some ⟨mb, 0, none⟩))
def zTok : Value := .agg #[.int .i64 0, .string ⟨#[]⟩, .int .i64 0, .int .i64 0, .int .i64 0]

theorem kind_at (s : ByteArray) (h : 0 < s.size) : kindF s.data.toList = if smallB s[0].toNat = true then 1 else if digitB s[0].toNat = true then 2 else 0 := by
  have := drop_cons s 0 h
  simp only [List.drop_zero] at this
  rw [this]; rfl

set_option maxRecDepth 100000 in
set_option maxHeartbeats 1000000 in
theorem newToken_word (s : ByteArray) (ln cl : Int) (w : World) {B : Nat} {ew en eu es ex : Addr} (hg : GL w B ew en eu es ex) (h1 : 1 ≤ s.size) (hs : s.size ≤ 8192) (hd : smallB s[0].toNat = true) :
    Calls Tryz.prog 141 #[.string s, .agg #[.int .i64 ln, .int .i64 cl]] w fun e w' => Below w.heap.size w w' ∧ (¬ 16 < s.size ∧ e = .returned (.tuple #[.agg #[.int .i64 1, .string s, .int .i64 0, .int .i64 ln, .int .i64 cl], .nilIface]) ∨ 16 < s.size ∧ ∃ mb, e = .returned (.tuple #[zTok, misV mb]) ∧ w.heap.size ≤ mb ∧ MisAt w' mb ew ln cl) := by
  have hne : (s.toList == []) = false := by
    rw [ByteArray.toList_eq]
    have e1 := drop_cons s 0 (by omega)
    simp only [List.drop_zero] at e1
    rw [e1]; rfl
  go_enter Tryz.func141, Tryz.ntmps141
  go_wp2_with fail
  refine (isLetter_any _ _).mono ?_
  rintro e w1 ⟨rfl, rfl⟩
  rw [hd]
  go_wp2_with fail
  have hb1 : Below B w (((w.alloc (Obj.cells #[.int .i64 ln, .int .i64 cl] 36)).alloc (Obj.cells #[.int .i64 0, .string ⟨#[]⟩, .int .i64 0, .int .i64 0, .int .i64 0] 175)).alloc (Obj.cells #[.int .i64 0, .string s, .int .i64 0, .int .i64 ln, .int .i64 cl] 175)) := by
    have := hg.size
    exact (((Below.refl _ _).alloc this _).alloc (by simp; omega) _).alloc (by simp; omega) _
  refine (checkWord_any s _ (hg.below hb1) hs).mono ?_
  rintro e w1 ⟨rfl, rfl⟩
  by_cases h16 : 16 < s.size
  · rw [if_pos h16]
    unfold errV
    go_wp2_with fail
    go_region
    go_wp2_with fail
    refine bodyPost_ret (v := .tuple #[zTok, misV (w.heap.size + 1 + 1 + 1)]) (by simp [results, Tryz.results141, go_sem, zTok, misV]) rfl ⟨?_, .inr ⟨h16, _, rfl, by omega, ?_⟩⟩
    · exact ((((((Below.refl _ _).alloc (Nat.le_refl _) _).alloc (by simp) _).alloc (by simp; omega) _).alloc (by simp; omega) _)).drew
    · unfold MisAt errV
      have := heap_new (((w.alloc (Obj.cells #[.int .i64 ln, .int .i64 cl] 36)).alloc (Obj.cells #[.int .i64 0, .string ⟨#[]⟩, .int .i64 0, .int .i64 0, .int .i64 0] 175)).alloc (Obj.cells #[.int .i64 1, .string s, .int .i64 0, .int .i64 ln, .int .i64 cl] 175)) (Obj.cells #[.iface 359 (.pointer (some ew)), .int .i64 ln, .int .i64 cl] 182)
      simp only [World.size_alloc] at this
      exact this
  · rw [if_neg h16]
    go_wp2_with fail
    refine bodyPost_ret (v := .tuple #[.agg #[.int .i64 1, .string s, .int .i64 0, .int .i64 ln, .int .i64 cl], .nilIface]) (by simp [results, Tryz.results141, go_sem]) rfl ⟨?_, .inl ⟨h16, rfl⟩⟩
    exact (((Below.refl _ _).alloc (Nat.le_refl _) _).alloc (by simp) _).alloc (by simp; omega) _

set_option maxRecDepth 100000 in
set_option maxHeartbeats 1000000 in
theorem newToken_end (ln cl : Int) (w : World) :
    Calls Tryz.prog 141 #[.string ⟨#[]⟩, .agg #[.int .i64 ln, .int .i64 cl]] w fun e w' => Below w.heap.size w w' ∧ e = .returned (.tuple #[.agg #[.int .i64 0, .string ⟨#[]⟩, .int .i64 0, .int .i64 ln, .int .i64 cl], .nilIface]) := by
  go_enter Tryz.func141, Tryz.ntmps141
  go_wp2_with fail
  refine bodyPost_ret (v := .tuple #[.agg #[.int .i64 0, .string ⟨#[]⟩, .int .i64 0, .int .i64 ln, .int .i64 cl], .nilIface]) (by simp [results, Tryz.results141, go_sem]) rfl ⟨?_, rfl⟩
  exact (((Below.refl _ _).alloc (Nat.le_refl _) _).alloc (by simp) _).alloc (by simp; omega) _

set_option maxRecDepth 100000 in
set_option maxHeartbeats 1000000 in
theorem newToken_odd (s : ByteArray) (ln cl : Int) (w : World) (h1 : 1 ≤ s.size) (hd : smallB s[0].toNat = false) (hd2 : digitB s[0].toNat = false) :
    Calls Tryz.prog 141 #[.string s, .agg #[.int .i64 ln, .int .i64 cl]] w fun e w' => Below w.heap.size w w' ∧ e = .returned (.tuple #[.agg #[.int .i64 0, .string s, .int .i64 0, .int .i64 ln, .int .i64 cl], .nilIface]) := by
  have hne : (s.toList == []) = false := by
    rw [ByteArray.toList_eq]
    have e1 := drop_cons s 0 (by omega)
    simp only [List.drop_zero] at e1
    rw [e1]; rfl
  go_enter Tryz.func141, Tryz.ntmps141
  go_wp2_with (first | (go_at_call 176; refine (isLetter_any _ _).mono ?_; rintro e w' ⟨rfl, rfl⟩) | (go_at_call 198; refine (isDigit_any _ _).mono ?_; rintro e w' ⟨rfl, rfl⟩))
  refine bodyPost_ret (v := .tuple #[.agg #[.int .i64 0, .string s, .int .i64 0, .int .i64 ln, .int .i64 cl], .nilIface]) (by simp [results, Tryz.results141, go_sem]) rfl ⟨?_, rfl⟩
  exact (((Below.refl _ _).alloc (Nat.le_refl _) _).alloc (by simp) _).alloc (by simp; omega) _

set_option maxRecDepth 100000 in
set_option maxHeartbeats 1000000 in
theorem newToken_number (s : ByteArray) (ln cl : Int) (w : World) {B : Nat} {ew en eu es ex : Addr} (hg : GL w B ew en eu es ex) (h1 : 1 ≤ s.size) (hs : s.size ≤ 8192) (hd1 : smallB s[0].toNat = false) (hd : digitB s[0].toNat = true) :
    Calls Tryz.prog 141 #[.string s, .agg #[.int .i64 ln, .int .i64 cl]] w fun e w' => Below w.heap.size w w' ∧ (looksF 2 s.data.toList = 0 ∧ e = .returned (.tuple #[.agg #[.int .i64 2, .string s, .int .i64 (valF s.data.toList), .int .i64 ln, .int .i64 cl], .nilIface]) ∨ looksF 2 s.data.toList ≠ 0 ∧ ∃ mb, e = .returned (.tuple #[zTok, misV mb]) ∧ w.heap.size ≤ mb ∧ MisAt w' mb en ln cl) := by
  have hne : (s.toList == []) = false := by
    rw [ByteArray.toList_eq]
    have e1 := drop_cons s 0 (by omega)
    simp only [List.drop_zero] at e1
    rw [e1]; rfl
  go_enter Tryz.func141, Tryz.ntmps141
  go_wp2_with (first | (go_at_call 176; refine (isLetter_any _ _).mono ?_; rintro e w' ⟨rfl, rfl⟩) | (go_at_call 198; refine (isDigit_any _ _).mono ?_; rintro e w' ⟨rfl, rfl⟩))
  have hb1 : Below B w (((w.alloc (Obj.cells #[.int .i64 ln, .int .i64 cl] 36)).alloc (Obj.cells #[.int .i64 0, .string ⟨#[]⟩, .int .i64 0, .int .i64 0, .int .i64 0] 175)).alloc (Obj.cells #[.int .i64 2, .string s, .int .i64 0, .int .i64 ln, .int .i64 cl] 175)) := by
    have := hg.size
    exact (((Below.refl _ _).alloc this _).alloc (by simp; omega) _).alloc (by simp; omega) _
  have hb0 : Below w.heap.size w (((w.alloc (Obj.cells #[.int .i64 ln, .int .i64 cl] 36)).alloc (Obj.cells #[.int .i64 0, .string ⟨#[]⟩, .int .i64 0, .int .i64 0, .int .i64 0] 175)).alloc (Obj.cells #[.int .i64 2, .string s, .int .i64 0, .int .i64 ln, .int .i64 cl] 175)) := (((Below.refl _ _).alloc (Nat.le_refl _) _).alloc (by simp) _).alloc (by simp; omega) _
  have e2 : (((w.alloc (Obj.cells #[.int .i64 ln, .int .i64 cl] 36)).alloc (Obj.cells #[.int .i64 0, .string ⟨#[]⟩, .int .i64 0, .int .i64 0, .int .i64 0] 175)).alloc (Obj.cells #[.int .i64 2, .string s, .int .i64 0, .int .i64 ln, .int .i64 cl] 175)).heap[w.heap.size + 1 + 1]? = some (.cells #[.int .i64 2, .string s, .int .i64 0, .int .i64 ln, .int .i64 cl] 175 (0, 0)) := by
    have := heap_new ((w.alloc (Obj.cells #[.int .i64 ln, .int .i64 cl] 36)).alloc (Obj.cells #[.int .i64 0, .string ⟨#[]⟩, .int .i64 0, .int .i64 0, .int .i64 0] 175)) (Obj.cells #[.int .i64 2, .string s, .int .i64 0, .int .i64 ln, .int .i64 cl] 175)
    simpa using this
  have e1 : (((w.alloc (Obj.cells #[.int .i64 ln, .int .i64 cl] 36)).alloc (Obj.cells #[.int .i64 0, .string ⟨#[]⟩, .int .i64 0, .int .i64 0, .int .i64 0] 175)).alloc (Obj.cells #[.int .i64 2, .string s, .int .i64 0, .int .i64 ln, .int .i64 cl] 175)).heap[w.heap.size + 1]? = some (.cells #[.int .i64 0, .string ⟨#[]⟩, .int .i64 0, .int .i64 0, .int .i64 0] 175 (0, 0)) := by
    rw [Below.heap_alloc _ _ _ (by simp)]
    have := heap_new (w.alloc (Obj.cells #[.int .i64 ln, .int .i64 cl] 36)) (Obj.cells #[.int .i64 0, .string ⟨#[]⟩, .int .i64 0, .int .i64 0, .int .i64 0] 175)
    simpa using this
  have e0 : (((w.alloc (Obj.cells #[.int .i64 ln, .int .i64 cl] 36)).alloc (Obj.cells #[.int .i64 0, .string ⟨#[]⟩, .int .i64 0, .int .i64 0, .int .i64 0] 175)).alloc (Obj.cells #[.int .i64 2, .string s, .int .i64 0, .int .i64 ln, .int .i64 cl] 175)).heap[w.heap.size]? = some (.cells #[.int .i64 ln, .int .i64 cl] 36 (0, 0)) := by
    rw [Below.heap_alloc _ _ _ (by simp; omega), Below.heap_alloc _ _ _ (by simp)]
    exact heap_new w _
  have sz : (((w.alloc (Obj.cells #[.int .i64 ln, .int .i64 cl] 36)).alloc (Obj.cells #[.int .i64 0, .string ⟨#[]⟩, .int .i64 0, .int .i64 0, .int .i64 0] 175)).alloc (Obj.cells #[.int .i64 2, .string s, .int .i64 0, .int .i64 ln, .int .i64 cl] 175)).heap.size = w.heap.size + 3 := by simp
  generalize ((w.alloc (Obj.cells #[.int .i64 ln, .int .i64 cl] 36)).alloc (Obj.cells #[.int .i64 0, .string ⟨#[]⟩, .int .i64 0, .int .i64 0, .int .i64 0] 175)).alloc (Obj.cells #[.int .i64 2, .string s, .int .i64 0, .int .i64 ln, .int .i64 cl] 175) = V at *
  refine (numberValue_any s V (hg.below hb1) h1 hs hd).mono ?_
  rintro e V2 ⟨rfl, hb⟩
  rw [← hb.block _ (by omega)] at e0 e1 e2
  have hbb := hb0.trans (hb.mono (by omega))
  have szz : w.heap.size + 3 ≤ V2.heap.size := by have := hb.size; omega
  clear hb hb0 hb1 sz hg
  have p0 : V2.cell? ⟨w.heap.size, 0, none⟩ = some (.int .i64 ln) := by rw [cell_of_blk e0]; rfl
  have p1 : V2.cell? ⟨w.heap.size, 1, none⟩ = some (.int .i64 cl) := by rw [cell_of_blk e0]; rfl
  have r0 : V2.cell? ⟨w.heap.size + 1, 0, none⟩ = some (.int .i64 0) := by rw [cell_of_blk e1]; rfl
  have r1 : V2.cell? ⟨w.heap.size + 1, 1, none⟩ = some (.string ⟨#[]⟩) := by rw [cell_of_blk e1]; rfl
  have r2 : V2.cell? ⟨w.heap.size + 1, 2, none⟩ = some (.int .i64 0) := by rw [cell_of_blk e1]; rfl
  have r3 : V2.cell? ⟨w.heap.size + 1, 3, none⟩ = some (.int .i64 0) := by rw [cell_of_blk e1]; rfl
  have r4 : V2.cell? ⟨w.heap.size + 1, 4, none⟩ = some (.int .i64 0) := by rw [cell_of_blk e1]; rfl
  have rf : ∀ i, V2.frozen? ⟨w.heap.size + 1, i, none⟩ = false := fun i => frozen_of_blk e1
  have t0 : V2.cell? ⟨w.heap.size + 1 + 1, 0, none⟩ = some (.int .i64 2) := by rw [cell_of_blk e2]; rfl
  have t1 : V2.cell? ⟨w.heap.size + 1 + 1, 1, none⟩ = some (.string s) := by rw [cell_of_blk e2]; rfl
  have t2 : V2.cell? ⟨w.heap.size + 1 + 1, 2, none⟩ = some (.int .i64 0) := by rw [cell_of_blk e2]; rfl
  have t3 : V2.cell? ⟨w.heap.size + 1 + 1, 3, none⟩ = some (.int .i64 ln) := by rw [cell_of_blk e2]; rfl
  have t4 : V2.cell? ⟨w.heap.size + 1 + 1, 4, none⟩ = some (.int .i64 cl) := by rw [cell_of_blk e2]; rfl
  have tf : ∀ i, V2.frozen? ⟨w.heap.size + 1 + 1, i, none⟩ = false := fun i => frozen_of_blk e2
  by_cases hl : looksF 2 s.data.toList = 0
  · rw [if_pos hl]
    go_wp2_with fail
    refine bodyPost_ret (v := .tuple #[.agg #[.int .i64 2, .string s, .int .i64 (valF s.data.toList), .int .i64 ln, .int .i64 cl], .nilIface]) (by simp [results, Tryz.results141, go_sem, r0, r1, r2, r3, r4]) rfl ⟨?_, .inl ⟨hl, rfl⟩⟩
    exact (((((hbb.setCell (by simp; omega) _).setCell (by simp) _).setCell (by simp) _).setCell (by simp) _).setCell (by simp) _).setCell (by simp) _
  · rw [if_neg hl]
    unfold errV
    go_wp2_with fail
    have k0 : (V2.setCell ⟨w.heap.size + 1 + 1, 2, none⟩ (.int .i64 0)).heap[w.heap.size]? = some (.cells #[.int .i64 ln, .int .i64 cl] 36 (0, 0)) := by rw [blk_far _ _ (by omega)]; exact e0
    have k1 : (V2.setCell ⟨w.heap.size + 1 + 1, 2, none⟩ (.int .i64 0)).heap[w.heap.size + 1]? = some (.cells #[.int .i64 0, .string ⟨#[]⟩, .int .i64 0, .int .i64 0, .int .i64 0] 175 (0, 0)) := by rw [blk_far _ _ (by omega)]; exact e1
    have hb3 := hbb.setCell (p := ⟨w.heap.size + 1 + 1, 2, none⟩) (by simp; omega) (.int .i64 0)
    have sz3 : w.heap.size + 3 ≤ (V2.setCell ⟨w.heap.size + 1 + 1, 2, none⟩ (.int .i64 0)).heap.size := by simp [World.setCell]; omega
    clear p0 p1 r0 r1 r2 r3 r4 rf t0 t1 t2 t3 t4 tf e0 e1 e2 hbb szz
    generalize V2.setCell ⟨w.heap.size + 1 + 1, 2, none⟩ (.int .i64 0) = V3 at *
    have p0 : V3.cell? ⟨w.heap.size, 0, none⟩ = some (.int .i64 ln) := by rw [cell_of_blk k0]; rfl
    have p1 : V3.cell? ⟨w.heap.size, 1, none⟩ = some (.int .i64 cl) := by rw [cell_of_blk k0]; rfl
    have r0 : V3.cell? ⟨w.heap.size + 1, 0, none⟩ = some (.int .i64 0) := by rw [cell_of_blk k1]; rfl
    have r1 : V3.cell? ⟨w.heap.size + 1, 1, none⟩ = some (.string ⟨#[]⟩) := by rw [cell_of_blk k1]; rfl
    have r2 : V3.cell? ⟨w.heap.size + 1, 2, none⟩ = some (.int .i64 0) := by rw [cell_of_blk k1]; rfl
    have r3 : V3.cell? ⟨w.heap.size + 1, 3, none⟩ = some (.int .i64 0) := by rw [cell_of_blk k1]; rfl
    have r4 : V3.cell? ⟨w.heap.size + 1, 4, none⟩ = some (.int .i64 0) := by rw [cell_of_blk k1]; rfl
    have rf0 : V3.frozen? ⟨w.heap.size + 1, 0, none⟩ = false := frozen_of_blk k1
    have rf1 : V3.frozen? ⟨w.heap.size + 1, 1, none⟩ = false := frozen_of_blk k1
    have rf2 : V3.frozen? ⟨w.heap.size + 1, 2, none⟩ = false := frozen_of_blk k1
    have rf3 : V3.frozen? ⟨w.heap.size + 1, 3, none⟩ = false := frozen_of_blk k1
    have rf4 : V3.frozen? ⟨w.heap.size + 1, 4, none⟩ = false := frozen_of_blk k1
    have s0 : w.heap.size < V3.heap.size := by omega
    have s1 : w.heap.size + 1 < V3.heap.size := by omega
    go_region
    go_wp2_with fail
    have hsz : (((((V3.setCell ⟨w.heap.size + 1, 0, none⟩ (.int .i64 0)).setCell ⟨w.heap.size + 1, 1, none⟩ (.string ⟨#[]⟩)).setCell ⟨w.heap.size + 1, 2, none⟩ (.int .i64 0)).setCell ⟨w.heap.size + 1, 3, none⟩ (.int .i64 0)).setCell ⟨w.heap.size + 1, 4, none⟩ (.int .i64 0)).heap.size = V3.heap.size := by simp [World.setCell]
    have hnw := heap_new (((((V3.setCell ⟨w.heap.size + 1, 0, none⟩ (.int .i64 0)).setCell ⟨w.heap.size + 1, 1, none⟩ (.string ⟨#[]⟩)).setCell ⟨w.heap.size + 1, 2, none⟩ (.int .i64 0)).setCell ⟨w.heap.size + 1, 3, none⟩ (.int .i64 0)).setCell ⟨w.heap.size + 1, 4, none⟩ (.int .i64 0)) (Obj.cells #[errV en, .int .i64 ln, .int .i64 cl] 182)
    rw [hsz] at hnw
    have hb4 := ((((hb3.setCell (p := ⟨w.heap.size + 1, 0, none⟩) (by simp) (.int .i64 0)).setCell (p := ⟨w.heap.size + 1, 1, none⟩) (by simp) (.string ⟨#[]⟩)).setCell (p := ⟨w.heap.size + 1, 2, none⟩) (by simp) (.int .i64 0)).setCell (p := ⟨w.heap.size + 1, 3, none⟩) (by simp) (.int .i64 0)).setCell (p := ⟨w.heap.size + 1, 4, none⟩) (by simp) (.int .i64 0)
    refine bodyPost_ret (v := .tuple #[zTok, misV V3.heap.size]) (by simp [results, Tryz.results141, go_sem, zTok, misV, r0, r1, r2, r3, r4, s1]) rfl ⟨?_, .inr ⟨hl, _, rfl, by omega, hnw⟩⟩
    exact (hb4.alloc (by rw [hsz]; omega) _).drew
end Go.Proofs.YteioennfpkoagaaGreatDoor
