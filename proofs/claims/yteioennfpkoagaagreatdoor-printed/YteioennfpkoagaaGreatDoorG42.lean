import Derived.Test.YteioennfpkoagaaGreatDoorG27
import Derived.KernelRfl
import Derived.Test.YteioennfpkoagaaGreatDoorG14
namespace Go.Proofs.YteioennfpkoagaaGreatDoor
open Go.RowKit

def kText : List UInt8 := [109, 111, 100, 117, 108, 101, 32, 55, 59, 112, 97, 114, 116, 105, 116, 105, 111, 110, 32, 120, 123, 112, 101, 114, 105, 111, 100, 32, 55, 59, 100, 117, 114, 97, 116, 105, 111, 110, 32, 55, 59, 102, 97, 117, 108, 116, 32, 114, 101, 115, 116, 97, 114, 116, 59, 125]
set_option maxRecDepth 100000 in
theorem k_tok : TokN kText 17 := by
  refine ⟨by decide, by kernel_rfl, ?_⟩
  have h : (List.range 16).all (fun j => decide (pos kText j < kText.length)) = true := by kernel_rfl
  intro j hj
  rw [List.all_eq_true] at h
  have := h j (by simp; omega)
  simpa using this
set_option maxRecDepth 100000 in
theorem k_e : (parseR kText 17).2.e = 0 := by kernel_rfl
set_option maxRecDepth 100000 in
theorem k_f : (parseR kText 17).1.frame = 7 := by kernel_rfl
set_option maxRecDepth 100000 in
theorem k_p : (parseR kText 17).1.parts.length = 1 := by kernel_rfl
set_option maxRecDepth 100000 in
theorem k_a : (parseR kText 17).1.parts.map Part.action = [3] := by kernel_rfl
end Go.Proofs.YteioennfpkoagaaGreatDoor
namespace Go.Proofs.YteioennfpkoagaaGreatDoor
open Go.RowKit

def kArr : ByteArray := ⟨#[109, 111, 100, 117, 108, 101, 32, 55, 59, 112, 97, 114, 116, 105, 116, 105, 111, 110, 32, 120, 123, 112, 101, 114, 105, 111, 100, 32, 55, 59, 100, 117, 114, 97, 116, 105, 111, 110, 32, 55, 59, 102, 97, 117, 108, 116, 32, 114, 101, 115, 116, 97, 114, 116, 59, 125]⟩
theorem k_arr : kArr.data.toList = kText := rfl
theorem k_parse (w : World) (B : Nat) (ew en eu es ex : Addr) (hg : GL w B ew en eu es ex) :
    Calls Tryz.prog 13 #[.string kArr] w fun e w' => Below w.heap.size w w' ∧ ∃ g cap ua un uc, e = .returned (.tuple #[.agg #[.int .i64 7, .slice (some ⟨g, 0, none⟩) 1 cap, .slice ua un uc], .agg #[.int .i64 0, .int .i64 0], .int .i64 0]) ∧ w'.cell? ⟨g, 3, none⟩ = some (.int .i64 3) := by
  have hsz : kArr.size = 56 := rfl
  have ho : outF kArr 17 = ⟨7, (parseR kText 17).1.parts, (parseR kText 17).1.chans, 0, 0, 0⟩ := by
    unfold outF
    rw [if_neg (by rw [hsz]; decide), k_arr, if_neg (by rw [k_e]; simp), k_f]
  have hm := manParse_out w B ew en eu es ex 17 kArr hg (by rw [k_arr]; exact k_tok) (fun _ => by decide)
  rw [ho] at hm
  unfold ansV at hm
  have hp := k_p
  have ha := k_a
  generalize (parseR kText 17).1.parts = ps at *
  generalize (parseR kText 17).1.chans = cs at *
  clear ho
  refine hm.mono ?_
  rintro e w' ⟨hb, v, vs, cv, rfl, _, ⟨h1, h2, _⟩, hco⟩
  simp only [] at h1 h2 hco
  obtain ⟨ua, uc, rfl⟩ := own_shape hco
  obtain ⟨p, rfl⟩ := List.length_eq_one_iff.1 hp
  obtain ⟨u, rfl⟩ := List.length_eq_one_iff.1 h1.symm
  have hx : p.action = 3 := by simpa using ha
  rcases own_nil_or h2 with ⟨h0, _⟩ | ⟨g, cap, rfl⟩
  · simp at h0
  refine ⟨hb, g, cap, ua, _, uc, rfl, ?_⟩
  rw [own_cells h2 3 (by simp)]
  simp [partRows, partCells, hx]
end Go.Proofs.YteioennfpkoagaaGreatDoor
namespace Go.Proofs.YteioennfpkoagaaGreatDoor
open Go.RowKit
attribute [local go_sem ↓] Go.wp_at_zero Go.wp_at_succ

set_option maxRecDepth 100000 in
set_option maxHeartbeats 4000000 in
theorem texts_true (w : World) (ew en eu es ex : Addr) (va : Option Addr) (n cap : Nat) (ss : Nat → ByteArray) (hg : GL w w.heap.size ew en eu es ex) (hn : n ≤ 1048576) (hv : ∀ i, i < n → ∃ a, va = some a ∧ a.block < w.heap.size ∧ w.cell? (a.add i) = some (.string (ss i))) :
    Calls Tryz.prog 3 #[.slice va n cap] w fun e w' => e = .returned (.bool true) ∧ Below w.heap.size w w' := by
  have HG : Hid _ := hg
  have HV : Hid _ := hv
  clear hg hv
  go_enter Tryz.func3, Tryz.ntmps3
  go_wp2_with fail
  have hb0 : Below w.heap.size w (w.alloc (.cells #[.slice none 0 0, .slice none 0 0, .slice none 0 0, .slice none 0 0] 29)) := (Below.refl _ _).alloc (Nat.le_refl _) _
  have hk0 : BookOK (w.alloc (.cells #[.slice none 0 0, .slice none 0 0, .slice none 0 0, .slice none 0 0] 29)) w.heap.size w.heap.size (.slice none 0 0) (.slice none 0 0) (.slice none 0 0) [] [] [] :=
    ⟨heap_new _ _, Nat.le_refl _, World.ownsRow_nil _ _ _ _, World.ownsRow_nil _ _ _ _, World.ownsRow_nil _ _ _ _, fun i h => absurd h (by simp), fun i h => absurd h (by simp), fun i h => absurd h (by simp), rfl, rfl, rfl⟩
  have hg0 := HG.out.below hb0
  generalize w.alloc (.cells #[.slice none 0 0, .slice none 0 0, .slice none 0 0, .slice none 0 0] 29) = W0 at *
  refine (parsed_true W0 w.heap.size w.heap.size ew en eu es ex _ _ _ [] [] [] _ hg0 hk0 (by simp) (by simp) (by simp)).mono ?_
  rintro e W1 ⟨rfl, rv, pv, cv, R, P, C, hk1, hR1, hP1, hC1, hb1⟩
  have hg1 := hg0.below hb1
  have b01 := hb0.trans hb1
  clear hg0 hk0 hb0 hb1
  go_wp2_with fail
  refine (k_parse W1 _ ew en eu es ex hg1).mono ?_
  rintro e W2 ⟨hb2, g, cap2, ua, un, uc, rfl, hact⟩
  have hk2 := hk1.below hb2
  have hgl := World.block_lt_of_cell? W2 _ hact
  have b02 := b01.trans (hb2.mono b01.size)
  clear hk1 hg1 hb2 b01
  have hb3 : Below W2.heap.size W2 ((W2.alloc (.cells #[.int .i64 7, .slice (some ⟨g, 0, none⟩) 1 cap2, .slice ua un uc] 34)).alloc (.cells #[.int .i64 0, .int .i64 0] 36)) := ((Below.refl _ _).alloc (Nat.le_refl _) _).alloc (by simp) _
  have hact3 := (hb3.cell (p := ⟨g, 3, none⟩) hgl).trans hact
  have hk3 := hk2.below hb3
  have b03 := b02.trans (hb3.mono b02.size)
  clear hk2 hact hgl b02 hb3
  go_wp2_with fail
  have hk3' := hk3
  clear hk3 hact3
  generalize ((W2.alloc (.cells #[.int .i64 7, .slice (some ⟨g, 0, none⟩) 1 cap2, .slice ua un uc] 34)).alloc (.cells #[.int .i64 0, .int .i64 0] 36)) = W3 at *
  have hw2 : IntKind.i64.wrap (2 * (n : Int)) = 2 * (n : Int) := wrap_small _ (by omega) (by omega)
  go_loopw [8] (fun i wr => ∃ (k : Nat) (rv pv cv : Value) (R P C : List Value), i = .int .i64 k ∧ k ≤ 2 * n ∧ BookOK wr w.heap.size w.heap.size rv pv cv R P C ∧ R.length ≤ 32772 * (k + 1) ∧ P.length = 4 * (k + 1) ∧ C.length = 4 * (k + 1) ∧ Below w.heap.size w wr) (fun i _ => 2 * n - (intOf i).toNat)
  case atStart => exact ⟨0, rv, pv, cv, R, P, C, rfl, by omega, hk3', by simpa using hR1, by simpa using hP1, by simpa using hC1, b03⟩
  case round =>
    obtain ⟨k, rv, pv, cv, R, P, C, rfl, hk, hbk, hR, hP, hC, hbel⟩ := hrel
    have hgr := HG.out.below hbel
    by_cases hlt : k < 2 * n
    · have hn0 : 0 < n := by omega
      have hmod : k % n < n := Nat.mod_lt _ hn0
      obtain ⟨a, rfl, hab, hac⟩ := HV.out (k % n) hmod
      have hq : Int.tmod (k : Int) (n : Int) = ((k % n : Nat) : Int) := by rw [Int.tmod_eq_emod_of_nonneg (by omega)]; omega
      have c0 : wr.cell? (a.add (k % n)) = some (.string (ss (k % n))) := (hbel.cell (by unfold Addr.add; split <;> exact hab)).trans hac
      have hlt' : (k : Int) < 2 * (n : Int) := by omega
      have hk0 : (0 : Int) ≤ (k : Int) := by omega
      have hnn : ((n : Int) == 0) = false := by simp; omega
      generalize k % n = r at *
      have hr' : (r : Int) < (n : Int) := by omega
      have hr0 : (0 : Int) ≤ (r : Int) := by omega
      go_wp2_with fail
      refine (parsed_true wr _ _ ew en eu es ex rv pv cv R P C _ hgr hbk (by omega) (by omega) (by omega)).mono ?_
      rintro e V1 ⟨rfl, rv1, pv1, cv1, R1, P1, C1, hk1, hR2, hP2, hC2, hb1⟩
      clear c0
      go_wp2_with fail
      refine (whole_true V1 _ _ rv1 pv1 cv1 R1 P1 C1 hk1 (by omega) (by omega) (by omega)).mono ?_
      rintro e V2 ⟨rfl, hb2⟩
      have b2 := hbel.trans (hb1.trans (hb2.mono (Nat.le_trans hbel.size hb1.size)))
      have hk2 := hk1.below hb2
      go_wp2_with fail
      go_roundw
      case rel => exact ⟨k + 1, rv1, pv1, cv1, R1, P1, C1, by go_num, by omega, hk2, by omega, by omega, by omega, b2⟩
      case measure => simp [intOf]; omega
    · have hlt' : ¬ (k : Int) < 2 * (n : Int) := by omega
      go_wp2_with fail
      refine (whole_true wr _ _ rv pv cv R P C hbk (by omega) (by omega) (by omega)).mono ?_
      rintro e V2 ⟨rfl, hb2⟩
      go_wp2_with fail
      go_ret
      exact ⟨rfl, hbel.trans (hb2.mono hbel.size)⟩
end Go.Proofs.YteioennfpkoagaaGreatDoor
