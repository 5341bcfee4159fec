import Derived.Test.YteioennfpkoagaaGreatDoorLawH
import Derived.KernelRfl
namespace Go.Proofs.YteioennfpkoagaaGreatDoor
open Go.RowKit

def kText : List UInt8 := [109, 111, 100, 117, 108, 101, 32, 55, 59, 112, 97, 114, 116, 105, 116, 105, 111, 110, 32, 120, 123, 112, 101, 114, 105, 111, 100, 32, 55, 59, 100, 117, 114, 97, 116, 105, 111, 110, 32, 55, 59, 102, 97, 117, 108, 116, 32, 114, 101, 115, 116, 97, 114, 116, 59, 125]
set_option maxRecDepth 100000 in
theorem k_tok : TokN kText 17 := by
  refine ⟨by decide, by kernel_rfl, ?_⟩
  have h : (List.range 16).all (fun j => decide (pos kText j < kText.length)) = true := by kernel_rfl
  intro j hj
  rw [List.all_eq_true] at h
  have := h j (by simp; omega)
  simpa using this
set_option maxRecDepth 100000 in
theorem k_e : (parseR kText 17).2.e = 0 := by kernel_rfl
set_option maxRecDepth 100000 in
theorem k_f : (parseR kText 17).1.frame = 7 := by kernel_rfl
set_option maxRecDepth 100000 in
theorem k_p : (parseR kText 17).1.parts.length = 1 := by kernel_rfl
set_option maxRecDepth 100000 in
theorem k_a : (parseR kText 17).1.parts.map Part.action = [3] := by kernel_rfl
end Go.Proofs.YteioennfpkoagaaGreatDoor
namespace Go.Proofs.YteioennfpkoagaaGreatDoor
open Go.RowKit

def kArr : ByteArray := ⟨#[109, 111, 100, 117, 108, 101, 32, 55, 59, 112, 97, 114, 116, 105, 116, 105, 111, 110, 32, 120, 123, 112, 101, 114, 105, 111, 100, 32, 55, 59, 100, 117, 114, 97, 116, 105, 111, 110, 32, 55, 59, 102, 97, 117, 108, 116, 32, 114, 101, 115, 116, 97, 114, 116, 59, 125]⟩
theorem k_arr : kArr.data.toList = kText := rfl
theorem k_parse (w : World) (B : Nat) (ew en eu es ex : Addr) (hg : GL w B ew en eu es ex) :
    Calls Tryz.prog 13 #[.string kArr] w fun e w' => Below w.heap.size w w' ∧ ∃ g cap ua un uc, e = .returned (.tuple #[.agg #[.int .i64 7, .slice (some ⟨g, 0, none⟩) 1 cap, .slice ua un uc], .agg #[.int .i64 0, .int .i64 0], .int .i64 0]) ∧ w'.cell? ⟨g, 3, none⟩ = some (.int .i64 3) := by
  have hsz : kArr.size = 56 := rfl
  have ho : outF kArr 17 = ⟨7, (parseR kText 17).1.parts, (parseR kText 17).1.chans, 0, 0, 0⟩ := by
    unfold outF
    rw [if_neg (by rw [hsz]; decide), k_arr, if_neg (by rw [k_e]; simp), k_f]
  have hm := manParse_out w B ew en eu es ex 17 kArr hg (by rw [k_arr]; exact k_tok) (fun _ => by decide)
  rw [ho] at hm
  unfold ansV at hm
  have hp := k_p
  have ha := k_a
  generalize (parseR kText 17).1.parts = ps at *
  generalize (parseR kText 17).1.chans = cs at *
  clear ho
  refine hm.mono ?_
  rintro e w' ⟨hb, v, vs, cv, rfl, _, ⟨h1, h2, _⟩, hco⟩
  simp only [] at h1 h2 hco
  obtain ⟨ua, uc, rfl⟩ := own_shape hco
  obtain ⟨p, rfl⟩ := List.length_eq_one_iff.1 hp
  obtain ⟨u, rfl⟩ := List.length_eq_one_iff.1 h1.symm
  have hx : p.action = 3 := by simpa using ha
  rcases own_nil_or h2 with ⟨h0, _⟩ | ⟨g, cap, rfl⟩
  · simp at h0
  refine ⟨hb, g, cap, ua, _, uc, rfl, ?_⟩
  rw [own_cells h2 3 (by simp)]
  simp [partRows, partCells, hx]
end Go.Proofs.YteioennfpkoagaaGreatDoor
