import Derived.Test.YteioennfpkoagaaDoorPrtB
namespace Go.Proofs.YteioennfpkoagaaDoor.C
open Go.RowKit
attribute [local go_sem ↓] Go.wp_at_zero Go.wp_at_succ

/- the text, when all is written -/
set_option maxHeartbeats 2000000 in
set_option maxRecDepth 100000 in
theorem string_any (W0 : World) (pb : Nat) (l : List UInt8) (w : World) (h : PS W0 pb l w) (h0 : l ≠ []) :
    Calls Tryd.prog 11 #[.pointer (some ⟨pb, 0, none⟩)] w fun e w' => e = .returned (.string (ba l)) ∧ Below W0.heap.size W0 w' := by
  obtain ⟨hbw, hbf⟩ := h
  obtain ⟨p, hAt⟩ : ∃ p, Lib.BuilderAtF 44 5 W0.heap.size pb p (Lib.byteCells l) w := by
    rcases hbf with h | h
    · exact ⟨_, h⟩
    · exact ⟨_, h⟩
  obtain ⟨hB, v, hbk, hown, hne⟩ := hAt
  have hl0 : l.length ≠ 0 := by simpa using h0
  rw [Lib.byteCells_length] at hown
  obtain ⟨g, cap, cur, fz, rfl, hbg, hg, hfz, hnc, hcm, hcs, htake⟩ : ∃ g cap cur fz, v = .slice (some ⟨g, 0, none⟩) l.length cap ∧ W0.heap.size ≤ g ∧ w.heap[g]? = some (.cells cur 5 fz) ∧ fz.2 ≤ l.length * 1 ∧ l.length ≤ cap ∧ cap ≤ maxLen ∧ cur.size = cap * 1 ∧ cur.toList.take (l.length * 1) = Lib.byteCells l := by
    rcases hown.2 with ⟨_, hz⟩ | ⟨g, cap, cur, fz, hv, r⟩
    · exact absurd hz hl0
    · exact ⟨g, cap, cur, fz, hv, r⟩
  have c1 : w.drew.cell? ⟨pb, 1, none⟩ = some (.slice (some ⟨g, 0, none⟩) l.length cap) := by
    have : w.drew.heap[pb]? = some (.cells #[p, .slice (some ⟨g, 0, none⟩) l.length cap] 44 (0, 0)) := hbk
    rw [Lib.cell_of_heap this]; rfl
  have hSD : (Builtin.unsafeSliceData_ #[40] 67 #[.slice (some ⟨g, 0, none⟩) l.length cap]).run Tryd.prog w.drew = .ok (.pointer (some ⟨g, 0, none⟩)) w.drew :=
    Lib.run_unsafeSliceData_row _ _ _ _ _ _ (by omega)
  have hUS : (Builtin.unsafeString_ #[67, 3] 9 #[.pointer (some ⟨g, 0, none⟩), .int .i64 l.length]).run Tryd.prog w.drew = .ok (.string ⟨l.toArray⟩) (w.drew.freeze ⟨g, 0, none⟩ l.length) := by
    refine Lib.run_unsafeString_row w.drew 67 3 9 5 Tryd.underlying67 (by kernel_rfl) g cur.size (by have hg' : w.drew.heap[g]? = some (.cells cur 5 fz) := hg; simp [World.shape?, hg']) l h0 (by omega) (by unfold maxLen at hcm; omega) ?_
    intro j x hx
    have := hown.cells (g := g) rfl j (.int .u8 x.toNat) (by simp [Lib.byteCells, hx])
    exact this
  clear hown hg hfz hcs htake hbf
  have mixed : Tryd.prog.follows Departure.mixedOrders = true := by kernel_rfl
  go_enter Tryd.func11, Tryd.ntmps11
  go_wp2_with fail
  go_region_o
  all_goals (go_wp2_with fail; go_ret; exact ⟨rfl, Lib.below_freeze (Below.drew hbw) (p := ⟨g, 0, none⟩) hbg _⟩)

set_option maxHeartbeats 2000000 in
set_option maxRecDepth 100000 in
theorem line_any (W0 : World) (pb bk c : Nat) (l : List UInt8) (xs : List ByteArray) (w : World) (h : PS W0 pb l w) (hcells : ∀ (j : Nat) x, xs[j]? = some x → w.cell? ⟨bk, j, none⟩ = some (.string x)) (hbk : bk < w.heap.size) (hN : xs.length ≤ 100) (hcap : xs.length ≤ c) (hlen : l.length + (joinL xs).length + 1 ≤ 1000000) :
    Calls Tryd.prog 40 #[.pointer (some ⟨pb, 0, none⟩), .slice (some ⟨bk, 0, none⟩) xs.length c] w fun e w' => e = .returned (.tuple #[]) ∧ PS W0 pb (l ++ (joinL xs ++ [10])) w' ∧ Oth pb w w' := by
  have hj := join_any bk c xs w.drew hcells hbk hN hcap (by omega)
  have HPS : Hid (PS W0 pb l w.drew) := ⟨below_drewN h.1 1, h.2⟩
  have hlB : (Lib.byteCells l).length = l.length := Lib.byteCells_length l
  have hjl : (ba (joinL xs)).size = (joinL xs).length := ba_size _
  go_enter Tryd.func40, Tryd.ntmps40
  go_wp2_with fail
  go_region_held3 (fun _ => True) (trivial) ((first
    | (go_at_call 41; refine hj.mono ?_; rintro e w2 ⟨rfl, hb2⟩)
    | (go_at_call 56; refine (writeString_any W0.heap.size pb (Lib.byteCells l) (ba (joinL xs)) w2 (PS.below HPS.out hb2).2 (by omega) (PS.below HPS.out hb2).1.size).mono ?_; rintro e w3 ⟨rfl, hf3, hb3, ho3⟩)))
  go_wp2_with fail
  refine (writeByte_any W0.heap.size pb _ 10 w3 hf3 (by rw [List.length_append, Lib.strCells_length]; omega) (Nat.le_trans (PS.below HPS.out hb2).1.size hb3.size)).mono ?_
  rintro e w4 ⟨rfl, hf4, hb4, ho4⟩
  go_wp2_with fail
  go_end0
  refine ⟨rfl, ⟨((PS.below HPS.out hb2).1.trans hb3).trans hb4, ?_⟩, ?_⟩
  · have e : Lib.byteCells (l ++ (joinL xs ++ [10])) = Lib.byteCells l ++ Lib.strCells (ba (joinL xs)) ++ [.int .u8 10] := by
      rw [Lib.byteCells_append, Lib.byteCells_append, List.append_assoc]; rfl
    rw [e]; exact hf4
  · exact ((Oth.below (b := pb) (show Below w.heap.size w w.drew from ⟨rfl, rfl, rfl, Nat.le_refl _, fun _ _ => rfl⟩)).trans (Oth.below hb2)).trans (ho3.trans ho4)
end Go.Proofs.YteioennfpkoagaaDoor.C
