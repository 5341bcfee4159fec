import Derived.Test.YteioennfpkoagaaDoorPrtC
namespace Go.Proofs.YteioennfpkoagaaDoor.C
open Go.RowKit
attribute [local go_sem ↓] Go.wp_at_zero Go.wp_at_succ

theorem join_one (s : ByteArray) : joinL [s] = s.data.toList := by unfold joinL; exact Lib.join_one _ _
set_option maxHeartbeats 2000000 in
set_option maxRecDepth 100000 in
theorem statement_any (W0 : World) (pb bk c : Nat) (l al : List UInt8) (xs : List ByteArray) (w : World) (h : PS W0 pb l w) (hcells : ∀ (j : Nat) x, xs[j]? = some x → w.cell? ⟨bk, j, none⟩ = some (.string x)) (hbk : bk < w.heap.size) (hN : xs.length ≤ 100) (hcap : xs.length ≤ c) (hlen : l.length + al.length + (joinL xs).length + 2 ≤ 1000000) :
    Calls Tryd.prog 25 #[.pointer (some ⟨pb, 0, none⟩), .string (ba al), .slice (some ⟨bk, 0, none⟩) xs.length c] w fun e w' => e = .returned (.tuple #[]) ∧ PS W0 pb (l ++ (al ++ joinL xs ++ [59] ++ [10])) w' ∧ Oth pb w w' := by
  have HPS : Hid (PS W0 pb l w) := h
  have hj := join_any bk c xs w hcells hbk hN hcap (by omega)
  clear hcells h
  have s1 := ba_size al
  have s2 := ba_size (joinL xs)
  have z1 : ¬ 9223372036854775807 < (ba al).size + (ba (joinL xs)).size := by omega
  have r1 := cat_run (ba al) (ba (joinL xs)) z1
  have s3 : (ba al ++ ba (joinL xs)).size ≤ 1000000 := by rw [ba_append, ba_size, List.length_append]; omega
  have z2 : ¬ 9223372036854775807 < (ba al ++ ba (joinL xs)).size + (({ data := #[59] } : ByteArray)).size := by
    have : (({ data := #[59] } : ByteArray)).size = 1 := rfl
    omega
  have r2 := cat_run (ba al ++ ba (joinL xs)) ({ data := #[59] } : ByteArray) z2
  have n2 : ¬ 9223372036854775807 < (ba al).size + (ba (joinL xs)).size + 1 := by omega
  have HCAT : Hid (ba al ++ ba (joinL xs) ++ ({ data := #[59] } : ByteArray) = ba (al ++ joinL xs ++ [59])) := by
    show _ = _
    rw [show ({ data := #[59] } : ByteArray) = ba [59] from rfl, ba_append, ba_append]
  generalize joinL xs = js at *
  go_enter Tryd.func25, Tryd.ntmps25
  go_wp2_with fail
  refine hj.mono ?_
  rintro e w2 ⟨rfl, hb2⟩
  go_wp2_with fail
  clear r1 r2 z1 z2 n2 s3
  rw [HCAT.out]
  have hb3 : Below w2.heap.size w2 (w2.alloc (.cells #[.string (ba (al ++ js ++ [59]))] 9)) := (Below.refl _ w2).alloc (Nat.le_refl _) _
  have hc3 : (w2.alloc (.cells #[.string (ba (al ++ js ++ [59]))] 9)).cell? ⟨w2.heap.size, 0, none⟩ = some (.string (ba (al ++ js ++ [59]))) := by rw [cell_of_blk (heap_new _ _)]; rfl
  have hsz : w2.heap.size < (w2.alloc (.cells #[.string (ba (al ++ js ++ [59]))] 9)).heap.size := by simp
  have hP3 : PS W0 pb l (w2.alloc (.cells #[.string (ba (al ++ js ++ [59]))] 9)) := (PS.below HPS.out hb2).below hb3
  have hl3 : (joinL [ba (al ++ js ++ [59])]).length = al.length + js.length + 1 := by rw [join_one, ba_data]; simp; omega
  refine (line_any W0 pb w2.heap.size 1 l [ba (al ++ js ++ [59])] _ hP3 (by
    intro j x hx
    match j, hx with
    | 0, hx => cases hx; exact hc3) hsz (by simp) (by simp) (by omega)).mono ?_
  rintro e w4 ⟨rfl, hP4, ho4⟩
  rw [join_one, ba_data] at hP4
  go_wp2_with fail
  go_end0
  exact ⟨rfl, hP4, ((Oth.below hb2).trans (Oth.below hb3)).trans ho4⟩
end Go.Proofs.YteioennfpkoagaaDoor.C
