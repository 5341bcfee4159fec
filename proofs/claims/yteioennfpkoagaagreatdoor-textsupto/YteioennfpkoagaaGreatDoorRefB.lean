import Derived.Test.YteioennfpkoagaaGreatDoorRefA
import Derived.Deep.RegionHeld3
import Derived.Deep.AppendLies
import Derived.Deep.DrawnRows
import Derived.Deep.QuietTactic
import Derived.BigQuiet
namespace Go.Proofs.YteioennfpkoagaaGreatDoor
open Go.RowKit
attribute [local go_sem ↓] Go.wp_at_zero Go.wp_at_succ

theorem infoToken : (Tryz.prog.info? 164).map (fun i => (i.zero, i.size, i.bytes)) = some (some (.agg #[.int .i64 0, .string ⟨#[]⟩, .int .i64 0, .int .i64 0]), 4, 40) := by kernel_rfl

/- the cells of a token; of the first n tokens of a text -/
def tokCells (t : Tok) : List Value := [.int .i64 t.sort, .string ⟨t.text.toArray⟩, .int .i64 t.line, .int .i64 t.col]
def tokRows (l : List UInt8) (n : Nat) : List Value := (List.range n).flatMap fun k => tokCells (tk l k)
theorem tokRows_succ (l : List UInt8) (n : Nat) : tokRows l (n + 1) = tokRows l n ++ tokCells (tk l n) := by
  simp [tokRows, List.range_succ]

theorem wrap_i64 {a : Int} (h1 : 0 ≤ a) (h2 : a ≤ 100000000) : IntKind.i64.wrap a = a := wrap_small a h1 (by omega)
theorem own_below {w w' : World} {B e size n : Nat} {v : Value} {xs : List Value} (h : w.ownsRow B e size v n xs) (hb : Below w.heap.size w w') : w'.ownsRow B e size v n xs :=
  h.kept (row := none) ⟨hb.os, hb.tape, hb.output, hb.size, fun k hk _ => hb.block k hk⟩ (by cases v.ownBlock <;> simp)
theorem below_drew {w w' : World} (h : Below w.drew.heap.size w.drew w') : Below w.heap.size w w' := ⟨h.os, h.tape, h.output, h.size, h.block⟩
theorem extract_eq (s : ByteArray) (i n : Nat) (_h : i + n ≤ s.size) : s.extract i ((i : Int) + (n : Int)).toNat = ⟨((s.data.toList.drop i).take n).toArray⟩ := by
  apply ByteArray.ext
  apply Array.ext'
  have e : ((i : Int) + (n : Int)).toNat = i + n := by omega
  simp [e, ByteArray.data_extract, Array.toList_extract, List.extract_eq_take_drop]
theorem pos_next (l : List UInt8) (k i n t : Nat) (hi : pos l k = i) (hn : tokF (l.drop i) = (n, t)) : pos l (k + 1) = (i + n) + gapF false (l.drop (i + n)) := by
  simp only [pos, hi, hn]
theorem tk_at (l : List UInt8) (k i n t : Nat) (hi : pos l k = i) (hn : tokF (l.drop i) = (n, t)) : tk l k = ⟨t, (l.drop i).take n, (placeL (l.take i)).1, (placeL (l.take i)).2⟩ := by
  simp only [tk, tokAt, hi, hn]

set_option maxRecDepth 100000 in
set_option maxHeartbeats 400000 in
theorem tokens_any (s : ByteArray) (w : World) (hs : s.size ≤ 8192) :
    Calls Tryz.prog 78 #[.string s] w fun e w' => ∃ n g cap, e = .returned (.slice (some ⟨g, 0, none⟩) (n + 1) cap) ∧ pos s.data.toList n = s.size ∧ (∀ j, j < n → pos s.data.toList j < s.size) ∧ w'.ownsRow w.heap.size 164 4 (.slice (some ⟨g, 0, none⟩) (n + 1) cap) (n + 1) (tokRows s.data.toList (n + 1)) ∧ Below w.heap.size w w' := by
  obtain ⟨i0, hi0, hz0, hz1, hz2⟩ := info_parts infoToken
  go_enter Tryz.func78, Tryz.ntmps78
  go_wp2_with fail
  refine (gap_any s 0 _ hs (by omega)).mono ?_
  rintro e w' ⟨rfl, rfl⟩
  go_wp2_with fail
  go_loopw [3, 4] (fun v i wr => ∃ k : Nat, i = .int .i64 (pos s.data.toList k) ∧ pos s.data.toList k ≤ s.size ∧ Hid (∀ j, j < k → pos s.data.toList j < s.size) ∧ wr.ownsRow w'.heap.size 164 4 v k (tokRows s.data.toList k) ∧ Below w'.heap.size w' wr) (fun _ i _ => s.size - (intOf i).toNat)
  case atStart => exact ⟨0, by simp [pos], by have := pos_le s.data.toList 0; simpa using this, fun j hj => by omega, World.ownsRow_nil _ _ _ _, Below.refl _ _⟩
  case round =>
    obtain ⟨k, rfl, hk, HJ, hown, hb⟩ := hrel
    have HG : Hid (k ≤ pos s.data.toList k) := pos_ge _ _ (by simpa using HJ.out)
    have HR : Hid (tokRows s.data.toList (k + 1) = _) := tokRows_succ s.data.toList k
    generalize hpi : pos s.data.toList k = i at *
    have HI : Hid _ := hpi
    clear hpi
    by_cases hlt : i < s.size
    · go_wp2_with fail
      refine (length_any s i _ hs hlt).mono ?_
      rintro e w1 ⟨rfl, rfl⟩
      have h1 := tokF_le (s.data.toList.drop i)
      have h2 := tokF_pos (s.data.toList.drop i) (by intro h0; have := congrArg List.length h0; simp at this; omega)
      simp only [List.length_drop, Array.length_toList, ByteArray.size_data] at h1
      generalize hq : tokF (s.data.toList.drop i) = q at *
      obtain ⟨tn, ts⟩ := q
      have HQ : Hid _ := hq
      clear hq
      simp only [] at h1 h2
      have h3 : ((i : Int) + (tn : Int)) ≤ (s.size : Int) := by omega
      have h4 : (0 : Int) ≤ (tn : Int) := by omega
      have h5 : (0 : Int) ≤ (i : Int) := by omega
      have h6 : (i : Int) ≤ (i : Int) + (tn : Int) := by omega
      have h7 : IntKind.i64.wrap ((i : Int) + (tn : Int)) = (i : Int) + (tn : Int) := wrap_i64 (by omega) (by omega)
      have hsz := hb.size
      go_wp2_with fail
      go_region_held3 (fun _ => True) (trivial) ((first
        | (go_at_call 130; refine (place_any s i _ hs (by omega)).mono ?_; rintro e w2 ⟨rfl, hb2⟩)
        | (refine step_append_lies _ (by rfl) _ _ _ (by rfl) w'.heap.size 164 i0 _ 4 40 Tryz.underlying157 hi0 hz0 hz1 hz2 rfl (by omega) _ k (tokRows s.data.toList k) (by rfl) ((own_below hown (below_drew hb2)).alloc _)
            ⟨w2.heap.size, 0, none⟩ 1 1 [.int .i64 ts, .string (s.extract i ((i : Int) + (tn : Int)).toNat), .int .i64 (placeL (s.data.toList.take i)).1, .int .i64 (placeL (s.data.toList.take i)).2] (by rfl) (by rfl)
            (World.news_of_block (cs := #[.int .i64 ts, .string (s.extract i ((i : Int) + (tn : Int)).toNat), .int .i64 (placeL (s.data.toList.take i)).1, .int .i64 (placeL (s.data.toList.take i)).2]) (t := 164) (fr := (0, 0)) (heap_alloc_new w2 _)) (by simp [Value.oneCell'])
            (by omega) (by have := HG.out; unfold maxLen; omega) (by have := HG.out; omega) (by have := hb2.size; simp at this ⊢; omega) (w2.heap.size + 1) (by simp) ?_; intro gg cap w3 hown3 hgrow hat hlt3)))
      go_wp2_with fail
      refine (gap_any s (i + tn) _ hs (by omega)).mono ?_
      rintro e w4 ⟨rfl, rfl⟩
      go_wp2_with fail
      have hp := pos_next _ k i tn ts HI.out HQ.out
      have ht := tk_at _ k i tn ts HI.out HQ.out
      have hle := pos_le s.data.toList (k + 1)
      simp only [Array.length_toList, ByteArray.size_data] at hle
      refine ⟨⟨k + 1, by rw [hp]; simp, hle, fun j hj => ?_, ?_, ?_⟩, ?_⟩
      · rcases Nat.lt_succ_iff_lt_or_eq.1 hj with h | h
        · exact HJ.out j h
        · subst h; rw [HI.out]; exact hlt
      · rw [HR.out, ht, tokCells, ← extract_eq s i tn (by omega)]
        exact hown3
      · refine Below.grown ((hb.trans ((below_drew hb2).mono hsz)).alloc ?_ _) hgrow ?_ (fun q hq => (hown.lt q hq).1)
        · have := hb2.size; simp at this; omega
        · have := hb2.size; simp at this ⊢; omega
      · simp only [intOf]; omega
    · have hie : i = s.size := by omega
      clear hlt hk
      subst hie
      go_wp2_with fail
      refine (place_any s s.size _ hs (Nat.le_refl _)).mono ?_
      rintro e w2 ⟨rfl, hb2⟩
      have hsz := hb.size
      go_wp2_with (
        at_builtin; refine wpList_append_lies _ rfl _ _ _ rfl w'.heap.size 164 i0 _ 4 40 Tryz.underlying157 hi0 hz0 hz1 hz2 rfl (by omega) _ k (tokRows s.data.toList k) rfl ((own_below hown hb2).alloc _)
            ⟨w2.heap.size, 0, none⟩ 1 1 [.int .i64 0, .string ⟨#[]⟩, .int .i64 (placeL (s.data.toList.take s.size)).1, .int .i64 (placeL (s.data.toList.take s.size)).2] rfl rfl
            (World.news_of_block (cs := #[.int .i64 0, .string ⟨#[]⟩, .int .i64 (placeL (s.data.toList.take s.size)).1, .int .i64 (placeL (s.data.toList.take s.size)).2]) (t := 164) (fr := (0, 0)) (heap_alloc_new w2 _)) (by simp [Value.oneCell'])
            (by omega) (by have := HG.out; unfold maxLen; omega) (by have := HG.out; omega) (by have := hb2.size; simp at this ⊢; omega) (w2.heap.size + 1) (by simp) ?_; intro gg cap w3 hown3 hgrow hat hlt3)
      go_ret
      have ht := tk_at _ k s.size 0 0 HI.out (by rw [List.drop_eq_nil_of_le (by simp)]; rfl)
      refine ⟨k, gg, cap, by simp, HI.out, HJ.out, ?_, ?_⟩
      · rw [HR.out, ht, tokCells]
        simpa using hown3
      · refine Below.grown ((hb.trans (hb2.mono hsz)).alloc ?_ _) hgrow ?_ (fun q hq => (hown.lt q hq).1)
        · have := hb2.size; omega
        · have := hb2.size; simp; omega
end Go.Proofs.YteioennfpkoagaaGreatDoor
