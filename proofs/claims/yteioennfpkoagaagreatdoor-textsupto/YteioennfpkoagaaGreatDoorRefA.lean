import Derived.Test.YteioennfpkoagaaGreatDoorRows
import Derived.Test.YteioennfpkoagaaGreatDoorPure
import Derived.WalkKit
import Derived.WalkSpells
import Derived.WalkLawsBesides
namespace Go.Proofs.YteioennfpkoagaaGreatDoor
open Go.RowKit

set_option maxHeartbeats 400000 in
theorem small_any (n : Int) (w : World) :
    Calls Tryz.prog 192 #[.int .u8 n] w fun e w' => e = .returned (.bool (smallB n)) ∧ w' = w := by
  go_enter Tryz.func192, Tryz.ntmps192
  go_wp2
  · go_ret
    exact ⟨by simp [smallB, *], rfl⟩
  · go_ret
    exact ⟨by simp [smallB]; omega, rfl⟩

set_option maxHeartbeats 400000 in
theorem digit_any (n : Int) (w : World) :
    Calls Tryz.prog 193 #[.int .u8 n] w fun e w' => e = .returned (.bool (digitB n)) ∧ w' = w := by
  go_enter Tryz.func193, Tryz.ntmps193
  go_wp2
  · go_ret
    exact ⟨by simp [digitB, *], rfl⟩
  · go_ret
    exact ⟨by simp [digitB]; omega, rfl⟩

set_option maxHeartbeats 400000 in
theorem inside_any (n : Int) (w : World) :
    Calls Tryz.prog 194 #[.int .u8 n] w fun e w' => e = .returned (.bool (insideB n)) ∧ w' = w := by
  go_enter Tryz.func194, Tryz.ntmps194
  go_wp2_with (first | (go_at_call 192; refine (small_any _ _).mono ?_; rintro e w' ⟨rfl, rfl⟩) | (go_at_call 193; refine (digit_any _ _).mono ?_; rintro e w' ⟨rfl, rfl⟩))
  all_goals
    go_ret
    exact ⟨by simp [insideB, *], rfl⟩

set_option maxHeartbeats 400000 in
theorem place_any (s : ByteArray) (n : Nat) (w : World) (hs : s.size ≤ 8192) (hn : n ≤ s.size) :
    Calls Tryz.prog 130 #[.string s, .int .i64 n] w fun e w' => e = .returned (.agg #[.int .i64 (placeL (s.data.toList.take n)).1, .int .i64 (placeL (s.data.toList.take n)).2]) ∧ Below w.heap.size w w' := by
  go_enter Tryz.func130, Tryz.ntmps130
  go_wp2
  go_loopw [6] (fun i wr => ∃ k : Nat, k ≤ n ∧ i = .int .i64 k ∧ wr = (w.alloc (Obj.cells #[Value.int IntKind.i64 0, Value.int IntKind.i64 0] 36)).alloc (Obj.cells #[Value.int IntKind.i64 (placeL (s.data.toList.take k)).1, Value.int IntKind.i64 (placeL (s.data.toList.take k)).2] 36)) (fun i _ => n - (intOf i).toNat)
  case atStart => exact ⟨0, Nat.zero_le _, rfl, by simp [placeL]⟩
  case round =>
    obtain ⟨k, hk, rfl, rfl⟩ := hrel
    have hb := placeL_bd (s.data.toList.take k)
    have hl : (s.data.toList.take k).length ≤ k := List.length_take_le _ _
    by_cases hlt : k < n
    · have hks : k < s.size := by omega
      have HS : Hid _ := placeL_step s k hks
      generalize placeL (s.data.toList.take k) = q at *
      obtain ⟨q1, q2⟩ := q
      go_wp2
      · have hc : s[k].toNat = 10 := by have := ‹((s[k].toNat : Int) == 10) = true›; simp at this; omega
        go_roundw
        case rel => exact ⟨k + 1, by omega, by go_num, by rw [HS.out, if_pos hc]⟩
        case measure => simp [intOf]; omega
      · have hc : ¬ s[k].toNat = 10 := by have := ‹((s[k].toNat : Int) == 10) = false›; simp at this; omega
        go_roundw
        case rel => exact ⟨k + 1, by omega, by go_num, by rw [HS.out, if_neg hc]⟩
        case measure => simp [intOf]; omega
    · have : k = n := by omega
      subst this
      go_wp2
      exact bodyPost_ret (v := .agg #[.int .i64 (placeL (s.data.toList.take k)).1, .int .i64 (placeL (s.data.toList.take k)).2]) (by simp [results, Tryz.results130, go_sem]) rfl ⟨rfl, ((Below.refl _ _).alloc (Nat.le_refl _) _).alloc (by simp) _⟩

theorem ret_int {k : IntKind} {a b : Int} (h : a = b) : Ending.returned (.int k a) = .returned (.int k b) := by rw [h]

set_option maxHeartbeats 400000 in
theorem gap_any (s : ByteArray) (i : Nat) (w : World) (hs : s.size ≤ 8192) (hi : i ≤ s.size) :
    Calls Tryz.prog 128 #[.string s, .int .i64 i] w fun e w' => e = .returned (.int .i64 (i + gapF false (s.data.toList.drop i) : Nat)) ∧ w' = w := by
  generalize he : i + gapF false (s.data.toList.drop i) = e
  have HE : Hid _ := he
  clear he
  go_enter Tryz.func128, Tryz.ntmps128
  go_wp2
  go_loop [1] (fun t => ∃ k : Nat, k ≤ s.size ∧ t = .int .i64 k ∧ Hid (k + gapF false (s.data.toList.drop k) = e)) (fun t => s.size - (intOf t).toNat)
  case atStart => exact ⟨i, hi, rfl, HE⟩
  case round =>
    obtain ⟨k, hk, rfl, HK⟩ := hrel
    clear HE
    by_cases hlt : k < s.size
    · go_wp2
      · have hc := byteT (c := 32) ‹_›
        go_round
        case rel => exact ⟨k + 1, by omega, by go_num, gap_blank hlt HK.out hc⟩
        case measure => simp [intOf]; omega
      · have hc := byteT (c := 10) ‹_›
        go_round
        case rel => exact ⟨k + 1, by omega, by go_num, gap_line hlt HK.out hc⟩
        case measure => simp [intOf]; omega
      · have hc : Hid (s[k].toNat = 35) := byteT (c := 35) ‹_›
        go_loop [1] (fun t => ∃ m : Nat, k ≤ m ∧ m ≤ s.size ∧ t = .int .i64 m ∧ Hid (m + gapF true (s.data.toList.drop m) = e)) (fun t => s.size - (intOf t).toNat)
        case atStart => exact ⟨k, Nat.le_refl _, hk, rfl, gap_hash hlt HK.out hc.out⟩
        case round =>
          obtain ⟨m, hkm, hm, rfl, HM⟩ := hrel
          clear HK
          by_cases hlm : m < s.size
          · go_wp2
            · have h1 : ¬ s[m].toNat = 10 := by have := ‹((s[m].toNat : Int) != 10) = true›; simp at this; omega
              go_round
              case rel => exact ⟨m + 1, by omega, by omega, by go_num, gap_in hlm HM.out h1⟩
              case measure => simp [intOf]; omega
            · have h1 : s[m].toNat = 10 := by have := ‹((s[m].toNat : Int) != 10) = false›; simp at this; omega
              have h2 : k ≠ m := by intro h; subst h; have := hc.out; omega
              go_round
              case rel => exact ⟨m, by omega, rfl, gap_out hlm HM.out h1⟩
              case measure => simp [intOf]; omega
          · go_wp2
            have h1 : m = s.size := by omega
            go_round
            case rel => exact ⟨m, by omega, rfl, by have := HM.out; rw [gapF_end _ _ _ (by omega)] at this ⊢; exact this⟩
            case measure => simp [intOf]; omega
      · go_ret
        exact ⟨ret_int (by rw [gap_stop hlt HK.out (byteF (c := 10) ‹_›) (byteF (c := 35) ‹_›) (byteF (c := 32) ‹_›)]), rfl⟩
    · go_wp2
      go_ret
      have := HK.out
      rw [gapF_end _ _ _ (by omega)] at this
      exact ⟨ret_int (by omega), rfl⟩

theorem pair_ret {q : Nat × Nat} {a b : Nat} (h : q = (a, b)) {x y : Int} (hx : x = a) (hy : y = b) : Ending.returned (.tuple #[.int .i64 x, .int .i64 y]) = .returned (.tuple #[.int .i64 q.1, .int .i64 q.2]) := by
  subst hx hy h; rfl

set_option maxHeartbeats 400000 in
theorem length_any (s : ByteArray) (i : Nat) (w : World) (hs : s.size ≤ 8192) (hi : i < s.size) :
    Calls Tryz.prog 129 #[.string s, .int .i64 i] w fun e w' => e = .returned (.tuple #[.int .i64 (tokF (s.data.toList.drop i)).1, .int .i64 (tokF (s.data.toList.drop i)).2]) ∧ w' = w := by
  have HT : Hid (tokF (s.data.toList.drop i) = _) := congrArg tokF (drop_cons s i hi)
  generalize tokF (s.data.toList.drop i) = q at *
  cases hsm : smallB s[i].toNat
  · cases hdg : digitB s[i].toNat
    · go_enter Tryz.func129, Tryz.ntmps129
      go_wp2_with (first | (go_at_call 192; refine (small_any _ _).mono ?_; rintro e w' ⟨rfl, rfl⟩) | (go_at_call 193; refine (digit_any _ _).mono ?_; rintro e w' ⟨rfl, rfl⟩))
      · go_ret2
        exact ⟨pair_ret (HT.out.trans (tok_sign hsm hdg (by omega))) rfl rfl, rfl⟩
      · go_ret2
        exact ⟨pair_ret (HT.out.trans (tok_sign hsm hdg (by omega))) rfl rfl, rfl⟩
      · have hh : ((((s[i].toNat : Int) == 123) = true ∨ ((s[i].toNat : Int) == 125) = true) ∨ ((s[i].toNat : Int) == 59) = true) := by assumption
        go_ret2
        exact ⟨pair_ret (HT.out.trans (tok_sign hsm hdg (by simp at hh; omega))) rfl rfl, rfl⟩
      · have hh : ((s[i + 1].toNat : Int) == 62) = true := by assumption
        have h0 : ((((s[i].toNat : Int) == 123) = false ∧ ((s[i].toNat : Int) == 125) = false) ∧ ((s[i].toNat : Int) == 59) = false) := by assumption
        go_ret2
        exact ⟨pair_ret (HT.out.trans (tok_arrow hsm hdg (by rw [head_at (by omega)]; simp at hh; exact ⟨by omega, by simp; omega⟩))) rfl rfl, rfl⟩
      · have hh : ((s[i + 1].toNat : Int) == 62) = false := by assumption
        have h0 : ((((s[i].toNat : Int) == 123) = false ∧ ((s[i].toNat : Int) == 125) = false) ∧ ((s[i].toNat : Int) == 59) = false) := by assumption
        go_ret2
        exact ⟨pair_ret (HT.out.trans (tok_odd hsm hdg (by simp at h0; omega) (by rw [head_at (by omega)]; simp at hh; simp; omega))) rfl rfl, rfl⟩
      · have h0 : ((((s[i].toNat : Int) == 123) = false ∧ ((s[i].toNat : Int) == 125) = false) ∧ ((s[i].toNat : Int) == 59) = false) := by assumption
        go_ret2
        exact ⟨pair_ret (HT.out.trans (tok_odd hsm hdg (by simp at h0; omega) (by rw [head_end (by omega)]; simp))) rfl rfl, rfl⟩
      · have h0 : ((((s[i].toNat : Int) == 123) = false ∧ ((s[i].toNat : Int) == 125) = false) ∧ ((s[i].toNat : Int) == 59) = false) := by assumption
        go_ret2
        exact ⟨pair_ret (HT.out.trans (tok_odd hsm hdg (by simp at h0; omega) (by omega))) rfl rfl, rfl⟩
    · go_enter Tryz.func129, Tryz.ntmps129
      go_wp2_with (first | (go_at_call 192; refine (small_any _ _).mono ?_; rintro e w' ⟨rfl, rfl⟩) | (go_at_call 193; refine (digit_any _ _).mono ?_; rintro e w' ⟨rfl, rfl⟩))
      go_loop [8] (fun t => ∃ m : Nat, 1 ≤ m ∧ i + m ≤ s.size ∧ t = .int .i64 m ∧ Hid (m + runF (s.data.toList.drop (i + m)) = runF (s.data.toList.drop (i + 1)) + 1)) (fun t => s.size - (intOf t).toNat)
      case atStart => exact ⟨1, by omega, by omega, rfl, by show _ = _; omega⟩
      case round =>
        obtain ⟨m, hm1, hm2, rfl, HM⟩ := hrel
        by_cases hlt : i + m < s.size
        · cases hin : insideB s[i + m].toNat
          · go_wp2_with (go_at_call 194; refine (inside_any _ _).mono ?_; rintro e w' ⟨rfl, rfl⟩)
            go_ret2
            exact ⟨pair_ret (HT.out.trans (tok_number hsm hdg)) (by have := HM.out; rw [runF_out hlt hin] at this; omega) rfl, rfl⟩
          · go_wp2_with (go_at_call 194; refine (inside_any _ _).mono ?_; rintro e w' ⟨rfl, rfl⟩)
            go_round
            case rel => exact ⟨m + 1, by omega, by omega, by go_num, by have := HM.out; rw [runF_in hlt hin] at this; show _ = _; rw [← Nat.add_assoc]; omega⟩
            case measure => simp [intOf]; omega
        · go_wp2
          go_ret2
          exact ⟨pair_ret (HT.out.trans (tok_number hsm hdg)) (by have := HM.out; rw [runF_end (by omega)] at this; omega) rfl, rfl⟩
  · have hdg : digitB s[i].toNat = false := by simp [smallB, digitB] at hsm ⊢; omega
    go_enter Tryz.func129, Tryz.ntmps129
    go_wp2_with (first | (go_at_call 192; refine (small_any _ _).mono ?_; rintro e w' ⟨rfl, rfl⟩) | (go_at_call 193; refine (digit_any _ _).mono ?_; rintro e w' ⟨rfl, rfl⟩))
    go_loop [8] (fun t => ∃ m : Nat, 1 ≤ m ∧ i + m ≤ s.size ∧ t = .int .i64 m ∧ Hid (m + runF (s.data.toList.drop (i + m)) = runF (s.data.toList.drop (i + 1)) + 1)) (fun t => s.size - (intOf t).toNat)
    case atStart => exact ⟨1, by omega, by omega, rfl, by show _ = _; omega⟩
    case round =>
      obtain ⟨m, hm1, hm2, rfl, HM⟩ := hrel
      by_cases hlt : i + m < s.size
      · cases hin : insideB s[i + m].toNat
        · go_wp2_with (go_at_call 194; refine (inside_any _ _).mono ?_; rintro e w' ⟨rfl, rfl⟩)
          go_ret2
          exact ⟨pair_ret (HT.out.trans (tok_word hsm)) (by have := HM.out; rw [runF_out hlt hin] at this; omega) rfl, rfl⟩
        · go_wp2_with (go_at_call 194; refine (inside_any _ _).mono ?_; rintro e w' ⟨rfl, rfl⟩)
          go_round
          case rel => exact ⟨m + 1, by omega, by omega, by go_num, by have := HM.out; rw [runF_in hlt hin] at this; show _ = _; rw [← Nat.add_assoc]; omega⟩
          case measure => simp [intOf]; omega
      · go_wp2
        go_ret2
        exact ⟨pair_ret (HT.out.trans (tok_word hsm)) (by have := HM.out; rw [runF_end (by omega)] at this; omega) rfl, rfl⟩
end Go.Proofs.YteioennfpkoagaaGreatDoor
