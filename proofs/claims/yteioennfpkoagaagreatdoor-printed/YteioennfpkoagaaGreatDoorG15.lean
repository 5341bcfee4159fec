import Derived.Test.YteioennfpkoagaaGreatDoorG06
import Derived.Test.YteioennfpkoagaaGreatDoorG01
import Derived.Handy
import Derived.Lib.Bytealg
namespace Go.Proofs.YteioennfpkoagaaGreatDoor
open Go.RowKit
attribute [local go_sem ↓] Go.wp_at_zero Go.wp_at_succ

set_option maxHeartbeats 400000 in
theorem isLetter_any (n : Int) (w : World) :
    Calls Tryz.prog 176 #[.int .u8 n] w fun e w' => e = .returned (.bool (smallB n)) ∧ w' = w := by
  go_enter Tryz.func176, Tryz.ntmps176
  go_wp2
  · go_ret
    exact ⟨by simp [smallB, *], rfl⟩
  · go_ret
    exact ⟨by simp [smallB]; omega, rfl⟩
set_option maxHeartbeats 400000 in
theorem isDigit_any (n : Int) (w : World) :
    Calls Tryz.prog 198 #[.int .u8 n] w fun e w' => e = .returned (.bool (digitB n)) ∧ w' = w := by
  go_enter Tryz.func198, Tryz.ntmps198
  go_wp2
  · go_ret
    exact ⟨by simp [digitB, *], rfl⟩
  · go_ret
    exact ⟨by simp [digitB]; omega, rfl⟩

theorem inside_not {n : Int} (h1 : smallB n = false) (h2 : digitB n = false) (h3 : (n != 95) = true) : insideB n = false := by
  simp [insideB, h1, h2] at h3 ⊢; exact h3
theorem inside_small {n : Int} (h1 : smallB n = true) : insideB n = true := by simp [insideB, h1]
theorem inside_digit {n : Int} (h1 : digitB n = true) : insideB n = true := by simp [insideB, h1]
theorem inside_bar {n : Int} (h3 : (n != 95) = false) : insideB n = true := by simp [insideB] at h3 ⊢; simp [h3]

set_option maxHeartbeats 400000 in
theorem runLength_any (s : ByteArray) (w : World) (hs : s.size ≤ 8192) :
    Calls Tryz.prog 177 #[.string s] w fun e w' => e = .returned (.int .i64 (runF s.data.toList)) ∧ w' = w := by
  generalize hr : runF s.data.toList = e
  have HE : Hid (0 + runF (s.data.toList.drop 0) = e) := by show _ = _; simpa using hr
  clear hr
  go_enter Tryz.func177, Tryz.ntmps177
  go_wp2
  go_loop [7] (fun i => ∃ k : Nat, k ≤ s.size ∧ i = .int .i64 k ∧ Hid (k + runF (s.data.toList.drop k) = e)) (fun i => s.size - (intOf i).toNat)
  case atStart => exact ⟨0, by omega, rfl, HE⟩
  case round =>
    obtain ⟨k, hk, rfl, HK⟩ := hrel
    clear HE
    by_cases hlt : k < s.size
    · cases h1 : smallB s[k].toNat
      · cases h2 : digitB s[k].toNat
        · go_wp2_with (first | (go_at_call 176; refine (isLetter_any _ _).mono ?_; rintro e w' ⟨rfl, rfl⟩) | (go_at_call 198; refine (isDigit_any _ _).mono ?_; rintro e w' ⟨rfl, rfl⟩))
          · have h3 : ((s[k].toNat : Int) != 95) = true := by assumption
            go_ret
            exact ⟨ret_int (by have := HK.out; rw [runF_out hlt (inside_not h1 h2 h3)] at this; omega), rfl⟩
          · have h3 : ((s[k].toNat : Int) != 95) = false := by assumption
            go_round
            case rel => exact ⟨k + 1, by omega, by go_num, by have := HK.out; rw [runF_in hlt (inside_bar h3)] at this; show _ = _; omega⟩
            case measure => simp [intOf]; omega
        · go_wp2_with (first | (go_at_call 176; refine (isLetter_any _ _).mono ?_; rintro e w' ⟨rfl, rfl⟩) | (go_at_call 198; refine (isDigit_any _ _).mono ?_; rintro e w' ⟨rfl, rfl⟩))
          go_round
          case rel => exact ⟨k + 1, by omega, by go_num, by have := HK.out; rw [runF_in hlt (inside_digit h2)] at this; show _ = _; omega⟩
          case measure => simp [intOf]; omega
      · go_wp2_with (first | (go_at_call 176; refine (isLetter_any _ _).mono ?_; rintro e w' ⟨rfl, rfl⟩) | (go_at_call 198; refine (isDigit_any _ _).mono ?_; rintro e w' ⟨rfl, rfl⟩))
        go_round
        case rel => exact ⟨k + 1, by omega, by go_num, by have := HK.out; rw [runF_in hlt (inside_small h1)] at this; show _ = _; omega⟩
        case measure => simp [intOf]; omega
    · go_wp2
      go_ret
      exact ⟨ret_int (by have := HK.out; rw [runF_end (by omega)] at this; omega), rfl⟩

theorem gap_keep {r : Bool} {s : ByteArray} {k e : Nat} (h : k < s.size) (hr : k + gapF r (s.data.toList.drop k) = e) (h1 : ¬ s[k].toNat = 10) (h2 : ¬ s[k].toNat = 35) (h3 : s[k].toNat = 32 ∨ r = true) : (k + 1) + gapF r (s.data.toList.drop (k + 1)) = e := by
  rw [gapF_at r s k h, if_neg h1, if_neg h2, if_pos h3] at hr; omega
theorem gap_hash2 {r : Bool} {s : ByteArray} {k e : Nat} (h : k < s.size) (hr : k + gapF r (s.data.toList.drop k) = e) (h2 : s[k].toNat = 35) : (k + 1) + gapF true (s.data.toList.drop (k + 1)) = e := by
  rw [gapF_at r s k h, if_neg (by omega), if_pos h2] at hr; omega

set_option maxHeartbeats 400000 in
theorem gapLength_any (s : ByteArray) (w : World) (hs : s.size ≤ 8192) :
    Calls Tryz.prog 140 #[.string s] w fun e w' => e = .returned (.int .i64 (gapF false s.data.toList)) ∧ w' = w := by
  generalize hr : gapF false s.data.toList = e
  have HE : Hid (0 + gapF false (s.data.toList.drop 0) = e) := by show _ = _; simpa using hr
  clear hr
  go_enter Tryz.func140, Tryz.ntmps140
  go_wp2
  go_loop [3, 8] (fun b i => ∃ (k : Nat) (r : Bool), k ≤ s.size ∧ i = .int .i64 k ∧ b = .bool r ∧ Hid (k + gapF r (s.data.toList.drop k) = e)) (fun _ i => s.size - (intOf i).toNat)
  case atStart => exact ⟨0, false, by omega, rfl, rfl, HE⟩
  case round =>
    obtain ⟨k, r, hk, rfl, rfl, HK⟩ := hrel
    clear HE
    by_cases hlt : k < s.size
    · by_cases h1 : s[k].toNat = 10
      · have q1 : ((s[k].toNat : Int) == 10) = true := by simp; omega
        have H1 : Hid _ := h1
        clear h1
        go_wp2
        go_round
        case rel => exact ⟨k + 1, false, by omega, by go_num, rfl, gap_line hlt HK.out H1.out⟩
        case measure => simp [intOf]; omega
      · have q1 : ((s[k].toNat : Int) == 10) = false := by simp; omega
        have H1 : Hid _ := h1
        clear h1
        by_cases h2 : s[k].toNat = 35
        · have q2 : ((s[k].toNat : Int) == 35) = true := by simp; omega
          have H2 : Hid _ := h2
          clear h2
          go_wp2
          go_round
          case rel => exact ⟨k + 1, true, by omega, by go_num, rfl, gap_hash2 hlt HK.out H2.out⟩
          case measure => simp [intOf]; omega
        · have q2 : ((s[k].toNat : Int) == 35) = false := by simp; omega
          have H2 : Hid _ := h2
          clear h2
          by_cases h3 : s[k].toNat = 32
          · have q3 : ((s[k].toNat : Int) != 32) = false := by simp; omega
            have H3 : Hid _ := h3
            clear h3
            go_wp2
            go_round
            case rel => exact ⟨k + 1, r, by omega, by go_num, rfl, gap_keep hlt HK.out H1.out H2.out (.inl H3.out)⟩
            case measure => simp [intOf]; omega
          · have q3 : ((s[k].toNat : Int) != 32) = true := by simp; omega
            have H3 : Hid _ := h3
            clear h3
            cases r
            · go_wp2
              go_ret
              exact ⟨ret_int (by rw [gap_stop hlt HK.out H1.out H2.out H3.out]), rfl⟩
            · go_wp2
              go_round
              case rel => exact ⟨k + 1, true, by omega, by go_num, rfl, gap_keep hlt HK.out H1.out H2.out (.inr rfl)⟩
              case measure => simp [intOf]; omega
    · go_wp2
      go_ret
      exact ⟨ret_int (by have := HK.out; rw [gapF_end _ _ _ (by omega)] at this; omega), rfl⟩

set_option maxHeartbeats 400000 in
theorem lastIndexStr_any (s : ByteArray) (w : World) (hs : s.size ≤ 8192) :
    Calls Tryz.prog 238 #[.string s, .int .u8 10] w fun e w' => (∃ m, e = .returned (.int .i64 m) ∧ LastNl s m) ∧ w' = w := by
  go_enter Tryz.func238, Tryz.ntmps238
  go_wp2
  go_loop [5] (fun i => ∃ k : Nat, k ≤ s.size ∧ i = .int .i64 ((k : Int) - 1) ∧ Hid (∀ j (h : j < s.size), k ≤ j → ¬ s[j].toNat = 10)) (fun i => (intOf i + 1).toNat)
  case atStart => exact ⟨s.size, by omega, rfl, fun j h h' => by omega⟩
  case round =>
    obtain ⟨k, hk, rfl, HK⟩ := hrel
    cases k with
    | zero =>
      go_wp2
      go_ret
      exact ⟨⟨-1, rfl, .inl ⟨rfl, fun j h => HK.out j h (by omega)⟩⟩, rfl⟩
    | succ k =>
      have hlt : k < s.size := by omega
      have e1 : (((k + 1 : Nat) : Int) - 1) = (k : Int) := by omega
      rw [e1]
      clear e1
      by_cases h1 : s[k].toNat = 10
      · have q1 : ((s[k].toNat : Int) == 10) = true := by simp; omega
        have H1 : Hid _ := h1
        clear h1
        go_wp2
        go_ret
        exact ⟨⟨k, rfl, .inr ⟨k, rfl, hlt, H1.out, fun j h hj => HK.out j h (by omega)⟩⟩, rfl⟩
      · have q1 : ((s[k].toNat : Int) == 10) = false := by simp; omega
        have H1 : Hid _ := h1
        clear h1
        go_wp2
        go_round
        case rel => exact ⟨k, by omega, rfl, fun j h hj => by
          rcases Nat.eq_or_lt_of_le hj with e | e
          · subst e; exact H1.out
          · exact HK.out j h (by omega)⟩
        case measure => simp [intOf]
set_option maxHeartbeats 400000 in
theorem lastIndex_any (s : ByteArray) (w : World) (hs : s.size ≤ 8192) :
    Calls Tryz.prog 196 #[.string s, .int .u8 10] w fun e w' => (∃ m, e = .returned (.int .i64 m) ∧ LastNl s m) ∧ w' = w := by
  go_enter Tryz.func196, Tryz.ntmps196
  go_wp2_with fail
  refine (lastIndexStr_any s _ hs).mono ?_
  rintro e w' ⟨⟨m, rfl, hm⟩, rfl⟩
  have HM : Hid _ := hm
  clear hm
  go_wp2_with fail
  go_ret
  exact ⟨⟨m, rfl, HM.out⟩, rfl⟩

theorem lastNl_bd {s : ByteArray} {m : Int} (h : LastNl s m) : -1 ≤ m ∧ m < s.size ∨ m = -1 := by
  rcases h with ⟨rfl, _⟩ | ⟨k, rfl, hk, _⟩
  · right; rfl
  · left; omega
def nlF (l : List UInt8) : Nat := l.count 10
theorem extract_seg2 (s : ByteArray) : (s.extract 0 2).data.toList = s.data.toList.take 2 := by
  simp [ByteArray.data_extract, Array.toList_extract, List.extract_eq_take_drop]
set_option maxHeartbeats 400000 in
theorem count_any (s : ByteArray) (w : World) :
    Calls Tryz.prog 195 #[.string s, .string ⟨#[10]⟩] w fun e w' => e = .returned (.int .i64 (nlF s.data.toList : Nat)) ∧ w' = w := by
  have h81 := @run_callFunc_extern Tryz.prog 236 _ Extern.BytealgCount.count Tryz.func236 (by kernel_rfl) (by kernel_rfl) (by kernel_rfl) (by kernel_rfl)
  have hc : (Extern.BytealgCount.count #[.string s, .int .u8 (((⟨#[10]⟩ : ByteArray)[0]'(by decide)).toNat : Int)]).run Tryz.prog w = .ok (.int .i64 (nlF s.data.toList : Nat)) w := Lib.run_countString (P := Tryz.prog) s 10 w
  go_enter Tryz.func195, Tryz.ntmps195
  go_wp2
  go_ret
  exact ⟨rfl, rfl⟩

theorem ext2 (s : ByteArray) : ((s.extract 0 2).toList == [45, 62]) = decide (s.data.toList.take 2 = [45, 62]) := by
  rw [ByteArray.toList_eq, Bool.eq_iff_iff]
  simp only [beq_iff_eq, decide_eq_true_eq]
  have := extract_seg2 s
  rw [this]
set_option maxHeartbeats 400000 in
theorem hasPrefix_any (s : ByteArray) (w : World) (hs : s.size ≤ 8192) :
    Calls Tryz.prog 200 #[.string s, .string ⟨#[45, 62]⟩] w fun e w' => e = .returned (.bool (decide (s.data.toList.take 2 = [45, 62]))) ∧ w' = w := by
  go_enter Tryz.func200, Tryz.ntmps200
  go_wp2
  · go_ret
    exact ⟨by show Ending.returned (.bool ((s.extract 0 2).toList == [45, 62])) = _; rw [ext2], rfl⟩
  · go_ret
    refine ⟨?_, rfl⟩
    have h : ¬ s.data.toList.take 2 = [45, 62] := by
      intro h; have := congrArg List.length h; simp at this; omega
    show Ending.returned (.bool false) = _
    rw [decide_eq_false h]

set_option maxRecDepth 100000 in
set_option maxHeartbeats 400000 in
theorem placeBehind_any (a b : Int) (s : ByteArray) (w : World) (hs : s.size ≤ 8192) (ha : 0 ≤ a) (ha' : a ≤ 1000000) (hb : 0 ≤ b) (hb' : b ≤ 1000000) :
    Calls Tryz.prog 138 #[.agg #[.int .i64 a, .int .i64 b], .string s] w fun e w' => e = .returned (.agg #[.int .i64 (placeFrom (a, b) s.data.toList).1, .int .i64 (placeFrom (a, b) s.data.toList).2]) ∧ Below w.heap.size w w' := by
  have hcl : nlF s.data.toList ≤ s.size := by have := List.count_le_length (a := (10 : UInt8)) (l := s.data.toList); simpa [nlF] using this
  by_cases hc : nlF s.data.toList = 0
  · have hp := placeFrom_none (a, b) s.data.toList hc
    have HP : Hid _ := hp
    clear hp
    have q1 : ((nlF s.data.toList : Int) == 0) = true := by simp; omega
    generalize placeFrom (a, b) s.data.toList = pp at *
    go_enter Tryz.func138, Tryz.ntmps138
    go_wp2_with fail
    refine (count_any s _).mono ?_
    rintro e w2 ⟨rfl, rfl⟩
    go_wp2_with fail
    rw [HP.out]
    refine bodyPost_ret (v := .agg #[.int .i64 a, .int .i64 (b + s.data.toList.length)]) (by simp [results, Tryz.results138, go_sem]) rfl ⟨rfl, ?_⟩
    exact ((Below.refl _ _).alloc (Nat.le_refl _) _).alloc (by simp) _
  · have q1 : ((nlF s.data.toList : Int) == 0) = false := by simp; omega
    have HL : Hid (∀ m, LastNl s m → placeFrom (a, b) s.data.toList = (a + nlF s.data.toList, (s.size : Int) - m)) := fun m hm => lastNl_place (a, b) s m hm hc
    generalize placeFrom (a, b) s.data.toList = pp at *
    go_enter Tryz.func138, Tryz.ntmps138
    go_wp2_with fail
    refine (count_any s _).mono ?_
    rintro e w2 ⟨rfl, rfl⟩
    clear hc
    generalize nlF s.data.toList = nc at *
    go_wp2_with fail
    go_region_held3 (fun w' => w'.cell? ⟨w.heap.size, 0, none⟩ = some (.int .i64 a)) (first | go_keep) ((first | (go_at_call 196; refine (lastIndex_any s _ hs).mono ?_; rintro e w2 ⟨⟨m, rfl, hm⟩, rfl⟩)))
    have hmb := lastNl_bd hm
    rw [wrap_i64 (a := a + nc) (by omega) (by omega), wrap_i64 (a := (s.size : Int) - m) (by omega) (by omega)]
    have HM := HL.out m hm
    go_wp2_with fail
    rw [HM]
    refine bodyPost_ret (v := .agg #[.int .i64 (a + nc), .int .i64 ((s.size : Int) - m)]) (by simp [results, Tryz.results138, go_sem]) rfl ⟨rfl, ?_⟩
    exact (((Below.refl _ _).alloc (Nat.le_refl _) _).alloc (by simp) _).drew

/- the length of a token -/
theorem tokF_head (b : UInt8) (l : List UInt8) (h1 : smallB b.toNat = false) (h2 : digitB b.toNat = false) : (tokF (b :: l)).1 = if (b :: l).take 2 = [45, 62] then 2 else 1 := by
  rw [tok_none h1 h2]
  by_cases h : (b :: l).take 2 = [45, 62]
  · rw [if_pos h]
    cases l with
    | nil => simp at h
    | cons c l =>
      simp at h
      obtain ⟨rfl, rfl⟩ := h
      rw [if_neg (by decide), if_pos (by simp)]
  · rw [if_neg h]
    split; · rfl
    split
    · rename_i h3 h4
      exfalso; apply h
      cases l with
      | nil => simp at h4
      | cons c l =>
        simp at h4
        have e1 : b = 45 := by apply UInt8.toNat_inj.1; exact h4.1
        have e2 : c = 62 := by apply UInt8.toNat_inj.1; exact h4.2
        rw [e1, e2]; rfl
    · rfl
set_option maxHeartbeats 400000 in
theorem tokenLength_any (s : ByteArray) (w : World) (hs : s.size ≤ 8192) :
    Calls Tryz.prog 142 #[.string s] w fun e w' => e = .returned (.int .i64 (tokF s.data.toList).1) ∧ w' = w := by
  by_cases h0 : s.size = 0
  · have he : s = ⟨#[]⟩ := by
      apply ByteArray.ext; apply Array.eq_empty_of_size_eq_zero; exact h0
    subst he
    go_enter Tryz.func142, Tryz.ntmps142
    go_wp2_with fail
    go_ret
    exact ⟨rfl, rfl⟩
  · have hlt : 0 < s.size := by omega
    have hne : (s.toList == []) = false := by
      rw [ByteArray.toList_eq]
      have h1 := drop_cons s 0 hlt
      simp only [List.drop_zero] at h1
      rw [h1]; rfl
    have hd := drop_cons s 0 hlt
    simp only [List.drop_zero] at hd
    have HD : Hid _ := hd
    clear hd
    cases h1 : smallB s[0].toNat
    · cases h2 : digitB s[0].toNat
      · have HT : Hid ((tokF s.data.toList).1 = if s.data.toList.take 2 = [45, 62] then 2 else 1) := by
          have := tokF_head s[0] (s.data.toList.drop (0 + 1)) h1 h2
          rw [← HD.out] at this; exact this
        by_cases hp : s.data.toList.take 2 = [45, 62]
        · have hp1 : decide (s.data.toList.take 2 = [45, 62]) = true := by simp only [hp]; rfl
          have HPP : Hid _ := hp
          clear hp
          generalize (tokF s.data.toList).1 = tl at *
          go_enter Tryz.func142, Tryz.ntmps142
          go_wp2_with (first | (go_at_call 176; refine (isLetter_any _ _).mono ?_; rintro e w' ⟨rfl, rfl⟩) | (go_at_call 198; refine (isDigit_any _ _).mono ?_; rintro e w' ⟨rfl, rfl⟩) | (go_at_call 200; refine (hasPrefix_any _ _ hs).mono ?_; rintro e w' ⟨rfl, rfl⟩; rw [hp1]))
          go_ret
          exact ⟨ret_int (by rw [HT.out, if_pos HPP.out]; rfl), rfl⟩
        · have hp1 : decide (s.data.toList.take 2 = [45, 62]) = false := decide_eq_false hp
          have HPP : Hid _ := hp
          clear hp
          generalize (tokF s.data.toList).1 = tl at *
          go_enter Tryz.func142, Tryz.ntmps142
          go_wp2_with (first | (go_at_call 176; refine (isLetter_any _ _).mono ?_; rintro e w' ⟨rfl, rfl⟩) | (go_at_call 198; refine (isDigit_any _ _).mono ?_; rintro e w' ⟨rfl, rfl⟩) | (go_at_call 200; refine (hasPrefix_any _ _ hs).mono ?_; rintro e w' ⟨rfl, rfl⟩; rw [hp1]))
          go_ret
          exact ⟨ret_int (by rw [HT.out, if_neg HPP.out]; rfl), rfl⟩
      · have HT : Hid ((tokF s.data.toList).1 = runF s.data.toList) := by
          show _ = _
          rw [HD.out, tok_number h1 h2]; simp [runF, inside_digit h2]
        generalize (tokF s.data.toList).1 = tl at *
        go_enter Tryz.func142, Tryz.ntmps142
        go_wp2_with (first | (go_at_call 176; refine (isLetter_any _ _).mono ?_; rintro e w' ⟨rfl, rfl⟩) | (go_at_call 198; refine (isDigit_any _ _).mono ?_; rintro e w' ⟨rfl, rfl⟩) | (go_at_call 177; refine (runLength_any _ _ hs).mono ?_; rintro e w' ⟨rfl, rfl⟩))
        go_ret
        exact ⟨ret_int (by rw [HT.out]), rfl⟩
    · have HT : Hid ((tokF s.data.toList).1 = runF s.data.toList) := by
        show _ = _
        rw [HD.out, tok_word h1]; simp [runF, inside_small h1]
      generalize (tokF s.data.toList).1 = tl at *
      go_enter Tryz.func142, Tryz.ntmps142
      go_wp2_with (first | (go_at_call 176; refine (isLetter_any _ _).mono ?_; rintro e w' ⟨rfl, rfl⟩) | (go_at_call 198; refine (isDigit_any _ _).mono ?_; rintro e w' ⟨rfl, rfl⟩) | (go_at_call 177; refine (runLength_any _ _ hs).mono ?_; rintro e w' ⟨rfl, rfl⟩))
      go_ret
      exact ⟨ret_int (by rw [HT.out]), rfl⟩
end Go.Proofs.YteioennfpkoagaaGreatDoor
