import Derived.Test.YteioennfpkoagaaGreatDoorRefB
namespace Go.Proofs.YteioennfpkoagaaGreatDoor
open Go.RowKit

set_option maxHeartbeats 400000 in
theorem value_any (s : ByteArray) (w : World) (hs : s.size ≤ 6) :
    Calls Tryz.prog 132 #[.string s] w fun e w' => e = .returned (.int .i64 (valF s.data.toList)) ∧ w' = w := by
  go_enter Tryz.func132, Tryz.ntmps132
  go_wp2
  go_loop [3, 4] (fun n i => ∃ k : Nat, k ≤ s.size ∧ i = .int .i64 k ∧ n = .int .i64 (valF (s.data.toList.take k))) (fun _ i => s.size - (intOf i).toNat)
  case atStart => exact ⟨0, Nat.zero_le _, rfl, rfl⟩
  case round =>
    obtain ⟨k, hk, rfl, rfl⟩ := hrel
    have hd := valF_bd s k hk (by omega)
    by_cases hlt : k < s.size
    · have HS : Hid _ := valF_step s k hlt
      have hb : s[k].toNat < 256 := UInt8.toNat_lt _
      generalize valF (s.data.toList.take k) = q at *
      go_wp2
      go_round
      case rel => exact ⟨k + 1, by omega, by go_num, by rw [HS.out]⟩
      case measure => simp [intOf]; omega
    · go_wp2
      go_ret
      exact ⟨ret_int (by rw [List.take_of_length_le (by simp; omega)]), rfl⟩

theorem looks_word {l : List UInt8} (h : 16 < l.length) : looksF 1 l = 3 := by simp [looksF, h]
theorem looks_other {t : Nat} {l : List UInt8} (h : ¬ (t = 1 ∧ 16 < l.length)) (h2 : t ≠ 2) : looksF t l = 0 := by simp [looksF, h, h2]
theorem looks_two {s : ByteArray} (h : 6 < s.size ∨ (1 < s.size ∧ s.data.toList.head?.map UInt8.toNat = some 48)) : looksF 2 s.data.toList = 2 := by
  have hlen : s.data.toList.length = s.size := by simp
  simp only [looksF, hlen]; rw [if_neg (by omega), if_neg (by omega), if_pos h]
theorem looks_bad {s : ByteArray} (h : ¬ (6 < s.size ∨ (1 < s.size ∧ s.data.toList.head?.map UInt8.toNat = some 48))) (hd : digitsB s.data.toList = false) : looksF 2 s.data.toList = 2 := by
  have hlen : s.data.toList.length = s.size := by simp
  simp only [looksF, hlen]; rw [if_neg (by omega), if_neg (by omega), if_neg h, hd]; rfl
theorem looks_good {s : ByteArray} (h : ¬ (6 < s.size ∨ (1 < s.size ∧ s.data.toList.head?.map UInt8.toNat = some 48))) (hd : digitsB s.data.toList = true) : looksF 2 s.data.toList = 0 := by
  have hlen : s.data.toList.length = s.size := by simp
  simp only [looksF, hlen]; rw [if_neg (by omega), if_neg (by omega), if_neg h, hd]; rfl
theorem digits_not {s : ByteArray} {k : Nat} (h : k < s.size) (hc : digitB s[k].toNat = false) : digitsB s.data.toList = false := by
  simp only [digitsB, List.all_eq_false]
  exact ⟨s[k], by rw [List.mem_iff_getElem]; exact ⟨k, by simpa using h, rfl⟩, by simp [hc]⟩
theorem digits_all {s : ByteArray} (h : ∀ k (hk : k < s.size), digitB s[k].toNat = true) : digitsB s.data.toList = true := by
  simp only [digitsB, List.all_eq_true]
  intro b hb
  obtain ⟨k, hk, rfl⟩ := List.mem_iff_getElem.1 hb
  exact h k (by simpa using hk)

set_option maxHeartbeats 400000 in
theorem looks_one (s : ByteArray) (ln cl : Int) (w : World) (hs : s.size ≤ 8192) :
    Calls Tryz.prog 135 #[.agg #[.int .i64 1, .string s, .int .i64 ln, .int .i64 cl]] w fun e w' => e = .returned (.int .i64 (looksF 1 s.data.toList)) ∧ Below w.heap.size w w' := by
  have hlen : s.data.toList.length = s.size := by simp
  go_enter Tryz.func135, Tryz.ntmps135
  go_wp2_with fail
  · go_ret
    exact ⟨ret_int (by rw [looks_word (by omega)]; rfl), (Below.refl _ _).alloc (Nat.le_refl _) _⟩
  · go_ret
    exact ⟨ret_int (by rw [looks_other (by omega) (by omega)]; rfl), (Below.refl _ _).alloc (Nat.le_refl _) _⟩
set_option maxHeartbeats 400000 in
theorem looks_else (t : Int) (s : ByteArray) (ln cl : Int) (w : World) (h1 : (t == 1) = false) (h2 : (t != 2) = true) :
    Calls Tryz.prog 135 #[.agg #[.int .i64 t, .string s, .int .i64 ln, .int .i64 cl]] w fun e w' => e = .returned (.int .i64 0) ∧ Below w.heap.size w w' := by
  go_enter Tryz.func135, Tryz.ntmps135
  go_wp2_with fail
  go_ret
  exact ⟨rfl, (Below.refl _ _).alloc (Nat.le_refl _) _⟩
set_option maxHeartbeats 400000 in
theorem looks_number (s : ByteArray) (ln cl : Int) (w : World) (hs : s.size ≤ 8192) :
    Calls Tryz.prog 135 #[.agg #[.int .i64 2, .string s, .int .i64 ln, .int .i64 cl]] w fun e w' => e = .returned (.int .i64 (looksF 2 s.data.toList)) ∧ Below w.heap.size w w' := by
  by_cases h6 : 6 < s.size
  · have hd : decide ((6 : Int) < (s.size : Int)) = true := by simp; omega
    go_enter Tryz.func135, Tryz.ntmps135
    go_wp2_with fail
    go_ret
    exact ⟨ret_int (by rw [looks_two (s := s) (.inl (by omega))]; rfl), (Below.refl _ _).alloc (Nat.le_refl _) _⟩
  have hd : decide ((6 : Int) < (s.size : Int)) = false := by simp; omega
  by_cases hh : 1 < s.size ∧ s.data.toList.head?.map UInt8.toNat = some 48
  · have hd1 : decide ((1 : Int) < (s.size : Int)) = true := by simp; omega
    have h0 : 0 < s.size := by omega
    have h48 : ((s[0].toNat : Int) == 48) = true := by
      have := hh.2
      rw [← List.drop_zero (l := s.data.toList), head_at h0] at this
      simp at this ⊢; omega
    have HH : Hid _ := hh
    clear hh
    go_enter Tryz.func135, Tryz.ntmps135
    go_wp2_with fail
    go_ret
    exact ⟨ret_int (by rw [looks_two (s := s) (.inr HH.out)]; rfl), (Below.refl _ _).alloc (Nat.le_refl _) _⟩
  have HN : Hid (¬ (6 < s.size ∨ (1 < s.size ∧ s.data.toList.head?.map UInt8.toNat = some 48))) := by
    intro h; rcases h with h | h
    · exact h6 h
    · exact hh h
  have hcase : (decide ((1 : Int) < (s.size : Int)) = false) ∨ (decide ((1 : Int) < (s.size : Int)) = true ∧ ∃ h0 : 0 < s.size, ((s[0].toNat : Int) == 48) = false) := by
    by_cases h1 : 1 < s.size
    · right
      refine ⟨by simp; omega, by omega, ?_⟩
      rw [← List.drop_zero (l := s.data.toList), head_at (by omega)] at hh
      simp at hh ⊢; have := hh h1; omega
    · left; simp; omega
  clear hh
  rcases hcase with h1 | ⟨h1, h0, h48⟩
  all_goals
    go_enter Tryz.func135, Tryz.ntmps135
    go_wp2_with fail
    go_loop [4] (fun i => ∃ k : Nat, k ≤ s.size ∧ i = .int .i64 k ∧ Hid (∀ j (hj : j < s.size), j < k → digitB s[j].toNat = true)) (fun i => s.size - (intOf i).toNat)
    case atStart => exact ⟨0, by omega, rfl, fun j _ hj => by omega⟩
    case round =>
      obtain ⟨k, hk, rfl, HK⟩ := hrel
      by_cases hlt : k < s.size
      · cases hdg : digitB s[k].toNat
        · go_wp2_with (go_at_call 193; refine (digit_any _ _).mono ?_; rintro e w' ⟨rfl, rfl⟩)
          go_ret
          exact ⟨ret_int (by rw [looks_bad HN.out (digits_not hlt hdg)]; rfl), (Below.refl _ _).alloc (Nat.le_refl _) _⟩
        · go_wp2_with (go_at_call 193; refine (digit_any _ _).mono ?_; rintro e w' ⟨rfl, rfl⟩)
          go_round
          case rel => exact ⟨k + 1, by omega, by go_num, fun j hj hjk => by
            rcases Nat.lt_succ_iff_lt_or_eq.1 hjk with h | h
            · exact HK.out j hj h
            · subst h; exact hdg⟩
          case measure => simp [intOf]; omega
      · go_wp2
        go_ret
        exact ⟨ret_int (by rw [looks_good HN.out (digits_all fun j hj => HK.out j hj (by omega))]; rfl), (Below.refl _ _).alloc (Nat.le_refl _) _⟩

theorem looks_any (t : Nat) (s : ByteArray) (ln cl : Int) (w : World) (hs : s.size ≤ 8192) :
    Calls Tryz.prog 135 #[.agg #[.int .i64 t, .string s, .int .i64 ln, .int .i64 cl]] w fun e w' => e = .returned (.int .i64 (looksF t s.data.toList)) ∧ Below w.heap.size w w' := by
  by_cases h1 : t = 1
  · subst h1; exact looks_one s ln cl w hs
  by_cases h2 : t = 2
  · subst h2; exact looks_number s ln cl w hs
  have := looks_else t s ln cl w (by simp; omega) (by simp; omega)
  rw [looks_other (by omega) h2]
  exact this
end Go.Proofs.YteioennfpkoagaaGreatDoor
