import Derived.Test.YteioennfpkoagaaDoorCdfA
import Derived.Test.YteioennfpkoagaaDoorRows
import Derived.Test.YteioennfpkoagaaDoorPure
import Derived.WalkKit
import Derived.WalkSpells
import Derived.WalkLawsBesides
import Derived.Deep.RegionHeld3
import Derived.Deep.AppendLies
import Derived.Deep.DrawnRows
import Derived.Deep.QuietTactic
import Derived.BigQuiet
namespace Go.Proofs.YteioennfpkoagaaDoor.C
open Go.RowKit
attribute [local go_sem ↓] Go.wp_at_zero Go.wp_at_succ

theorem small_any (n : Int) (w : World) :
    Calls Tryd.prog 60 #[.int .u8 n] w fun e w' => e = .returned (.bool (smallB n)) ∧ w' = w := by
  go_enter Tryd.func60, Tryd.ntmps60
  go_wp2
  · go_ret
    exact ⟨by simp [smallB, *], rfl⟩
  · go_ret
    exact ⟨by simp [smallB]; omega, rfl⟩
theorem digit_any (n : Int) (w : World) :
    Calls Tryd.prog 75 #[.int .u8 n] w fun e w' => e = .returned (.bool (digitB n)) ∧ w' = w := by
  go_enter Tryd.func75, Tryd.ntmps75
  go_wp2
  · go_ret
    exact ⟨by simp [digitB, *], rfl⟩
  · go_ret
    exact ⟨by simp [digitB]; omega, rfl⟩
set_option maxHeartbeats 400000 in
theorem inside_any (n : Int) (w : World) :
    Calls Tryd.prog 61 #[.int .u8 n] w fun e w' => e = .returned (.bool (insideB n)) ∧ w' = w := by
  go_enter Tryd.func61, Tryd.ntmps61
  go_wp2_with (first | (go_at_call 60; refine (small_any _ _).mono ?_; rintro e w' ⟨rfl, rfl⟩) | (go_at_call 75; refine (digit_any _ _).mono ?_; rintro e w' ⟨rfl, rfl⟩))
  all_goals
    go_ret
    exact ⟨by simp [insideB, *], rfl⟩

set_option maxRecDepth 100000 in
set_option maxHeartbeats 1000000 in
theorem nameOK_any (s : ByteArray) (w : World) :
    Calls Tryd.prog 47 #[.string s] w fun e w' => e = .returned (.bool (nameF s.data.toList)) ∧ w' = w := by
  by_cases h1 : s.size < 1
  · have q1 : decide ((s.size : Int) < 1) = true := by simp; omega
    have hf : nameF s.data.toList = false := by unfold nameF; simp; omega
    rw [hf]
    go_enter Tryd.func47, Tryd.ntmps47
    go_wp2_with fail
    go_ret
    exact ⟨rfl, rfl⟩
  by_cases h2 : 16 < s.size
  · have q1 : decide ((s.size : Int) < 1) = false := by simp; omega
    have q2 : decide ((16 : Int) < (s.size : Int)) = true := by simp; omega
    have hf : nameF s.data.toList = false := by unfold nameF; simp; omega
    rw [hf]
    go_enter Tryd.func47, Tryd.ntmps47
    go_wp2_with fail
    go_ret
    exact ⟨rfl, rfl⟩
  have q1 : decide ((s.size : Int) < 1) = false := by simp; omega
  have q2 : decide ((16 : Int) < (s.size : Int)) = false := by simp; omega
  have hz : 0 < s.size := by omega
  go_enter Tryd.func47, Tryd.ntmps47
  go_wp2_with fail
  refine (small_any _ _).mono ?_
  rintro e w1 ⟨rfl, rfl⟩
  go_wp2_with fail
  go_loopw [4] (fun i wr => ∃ k : Nat, i = .int .i64 k ∧ k ≤ s.size ∧ wr = w1 ∧ Hid ((s.data.toList.take k).all (fun b => insideB b.toNat) = true)) (fun i _ => s.size - (intOf i).toNat)
  case atStart => exact ⟨0, rfl, by omega, rfl, by simp [Hid]⟩
  case round =>
    obtain ⟨k, rfl, hk, rfl, HA⟩ := hrel
    by_cases hlt : k < s.size
    · have hlt' : (k : Int) < (s.size : Int) := by omega
      have hk0 : (0 : Int) ≤ (k : Int) := by omega
      go_wp2_with fail
      refine (inside_any _ _).mono ?_
      rintro e w2 ⟨rfl, rfl⟩
      cases hb : insideB s[k].toNat
      · go_wp2_with fail
        go_ret
        exact ⟨by rw [nameF_bad hlt hb]; rfl, rfl⟩
      · go_wp2_with fail
        go_roundw
        case rel => exact ⟨k + 1, by go_num, by omega, trivial, by show _ = _; rw [take_snoc s k hlt, List.all_append, HA.out]; simp [hb]⟩
        case measure => simp [intOf]; omega
    · have hkn : k = s.size := by omega
      subst hkn
      go_wp2_with fail
      go_ret
      exact ⟨by rw [nameF_end (by omega) (by omega) HA.out]; rfl, rfl⟩
end Go.Proofs.YteioennfpkoagaaDoor.C
