import Derived.Test.YteioennfpkoagaaDoorCdfG
import Derived.Test.YteioennfpkoagaaDoorChkF
import Derived.Laws.BytesArg
namespace Go.Proofs.YteioennfpkoagaaDoor.C
open Go.RowKit
attribute [local go_sem ↓] Go.wp_at_zero Go.wp_at_succ

set_option maxRecDepth 100000 in
set_option maxHeartbeats 1000000 in
theorem dec_go : ∀ (k n : Nat) (w : World), n < 10 ^ (k + 1) → k ≤ 8 →
    Calls Tryd.prog 13 #[.int .i64 n] w fun e w' => e = .returned (.string (ba (decG (k + 1) n))) ∧ Below w.heap.size w w' := by
  intro k
  induction k with
  | zero =>
    intro n w hn _
    have hn10 : n < 10 := by simpa using hn
    have h1 : decide ((n : Int) < 10) = true := by simp; omega
    have h2 : (n : Int) % 10 = (n : Int) := by omega
    have h3 : IntKind.i64.wrap (n : Int) = (n : Int) := wrap_small _ (by omega) (by omega)
    have h4 : IntKind.i64.wrap (48 + (n : Int)) = 48 + (n : Int) := wrap_small _ (by omega) (by omega)
    have h5 : IntKind.u8.wrap (48 + (n : Int)) = 48 + (n : Int) := by simp [IntKind.wrap, IntKind.bits, IntKind.signed]; omega
    have hcv := conv_one w (48 + (n : Int))
    have hD : decG 1 n = [dig n] := by simp [decG, hn10]
    go_enter Tryd.func13, Tryd.ntmps13
    go_wp2_with fail
    go_ret
    exact ⟨by rw [hD, ← nums_dig]; rfl, (Below.refl _ _).alloc (Nat.le_refl _) _⟩
  | succ k ih =>
    intro n w hn hk
    have hbig : n < 10000000000 := Nat.lt_of_lt_of_le hn (Nat.pow_le_pow_right (by omega) (show k + 1 + 1 ≤ 10 by omega))
    have h4 : IntKind.i64.wrap (48 + (n : Int) % 10) = 48 + (n : Int) % 10 := wrap_small _ (by omega) (by omega)
    have h5 : IntKind.u8.wrap (48 + (n : Int) % 10) = 48 + (n : Int) % 10 := by simp [IntKind.wrap, IntKind.bits, IntKind.signed]; omega
    have h6 : IntKind.i64.wrap ((n : Int) % 10) = (n : Int) % 10 := wrap_small _ (by omega) (by omega)
    have h7 : IntKind.i64.wrap ((n : Int) / 10) = (n : Int) / 10 := wrap_small _ (by omega) (by omega)
    have hcv := conv_one w (48 + (n : Int) % 10)
    have hs : strOfNums [48 + (n : Int) % 10] = ba [dig (n % 10)] := nums_dig (n % 10)
    rw [hs] at hcv
    have hb0 : Below w.heap.size w (w.alloc (.cells #[.int .u8 (48 + (n : Int) % 10)] 5)) := (Below.refl _ _).alloc (Nat.le_refl _) _
    by_cases hlt : n < 10
    · have h1 : decide ((n : Int) < 10) = true := by simp; omega
      have hD : decG (k + 1 + 1) n = [dig (n % 10)] := by rw [decG, if_pos hlt, Nat.mod_eq_of_lt hlt]
      go_enter Tryd.func13, Tryd.ntmps13
      go_wp2_with fail
      go_ret
      exact ⟨by rw [hD]; rfl, hb0⟩
    · have h1 : decide ((n : Int) < 10) = false := by simp; omega
      have hD : decG (k + 1 + 1) n = decG (k + 1) (n / 10) ++ [dig (n % 10)] := by rw [decG, if_neg hlt]
      have hq : (n : Int) / 10 = ((n / 10 : Nat) : Int) := by omega
      have HQ : Hid _ := hq
      have HD : Hid _ := hD
      clear hq hD
      have hrec := ih (n / 10) (w.alloc (.cells #[.int .u8 (48 + (n : Int) % 10)] 5)) (by
        have e : 10 ^ (k + 1 + 1) = 10 ^ (k + 1) * 10 := Nat.pow_succ ..
        rw [e] at hn
        exact Nat.div_lt_of_lt_mul (by omega)) (by omega)
      go_enter Tryd.func13, Tryd.ntmps13
      go_wp2_with fail
      rw [HQ.out]
      refine hrec.mono ?_
      rintro e V ⟨rfl, hbv⟩
      have hsz : ¬ 9223372036854775807 < (ba (decG (k + 1) (n / 10))).size + (ba [dig (n % 10)]).size := by
        have := decG_len (k + 1) (n / 10)
        rw [ba_size, ba_size]; simp; omega
      go_wp2_with fail
      go_ret
      refine ⟨?_, hb0.trans (hbv.mono hb0.size)⟩
      rw [HD.out, ← ba_append]; rfl
theorem dec_any (n : Int) (w : World) (h : 0 ≤ n ∧ n ≤ 999) :
    Calls Tryd.prog 13 #[.int .i64 n] w fun e w' => e = .returned (.string (ba (decF n))) ∧ Below w.heap.size w w' := by
  have := dec_go 2 n.toNat w (by have : (10 : Nat) ^ (2 + 1) = 1000 := rfl
                                 omega) (by omega)
  rw [show ((n.toNat : Nat) : Int) = n by omega] at this
  exact this
end Go.Proofs.YteioennfpkoagaaDoor.C
