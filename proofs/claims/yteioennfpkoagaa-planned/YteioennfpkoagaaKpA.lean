import Derived.Test.YteioennfpkoagaaRows
import Derived.WalkKit
import Derived.WalkSpells
import Derived.WalkLawsBesides
import Derived.Deep.RegionHeld3
import Derived.Deep.AppendLies
import Derived.Deep.DrawnRows
import Derived.Deep.QuietTactic
import Derived.BigQuiet
import Derived.Handy
import Derived.Test.YteioennfpkoagaaCdfG
namespace Go.Proofs.Yteioennfpkoagaa.C
open Go.RowKit
attribute [local go_sem ↓] Go.wp_at_zero Go.wp_at_succ

/- the raw numbers -/
def inI (x : Int) : Prop := -9223372036854775808 ≤ x ∧ x ≤ 9223372036854775807
def IntsV (w : World) (v : Value) (L : List Int) : Prop :=
  L.length ≤ 9223372036854775807 ∧ (∀ x ∈ L, inI x) ∧ ∃ va cap, v = .slice va L.length cap ∧ ∀ i (h : i < L.length), ∃ b off, va = some ⟨b, off, none⟩ ∧ w.cell? ⟨b, off + i, none⟩ = some (.int .i64 L[i])
theorem IntsV.below {w w' : World} {v : Value} {L : List Int} (h : IntsV w v L) (hb : Below w.heap.size w w') : IntsV w' v L := by
  obtain ⟨h0, h1, va, cap, e, hc⟩ := h
  refine ⟨h0, h1, va, cap, e, fun i hi => ?_⟩
  obtain ⟨b, off, e1, h1⟩ := hc i hi
  have hlt := World.block_lt_of_cell? w _ h1
  exact ⟨b, off, e1, (hb.cell (by exact hlt)).trans h1⟩
def pickF (c n : Int) : Int := (if c < 0 then -(c + 1) else c) % n
theorem pickF_lt {c n : Int} (h : 0 < n) : 0 ≤ pickF c n ∧ pickF c n < n := ⟨Int.emod_nonneg _ (by omega), Int.emod_lt_of_pos _ h⟩
def rawF (L : List Int) (i : Nat) : Int := L.getD (i % L.length) 0
theorem rawF_in {w : World} {v : Value} {L : List Int} (h : IntsV w v L) (i : Nat) : inI (rawF L i) := by
  unfold rawF
  by_cases hl : i % L.length < L.length
  · simp only [List.getD, List.getElem?_eq_getElem hl, Option.getD_some]
    exact h.2.1 _ (List.getElem_mem _)
  · simp only [List.getD, List.getElem?_eq_none (by omega : L.length ≤ i % L.length), Option.getD_none]
    unfold inI; omega
theorem pick_any (c n : Int) (hc : inI c) (hn : 0 < n ∧ n ≤ 1000000) (w : World) :
    Calls Try.prog 19 #[.int .i64 c, .int .i64 n] w fun e w' => e = .returned (.int .i64 (pickF c n)) ∧ w' = w := by
  unfold inI at hc
  have hn0 : n ≠ 0 := by omega
  by_cases h : c < 0
  · go_enter Try.func19, Try.ntmps19
    go_wp2_with fail
    go_ret
    refine ⟨?_, rfl⟩
    unfold pickF
    rw [if_pos h]
    show Ending.returned (Value.int IntKind.i64 (-((c + 1).tmod n))) = _
    rw [← Int.neg_tmod, Int.tmod_eq_emod_of_nonneg (by omega)]
  · go_enter Try.func19, Try.ntmps19
    go_wp2_with fail
    go_ret
    refine ⟨?_, rfl⟩
    unfold pickF
    rw [if_neg (by omega)]
    rfl
theorem raw_any (v : Value) (L : List Int) (i : Nat) (hi : i ≤ 1000000) (w : World) (hL : IntsV w v L) :
    Calls Try.prog 20 #[v, .int .i64 i] w fun e w' => e = .returned (.int .i64 (rawF L i)) ∧ w' = w := by
  obtain ⟨h0, h1, va, cap, rfl, hc⟩ := hL
  by_cases h : L.length = 0
  · have q : ((L.length : Int) = 0) := by omega
    go_enter Try.func20, Try.ntmps20
    go_wp2_with fail
    go_ret
    refine ⟨?_, rfl⟩
    unfold rawF
    simp [List.getD, List.length_eq_zero_iff.1 h]
  · have q : ¬ ((L.length : Int) = 0) := by omega
    have hlt := Nat.mod_lt i (show L.length > 0 by omega)
    obtain ⟨b, off, rfl, hcell⟩ := hc (i % L.length) hlt
    have e : (i : Int) % (L.length : Int) = ((i % L.length : Nat) : Int) := (Int.natCast_emod i L.length).symm
    have hb : 0 ≤ (i : Int) % (L.length : Int) ∧ (i : Int) % (L.length : Int) < (L.length : Int) := by omega
    have er : rawF L i = L[i % L.length] := by unfold rawF; simp [List.getD, hlt]
    rw [er]
    clear e er hc
    generalize L[i % L.length] = y at *
    go_enter Try.func20, Try.ntmps20
    go_wp2_with fail
    go_ret
    exact ⟨rfl, rfl⟩
/- a name -/
def nmL (i : Nat) : List UInt8 := [112, UInt8.ofNat (97 + i % 26)]
theorem nums_nm (n : Nat) (h : n < 26) : strOfNums [97 + (n : Int)] = ba [UInt8.ofNat (97 + n)] := by
  have e : (97 + (n : Int)).toNat = 97 + n := by omega
  unfold strOfNums ba
  rw [List.map_cons, List.map_nil, e]
set_option maxRecDepth 100000 in
set_option maxHeartbeats 1000000 in
theorem name_any (i : Nat) (hi : i ≤ 1000000) (w : World) :
    Calls Try.prog 21 #[.int .i64 i] w fun e w' => e = .returned (.string (ba (nmL i))) ∧ Below w.heap.size w w' := by
  have hm : i % 26 < 26 := Nat.mod_lt _ (by omega)
  have h4 : IntKind.i64.wrap (97 + (i : Int) % 26) = 97 + (i : Int) % 26 := wrap_small _ (by omega) (by omega)
  have h5 : IntKind.u8.wrap (97 + (i : Int) % 26) = 97 + (i : Int) % 26 := by simp [IntKind.wrap, IntKind.bits, IntKind.signed]; omega
  have h6 : IntKind.i64.wrap ((i : Int) % 26) = (i : Int) % 26 := wrap_small _ (by omega) (by omega)
  have hcv := conv_one w (97 + (i : Int) % 26)
  have hs : strOfNums [97 + (i : Int) % 26] = ba [UInt8.ofNat (97 + i % 26)] := nums_nm (i % 26) hm
  rw [hs] at hcv
  have hb0 : Below w.heap.size w (w.alloc (.cells #[.int .u8 (97 + (i : Int) % 26)] 5)) := (Below.refl _ _).alloc (Nat.le_refl _) _
  have hz : (ba [UInt8.ofNat (97 + i % 26)]).size = 1 := rfl
  generalize he : ba [UInt8.ofNat (97 + i % 26)] = t at *
  have hsum : ¬ 9223372036854775807 < 1 + t.size := by omega
  go_enter Try.func21, Try.ntmps21
  go_wp2_with fail
  go_ret
  refine ⟨?_, hb0⟩
  subst he
  rfl
end Go.Proofs.Yteioennfpkoagaa.C
