import Derived.Test.YteioennfpkoagaaDoorChkJ
namespace Go.Proofs.YteioennfpkoagaaDoor.C
open Go.RowKit
attribute [local go_sem ↓] Go.wp_at_zero Go.wp_at_succ

theorem isLetter_c (n : Int) (w : World) :
    Calls Tryd.prog 50 #[.int .u8 n] w fun e w' => e = .returned (.bool (smallB n)) ∧ w' = w := by
  go_enter Tryd.func50, Tryd.ntmps50
  go_wp2
  · go_ret
    exact ⟨by simp [smallB, *], rfl⟩
  · go_ret
    exact ⟨by simp [smallB]; omega, rfl⟩
theorem isDigit_c (n : Int) (w : World) :
    Calls Tryd.prog 62 #[.int .u8 n] w fun e w' => e = .returned (.bool (digitB n)) ∧ w' = w := by
  go_enter Tryd.func62, Tryd.ntmps62
  go_wp2
  · go_ret
    exact ⟨by simp [digitB, *], rfl⟩
  · go_ret
    exact ⟨by simp [digitB]; omega, rfl⟩
theorem inside_not {n : Int} (h1 : smallB n = false) (h2 : digitB n = false) (h3 : (n != 95) = true) : insideB n = false := by
  simp [insideB, h1, h2] at h3 ⊢; exact h3
theorem inside_small {n : Int} (h1 : smallB n = true) : insideB n = true := by simp [insideB, h1]
theorem inside_digit {n : Int} (h1 : digitB n = true) : insideB n = true := by simp [insideB, h1]
theorem inside_bar {n : Int} (h3 : (n != 95) = false) : insideB n = true := by simp [insideB] at h3 ⊢; simp [h3]
theorem ret_int {a b : Int} (h : a = b) : Ending.returned (.int .i64 a) = Ending.returned (.int .i64 b) := by rw [h]
set_option maxHeartbeats 400000 in
theorem runLength_c (s : ByteArray) (w : World) (hs : s.size ≤ 8192) :
    Calls Tryd.prog 51 #[.string s] w fun e w' => e = .returned (.int .i64 (runF s.data.toList)) ∧ w' = w := by
  generalize hr : runF s.data.toList = e
  have HE : Hid (0 + runF (s.data.toList.drop 0) = e) := by show _ = _; simpa using hr
  clear hr
  go_enter Tryd.func51, Tryd.ntmps51
  go_wp2
  go_loop [7] (fun i => ∃ k : Nat, k ≤ s.size ∧ i = .int .i64 k ∧ Hid (k + runF (s.data.toList.drop k) = e)) (fun i => s.size - (intOf i).toNat)
  case atStart => exact ⟨0, by omega, rfl, HE⟩
  case round =>
    obtain ⟨k, hk, rfl, HK⟩ := hrel
    clear HE
    by_cases hlt : k < s.size
    · cases h1 : smallB s[k].toNat
      · cases h2 : digitB s[k].toNat
        · go_wp2_with (first | (go_at_call 50; refine (isLetter_c _ _).mono ?_; rintro e w' ⟨rfl, rfl⟩) | (go_at_call 62; refine (isDigit_c _ _).mono ?_; rintro e w' ⟨rfl, rfl⟩))
          · have h3 : ((s[k].toNat : Int) != 95) = true := by assumption
            go_ret
            exact ⟨ret_int (by have := HK.out; rw [runF_out hlt (inside_not h1 h2 h3)] at this; omega), rfl⟩
          · have h3 : ((s[k].toNat : Int) != 95) = false := by assumption
            go_round
            case rel => exact ⟨k + 1, by omega, by go_num, by have := HK.out; rw [runF_in hlt (inside_bar h3)] at this; show _ = _; omega⟩
            case measure => simp [intOf]; omega
        · go_wp2_with (first | (go_at_call 50; refine (isLetter_c _ _).mono ?_; rintro e w' ⟨rfl, rfl⟩) | (go_at_call 62; refine (isDigit_c _ _).mono ?_; rintro e w' ⟨rfl, rfl⟩))
          go_round
          case rel => exact ⟨k + 1, by omega, by go_num, by have := HK.out; rw [runF_in hlt (inside_digit h2)] at this; show _ = _; omega⟩
          case measure => simp [intOf]; omega
      · go_wp2_with (first | (go_at_call 50; refine (isLetter_c _ _).mono ?_; rintro e w' ⟨rfl, rfl⟩) | (go_at_call 62; refine (isDigit_c _ _).mono ?_; rintro e w' ⟨rfl, rfl⟩))
        go_round
        case rel => exact ⟨k + 1, by omega, by go_num, by have := HK.out; rw [runF_in hlt (inside_small h1)] at this; show _ = _; omega⟩
        case measure => simp [intOf]; omega
    · go_wp2
      go_ret
      exact ⟨ret_int (by have := HK.out; rw [runF_end (by omega)] at this; omega), rfl⟩

theorem run_all (l : List UInt8) : (runF l = l.length) ↔ (l.all fun b => insideB b.toNat) = true := by
  induction l with
  | nil => simp [runF]
  | cons b l ih =>
    have := runF_le l
    simp only [runF, List.length_cons, List.all_cons]
    split
    · rename_i h; simp [h, ih]
    · rename_i h; simp [h]
theorem name_split {s : ByteArray} (h0 : 1 ≤ s.size) (h1 : s.size ≤ 16) : nameF s.data.toList = (smallB s[0].toNat && ((runF s.data.toList : Int) == (s.size : Int))) := by
  have hd := drop_cons s 0 (by omega)
  simp only [List.drop_zero] at hd
  have hh : s.data.toList.head? = some s[0] := by rw [hd]; rfl
  have hlen : s.data.toList.length = s.size := by simp
  have hr := run_all s.data.toList
  unfold nameF
  rw [hh, hlen]
  have e : (s.data.toList.all fun b => insideB b.toNat) = ((runF s.data.toList : Int) == (s.size : Int)) := by
    rw [Bool.eq_iff_iff, ← hr, hlen]
    simp
    omega
  rw [e]
  simp [h0, h1]
set_option maxRecDepth 100000 in
set_option maxHeartbeats 1000000 in
theorem isName_any (s : ByteArray) (w : World) :
    Calls Tryd.prog 34 #[.string s] w fun e w' => e = .returned (.bool (nameF s.data.toList)) ∧ w' = w := by
  cases hq : (decide ((1 : Int) ≤ (s.size : Int)) && decide ((s.size : Int) ≤ 16))
  · have hf : nameF s.data.toList = false := by
      have hlen : s.data.toList.length = s.size := by simp
      unfold nameF
      rw [hlen]
      simp at hq
      simp
      omega
    go_enter Tryd.func34, Tryd.ntmps34
    go_wp2_with fail
    refine (within_any _ _ _ _).mono ?_
    rintro e w1 ⟨rfl, rfl⟩
    rw [hq]
    go_wp2_with fail
    go_ret
    exact ⟨by rw [hf]; rfl, rfl⟩
  · have hb : 1 ≤ s.size ∧ s.size ≤ 16 := by simp at hq; omega
    have hz : 0 < s.size := by omega
    have HN : Hid _ := name_split hb.1 hb.2
    cases hl : smallB s[0].toNat
    · go_enter Tryd.func34, Tryd.ntmps34
      go_wp2_with fail
      refine (within_any _ _ _ _).mono ?_
      rintro e w1 ⟨rfl, rfl⟩
      rw [hq]
      clear hq
      go_wp2_with fail
      refine (isLetter_c _ _).mono ?_
      rintro e w1 ⟨rfl, rfl⟩
      go_wp2_with fail
      go_ret
      exact ⟨by rw [HN.out, hl]; rfl, rfl⟩
    · go_enter Tryd.func34, Tryd.ntmps34
      go_wp2_with fail
      refine (within_any _ _ _ _).mono ?_
      rintro e w1 ⟨rfl, rfl⟩
      rw [hq]
      clear hq
      go_wp2_with fail
      refine (isLetter_c _ _).mono ?_
      rintro e w1 ⟨rfl, rfl⟩
      go_wp2_with fail
      refine (runLength_c _ _ (by omega)).mono ?_
      rintro e w1 ⟨rfl, rfl⟩
      go_wp2_with fail
      go_ret
      exact ⟨by rw [HN.out, hl]; rfl, rfl⟩

/- the options -/
def actL : List (ByteArray × Int) := [(⟨#[105, 103, 110, 111, 114, 101]⟩, 1), (⟨#[115, 116, 111, 112]⟩, 2), (⟨#[114, 101, 115, 116, 97, 114, 116]⟩, 3)]
def rightL : List (ByteArray × Int) := [(⟨#[108, 111, 111, 107]⟩, 1), (⟨#[99, 104, 97, 110, 103, 101]⟩, 2)]
def kindL : List (ByteArray × Int) := [(⟨#[113, 117, 101, 117, 101]⟩, 1), (⟨#[115, 97, 109, 112, 108, 101]⟩, 2)]
theorem opts_new (w : World) (cs : Array Value) (t : TypeId) (os : List (ByteArray × Int)) (cap : Nat) (h : ∀ i (h : i < os.length), cs[i * 2]? = some (.string os[i].1) ∧ cs[i * 2 + 1]? = some (.int .i64 os[i].2)) : OptsV (w.alloc (.cells cs t)) (.slice (some ⟨w.heap.size, 0, none⟩) os.length cap) os := by
  refine ⟨_, _, rfl, fun i hi => ⟨w.heap.size, 0, rfl, ?_, ?_⟩⟩
  · rw [cell_of_blk (heap_new _ _), Nat.zero_add]; exact (h i hi).1
  · rw [cell_of_blk (heap_new _ _), Nat.zero_add]; exact (h i hi).2
set_option maxRecDepth 100000 in
set_option maxHeartbeats 1000000 in
theorem actions_c (w : World) : Calls Tryd.prog 44 #[] w fun e w' => ∃ v, e = .returned v ∧ OptsV w' v actL ∧ Below w.heap.size w w' := by
  go_enter Tryd.func44, Tryd.ntmps44
  go_wp2_with fail
  go_ret
  exact ⟨_, rfl, opts_new _ _ _ actL _ (by intro i hi; match i, hi with | 0, _ => exact ⟨rfl, rfl⟩ | 1, _ => exact ⟨rfl, rfl⟩ | 2, _ => exact ⟨rfl, rfl⟩), (Below.refl _ w).alloc (Nat.le_refl _) _⟩
set_option maxRecDepth 100000 in
set_option maxHeartbeats 1000000 in
theorem rights_c (w : World) : Calls Tryd.prog 45 #[] w fun e w' => ∃ v, e = .returned v ∧ OptsV w' v rightL ∧ Below w.heap.size w w' := by
  go_enter Tryd.func45, Tryd.ntmps45
  go_wp2_with fail
  go_ret
  exact ⟨_, rfl, opts_new _ _ _ rightL _ (by intro i hi; match i, hi with | 0, _ => exact ⟨rfl, rfl⟩ | 1, _ => exact ⟨rfl, rfl⟩), (Below.refl _ w).alloc (Nat.le_refl _) _⟩
set_option maxRecDepth 100000 in
set_option maxHeartbeats 1000000 in
theorem kinds_c (w : World) : Calls Tryd.prog 46 #[] w fun e w' => ∃ v, e = .returned v ∧ OptsV w' v kindL ∧ Below w.heap.size w w' := by
  go_enter Tryd.func46, Tryd.ntmps46
  go_wp2_with fail
  go_ret
  exact ⟨_, rfl, opts_new _ _ _ kindL _ (by intro i hi; match i, hi with | 0, _ => exact ⟨rfl, rfl⟩ | 1, _ => exact ⟨rfl, rfl⟩), (Below.refl _ w).alloc (Nat.le_refl _) _⟩
set_option maxRecDepth 100000 in
set_option maxHeartbeats 1000000 in
theorem isOption_any (os : List (ByteArray × Int)) (v : Value) (n : Int) (w : World) (hv : OptsV w v os) (hl : os.length ≤ 9) :
    Calls Tryd.prog 52 #[v, .int .i64 n] w fun e w' => e = .returned (.bool (os.any (sameO n))) ∧ Below w.heap.size w w' := by
  have b0 : Below w.heap.size w (w.alloc (.cells #[.int .i64 n] 3)) := (Below.refl _ w).alloc (Nat.le_refl _) _
  have hcf := contains_opt w.heap.size n os v (w.alloc (.cells #[.int .i64 n] 3)) (hv.below b0) (by omega) (by rw [cell_of_blk (heap_new _ _)]; rfl)
  go_enter Tryd.func52, Tryd.ntmps52
  go_wp2_with fail
  refine hcf.mono ?_
  rintro e w1 ⟨rfl, hb⟩
  go_wp2_with fail
  go_ret
  exact ⟨rfl, b0.trans (hb.mono b0.size)⟩
theorem act_is (n : Int) : actL.any (sameO n) = (decide (1 ≤ n) && decide (n ≤ 3)) := by
  rw [Bool.eq_iff_iff]; simp [actL, sameO]; omega
theorem right_is (n : Int) : rightL.any (sameO n) = (decide (n = 1) || decide (n = 2)) := by
  rw [Bool.eq_iff_iff]; simp [rightL, sameO]; omega
theorem kind_is (n : Int) : kindL.any (sameO n) = (decide (n = 1) || decide (n = 2)) := by
  rw [Bool.eq_iff_iff]; simp [kindL, sameO]; omega
end Go.Proofs.YteioennfpkoagaaDoor.C
