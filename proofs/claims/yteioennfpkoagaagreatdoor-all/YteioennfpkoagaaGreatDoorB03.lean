import Derived.Test.YteioennfpkoagaaGreatDoorB02
import Derived.Laws.BytesArg
namespace Go.Proofs.YteioennfpkoagaaGreatDoor.C
open Go.RowKit
attribute [local go_sem ↓] Go.wp_at_zero Go.wp_at_succ

/- a number's digits: of as many as the first number says -/
def dig (n : Nat) : UInt8 := UInt8.ofNat (48 + n)
def decG : Nat → Nat → List UInt8
  | 0, _ => []
  | k + 1, n => if n < 10 then [dig n] else decG k (n / 10) ++ [dig (n % 10)]
def ba (l : List UInt8) : ByteArray := ⟨l.toArray⟩
theorem ba_size (l : List UInt8) : (ba l).size = l.length := by simp [ba, ByteArray.size]
theorem decG_len (k n : Nat) : (decG k n).length ≤ k := by
  induction k generalizing n with
  | zero => simp [decG]
  | succ k ih =>
    have := ih (n / 10)
    unfold decG
    split <;> simp <;> omega
theorem ba_append (a b : List UInt8) : ba a ++ ba b = ba (a ++ b) := by
  apply ByteArray.ext
  simp [ba]

theorem nums_dig (n : Nat) : strOfNums [48 + (n : Int)] = ba [dig n] := by
  have e : (48 + (n : Int)).toNat = 48 + n := by omega
  unfold strOfNums ba dig
  rw [List.map_cons, List.map_nil, e]
theorem conv_one (w : World) (x : Int) : (convert 63 9 (.slice (some ⟨w.heap.size, 0, none⟩) 1 1)).run Tryz.prog (w.alloc (.cells #[.int .u8 x] 5)) = .ok (.string (strOfNums [x])) (w.alloc (.cells #[.int .u8 x] 5)) := by
  refine run_convert_bytes_arg (P := Tryz.prog) (w.alloc (.cells #[.int .u8 x] 5)) 63 5 Tryz.underlying63 Tryz.underlying5 w.heap.size 0 1 1 [x] rfl ?_ 9 Tryz.underlying9
  intro i hi
  have : i = 0 := by omega
  subst this
  rw [cell_of_blk (heap_new _ _)]; rfl
def decF (n : Int) : List UInt8 := decG 3 n.toNat
theorem decF_len (n : Int) : (decF n).length ≤ 3 := decG_len _ _
end Go.Proofs.YteioennfpkoagaaGreatDoor.C
namespace Go.Proofs.YteioennfpkoagaaGreatDoor.C
open Go.RowKit
attribute [local go_sem ↓] Go.wp_at_zero Go.wp_at_succ

theorem isLetter_c (n : Int) (w : World) :
    Calls Tryz.prog 176 #[.int .u8 n] w fun e w' => e = .returned (.bool (smallB n)) ∧ w' = w := by
  go_enter Tryz.func176, Tryz.ntmps176
  go_wp2
  · go_ret
    exact ⟨by simp [smallB, *], rfl⟩
  · go_ret
    exact ⟨by simp [smallB]; omega, rfl⟩
theorem isDigit_c (n : Int) (w : World) :
    Calls Tryz.prog 198 #[.int .u8 n] w fun e w' => e = .returned (.bool (digitB n)) ∧ w' = w := by
  go_enter Tryz.func198, Tryz.ntmps198
  go_wp2
  · go_ret
    exact ⟨by simp [digitB, *], rfl⟩
  · go_ret
    exact ⟨by simp [digitB]; omega, rfl⟩
theorem inside_not {n : Int} (h1 : smallB n = false) (h2 : digitB n = false) (h3 : (n != 95) = true) : insideB n = false := by
  simp [insideB, h1, h2] at h3 ⊢; exact h3
theorem inside_small {n : Int} (h1 : smallB n = true) : insideB n = true := by simp [insideB, h1]
theorem inside_digit {n : Int} (h1 : digitB n = true) : insideB n = true := by simp [insideB, h1]
theorem inside_bar {n : Int} (h3 : (n != 95) = false) : insideB n = true := by simp [insideB] at h3 ⊢; simp [h3]
theorem ret_int {a b : Int} (h : a = b) : Ending.returned (.int .i64 a) = Ending.returned (.int .i64 b) := by rw [h]
set_option maxHeartbeats 400000 in
theorem runLength_c (s : ByteArray) (w : World) (hs : s.size ≤ 8192) :
    Calls Tryz.prog 177 #[.string s] w fun e w' => e = .returned (.int .i64 (runF s.data.toList)) ∧ w' = w := by
  generalize hr : runF s.data.toList = e
  have HE : Hid (0 + runF (s.data.toList.drop 0) = e) := by show _ = _; simpa using hr
  clear hr
  go_enter Tryz.func177, Tryz.ntmps177
  go_wp2
  go_loop [7] (fun i => ∃ k : Nat, k ≤ s.size ∧ i = .int .i64 k ∧ Hid (k + runF (s.data.toList.drop k) = e)) (fun i => s.size - (intOf i).toNat)
  case atStart => exact ⟨0, by omega, rfl, HE⟩
  case round =>
    obtain ⟨k, hk, rfl, HK⟩ := hrel
    clear HE
    by_cases hlt : k < s.size
    · cases h1 : smallB s[k].toNat
      · cases h2 : digitB s[k].toNat
        · go_wp2_with (first | (go_at_call 176; refine (isLetter_c _ _).mono ?_; rintro e w' ⟨rfl, rfl⟩) | (go_at_call 198; refine (isDigit_c _ _).mono ?_; rintro e w' ⟨rfl, rfl⟩))
          · have h3 : ((s[k].toNat : Int) != 95) = true := by assumption
            go_ret
            exact ⟨ret_int (by have := HK.out; rw [runF_out hlt (inside_not h1 h2 h3)] at this; omega), rfl⟩
          · have h3 : ((s[k].toNat : Int) != 95) = false := by assumption
            go_round
            case rel => exact ⟨k + 1, by omega, by go_num, by have := HK.out; rw [runF_in hlt (inside_bar h3)] at this; show _ = _; omega⟩
            case measure => simp [intOf]; omega
        · go_wp2_with (first | (go_at_call 176; refine (isLetter_c _ _).mono ?_; rintro e w' ⟨rfl, rfl⟩) | (go_at_call 198; refine (isDigit_c _ _).mono ?_; rintro e w' ⟨rfl, rfl⟩))
          go_round
          case rel => exact ⟨k + 1, by omega, by go_num, by have := HK.out; rw [runF_in hlt (inside_digit h2)] at this; show _ = _; omega⟩
          case measure => simp [intOf]; omega
      · go_wp2_with (first | (go_at_call 176; refine (isLetter_c _ _).mono ?_; rintro e w' ⟨rfl, rfl⟩) | (go_at_call 198; refine (isDigit_c _ _).mono ?_; rintro e w' ⟨rfl, rfl⟩))
        go_round
        case rel => exact ⟨k + 1, by omega, by go_num, by have := HK.out; rw [runF_in hlt (inside_small h1)] at this; show _ = _; omega⟩
        case measure => simp [intOf]; omega
    · go_wp2
      go_ret
      exact ⟨ret_int (by have := HK.out; rw [runF_end (by omega)] at this; omega), rfl⟩

theorem run_all (l : List UInt8) : (runF l = l.length) ↔ (l.all fun b => insideB b.toNat) = true := by
  induction l with
  | nil => simp [runF]
  | cons b l ih =>
    have := runF_le l
    simp only [runF, List.length_cons, List.all_cons]
    split
    · rename_i h; simp [h, ih]
    · rename_i h; simp [h]
theorem name_split {s : ByteArray} (h0 : 1 ≤ s.size) (h1 : s.size ≤ 16) : nameF s.data.toList = (smallB s[0].toNat && ((runF s.data.toList : Int) == (s.size : Int))) := by
  have hd := drop_cons s 0 (by omega)
  simp only [List.drop_zero] at hd
  have hh : s.data.toList.head? = some s[0] := by rw [hd]; rfl
  have hlen : s.data.toList.length = s.size := by simp
  have hr := run_all s.data.toList
  unfold nameF
  rw [hh, hlen]
  have e : (s.data.toList.all fun b => insideB b.toNat) = ((runF s.data.toList : Int) == (s.size : Int)) := by
    rw [Bool.eq_iff_iff, ← hr, hlen]
    simp
    omega
  rw [e]
  simp [h0, h1]
set_option maxRecDepth 100000 in
set_option maxHeartbeats 1000000 in
theorem isName_any (s : ByteArray) (w : World) :
    Calls Tryz.prog 112 #[.string s] w fun e w' => e = .returned (.bool (nameF s.data.toList)) ∧ w' = w := by
  cases hq : (decide ((1 : Int) ≤ (s.size : Int)) && decide ((s.size : Int) ≤ 16))
  · have hf : nameF s.data.toList = false := by
      have hlen : s.data.toList.length = s.size := by simp
      unfold nameF
      rw [hlen]
      simp at hq
      simp
      omega
    go_enter Tryz.func112, Tryz.ntmps112
    go_wp2_with fail
    refine (within_any _ _ _ _).mono ?_
    rintro e w1 ⟨rfl, rfl⟩
    rw [hq]
    go_wp2_with fail
    go_ret
    exact ⟨by rw [hf]; rfl, rfl⟩
  · have hb : 1 ≤ s.size ∧ s.size ≤ 16 := by simp at hq; omega
    have hz : 0 < s.size := by omega
    have HN : Hid _ := name_split hb.1 hb.2
    cases hl : smallB s[0].toNat
    · go_enter Tryz.func112, Tryz.ntmps112
      go_wp2_with fail
      refine (within_any _ _ _ _).mono ?_
      rintro e w1 ⟨rfl, rfl⟩
      rw [hq]
      clear hq
      go_wp2_with fail
      refine (isLetter_c _ _).mono ?_
      rintro e w1 ⟨rfl, rfl⟩
      go_wp2_with fail
      go_ret
      exact ⟨by rw [HN.out, hl]; rfl, rfl⟩
    · go_enter Tryz.func112, Tryz.ntmps112
      go_wp2_with fail
      refine (within_any _ _ _ _).mono ?_
      rintro e w1 ⟨rfl, rfl⟩
      rw [hq]
      clear hq
      go_wp2_with fail
      refine (isLetter_c _ _).mono ?_
      rintro e w1 ⟨rfl, rfl⟩
      go_wp2_with fail
      refine (runLength_c _ _ (by omega)).mono ?_
      rintro e w1 ⟨rfl, rfl⟩
      go_wp2_with fail
      go_ret
      exact ⟨by rw [HN.out, hl]; rfl, rfl⟩

/- the options -/
def actL : List (ByteArray × Int) := [(⟨#[105, 103, 110, 111, 114, 101]⟩, 1), (⟨#[115, 116, 111, 112]⟩, 2), (⟨#[114, 101, 115, 116, 97, 114, 116]⟩, 3)]
def rightL : List (ByteArray × Int) := [(⟨#[108, 111, 111, 107]⟩, 1), (⟨#[99, 104, 97, 110, 103, 101]⟩, 2)]
def kindL : List (ByteArray × Int) := [(⟨#[113, 117, 101, 117, 101]⟩, 1), (⟨#[115, 97, 109, 112, 108, 101]⟩, 2)]
theorem opts_new (w : World) (cs : Array Value) (t : TypeId) (os : List (ByteArray × Int)) (cap : Nat) (h : ∀ i (h : i < os.length), cs[i * 2]? = some (.string os[i].1) ∧ cs[i * 2 + 1]? = some (.int .i64 os[i].2)) : OptsV (w.alloc (.cells cs t)) (.slice (some ⟨w.heap.size, 0, none⟩) os.length cap) os := by
  refine ⟨_, _, rfl, fun i hi => ⟨w.heap.size, 0, rfl, ?_, ?_⟩⟩
  · rw [cell_of_blk (heap_new _ _), Nat.zero_add]; exact (h i hi).1
  · rw [cell_of_blk (heap_new _ _), Nat.zero_add]; exact (h i hi).2
set_option maxRecDepth 100000 in
set_option maxHeartbeats 1000000 in
theorem actions_c (w : World) : Calls Tryz.prog 169 #[] w fun e w' => ∃ v, e = .returned v ∧ OptsV w' v actL ∧ Below w.heap.size w w' := by
  go_enter Tryz.func169, Tryz.ntmps169
  go_wp2_with fail
  go_ret
  exact ⟨_, rfl, opts_new _ _ _ actL _ (by intro i hi; match i, hi with | 0, _ => exact ⟨rfl, rfl⟩ | 1, _ => exact ⟨rfl, rfl⟩ | 2, _ => exact ⟨rfl, rfl⟩), (Below.refl _ w).alloc (Nat.le_refl _) _⟩
set_option maxRecDepth 100000 in
set_option maxHeartbeats 1000000 in
theorem rights_c (w : World) : Calls Tryz.prog 170 #[] w fun e w' => ∃ v, e = .returned v ∧ OptsV w' v rightL ∧ Below w.heap.size w w' := by
  go_enter Tryz.func170, Tryz.ntmps170
  go_wp2_with fail
  go_ret
  exact ⟨_, rfl, opts_new _ _ _ rightL _ (by intro i hi; match i, hi with | 0, _ => exact ⟨rfl, rfl⟩ | 1, _ => exact ⟨rfl, rfl⟩), (Below.refl _ w).alloc (Nat.le_refl _) _⟩
set_option maxRecDepth 100000 in
set_option maxHeartbeats 1000000 in
theorem kinds_c (w : World) : Calls Tryz.prog 171 #[] w fun e w' => ∃ v, e = .returned v ∧ OptsV w' v kindL ∧ Below w.heap.size w w' := by
  go_enter Tryz.func171, Tryz.ntmps171
  go_wp2_with fail
  go_ret
  exact ⟨_, rfl, opts_new _ _ _ kindL _ (by intro i hi; match i, hi with | 0, _ => exact ⟨rfl, rfl⟩ | 1, _ => exact ⟨rfl, rfl⟩), (Below.refl _ w).alloc (Nat.le_refl _) _⟩
set_option maxRecDepth 100000 in
set_option maxHeartbeats 1000000 in
theorem isOption_any (os : List (ByteArray × Int)) (v : Value) (n : Int) (w : World) (hv : OptsV w v os) (hl : os.length ≤ 9) :
    Calls Tryz.prog 178 #[v, .int .i64 n] w fun e w' => e = .returned (.bool (os.any (sameO n))) ∧ Below w.heap.size w w' := by
  have b0 : Below w.heap.size w (w.alloc (.cells #[.int .i64 n] 3)) := (Below.refl _ w).alloc (Nat.le_refl _) _
  have hcf := contains_opt w.heap.size n os v (w.alloc (.cells #[.int .i64 n] 3)) (hv.below b0) (by omega) (by rw [cell_of_blk (heap_new _ _)]; rfl)
  go_enter Tryz.func178, Tryz.ntmps178
  go_wp2_with fail
  refine hcf.mono ?_
  rintro e w1 ⟨rfl, hb⟩
  go_wp2_with fail
  go_ret
  exact ⟨rfl, b0.trans (hb.mono b0.size)⟩
theorem act_is (n : Int) : actL.any (sameO n) = (decide (1 ≤ n) && decide (n ≤ 3)) := by
  rw [Bool.eq_iff_iff]; simp [actL, sameO]; omega
theorem right_is (n : Int) : rightL.any (sameO n) = (decide (n = 1) || decide (n = 2)) := by
  rw [Bool.eq_iff_iff]; simp [rightL, sameO]; omega
theorem kind_is (n : Int) : kindL.any (sameO n) = (decide (n = 1) || decide (n = 2)) := by
  rw [Bool.eq_iff_iff]; simp [kindL, sameO]; omega
end Go.Proofs.YteioennfpkoagaaGreatDoor.C
namespace Go.Proofs.YteioennfpkoagaaGreatDoor.C
open Go.RowKit
attribute [local go_sem ↓] Go.wp_at_zero Go.wp_at_succ

theorem regB_parts (r : RegD) : regB r = ((decide (1 ≤ r.pages) && decide (r.pages ≤ 64)) && (decide (0 ≤ r.page) && decide (r.page ≤ 64 - r.pages)) && rightL.any (sameO r.rights)) := by
  rw [right_is, Bool.eq_iff_iff]
  unfold regB
  simp
  omega
theorem keep3 {B : Nat} {W w1 w2 : World} {a0 a1 a2 : Addr} {v0 v1 v2 : Value} (h : w1.cell? a0 = some v0 ∧ w1.cell? a1 = some v1 ∧ w1.cell? a2 = some v2 ∧ Below B W w1) (hb : Below w1.heap.size w1 w2) (hB : B ≤ W.heap.size) : w2.cell? a0 = some v0 ∧ w2.cell? a1 = some v1 ∧ w2.cell? a2 = some v2 ∧ Below B W w2 := by
  obtain ⟨h0, h1, h2, hx⟩ := h
  have k : ∀ {a : Addr} {v : Value}, w1.cell? a = some v → w2.cell? a = some v := fun h => (hb.cell (World.block_lt_of_cell? w1 _ h)).trans h
  exact ⟨k h0, k h1, k h2, hx.trans (hb.mono (Nat.le_trans hB hx.size))⟩
theorem within_is (n lo hi : Int) (b : Bool) (h : (decide (lo ≤ n) && decide (n ≤ hi)) = b) (w : World) :
    Calls Tryz.prog 57 #[.int .i64 n, .int .i64 lo, .int .i64 hi] w fun e w' => e = .returned (.bool b) ∧ w' = w := by
  subst h; exact within_any n lo hi w
set_option maxRecDepth 100000 in
set_option maxHeartbeats 4000000 in
theorem isRegion_any (r : RegD) (w : World) :
    Calls Tryz.prog 224 #[.agg #[.int .i64 r.page, .int .i64 r.pages, .int .i64 r.rights]] w fun e w' => e = .returned (.bool (regB r)) ∧ Below w.heap.size w w' := by
  have HR : Hid _ := regB_parts r
  have b0 : Below w.heap.size w (w.alloc (.cells #[.int .i64 r.page, .int .i64 r.pages, .int .i64 r.rights] 90)) := (Below.refl _ w).alloc (Nat.le_refl _) _
  have h0 := heap_new w (.cells #[.int .i64 r.page, .int .i64 r.pages, .int .i64 r.rights] 90)
  cases h1 : (decide (1 ≤ r.pages) && decide (r.pages ≤ 64))
  · have H1 := within_is _ _ _ _ h1
    have HH : Hid (regB r = false) := by show _ = _; rw [HR.out, h1]; rfl
    clear h1
    go_enter Tryz.func224, Tryz.ntmps224
    go_wp2_with fail
    generalize w.alloc (.cells #[.int .i64 r.page, .int .i64 r.pages, .int .i64 r.rights] 90) = W0 at *
    have y0 : W0.cell? ⟨w.heap.size, 0, none⟩ = some (.int .i64 r.page) := by rw [cell_of_blk h0]; rfl
    have y1 : W0.cell? ⟨w.heap.size, 1, none⟩ = some (.int .i64 r.pages) := by rw [cell_of_blk h0]; rfl
    have y2 : W0.cell? ⟨w.heap.size, 2, none⟩ = some (.int .i64 r.rights) := by rw [cell_of_blk h0]; rfl
    go_quiet (first | (go_at_call 57; exact Calls.quiet_of_same (H1 _)))
    go_wp2_with fail
    go_ret
    exact ⟨by rw [HH.out]; rfl, below_drewN b0 _⟩
  have hpg : 1 ≤ r.pages ∧ r.pages ≤ 64 := by simpa using h1
  have hw : IntKind.i64.wrap (64 - r.pages) = 64 - r.pages := wrap_small _ (by omega) (by omega)
  cases h2 : (decide (0 ≤ r.page) && decide (r.page ≤ 64 - r.pages))
  · have H1 := within_is _ _ _ _ h1
    have H2 := within_is _ _ _ _ h2
    have HH : Hid (regB r = false) := by show _ = _; rw [HR.out, h1, h2]; rfl
    clear h1 h2
    go_enter Tryz.func224, Tryz.ntmps224
    go_wp2_with fail
    generalize w.alloc (.cells #[.int .i64 r.page, .int .i64 r.pages, .int .i64 r.rights] 90) = W0 at *
    have y0 : W0.cell? ⟨w.heap.size, 0, none⟩ = some (.int .i64 r.page) := by rw [cell_of_blk h0]; rfl
    have y1 : W0.cell? ⟨w.heap.size, 1, none⟩ = some (.int .i64 r.pages) := by rw [cell_of_blk h0]; rfl
    have y2 : W0.cell? ⟨w.heap.size, 2, none⟩ = some (.int .i64 r.rights) := by rw [cell_of_blk h0]; rfl
    go_quiet (first | (go_at_call_of 57 (Value.int .i64 r.pages); exact Calls.quiet_of_same (H1 _)) | (go_at_call_of 57 (Value.int .i64 r.page); exact Calls.quiet_of_same (H2 _)))
    go_wp2_with fail
    go_ret
    exact ⟨by rw [HH.out]; rfl, below_drewN b0 _⟩
  have H1 := within_is _ _ _ _ h1
  have H2 := within_is _ _ _ _ h2
  have HH : Hid (regB r = rightL.any (sameO r.rights)) := by show _ = _; rw [HR.out, h1, h2]; rfl
  clear h1 h2
  go_enter Tryz.func224, Tryz.ntmps224
  go_wp2_with fail
  generalize w.alloc (.cells #[.int .i64 r.page, .int .i64 r.pages, .int .i64 r.rights] 90) = W0 at *
  have y0 : W0.cell? ⟨w.heap.size, 0, none⟩ = some (.int .i64 r.page) := by rw [cell_of_blk h0]; rfl
  have y1 : W0.cell? ⟨w.heap.size, 1, none⟩ = some (.int .i64 r.pages) := by rw [cell_of_blk h0]; rfl
  have y2 : W0.cell? ⟨w.heap.size, 2, none⟩ = some (.int .i64 r.rights) := by rw [cell_of_blk h0]; rfl
  go_region_held3 (fun w' => w'.cell? ⟨w.heap.size, 0, none⟩ = some (.int .i64 r.page) ∧ w'.cell? ⟨w.heap.size, 1, none⟩ = some (.int .i64 r.pages) ∧ w'.cell? ⟨w.heap.size, 2, none⟩ = some (.int .i64 r.rights) ∧ Below w.heap.size w w') (first | assumption | exact ⟨y0, y1, y2, b0.drew⟩ | exact keep3 (by assumption) hb3 (Nat.le_refl _) | exact keep3 (by assumption) hb2 (Nat.le_refl _)) ((first
    | (go_at_call_of 57 (Value.int .i64 r.pages); refine (H1 _).mono ?_; rintro e w2 ⟨rfl, rfl⟩)
    | (go_at_call_of 57 (Value.int .i64 r.page); refine (H2 _).mono ?_; rintro e w2 ⟨rfl, rfl⟩)
    | (go_at_call 170; refine (rights_c _).mono ?_; rintro e w2 ⟨v, rfl, hv, hb2⟩)
    | (go_at_call 178; refine (isOption_any rightL v _ _ (by exact hv) (by decide)).mono ?_; rintro e w3 ⟨rfl, hb3⟩)))
  have hS := ‹World.cell? _ ⟨w.heap.size, 0, none⟩ = _ ∧ _ ∧ _ ∧ Below w.heap.size w _›
  go_wp2_with fail
  go_ret
  exact ⟨by rw [HH.out]; rfl, hS.2.2.2⟩

end Go.Proofs.YteioennfpkoagaaGreatDoor.C
namespace Go.Proofs.YteioennfpkoagaaGreatDoor.C
open Go.RowKit
attribute [local go_sem ↓] Go.wp_at_zero Go.wp_at_succ

/- the regions -/
theorem meet_apart {a b : RegD} : meetR a b = !(apartB b a) := by
  unfold meetR apartB
  rw [Bool.eq_iff_iff]
  simp
theorem regs_meet {rs : List RegD} {k : Nat} (hk : k < rs.length) (h : (rs.take k).any (meetR rs[k]) = true) : regsF rs = false := by
  apply regsF_not
  intro ho
  have := ho.take (k + 1)
  rw [take_snocD rs k hk, RegsOK.snoc] at this
  obtain ⟨a, ha, hm⟩ := List.any_eq_true.1 h
  rw [meet_apart, this.2.2 a ha] at hm
  cases hm
theorem regs_ok_step {rs : List RegD} {k : Nat} (hk : k < rs.length) (h0 : RegsOK (rs.take k)) (hb : regB rs[k] = true) (h : (rs.take k).any (meetR rs[k]) = false) : RegsOK (rs.take (k + 1)) := by
  rw [take_snocD rs k hk, RegsOK.snoc]
  refine ⟨h0, hb, fun a ha => ?_⟩
  rw [List.any_eq_false] at h
  have := h a ha
  rw [meet_apart] at this
  simpa using this
theorem RegsV.take {w : World} {b off cap : Nat} {rs : List RegD} (h : RegsV w (.slice (some ⟨b, off, none⟩) rs.length cap) rs) (k : Nat) (hk : k ≤ rs.length) (cap' : Nat) : RegsV w (.slice (some ⟨b, off, none⟩) k cap') (rs.take k) := by
  obtain ⟨va, c, e, hc⟩ := h
  cases e
  refine ⟨_, _, by rw [List.length_take, Nat.min_eq_left hk], fun i hi => ?_⟩
  have hi2 : i < rs.length := by rw [List.length_take] at hi; omega
  rw [List.getElem_take]
  exact hc i hi2
set_option maxRecDepth 100000 in
set_option maxHeartbeats 2000000 in
theorem areRegions_any (rs : List RegD) (v : Value) (w : World) (hv : RegsV w v rs) (hcap : capV v) (hl : rs.length ≤ 4611686018427387903) :
    Calls Tryz.prog 179 #[v] w fun e w' => e = .returned (.bool (regsF rs)) ∧ Below w.heap.size w w' := by
  have HV : Hid (RegsV w v rs) := hv
  obtain ⟨va, cap, rfl, hc⟩ := hv
  have HC : Hid _ := hc
  clear hc
  have hlc := hcap.le
  clear hcap
  go_enter Tryz.func179, Tryz.ntmps179
  go_wp2_with fail
  go_loopw [8] (fun i wr => ∃ (k : Nat), i = .int .i64 k ∧ k ≤ rs.length ∧ Hid (RegsOK (rs.take k)) ∧ Below w.heap.size w wr) (fun i _ => rs.length - (intOf i).toNat)
  case atStart => exact ⟨0, rfl, by omega, by simp [Hid, RegsOK], Below.refl _ _⟩
  case round =>
    obtain ⟨k, rfl, hk, HO, hbel⟩ := hrel
    by_cases hlt : k < rs.length
    · have hlt' : (k : Int) < (rs.length : Int) := by omega
      have hk0 : (0 : Int) ≤ (k : Int) := by omega
      obtain ⟨b, off, rfl, c0, c1, c2⟩ := HC.out k hlt
      have hbl := World.block_lt_of_cell? w _ c0
      have d0 := (hbel.cell (by exact hbl)).trans c0
      have d1 := (hbel.cell (by exact hbl)).trans c1
      have d2 := (hbel.cell (by exact hbl)).trans c2
      have HBAD : Hid _ := @regs_bad rs k hlt
      have HMT : Hid _ := @regs_meet rs k hlt
      have HOK : Hid _ := @regs_ok_step rs k hlt HO.out
      have HTK : Hid _ := fun cap' (w' : World) (hb : Below w.heap.size w w') => (RegsV.below HV.out hb).take k hk cap'
      have HRG : Hid _ := HO.out.1
      clear c0 c1 c2
      generalize rs[k] = r at *
      have b1 := hbel.alloc (o := .cells #[.int .i64 r.page, .int .i64 r.pages, .int .i64 r.rights] 90) hbel.size
      have h1 := heap_new wr (.cells #[.int .i64 r.page, .int .i64 r.pages, .int .i64 r.rights] 90)
      have hkc : (k : Int) ≤ (cap : Int) := by omega
      go_wp2_with fail
      clear d0 d1 d2
      generalize wr.alloc (.cells #[.int .i64 r.page, .int .i64 r.pages, .int .i64 r.rights] 90) = W1 at *
      generalize wr.heap.size = nb at *
      refine (isRegion_any r _).mono ?_
      rintro e w2 ⟨rfl, hb2⟩
      have h2 := (hb2.block _ (lt_of_blk h1)).trans h1
      have b2 := b1.trans (hb2.mono b1.size)
      clear h1 b1 hb2
      cases hr : regB r
      · have HF : Hid _ := HBAD.out hr
        clear hr
        go_wp2_with fail
        go_ret
        exact ⟨by rw [HF.out]; rfl, b2⟩
      · have HR : Hid _ := hr
        clear hr
        have e0 : w2.cell? ⟨nb, 0, none⟩ = some (.int .i64 r.page) := by rw [cell_of_blk h2]; rfl
        have e1 : w2.cell? ⟨nb, 1, none⟩ = some (.int .i64 r.pages) := by rw [cell_of_blk h2]; rfl
        have e2 : w2.cell? ⟨nb, 2, none⟩ = some (.int .i64 r.rights) := by rw [cell_of_blk h2]; rfl
        go_wp2_with fail
        refine (contains_meet nb r (rs.take k) _ w2 (HTK.out cap w2 b2) (by rw [List.length_take]; omega) e0 e1 e2 HR.out HRG.out).mono ?_
        rintro e w3 ⟨rfl, hb3⟩
        have b3 := b2.trans (hb3.mono b2.size)
        cases hm : (rs.take k).any (meetR r)
        · have HN : Hid _ := HOK.out HR.out hm
          clear hm
          go_wp2_with fail
          go_roundw
          case rel => exact ⟨k + 1, by go_num, by omega, HN, b3⟩
          case measure => simp [intOf]; omega
        · have HF : Hid _ := HMT.out hm
          clear hm
          go_wp2_with fail
          go_ret
          exact ⟨by rw [HF.out]; rfl, b3⟩
    · have hlt' : ¬ (k : Int) < (rs.length : Int) := by omega
      have hke : k = rs.length := by omega
      have HF : Hid (regsF rs = true) := by show _ = _; rw [regsF_iff]; have := HO.out; rw [hke, List.take_length] at this; exact this
      go_wp2_with fail
      go_ret
      exact ⟨by rw [HF.out]; rfl, hbel⟩
end Go.Proofs.YteioennfpkoagaaGreatDoor.C
namespace Go.Proofs.YteioennfpkoagaaGreatDoor.C
open Go.RowKit
attribute [local go_sem ↓] Go.wp_at_zero Go.wp_at_succ

/- what the program asks of one partition, its name apart -/
def partE (f : Int) (x : PartD) : Int :=
  if (decide (1 ≤ x.period) && decide (x.period ≤ f)) = false then 8
  else if (f % x.period != 0) = true then 8
  else if (decide (1 ≤ x.duration) && decide (x.duration ≤ x.period)) = false then 9
  else if actL.any (sameO x.action) = false then 10
  else if regsF x.regs = false then 11 else 0
theorem partErr_eq (f : Int) (bef : List PartD) (x : PartD) : partErr f bef x = if (nameF x.name.data.toList && freshP bef x) = false then 7 else partE f x := by
  unfold partErr partE
  rw [act_is]
  by_cases h0 : (nameF x.name.data.toList && freshP bef x) = false
  · rw [if_pos h0, if_pos h0]
  rw [if_neg h0, if_neg h0]
  by_cases h1 : x.period < 1 ∨ f < x.period
  · rw [if_pos (by omega), if_pos (by rw [Bool.and_eq_false_iff]; simp; omega)]
  have n1 : ¬ (decide (1 ≤ x.period) && decide (x.period ≤ f)) = false := by rw [Bool.and_eq_false_iff]; simp; omega
  by_cases h2 : f % x.period = 0
  · have n2 : ¬ (f % x.period != 0) = true := by simp [h2]
    rw [if_neg (by omega), if_neg n1, if_neg n2]
    by_cases h3 : x.duration < 1 ∨ x.period < x.duration
    · rw [if_pos h3, if_pos (by rw [Bool.and_eq_false_iff]; simp; omega)]
    have n3 : ¬ (decide (1 ≤ x.duration) && decide (x.duration ≤ x.period)) = false := by rw [Bool.and_eq_false_iff]; simp; omega
    rw [if_neg h3, if_neg n3]
    by_cases h4 : x.action < 1 ∨ 3 < x.action
    · rw [if_pos h4, if_pos (by rw [Bool.and_eq_false_iff]; simp; omega)]
    · have n4 : ¬ (decide (1 ≤ x.action) && decide (x.action ≤ 3)) = false := by rw [Bool.and_eq_false_iff]; simp; omega
      rw [if_neg h4, if_neg n4]
  · rw [if_pos (by omega), if_neg n1, if_pos (by simp [h2])]
theorem isOption_is (os : List (ByteArray × Int)) (v : Value) (n : Int) (w : World) (hv : OptsV w v os) (hl : os.length ≤ 9) (b : Bool) (hb : os.any (sameO n) = b) :
    Calls Tryz.prog 178 #[v, .int .i64 n] w fun e w' => e = .returned (.bool b) ∧ Below w.heap.size w w' := by
  subst hb; exact isOption_any os v n w hv hl
theorem keep2 {B : Nat} {W w1 w2 : World} {a0 a1 : Addr} {v0 v1 : Value} (h : w1.cell? a0 = some v0 ∧ w1.cell? a1 = some v1 ∧ Below B W w1) (hb : Below w1.heap.size w1 w2) (hB : B ≤ W.heap.size) : w2.cell? a0 = some v0 ∧ w2.cell? a1 = some v1 ∧ Below B W w2 := by
  obtain ⟨h0, h1, hx⟩ := h
  have k : ∀ {a : Addr} {v : Value}, w1.cell? a = some v → w2.cell? a = some v := fun h => (hb.cell (World.block_lt_of_cell? w1 _ h)).trans h
  exact ⟨k h0, k h1, hx.trans (hb.mono (Nat.le_trans hB hx.size))⟩
theorem keep4c {B : Nat} {W w1 w2 : World} {a0 a1 a2 a3 : Addr} {v0 v1 v2 v3 : Value} (h : w1.cell? a0 = some v0 ∧ w1.cell? a1 = some v1 ∧ w1.cell? a2 = some v2 ∧ w1.cell? a3 = some v3 ∧ Below B W w1) (hb : Below w1.heap.size w1 w2) (hB : B ≤ W.heap.size) : w2.cell? a0 = some v0 ∧ w2.cell? a1 = some v1 ∧ w2.cell? a2 = some v2 ∧ w2.cell? a3 = some v3 ∧ Below B W w2 := by
  obtain ⟨h0, h1, h2, h3, hx⟩ := h
  have k : ∀ {a : Addr} {v : Value}, w1.cell? a = some v → w2.cell? a = some v := fun h => (hb.cell (World.block_lt_of_cell? w1 _ h)).trans h
  exact ⟨k h0, k h1, k h2, k h3, hx.trans (hb.mono (Nat.le_trans hB hx.size))⟩
set_option maxRecDepth 100000 in
set_option maxHeartbeats 2000000 in
theorem checkPartition_any (f : Int) (x : PartD) (rv : Value) (w : World) (hrv : RegsV w rv x.regs) (hcap : capV rv) (hf : 1 ≤ f ∧ f ≤ 240) (hrl : x.regs.length ≤ 4611686018427387903) :
    Calls Tryz.prog 113 #[.agg #[.string x.name, .int .i64 x.period, .int .i64 x.duration, .int .i64 x.action, rv], .int .i64 f] w fun e w' => e = .returned (.int .i64 (partE f x)) ∧ Below w.heap.size w w' := by
  have HRV : Hid (RegsV w rv x.regs) := hrv
  have HCP : Hid (capV rv) := hcap
  clear hcap
  obtain ⟨ra, rcap, rfl, hrx⟩ := hrv
  clear hrx
  have b0 : Below w.heap.size w (w.alloc (.cells #[.string x.name, .int .i64 x.period, .int .i64 x.duration, .int .i64 x.action, .slice ra x.regs.length rcap] 42)) := (Below.refl _ w).alloc (Nat.le_refl _) _
  have h0 := heap_new w (.cells #[.string x.name, .int .i64 x.period, .int .i64 x.duration, .int .i64 x.action, .slice ra x.regs.length rcap] 42)
  have HE : Hid (partE f x = partE f x) := rfl
  conv at HE => arg 1; rhs; unfold partE
  go_enter Tryz.func113, Tryz.ntmps113
  go_wp2_with fail
  generalize w.alloc (.cells #[.string x.name, .int .i64 x.period, .int .i64 x.duration, .int .i64 x.action, .slice ra x.regs.length rcap] 42) = W0 at *
  have y1 : W0.cell? ⟨w.heap.size, 1, none⟩ = some (.int .i64 x.period) := by rw [cell_of_blk h0]; rfl
  have y2 : W0.cell? ⟨w.heap.size, 2, none⟩ = some (.int .i64 x.duration) := by rw [cell_of_blk h0]; rfl
  have y3 : W0.cell? ⟨w.heap.size, 3, none⟩ = some (.int .i64 x.action) := by rw [cell_of_blk h0]; rfl
  have y4 : W0.cell? ⟨w.heap.size, 4, none⟩ = some (.slice ra x.regs.length rcap) := by rw [cell_of_blk h0]; rfl
  refine (within_any _ _ _ _).mono ?_
  rintro e w1 ⟨rfl, rfl⟩
  cases hA : (decide (1 ≤ x.period) && decide (x.period ≤ f))
  · have HX : Hid (partE f x = 8) := by show _ = _; rw [HE.out, if_pos hA]
    clear hA
    go_wp2_with fail
    go_ret
    exact ⟨by rw [HX.out]; rfl, b0⟩
  have hA' := hA
  simp only [Bool.and_eq_true, decide_eq_true_eq] at hA'
  have HA : Hid _ := hA
  clear hA
  have hpz : ¬ x.period = 0 := by omega
  have hf0 : 0 ≤ f := by omega
  have hw : IntKind.i64.wrap (f % x.period) = f % x.period := by
    have h1 := Int.emod_lt_of_pos f (show 0 < x.period by omega)
    have h2 := Int.emod_nonneg f (show x.period ≠ 0 by omega)
    exact wrap_small _ (by omega) (by omega)
  cases hR : (f % x.period != 0)
  · have HRR : Hid _ := hR
    go_wp2_with fail
    clear hR hw hpz hf0 hA'
    refine (within_any _ _ _ _).mono ?_
    rintro e w1 ⟨rfl, rfl⟩
    cases hD : (decide (1 ≤ x.duration) && decide (x.duration ≤ x.period))
    · have HX : Hid (partE f x = 9) := by show _ = _; rw [HE.out, if_neg (by rw [HA.out]; simp), if_neg (by rw [HRR.out]; simp), if_pos hD]
      clear hD
      go_wp2_with fail
      go_ret
      exact ⟨by rw [HX.out]; rfl, b0⟩
    have HD : Hid _ := hD
    clear hD
    cases hO : actL.any (sameO x.action)
    · have HX : Hid (partE f x = 10) := by show _ = _; rw [HE.out, if_neg (by rw [HA.out]; simp), if_neg (by rw [HRR.out]; simp), if_neg (by rw [HD.out]; simp), if_pos hO]
      have HO : Hid _ := hO
      clear hO
      go_wp2_with fail
      go_region_held3 (fun w' => w'.cell? ⟨w.heap.size, 3, none⟩ = some (.int .i64 x.action) ∧ w'.cell? ⟨w.heap.size, 4, none⟩ = some (.slice ra x.regs.length rcap) ∧ Below w.heap.size w w') (first | assumption | exact ⟨y3, y4, b0.drew⟩ | exact keep2 (by assumption) hb3 (Nat.le_refl _) | exact keep2 (by assumption) hb2 (Nat.le_refl _)) ((first
        | (go_at_call 169; refine (actions_c _).mono ?_; rintro e w2 ⟨v, rfl, hv, hb2⟩)
        | (go_at_call 178; refine (isOption_is actL v _ _ (by exact hv) (by decide) false HO.out).mono ?_; rintro e w3 ⟨rfl, hb3⟩)))
      have hS := ‹World.cell? _ ⟨w.heap.size, 3, none⟩ = _ ∧ _ ∧ Below w.heap.size w _›
      go_wp2_with fail
      go_ret
      exact ⟨by rw [HX.out]; rfl, hS.2.2⟩
    have HO : Hid _ := hO
    clear hO
    go_wp2_with fail
    go_region_held3 (fun w' => w'.cell? ⟨w.heap.size, 3, none⟩ = some (.int .i64 x.action) ∧ w'.cell? ⟨w.heap.size, 4, none⟩ = some (.slice ra x.regs.length rcap) ∧ Below w.heap.size w w') (first | assumption | exact ⟨y3, y4, b0.drew⟩ | exact keep2 (by assumption) hb3 (Nat.le_refl _) | exact keep2 (by assumption) hb2 (Nat.le_refl _)) ((first
      | (go_at_call 169; refine (actions_c _).mono ?_; rintro e w2 ⟨v, rfl, hv, hb2⟩)
      | (go_at_call 178; refine (isOption_is actL v _ _ (by exact hv) (by decide) true HO.out).mono ?_; rintro e w3 ⟨rfl, hb3⟩)))
    have hS := ‹World.cell? _ ⟨w.heap.size, 3, none⟩ = _ ∧ _ ∧ Below w.heap.size w _›
    obtain ⟨_, z4, b1⟩ := hS
    clear y1 y2 y3 y4
    go_wp2_with fail
    refine (areRegions_any x.regs _ _ (RegsV.below HRV.out b1) HCP.out hrl).mono ?_
    rintro e w4 ⟨rfl, hb4⟩
    have b2 := b1.trans (hb4.mono b1.size)
    have HX : Hid (partE f x = if regsF x.regs = false then 11 else 0) := by show _ = _; rw [HE.out, if_neg (by rw [HA.out]; simp), if_neg (by rw [HRR.out]; simp), if_neg (by rw [HD.out]; simp), if_neg (by rw [HO.out]; simp)]
    cases hG : regsF x.regs
    · go_wp2_with fail
      go_ret
      exact ⟨by rw [HX.out, hG]; rfl, b2⟩
    · go_wp2_with fail
      go_ret
      exact ⟨by rw [HX.out, hG]; rfl, b2⟩
  · have HX : Hid (partE f x = 8) := by show _ = _; rw [HE.out, if_neg (by rw [HA.out]; simp), if_pos hR]
    go_wp2_with fail
    go_ret
    exact ⟨by rw [HX.out]; rfl, b0⟩

/- and of one channel -/
def maxD (k f : Int) : Int := if k = 2 then f else 8
def chanE (f : Int) (n : Nat) (c : ChanD) : Int :=
  if (decide (0 ≤ c.source) && decide (c.source ≤ (n : Int) - 1)) = false then 12
  else if (decide (0 ≤ c.target) && decide (c.target ≤ (n : Int) - 1)) = false then 12
  else if (c.source == c.target) = true then 12
  else if kindL.any (sameO c.kind) = false then 13
  else if (decide (1 ≤ c.size) && decide (c.size ≤ 32)) = false then 14
  else if (decide (1 ≤ c.depth) && decide (c.depth ≤ maxD c.kind f)) = false then 15 else 0
theorem chanErr_eq (f : Int) (n : Nat) (bef : List ChanD) (c : ChanD) : chanErr f n bef c = if (nameF c.name.data.toList && freshC bef c) = false then 7 else chanE f n c := by
  unfold chanErr chanE
  rw [kind_is]
  by_cases h0 : (nameF c.name.data.toList && freshC bef c) = false
  · rw [if_pos h0, if_pos h0]
  rw [if_neg h0, if_neg h0]
  by_cases h1 : c.source < 0 ∨ (n : Int) ≤ c.source
  · rw [if_pos (by omega), if_pos (by rw [Bool.and_eq_false_iff]; simp; omega)]
  have n1 : ¬ (decide (0 ≤ c.source) && decide (c.source ≤ (n : Int) - 1)) = false := by rw [Bool.and_eq_false_iff]; simp; omega
  rw [if_neg n1]
  by_cases h2 : c.target < 0 ∨ (n : Int) ≤ c.target
  · rw [if_pos (by omega), if_pos (by rw [Bool.and_eq_false_iff]; simp; omega)]
  have n2 : ¬ (decide (0 ≤ c.target) && decide (c.target ≤ (n : Int) - 1)) = false := by rw [Bool.and_eq_false_iff]; simp; omega
  rw [if_neg n2]
  by_cases h3 : c.source = c.target
  · rw [if_pos (by omega), if_pos (by simp [h3])]
  have n3 : ¬ (c.source == c.target) = true := by simp [h3]
  rw [if_neg (by omega), if_neg n3]
  by_cases h4 : ¬ c.kind = 1 ∧ ¬ c.kind = 2
  · rw [if_pos h4, if_pos (by rw [Bool.or_eq_false_iff]; simp; omega)]
  have n4 : ¬ (decide (c.kind = 1) || decide (c.kind = 2)) = false := by rw [Bool.or_eq_false_iff]; simp; omega
  rw [if_neg h4, if_neg n4]
  by_cases h5 : c.size < 1 ∨ 32 < c.size
  · rw [if_pos h5, if_pos (by rw [Bool.and_eq_false_iff]; simp; omega)]
  have n5 : ¬ (decide (1 ≤ c.size) && decide (c.size ≤ 32)) = false := by rw [Bool.and_eq_false_iff]; simp; omega
  rw [if_neg h5, if_neg n5]
  have e : (if c.kind = 1 then (8 : Int) else f) = maxD c.kind f := by
    unfold maxD
    by_cases hk : c.kind = 1
    · rw [if_pos hk, if_neg (by omega)]
    · rw [if_neg hk, if_pos (by omega)]
  rw [e]
  by_cases h6 : c.depth < 1 ∨ maxD c.kind f < c.depth
  · rw [if_pos h6, if_pos (by rw [Bool.and_eq_false_iff]; simp; omega)]
  · have n6 : ¬ (decide (1 ≤ c.depth) && decide (c.depth ≤ maxD c.kind f)) = false := by rw [Bool.and_eq_false_iff]; simp; omega
    rw [if_neg h6, if_neg n6]
set_option maxRecDepth 100000 in
theorem maxDepth_any (k f : Int) (w : World) :
    Calls Tryz.prog 181 #[.int .i64 k, .int .i64 f] w fun e w' => e = .returned (.int .i64 (maxD k f)) ∧ w' = w := by
  unfold maxD
  go_enter Tryz.func181, Tryz.ntmps181
  by_cases h : k = 2
  · subst h
    go_wp2_with fail
    go_ret
    exact ⟨rfl, rfl⟩
  · have hb : (k == 2) = false := by simp [h]
    go_wp2_with fail
    go_ret
    exact ⟨rfl, rfl⟩
set_option maxRecDepth 100000 in
set_option maxHeartbeats 2000000 in
theorem checkChannel_any (f : Int) (n : Nat) (c : ChanD) (pa : Option Addr) (pcap : Nat) (cv : Value) (w : World) (hn : n ≤ 4611686018427387903) (hcv : ∃ a l k, cv = .slice a l k) :
    Calls Tryz.prog 116 #[.agg #[.string c.name, .int .i64 c.source, .int .i64 c.target, .int .i64 c.kind, .int .i64 c.size, .int .i64 c.depth], .agg #[.int .i64 f, .slice pa n pcap, cv]] w fun e w' => e = .returned (.int .i64 (chanE f n c)) ∧ Below w.heap.size w w' := by
  obtain ⟨ca, cl, ck, rfl⟩ := hcv
  have b0 : Below w.heap.size w ((w.alloc (.cells #[.string c.name, .int .i64 c.source, .int .i64 c.target, .int .i64 c.kind, .int .i64 c.size, .int .i64 c.depth] 92)).alloc (.cells #[.int .i64 f, .slice pa n pcap, .slice ca cl ck] 34)) := ((Below.refl _ w).alloc (Nat.le_refl _) _).alloc (by simp) _
  have h0 := heap_old _ (.cells #[.int .i64 f, .slice pa n pcap, .slice ca cl ck] 34) (heap_new w (.cells #[.string c.name, .int .i64 c.source, .int .i64 c.target, .int .i64 c.kind, .int .i64 c.size, .int .i64 c.depth] 92))
  have h1 := heap_new (w.alloc (.cells #[.string c.name, .int .i64 c.source, .int .i64 c.target, .int .i64 c.kind, .int .i64 c.size, .int .i64 c.depth] 92)) (.cells #[.int .i64 f, .slice pa n pcap, .slice ca cl ck] 34)
  simp only [World.size_alloc] at h1
  have hw : IntKind.i64.wrap ((n : Int) - 1) = (n : Int) - 1 := wrap_small _ (by omega) (by omega)
  have HE : Hid (chanE f n c = chanE f n c) := rfl
  conv at HE => arg 1; rhs; unfold chanE
  go_enter Tryz.func116, Tryz.ntmps116
  go_wp2_with fail
  generalize (w.alloc (.cells #[.string c.name, .int .i64 c.source, .int .i64 c.target, .int .i64 c.kind, .int .i64 c.size, .int .i64 c.depth] 92)).alloc (.cells #[.int .i64 f, .slice pa n pcap, .slice ca cl ck] 34) = W0 at *
  have y1 : W0.cell? ⟨w.heap.size, 1, none⟩ = some (.int .i64 c.source) := by rw [cell_of_blk h0]; rfl
  have y2 : W0.cell? ⟨w.heap.size, 2, none⟩ = some (.int .i64 c.target) := by rw [cell_of_blk h0]; rfl
  have y3 : W0.cell? ⟨w.heap.size, 3, none⟩ = some (.int .i64 c.kind) := by rw [cell_of_blk h0]; rfl
  have y4 : W0.cell? ⟨w.heap.size, 4, none⟩ = some (.int .i64 c.size) := by rw [cell_of_blk h0]; rfl
  have y5 : W0.cell? ⟨w.heap.size, 5, none⟩ = some (.int .i64 c.depth) := by rw [cell_of_blk h0]; rfl
  have z0 : W0.cell? ⟨w.heap.size + 1, 0, none⟩ = some (.int .i64 f) := by rw [cell_of_blk h1]; rfl
  clear hw h0 h1
  refine (within_any _ _ _ _).mono ?_
  rintro e w1 ⟨rfl, rfl⟩
  cases hA : (decide (0 ≤ c.source) && decide (c.source ≤ (n : Int) - 1))
  · have HX : Hid (chanE f n c = 12) := by show _ = _; rw [HE.out, if_pos hA]
    clear hA
    go_wp2_with fail
    go_ret
    exact ⟨by rw [HX.out]; rfl, b0⟩
  have HA : Hid _ := hA
  clear hA
  go_wp2_with fail
  refine (within_any _ _ _ _).mono ?_
  rintro e w1 ⟨rfl, rfl⟩
  cases hB : (decide (0 ≤ c.target) && decide (c.target ≤ (n : Int) - 1))
  · have HX : Hid (chanE f n c = 12) := by show _ = _; rw [HE.out, if_neg (by rw [HA.out]; simp), if_pos hB]
    clear hB
    go_wp2_with fail
    go_ret
    exact ⟨by rw [HX.out]; rfl, b0⟩
  have HB : Hid _ := hB
  clear hB
  cases hC : (c.source == c.target)
  · have HC : Hid _ := hC
    cases hO : kindL.any (sameO c.kind)
    all_goals (have HO : Hid _ := hO)
    all_goals clear hO
    all_goals go_wp2_with fail
    · have HX : Hid (chanE f n c = 13) := by show _ = _; rw [HE.out, if_neg (by rw [HA.out]; simp), if_neg (by rw [HB.out]; simp), if_neg (by rw [HC.out]; simp), if_pos HO.out]
      go_region_held3 (fun w' => w'.cell? ⟨w.heap.size, 3, none⟩ = some (.int .i64 c.kind) ∧ w'.cell? ⟨w.heap.size, 4, none⟩ = some (.int .i64 c.size) ∧ w'.cell? ⟨w.heap.size, 5, none⟩ = some (.int .i64 c.depth) ∧ w'.cell? ⟨w.heap.size + 1, 0, none⟩ = some (.int .i64 f) ∧ Below w.heap.size w w') (first | assumption | exact ⟨y3, y4, y5, z0, b0.drew⟩ | exact keep4c (by assumption) hb3 (Nat.le_refl _) | exact keep4c (by assumption) hb2 (Nat.le_refl _)) ((first
        | (go_at_call 171; refine (kinds_c _).mono ?_; rintro e w2 ⟨v, rfl, hv, hb2⟩)
        | (go_at_call 178; refine (isOption_is kindL v _ _ (by exact hv) (by decide) false HO.out).mono ?_; rintro e w3 ⟨rfl, hb3⟩)))
      have hS := ‹World.cell? _ ⟨w.heap.size, 3, none⟩ = _ ∧ _ ∧ _ ∧ _ ∧ Below w.heap.size w _›
      go_wp2_with fail
      go_ret
      exact ⟨by rw [HX.out]; rfl, hS.2.2.2.2⟩
    · go_region_held3 (fun w' => w'.cell? ⟨w.heap.size, 3, none⟩ = some (.int .i64 c.kind) ∧ w'.cell? ⟨w.heap.size, 4, none⟩ = some (.int .i64 c.size) ∧ w'.cell? ⟨w.heap.size, 5, none⟩ = some (.int .i64 c.depth) ∧ w'.cell? ⟨w.heap.size + 1, 0, none⟩ = some (.int .i64 f) ∧ Below w.heap.size w w') (first | assumption | exact ⟨y3, y4, y5, z0, b0.drew⟩ | exact keep4c (by assumption) hb3 (Nat.le_refl _) | exact keep4c (by assumption) hb2 (Nat.le_refl _)) ((first
        | (go_at_call 171; refine (kinds_c _).mono ?_; rintro e w2 ⟨v, rfl, hv, hb2⟩)
        | (go_at_call 178; refine (isOption_is kindL v _ _ (by exact hv) (by decide) true HO.out).mono ?_; rintro e w3 ⟨rfl, hb3⟩)))
      have hS := ‹World.cell? _ ⟨w.heap.size, 3, none⟩ = _ ∧ _ ∧ _ ∧ _ ∧ Below w.heap.size w _›
      obtain ⟨x3, x4, x5, x0, b1⟩ := hS
      clear y1 y2 y3 y4 y5 z0 hC
      go_wp2_with fail
      refine (within_any _ _ _ _).mono ?_
      rintro e w4 ⟨rfl, rfl⟩
      cases hD : (decide (1 ≤ c.size) && decide (c.size ≤ 32))
      · have HX : Hid (chanE f n c = 14) := by show _ = _; rw [HE.out, if_neg (by rw [HA.out]; simp), if_neg (by rw [HB.out]; simp), if_neg (by rw [HC.out]; simp), if_neg (by rw [HO.out]; simp), if_pos hD]
        clear hD
        go_wp2_with fail
        go_ret
        exact ⟨by rw [HX.out]; rfl, b1⟩
      have HD : Hid _ := hD
      clear hD
      have HX : Hid (chanE f n c = if (decide (1 ≤ c.depth) && decide (c.depth ≤ maxD c.kind f)) = false then 15 else 0) := by show _ = _; rw [HE.out, if_neg (by rw [HA.out]; simp), if_neg (by rw [HB.out]; simp), if_neg (by rw [HC.out]; simp), if_neg (by rw [HO.out]; simp), if_neg (by rw [HD.out]; simp)]
      cases hF : (decide (1 ≤ c.depth) && decide (c.depth ≤ maxD c.kind f))
      all_goals (have HF := within_is _ _ _ _ hF; rw [hF] at HX; clear hF)
      all_goals go_wp2_with fail
      all_goals go_quiet (first | (go_at_call 181; exact Calls.quiet_of_same (maxDepth_any _ _ _)) | (go_at_call 57; exact Calls.quiet_of_same (HF _)))
      all_goals go_wp2_with fail
      all_goals go_ret
      all_goals exact ⟨by rw [HX.out]; rfl, below_drewN b1 _⟩
  · have HX : Hid (chanE f n c = 12) := by show _ = _; rw [HE.out, if_neg (by rw [HA.out]; simp), if_neg (by rw [HB.out]; simp), if_pos hC]
    go_wp2_with fail
    go_ret
    exact ⟨by rw [HX.out]; rfl, b0⟩
end Go.Proofs.YteioennfpkoagaaGreatDoor.C
namespace Go.Proofs.YteioennfpkoagaaGreatDoor.C
open Go.RowKit

theorem nameF_len {l : List UInt8} (h : nameF l = true) : l.length ≤ 16 := by
  unfold nameF at h; simp at h; omega
theorem partErr_name {f : Int} {bef : List PartD} {x : PartD} (h : partErr f bef x = 0) : x.name.size ≤ 16 := by
  unfold partErr at h
  split at h
  · cases h
  rename_i h1
  have : nameF x.name.data.toList = true := by
    cases hn : nameF x.name.data.toList
    · rw [hn] at h1; simp at h1
    · rfl
  have := nameF_len this
  simpa using this
theorem chanErr_ok {f : Int} {n : Nat} {bef : List ChanD} {c : ChanD} (h : chanErr f n bef c = 0) (hf : 8 ≤ 240 ∧ f ≤ 240) : c.name.size ≤ 16 ∧ 0 ≤ c.source ∧ c.source < n ∧ 0 ≤ c.target ∧ c.target < n ∧ 1 ≤ c.kind ∧ c.kind ≤ 2 ∧ 1 ≤ c.size ∧ c.size ≤ 32 ∧ 1 ≤ c.depth ∧ c.depth ≤ 240 := by
  unfold chanErr at h
  split at h
  · cases h
  split at h
  · cases h
  split at h
  · cases h
  split at h
  · cases h
  rename_i h1 h2 h3 h4
  have hn : nameF c.name.data.toList = true := by
    cases hn : nameF c.name.data.toList
    · rw [hn] at h1; simp at h1
    · rfl
  have := nameF_len hn
  have hd : 1 ≤ c.depth ∧ c.depth ≤ 240 := by
    by_cases hk : c.kind = 1
    · rw [if_pos hk] at h
      split at h
      · cases h
      · omega
    · rw [if_neg hk] at h
      split at h
      · cases h
      · omega
  refine ⟨by simpa using this, ?_⟩
  omega
theorem check_ok {M : ManD} (h : checkF M = 0) : 1 ≤ M.frame ∧ M.frame ≤ 240 ∧ M.parts.length ≤ 8 ∧ M.chans.length ≤ 8 ∧ (∀ k (hk : k < M.parts.length), M.parts[k].regs.length ≤ 4 ∧ partErr M.frame (M.parts.take k) M.parts[k] = 0) ∧ (∀ k (hk : k < M.chans.length), chanErr M.frame M.parts.length (M.chans.take k) M.chans[k] = 0) := by
  unfold checkF at h
  split at h
  · cases h
  split at h
  · cases h
  rename_i h1 h2
  have hm : manyB M = false := by simpa using h2
  have hmany : ¬ (M.parts.length < 1 ∨ 8 < M.parts.length ∨ 8 < M.chans.length) := by
    intro hx; rw [many_true hx] at hm; cases hm
  have hw : wideB M.parts = false := by rw [← many_wide hmany]; exact hm
  split at h
  · rename_i h3; exact absurd h h3
  split at h
  · rename_i h3; exact absurd h h3
  rename_i h3 h4
  have e3 : firstNZ (partAt M) M.parts.length = 0 := by omega
  have e4 : firstNZ (chanAt M) M.chans.length = 0 := by omega
  refine ⟨by omega, by omega, by omega, by omega, fun k hk => ⟨wide_len hw k hk, ?_⟩, fun k hk => ?_⟩
  · have := firstNZ_all e3 hk
    unfold partAt at this; rw [dif_pos hk] at this; exact this
  · have := firstNZ_all e4 hk
    unfold chanAt at this; rw [dif_pos hk] at this; exact this
end Go.Proofs.YteioennfpkoagaaGreatDoor.C
namespace Go.Proofs.YteioennfpkoagaaGreatDoor.C
open Go.RowKit
attribute [local go_sem ↓] Go.wp_at_zero Go.wp_at_succ

/- the text of a manifest -/
def actW : Nat → List UInt8
  | 1 => [105, 103, 110, 111, 114, 101]
  | 2 => [115, 116, 111, 112]
  | 3 => [114, 101, 115, 116, 97, 114, 116]
  | _ => []
def rightW : Nat → List UInt8
  | 1 => [108, 111, 111, 107]
  | 2 => [99, 104, 97, 110, 103, 101]
  | _ => []
def kindW : Nat → List UInt8
  | 1 => [113, 117, 101, 117, 101]
  | 2 => [115, 97, 109, 112, 108, 101]
  | _ => []
def regT (r : RegD) : List UInt8 := [32, 32, 109, 101, 109, 111, 114, 121, 32] ++ decF r.page ++ [32] ++ decF r.pages ++ [32] ++ rightW r.rights.toNat ++ [59, 10]
def partT (x : PartD) : List UInt8 := [112, 97, 114, 116, 105, 116, 105, 111, 110, 32] ++ x.name.data.toList ++ [32, 123, 10, 32, 32, 112, 101, 114, 105, 111, 100, 32] ++ decF x.period ++ [59, 10, 32, 32, 100, 117, 114, 97, 116, 105, 111, 110, 32] ++ decF x.duration ++ [59, 10, 32, 32, 102, 97, 117, 108, 116, 32] ++ actW x.action.toNat ++ [59, 10] ++ x.regs.flatMap regT ++ [125, 10]
def nameAt (ps : List PartD) (i : Int) : List UInt8 := (ps[i.toNat]?.map fun p => p.name.data.toList).getD []
def chanT (ps : List PartD) (c : ChanD) : List UInt8 := [99, 104, 97, 110, 110, 101, 108, 32] ++ c.name.data.toList ++ [32] ++ nameAt ps c.source ++ [32, 45, 62, 32] ++ nameAt ps c.target ++ [32] ++ kindW c.kind.toNat ++ [32] ++ decF c.size ++ [32] ++ decF c.depth ++ [59, 10]
def headT (f : Int) : List UInt8 := [109, 111, 100, 117, 108, 101, 32] ++ decF f ++ [59, 10]
def printL (M : ManD) : List UInt8 := headT M.frame ++ M.parts.flatMap partT ++ M.chans.flatMap (chanT M.parts)

theorem ba_data (l : List UInt8) : (ba l).data.toList = l := by simp [ba]
theorem flat_step {α : Type} (l : List α) (g : α → List UInt8) (k : Nat) (hk : k < l.length) : (l.take (k + 1)).flatMap g = (l.take k).flatMap g ++ g l[k] := by
  rw [take_snocD l k hk, List.flatMap_append]; simp
end Go.Proofs.YteioennfpkoagaaGreatDoor.C
