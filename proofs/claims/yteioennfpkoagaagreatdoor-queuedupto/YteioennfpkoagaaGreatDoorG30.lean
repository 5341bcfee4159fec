import Derived.Test.YteioennfpkoagaaGreatDoorG29
import Derived.Test.YteioennfpkoagaaGreatDoorG03
namespace Go.Proofs.YteioennfpkoagaaGreatDoor.C
open Go.RowKit
attribute [local go_sem ↓] Go.wp_at_zero Go.wp_at_succ

theorem isLetter_c (n : Int) (w : World) :
    Calls Tryz.prog 176 #[.int .u8 n] w fun e w' => e = .returned (.bool (smallB n)) ∧ w' = w := by
  go_enter Tryz.func176, Tryz.ntmps176
  go_wp2
  · go_ret
    exact ⟨by simp [smallB, *], rfl⟩
  · go_ret
    exact ⟨by simp [smallB]; omega, rfl⟩
theorem isDigit_c (n : Int) (w : World) :
    Calls Tryz.prog 198 #[.int .u8 n] w fun e w' => e = .returned (.bool (digitB n)) ∧ w' = w := by
  go_enter Tryz.func198, Tryz.ntmps198
  go_wp2
  · go_ret
    exact ⟨by simp [digitB, *], rfl⟩
  · go_ret
    exact ⟨by simp [digitB]; omega, rfl⟩
theorem inside_not {n : Int} (h1 : smallB n = false) (h2 : digitB n = false) (h3 : (n != 95) = true) : insideB n = false := by
  simp [insideB, h1, h2] at h3 ⊢; exact h3
theorem inside_small {n : Int} (h1 : smallB n = true) : insideB n = true := by simp [insideB, h1]
theorem inside_digit {n : Int} (h1 : digitB n = true) : insideB n = true := by simp [insideB, h1]
theorem inside_bar {n : Int} (h3 : (n != 95) = false) : insideB n = true := by simp [insideB] at h3 ⊢; simp [h3]
theorem ret_int {a b : Int} (h : a = b) : Ending.returned (.int .i64 a) = Ending.returned (.int .i64 b) := by rw [h]
set_option maxHeartbeats 400000 in
theorem runLength_c (s : ByteArray) (w : World) (hs : s.size ≤ 8192) :
    Calls Tryz.prog 177 #[.string s] w fun e w' => e = .returned (.int .i64 (runF s.data.toList)) ∧ w' = w := by
  generalize hr : runF s.data.toList = e
  have HE : Hid (0 + runF (s.data.toList.drop 0) = e) := by show _ = _; simpa using hr
  clear hr
  go_enter Tryz.func177, Tryz.ntmps177
  go_wp2
  go_loop [7] (fun i => ∃ k : Nat, k ≤ s.size ∧ i = .int .i64 k ∧ Hid (k + runF (s.data.toList.drop k) = e)) (fun i => s.size - (intOf i).toNat)
  case atStart => exact ⟨0, by omega, rfl, HE⟩
  case round =>
    obtain ⟨k, hk, rfl, HK⟩ := hrel
    clear HE
    by_cases hlt : k < s.size
    · cases h1 : smallB s[k].toNat
      · cases h2 : digitB s[k].toNat
        · go_wp2_with (first | (go_at_call 176; refine (isLetter_c _ _).mono ?_; rintro e w' ⟨rfl, rfl⟩) | (go_at_call 198; refine (isDigit_c _ _).mono ?_; rintro e w' ⟨rfl, rfl⟩))
          · have h3 : ((s[k].toNat : Int) != 95) = true := by assumption
            go_ret
            exact ⟨ret_int (by have := HK.out; rw [runF_out hlt (inside_not h1 h2 h3)] at this; omega), rfl⟩
          · have h3 : ((s[k].toNat : Int) != 95) = false := by assumption
            go_round
            case rel => exact ⟨k + 1, by omega, by go_num, by have := HK.out; rw [runF_in hlt (inside_bar h3)] at this; show _ = _; omega⟩
            case measure => simp [intOf]; omega
        · go_wp2_with (first | (go_at_call 176; refine (isLetter_c _ _).mono ?_; rintro e w' ⟨rfl, rfl⟩) | (go_at_call 198; refine (isDigit_c _ _).mono ?_; rintro e w' ⟨rfl, rfl⟩))
          go_round
          case rel => exact ⟨k + 1, by omega, by go_num, by have := HK.out; rw [runF_in hlt (inside_digit h2)] at this; show _ = _; omega⟩
          case measure => simp [intOf]; omega
      · go_wp2_with (first | (go_at_call 176; refine (isLetter_c _ _).mono ?_; rintro e w' ⟨rfl, rfl⟩) | (go_at_call 198; refine (isDigit_c _ _).mono ?_; rintro e w' ⟨rfl, rfl⟩))
        go_round
        case rel => exact ⟨k + 1, by omega, by go_num, by have := HK.out; rw [runF_in hlt (inside_small h1)] at this; show _ = _; omega⟩
        case measure => simp [intOf]; omega
    · go_wp2
      go_ret
      exact ⟨ret_int (by have := HK.out; rw [runF_end (by omega)] at this; omega), rfl⟩

theorem run_all (l : List UInt8) : (runF l = l.length) ↔ (l.all fun b => insideB b.toNat) = true := by
  induction l with
  | nil => simp [runF]
  | cons b l ih =>
    have := runF_le l
    simp only [runF, List.length_cons, List.all_cons]
    split
    · rename_i h; simp [h, ih]
    · rename_i h; simp [h]
theorem name_split {s : ByteArray} (h0 : 1 ≤ s.size) (h1 : s.size ≤ 16) : nameF s.data.toList = (smallB s[0].toNat && ((runF s.data.toList : Int) == (s.size : Int))) := by
  have hd := drop_cons s 0 (by omega)
  simp only [List.drop_zero] at hd
  have hh : s.data.toList.head? = some s[0] := by rw [hd]; rfl
  have hlen : s.data.toList.length = s.size := by simp
  have hr := run_all s.data.toList
  unfold nameF
  rw [hh, hlen]
  have e : (s.data.toList.all fun b => insideB b.toNat) = ((runF s.data.toList : Int) == (s.size : Int)) := by
    rw [Bool.eq_iff_iff, ← hr, hlen]
    simp
    omega
  rw [e]
  simp [h0, h1]
set_option maxRecDepth 100000 in
set_option maxHeartbeats 1000000 in
theorem isName_any (s : ByteArray) (w : World) :
    Calls Tryz.prog 112 #[.string s] w fun e w' => e = .returned (.bool (nameF s.data.toList)) ∧ w' = w := by
  cases hq : (decide ((1 : Int) ≤ (s.size : Int)) && decide ((s.size : Int) ≤ 16))
  · have hf : nameF s.data.toList = false := by
      have hlen : s.data.toList.length = s.size := by simp
      unfold nameF
      rw [hlen]
      simp at hq
      simp
      omega
    go_enter Tryz.func112, Tryz.ntmps112
    go_wp2_with fail
    refine (within_any _ _ _ _).mono ?_
    rintro e w1 ⟨rfl, rfl⟩
    rw [hq]
    go_wp2_with fail
    go_ret
    exact ⟨by rw [hf]; rfl, rfl⟩
  · have hb : 1 ≤ s.size ∧ s.size ≤ 16 := by simp at hq; omega
    have hz : 0 < s.size := by omega
    have HN : Hid _ := name_split hb.1 hb.2
    cases hl : smallB s[0].toNat
    · go_enter Tryz.func112, Tryz.ntmps112
      go_wp2_with fail
      refine (within_any _ _ _ _).mono ?_
      rintro e w1 ⟨rfl, rfl⟩
      rw [hq]
      clear hq
      go_wp2_with fail
      refine (isLetter_c _ _).mono ?_
      rintro e w1 ⟨rfl, rfl⟩
      go_wp2_with fail
      go_ret
      exact ⟨by rw [HN.out, hl]; rfl, rfl⟩
    · go_enter Tryz.func112, Tryz.ntmps112
      go_wp2_with fail
      refine (within_any _ _ _ _).mono ?_
      rintro e w1 ⟨rfl, rfl⟩
      rw [hq]
      clear hq
      go_wp2_with fail
      refine (isLetter_c _ _).mono ?_
      rintro e w1 ⟨rfl, rfl⟩
      go_wp2_with fail
      refine (runLength_c _ _ (by omega)).mono ?_
      rintro e w1 ⟨rfl, rfl⟩
      go_wp2_with fail
      go_ret
      exact ⟨by rw [HN.out, hl]; rfl, rfl⟩

/- the options -/
def actL : List (ByteArray × Int) := [(⟨#[105, 103, 110, 111, 114, 101]⟩, 1), (⟨#[115, 116, 111, 112]⟩, 2), (⟨#[114, 101, 115, 116, 97, 114, 116]⟩, 3)]
def rightL : List (ByteArray × Int) := [(⟨#[108, 111, 111, 107]⟩, 1), (⟨#[99, 104, 97, 110, 103, 101]⟩, 2)]
def kindL : List (ByteArray × Int) := [(⟨#[113, 117, 101, 117, 101]⟩, 1), (⟨#[115, 97, 109, 112, 108, 101]⟩, 2)]
theorem opts_new (w : World) (cs : Array Value) (t : TypeId) (os : List (ByteArray × Int)) (cap : Nat) (h : ∀ i (h : i < os.length), cs[i * 2]? = some (.string os[i].1) ∧ cs[i * 2 + 1]? = some (.int .i64 os[i].2)) : OptsV (w.alloc (.cells cs t)) (.slice (some ⟨w.heap.size, 0, none⟩) os.length cap) os := by
  refine ⟨_, _, rfl, fun i hi => ⟨w.heap.size, 0, rfl, ?_, ?_⟩⟩
  · rw [cell_of_blk (heap_new _ _), Nat.zero_add]; exact (h i hi).1
  · rw [cell_of_blk (heap_new _ _), Nat.zero_add]; exact (h i hi).2
set_option maxRecDepth 100000 in
set_option maxHeartbeats 1000000 in
theorem actions_c (w : World) : Calls Tryz.prog 169 #[] w fun e w' => ∃ v, e = .returned v ∧ OptsV w' v actL ∧ Below w.heap.size w w' := by
  go_enter Tryz.func169, Tryz.ntmps169
  go_wp2_with fail
  go_ret
  exact ⟨_, rfl, opts_new _ _ _ actL _ (by intro i hi; match i, hi with | 0, _ => exact ⟨rfl, rfl⟩ | 1, _ => exact ⟨rfl, rfl⟩ | 2, _ => exact ⟨rfl, rfl⟩), (Below.refl _ w).alloc (Nat.le_refl _) _⟩
set_option maxRecDepth 100000 in
set_option maxHeartbeats 1000000 in
theorem rights_c (w : World) : Calls Tryz.prog 170 #[] w fun e w' => ∃ v, e = .returned v ∧ OptsV w' v rightL ∧ Below w.heap.size w w' := by
  go_enter Tryz.func170, Tryz.ntmps170
  go_wp2_with fail
  go_ret
  exact ⟨_, rfl, opts_new _ _ _ rightL _ (by intro i hi; match i, hi with | 0, _ => exact ⟨rfl, rfl⟩ | 1, _ => exact ⟨rfl, rfl⟩), (Below.refl _ w).alloc (Nat.le_refl _) _⟩
set_option maxRecDepth 100000 in
set_option maxHeartbeats 1000000 in
theorem kinds_c (w : World) : Calls Tryz.prog 171 #[] w fun e w' => ∃ v, e = .returned v ∧ OptsV w' v kindL ∧ Below w.heap.size w w' := by
  go_enter Tryz.func171, Tryz.ntmps171
  go_wp2_with fail
  go_ret
  exact ⟨_, rfl, opts_new _ _ _ kindL _ (by intro i hi; match i, hi with | 0, _ => exact ⟨rfl, rfl⟩ | 1, _ => exact ⟨rfl, rfl⟩), (Below.refl _ w).alloc (Nat.le_refl _) _⟩
set_option maxRecDepth 100000 in
set_option maxHeartbeats 1000000 in
theorem isOption_any (os : List (ByteArray × Int)) (v : Value) (n : Int) (w : World) (hv : OptsV w v os) (hl : os.length ≤ 9) :
    Calls Tryz.prog 178 #[v, .int .i64 n] w fun e w' => e = .returned (.bool (os.any (sameO n))) ∧ Below w.heap.size w w' := by
  have b0 : Below w.heap.size w (w.alloc (.cells #[.int .i64 n] 3)) := (Below.refl _ w).alloc (Nat.le_refl _) _
  have hcf := contains_opt w.heap.size n os v (w.alloc (.cells #[.int .i64 n] 3)) (hv.below b0) (by omega) (by rw [cell_of_blk (heap_new _ _)]; rfl)
  go_enter Tryz.func178, Tryz.ntmps178
  go_wp2_with fail
  refine hcf.mono ?_
  rintro e w1 ⟨rfl, hb⟩
  go_wp2_with fail
  go_ret
  exact ⟨rfl, b0.trans (hb.mono b0.size)⟩
theorem act_is (n : Int) : actL.any (sameO n) = (decide (1 ≤ n) && decide (n ≤ 3)) := by
  rw [Bool.eq_iff_iff]; simp [actL, sameO]; omega
theorem right_is (n : Int) : rightL.any (sameO n) = (decide (n = 1) || decide (n = 2)) := by
  rw [Bool.eq_iff_iff]; simp [rightL, sameO]; omega
theorem kind_is (n : Int) : kindL.any (sameO n) = (decide (n = 1) || decide (n = 2)) := by
  rw [Bool.eq_iff_iff]; simp [kindL, sameO]; omega
end Go.Proofs.YteioennfpkoagaaGreatDoor.C
namespace Go.Proofs.YteioennfpkoagaaGreatDoor.C
open Go.RowKit
attribute [local go_sem ↓] Go.wp_at_zero Go.wp_at_succ

theorem regB_parts (r : RegD) : regB r = ((decide (1 ≤ r.pages) && decide (r.pages ≤ 64)) && (decide (0 ≤ r.page) && decide (r.page ≤ 64 - r.pages)) && rightL.any (sameO r.rights)) := by
  rw [right_is, Bool.eq_iff_iff]
  unfold regB
  simp
  omega
theorem keep3 {B : Nat} {W w1 w2 : World} {a0 a1 a2 : Addr} {v0 v1 v2 : Value} (h : w1.cell? a0 = some v0 ∧ w1.cell? a1 = some v1 ∧ w1.cell? a2 = some v2 ∧ Below B W w1) (hb : Below w1.heap.size w1 w2) (hB : B ≤ W.heap.size) : w2.cell? a0 = some v0 ∧ w2.cell? a1 = some v1 ∧ w2.cell? a2 = some v2 ∧ Below B W w2 := by
  obtain ⟨h0, h1, h2, hx⟩ := h
  have k : ∀ {a : Addr} {v : Value}, w1.cell? a = some v → w2.cell? a = some v := fun h => (hb.cell (World.block_lt_of_cell? w1 _ h)).trans h
  exact ⟨k h0, k h1, k h2, hx.trans (hb.mono (Nat.le_trans hB hx.size))⟩
theorem within_is (n lo hi : Int) (b : Bool) (h : (decide (lo ≤ n) && decide (n ≤ hi)) = b) (w : World) :
    Calls Tryz.prog 57 #[.int .i64 n, .int .i64 lo, .int .i64 hi] w fun e w' => e = .returned (.bool b) ∧ w' = w := by
  subst h; exact within_any n lo hi w
set_option maxRecDepth 100000 in
set_option maxHeartbeats 4000000 in
theorem isRegion_any (r : RegD) (w : World) :
    Calls Tryz.prog 224 #[.agg #[.int .i64 r.page, .int .i64 r.pages, .int .i64 r.rights]] w fun e w' => e = .returned (.bool (regB r)) ∧ Below w.heap.size w w' := by
  have HR : Hid _ := regB_parts r
  have b0 : Below w.heap.size w (w.alloc (.cells #[.int .i64 r.page, .int .i64 r.pages, .int .i64 r.rights] 90)) := (Below.refl _ w).alloc (Nat.le_refl _) _
  have h0 := heap_new w (.cells #[.int .i64 r.page, .int .i64 r.pages, .int .i64 r.rights] 90)
  cases h1 : (decide (1 ≤ r.pages) && decide (r.pages ≤ 64))
  · have H1 := within_is _ _ _ _ h1
    have HH : Hid (regB r = false) := by show _ = _; rw [HR.out, h1]; rfl
    clear h1
    go_enter Tryz.func224, Tryz.ntmps224
    go_wp2_with fail
    generalize w.alloc (.cells #[.int .i64 r.page, .int .i64 r.pages, .int .i64 r.rights] 90) = W0 at *
    have y0 : W0.cell? ⟨w.heap.size, 0, none⟩ = some (.int .i64 r.page) := by rw [cell_of_blk h0]; rfl
    have y1 : W0.cell? ⟨w.heap.size, 1, none⟩ = some (.int .i64 r.pages) := by rw [cell_of_blk h0]; rfl
    have y2 : W0.cell? ⟨w.heap.size, 2, none⟩ = some (.int .i64 r.rights) := by rw [cell_of_blk h0]; rfl
    go_quiet (first | (go_at_call 57; exact Calls.quiet_of_same (H1 _)))
    go_wp2_with fail
    go_ret
    exact ⟨by rw [HH.out]; rfl, below_drewN b0 _⟩
  have hpg : 1 ≤ r.pages ∧ r.pages ≤ 64 := by simpa using h1
  have hw : IntKind.i64.wrap (64 - r.pages) = 64 - r.pages := wrap_small _ (by omega) (by omega)
  cases h2 : (decide (0 ≤ r.page) && decide (r.page ≤ 64 - r.pages))
  · have H1 := within_is _ _ _ _ h1
    have H2 := within_is _ _ _ _ h2
    have HH : Hid (regB r = false) := by show _ = _; rw [HR.out, h1, h2]; rfl
    clear h1 h2
    go_enter Tryz.func224, Tryz.ntmps224
    go_wp2_with fail
    generalize w.alloc (.cells #[.int .i64 r.page, .int .i64 r.pages, .int .i64 r.rights] 90) = W0 at *
    have y0 : W0.cell? ⟨w.heap.size, 0, none⟩ = some (.int .i64 r.page) := by rw [cell_of_blk h0]; rfl
    have y1 : W0.cell? ⟨w.heap.size, 1, none⟩ = some (.int .i64 r.pages) := by rw [cell_of_blk h0]; rfl
    have y2 : W0.cell? ⟨w.heap.size, 2, none⟩ = some (.int .i64 r.rights) := by rw [cell_of_blk h0]; rfl
    go_quiet (first | (go_at_call_of 57 (Value.int .i64 r.pages); exact Calls.quiet_of_same (H1 _)) | (go_at_call_of 57 (Value.int .i64 r.page); exact Calls.quiet_of_same (H2 _)))
    go_wp2_with fail
    go_ret
    exact ⟨by rw [HH.out]; rfl, below_drewN b0 _⟩
  have H1 := within_is _ _ _ _ h1
  have H2 := within_is _ _ _ _ h2
  have HH : Hid (regB r = rightL.any (sameO r.rights)) := by show _ = _; rw [HR.out, h1, h2]; rfl
  clear h1 h2
  go_enter Tryz.func224, Tryz.ntmps224
  go_wp2_with fail
  generalize w.alloc (.cells #[.int .i64 r.page, .int .i64 r.pages, .int .i64 r.rights] 90) = W0 at *
  have y0 : W0.cell? ⟨w.heap.size, 0, none⟩ = some (.int .i64 r.page) := by rw [cell_of_blk h0]; rfl
  have y1 : W0.cell? ⟨w.heap.size, 1, none⟩ = some (.int .i64 r.pages) := by rw [cell_of_blk h0]; rfl
  have y2 : W0.cell? ⟨w.heap.size, 2, none⟩ = some (.int .i64 r.rights) := by rw [cell_of_blk h0]; rfl
  go_region_held3 (fun w' => w'.cell? ⟨w.heap.size, 0, none⟩ = some (.int .i64 r.page) ∧ w'.cell? ⟨w.heap.size, 1, none⟩ = some (.int .i64 r.pages) ∧ w'.cell? ⟨w.heap.size, 2, none⟩ = some (.int .i64 r.rights) ∧ Below w.heap.size w w') (first | assumption | exact ⟨y0, y1, y2, b0.drew⟩ | exact keep3 (by assumption) hb3 (Nat.le_refl _) | exact keep3 (by assumption) hb2 (Nat.le_refl _)) ((first
    | (go_at_call_of 57 (Value.int .i64 r.pages); refine (H1 _).mono ?_; rintro e w2 ⟨rfl, rfl⟩)
    | (go_at_call_of 57 (Value.int .i64 r.page); refine (H2 _).mono ?_; rintro e w2 ⟨rfl, rfl⟩)
    | (go_at_call 170; refine (rights_c _).mono ?_; rintro e w2 ⟨v, rfl, hv, hb2⟩)
    | (go_at_call 178; refine (isOption_any rightL v _ _ (by exact hv) (by decide)).mono ?_; rintro e w3 ⟨rfl, hb3⟩)))
  have hS := ‹World.cell? _ ⟨w.heap.size, 0, none⟩ = _ ∧ _ ∧ _ ∧ Below w.heap.size w _›
  go_wp2_with fail
  go_ret
  exact ⟨by rw [HH.out]; rfl, hS.2.2.2⟩

end Go.Proofs.YteioennfpkoagaaGreatDoor.C
namespace Go.Proofs.YteioennfpkoagaaGreatDoor.C
open Go.RowKit
attribute [local go_sem ↓] Go.wp_at_zero Go.wp_at_succ

/- the regions -/
theorem meet_apart {a b : RegD} : meetR a b = !(apartB b a) := by
  unfold meetR apartB
  rw [Bool.eq_iff_iff]
  simp
theorem regs_meet {rs : List RegD} {k : Nat} (hk : k < rs.length) (h : (rs.take k).any (meetR rs[k]) = true) : regsF rs = false := by
  apply regsF_not
  intro ho
  have := ho.take (k + 1)
  rw [take_snocD rs k hk, RegsOK.snoc] at this
  obtain ⟨a, ha, hm⟩ := List.any_eq_true.1 h
  rw [meet_apart, this.2.2 a ha] at hm
  cases hm
theorem regs_ok_step {rs : List RegD} {k : Nat} (hk : k < rs.length) (h0 : RegsOK (rs.take k)) (hb : regB rs[k] = true) (h : (rs.take k).any (meetR rs[k]) = false) : RegsOK (rs.take (k + 1)) := by
  rw [take_snocD rs k hk, RegsOK.snoc]
  refine ⟨h0, hb, fun a ha => ?_⟩
  rw [List.any_eq_false] at h
  have := h a ha
  rw [meet_apart] at this
  simpa using this
theorem RegsV.take {w : World} {b off cap : Nat} {rs : List RegD} (h : RegsV w (.slice (some ⟨b, off, none⟩) rs.length cap) rs) (k : Nat) (hk : k ≤ rs.length) (cap' : Nat) : RegsV w (.slice (some ⟨b, off, none⟩) k cap') (rs.take k) := by
  obtain ⟨va, c, e, hc⟩ := h
  cases e
  refine ⟨_, _, by rw [List.length_take, Nat.min_eq_left hk], fun i hi => ?_⟩
  have hi2 : i < rs.length := by rw [List.length_take] at hi; omega
  rw [List.getElem_take]
  exact hc i hi2
set_option maxRecDepth 100000 in
set_option maxHeartbeats 2000000 in
theorem areRegions_any (rs : List RegD) (v : Value) (w : World) (hv : RegsV w v rs) (hcap : capV v) (hl : rs.length ≤ 4611686018427387903) :
    Calls Tryz.prog 179 #[v] w fun e w' => e = .returned (.bool (regsF rs)) ∧ Below w.heap.size w w' := by
  have HV : Hid (RegsV w v rs) := hv
  obtain ⟨va, cap, rfl, hc⟩ := hv
  have HC : Hid _ := hc
  clear hc
  have hlc := hcap.le
  clear hcap
  go_enter Tryz.func179, Tryz.ntmps179
  go_wp2_with fail
  go_loopw [8] (fun i wr => ∃ (k : Nat), i = .int .i64 k ∧ k ≤ rs.length ∧ Hid (RegsOK (rs.take k)) ∧ Below w.heap.size w wr) (fun i _ => rs.length - (intOf i).toNat)
  case atStart => exact ⟨0, rfl, by omega, by simp [Hid, RegsOK], Below.refl _ _⟩
  case round =>
    obtain ⟨k, rfl, hk, HO, hbel⟩ := hrel
    by_cases hlt : k < rs.length
    · have hlt' : (k : Int) < (rs.length : Int) := by omega
      have hk0 : (0 : Int) ≤ (k : Int) := by omega
      obtain ⟨b, off, rfl, c0, c1, c2⟩ := HC.out k hlt
      have hbl := World.block_lt_of_cell? w _ c0
      have d0 := (hbel.cell (by exact hbl)).trans c0
      have d1 := (hbel.cell (by exact hbl)).trans c1
      have d2 := (hbel.cell (by exact hbl)).trans c2
      have HBAD : Hid _ := @regs_bad rs k hlt
      have HMT : Hid _ := @regs_meet rs k hlt
      have HOK : Hid _ := @regs_ok_step rs k hlt HO.out
      have HTK : Hid _ := fun cap' (w' : World) (hb : Below w.heap.size w w') => (RegsV.below HV.out hb).take k hk cap'
      have HRG : Hid _ := HO.out.1
      clear c0 c1 c2
      generalize rs[k] = r at *
      have b1 := hbel.alloc (o := .cells #[.int .i64 r.page, .int .i64 r.pages, .int .i64 r.rights] 90) hbel.size
      have h1 := heap_new wr (.cells #[.int .i64 r.page, .int .i64 r.pages, .int .i64 r.rights] 90)
      have hkc : (k : Int) ≤ (cap : Int) := by omega
      go_wp2_with fail
      clear d0 d1 d2
      generalize wr.alloc (.cells #[.int .i64 r.page, .int .i64 r.pages, .int .i64 r.rights] 90) = W1 at *
      generalize wr.heap.size = nb at *
      refine (isRegion_any r _).mono ?_
      rintro e w2 ⟨rfl, hb2⟩
      have h2 := (hb2.block _ (lt_of_blk h1)).trans h1
      have b2 := b1.trans (hb2.mono b1.size)
      clear h1 b1 hb2
      cases hr : regB r
      · have HF : Hid _ := HBAD.out hr
        clear hr
        go_wp2_with fail
        go_ret
        exact ⟨by rw [HF.out]; rfl, b2⟩
      · have HR : Hid _ := hr
        clear hr
        have e0 : w2.cell? ⟨nb, 0, none⟩ = some (.int .i64 r.page) := by rw [cell_of_blk h2]; rfl
        have e1 : w2.cell? ⟨nb, 1, none⟩ = some (.int .i64 r.pages) := by rw [cell_of_blk h2]; rfl
        have e2 : w2.cell? ⟨nb, 2, none⟩ = some (.int .i64 r.rights) := by rw [cell_of_blk h2]; rfl
        go_wp2_with fail
        refine (contains_meet nb r (rs.take k) _ w2 (HTK.out cap w2 b2) (by rw [List.length_take]; omega) e0 e1 e2 HR.out HRG.out).mono ?_
        rintro e w3 ⟨rfl, hb3⟩
        have b3 := b2.trans (hb3.mono b2.size)
        cases hm : (rs.take k).any (meetR r)
        · have HN : Hid _ := HOK.out HR.out hm
          clear hm
          go_wp2_with fail
          go_roundw
          case rel => exact ⟨k + 1, by go_num, by omega, HN, b3⟩
          case measure => simp [intOf]; omega
        · have HF : Hid _ := HMT.out hm
          clear hm
          go_wp2_with fail
          go_ret
          exact ⟨by rw [HF.out]; rfl, b3⟩
    · have hlt' : ¬ (k : Int) < (rs.length : Int) := by omega
      have hke : k = rs.length := by omega
      have HF : Hid (regsF rs = true) := by show _ = _; rw [regsF_iff]; have := HO.out; rw [hke, List.take_length] at this; exact this
      go_wp2_with fail
      go_ret
      exact ⟨by rw [HF.out]; rfl, hbel⟩
end Go.Proofs.YteioennfpkoagaaGreatDoor.C
