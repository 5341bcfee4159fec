import Derived.Test.YteioennfpkoagabGreatDoorH02
import Derived.Laws.BytesArg
namespace Go.Proofs.YteioennfpkoagabGreatDoor.C
open Go.RowKit
attribute [local go_sem ↓] Go.wp_at_zero Go.wp_at_succ

/- a number's digits: of as many as the first number says -/
def dig (n : Nat) : UInt8 := UInt8.ofNat (48 + n)
def decG : Nat → Nat → List UInt8
  | 0, _ => []
  | k + 1, n => if n < 10 then [dig n] else decG k (n / 10) ++ [dig (n % 10)]
def ba (l : List UInt8) : ByteArray := ⟨l.toArray⟩
theorem ba_size (l : List UInt8) : (ba l).size = l.length := by simp [ba, ByteArray.size]
theorem decG_len (k n : Nat) : (decG k n).length ≤ k := by
  induction k generalizing n with
  | zero => simp [decG]
  | succ k ih =>
    have := ih (n / 10)
    unfold decG
    split <;> simp <;> omega
theorem ba_append (a b : List UInt8) : ba a ++ ba b = ba (a ++ b) := by
  apply ByteArray.ext
  simp [ba]

theorem nums_dig (n : Nat) : strOfNums [48 + (n : Int)] = ba [dig n] := by
  have e : (48 + (n : Int)).toNat = 48 + n := by omega
  unfold strOfNums ba dig
  rw [List.map_cons, List.map_nil, e]
theorem conv_one (w : World) (x : Int) : (convert 87 9 (.slice (some ⟨w.heap.size, 0, none⟩) 1 1)).run Tryz.prog (w.alloc (.cells #[.int .u8 x] 5)) = .ok (.string (strOfNums [x])) (w.alloc (.cells #[.int .u8 x] 5)) := by
  refine run_convert_bytes_arg (P := Tryz.prog) (w.alloc (.cells #[.int .u8 x] 5)) 87 5 Tryz.underlying87 Tryz.underlying5 w.heap.size 0 1 1 [x] rfl ?_ 9 Tryz.underlying9
  intro i hi
  have : i = 0 := by omega
  subst this
  rw [cell_of_blk (heap_new _ _)]; rfl
def decF (n : Int) : List UInt8 := decG 3 n.toNat
theorem decF_len (n : Int) : (decF n).length ≤ 3 := decG_len _ _
end Go.Proofs.YteioennfpkoagabGreatDoor.C
namespace Go.Proofs.YteioennfpkoagabGreatDoor.C
open Go.RowKit
attribute [local go_sem ↓] Go.wp_at_zero Go.wp_at_succ

theorem regB_parts (r : RegD) : regB r = ((decide (1 ≤ r.pages) && decide (r.pages ≤ 64)) && (decide (0 ≤ r.page) && decide (r.page ≤ 64 - r.pages)) && rightL.any (sameO r.rights)) := by
  rw [right_is, Bool.eq_iff_iff]
  unfold regB
  simp
  omega
theorem keep3 {B : Nat} {W w1 w2 : World} {a0 a1 a2 : Addr} {v0 v1 v2 : Value} (h : w1.cell? a0 = some v0 ∧ w1.cell? a1 = some v1 ∧ w1.cell? a2 = some v2 ∧ Below B W w1) (hb : Below w1.heap.size w1 w2) (hB : B ≤ W.heap.size) : w2.cell? a0 = some v0 ∧ w2.cell? a1 = some v1 ∧ w2.cell? a2 = some v2 ∧ Below B W w2 := by
  obtain ⟨h0, h1, h2, hx⟩ := h
  have k : ∀ {a : Addr} {v : Value}, w1.cell? a = some v → w2.cell? a = some v := fun h => (hb.cell (World.block_lt_of_cell? w1 _ h)).trans h
  exact ⟨k h0, k h1, k h2, hx.trans (hb.mono (Nat.le_trans hB hx.size))⟩
theorem within_is (n lo hi : Int) (b : Bool) (h : (decide (lo ≤ n) && decide (n ≤ hi)) = b) (w : World) :
    Calls Tryz.prog 32 #[.int .i64 n, .int .i64 lo, .int .i64 hi] w fun e w' => e = .returned (.bool b) ∧ w' = w := by
  subst h; exact within_any n lo hi w
set_option maxRecDepth 100000 in
set_option maxHeartbeats 4000000 in
theorem isRegion_any (r : RegD) (w : World) :
    Calls Tryz.prog 105 #[.agg #[.int .i64 r.page, .int .i64 r.pages, .int .i64 r.rights]] w fun e w' => e = .returned (.bool (regB r)) ∧ Below w.heap.size w w' := by
  have HR : Hid _ := regB_parts r
  have b0 : Below w.heap.size w (w.alloc (.cells #[.int .i64 r.page, .int .i64 r.pages, .int .i64 r.rights] 56)) := (Below.refl _ w).alloc (Nat.le_refl _) _
  have h0 := heap_new w (.cells #[.int .i64 r.page, .int .i64 r.pages, .int .i64 r.rights] 56)
  cases h1 : (decide (1 ≤ r.pages) && decide (r.pages ≤ 64))
  · have H1 := within_is _ _ _ _ h1
    have HH : Hid (regB r = false) := by show _ = _; rw [HR.out, h1]; rfl
    clear h1
    go_enter Tryz.func105, Tryz.ntmps105
    go_wp2_with fail
    generalize w.alloc (.cells #[.int .i64 r.page, .int .i64 r.pages, .int .i64 r.rights] 56) = W0 at *
    have y0 : W0.cell? ⟨w.heap.size, 0, none⟩ = some (.int .i64 r.page) := by rw [cell_of_blk h0]; rfl
    have y1 : W0.cell? ⟨w.heap.size, 1, none⟩ = some (.int .i64 r.pages) := by rw [cell_of_blk h0]; rfl
    have y2 : W0.cell? ⟨w.heap.size, 2, none⟩ = some (.int .i64 r.rights) := by rw [cell_of_blk h0]; rfl
    go_quiet (first | (go_at_call 32; exact Calls.quiet_of_same (H1 _)))
    go_wp2_with fail
    go_ret
    exact ⟨by rw [HH.out]; rfl, below_drewN b0 _⟩
  have hpg : 1 ≤ r.pages ∧ r.pages ≤ 64 := by simpa using h1
  have hw : IntKind.i64.wrap (64 - r.pages) = 64 - r.pages := wrap_small _ (by omega) (by omega)
  cases h2 : (decide (0 ≤ r.page) && decide (r.page ≤ 64 - r.pages))
  · have H1 := within_is _ _ _ _ h1
    have H2 := within_is _ _ _ _ h2
    have HH : Hid (regB r = false) := by show _ = _; rw [HR.out, h1, h2]; rfl
    clear h1 h2
    go_enter Tryz.func105, Tryz.ntmps105
    go_wp2_with fail
    generalize w.alloc (.cells #[.int .i64 r.page, .int .i64 r.pages, .int .i64 r.rights] 56) = W0 at *
    have y0 : W0.cell? ⟨w.heap.size, 0, none⟩ = some (.int .i64 r.page) := by rw [cell_of_blk h0]; rfl
    have y1 : W0.cell? ⟨w.heap.size, 1, none⟩ = some (.int .i64 r.pages) := by rw [cell_of_blk h0]; rfl
    have y2 : W0.cell? ⟨w.heap.size, 2, none⟩ = some (.int .i64 r.rights) := by rw [cell_of_blk h0]; rfl
    go_quiet (first | (go_at_call_of 32 (Value.int .i64 r.pages); exact Calls.quiet_of_same (H1 _)) | (go_at_call_of 32 (Value.int .i64 r.page); exact Calls.quiet_of_same (H2 _)))
    go_wp2_with fail
    go_ret
    exact ⟨by rw [HH.out]; rfl, below_drewN b0 _⟩
  have H1 := within_is _ _ _ _ h1
  have H2 := within_is _ _ _ _ h2
  have HH : Hid (regB r = rightL.any (sameO r.rights)) := by show _ = _; rw [HR.out, h1, h2]; rfl
  clear h1 h2
  go_enter Tryz.func105, Tryz.ntmps105
  go_wp2_with fail
  generalize w.alloc (.cells #[.int .i64 r.page, .int .i64 r.pages, .int .i64 r.rights] 56) = W0 at *
  have y0 : W0.cell? ⟨w.heap.size, 0, none⟩ = some (.int .i64 r.page) := by rw [cell_of_blk h0]; rfl
  have y1 : W0.cell? ⟨w.heap.size, 1, none⟩ = some (.int .i64 r.pages) := by rw [cell_of_blk h0]; rfl
  have y2 : W0.cell? ⟨w.heap.size, 2, none⟩ = some (.int .i64 r.rights) := by rw [cell_of_blk h0]; rfl
  go_region_held3 (fun w' => w'.cell? ⟨w.heap.size, 0, none⟩ = some (.int .i64 r.page) ∧ w'.cell? ⟨w.heap.size, 1, none⟩ = some (.int .i64 r.pages) ∧ w'.cell? ⟨w.heap.size, 2, none⟩ = some (.int .i64 r.rights) ∧ Below w.heap.size w w') (first | assumption | exact ⟨y0, y1, y2, b0.drew⟩ | exact keep3 (by assumption) hb3 (Nat.le_refl _) | exact keep3 (by assumption) hb2 (Nat.le_refl _)) ((first
    | (go_at_call_of 32 (Value.int .i64 r.pages); refine (H1 _).mono ?_; rintro e w2 ⟨rfl, rfl⟩)
    | (go_at_call_of 32 (Value.int .i64 r.page); refine (H2 _).mono ?_; rintro e w2 ⟨rfl, rfl⟩)
    | (go_at_call 109; refine (rights_c _).mono ?_; rintro e w2 ⟨v, rfl, hv, hb2⟩)
    | (go_at_call 90; refine (isOption_any rightL v _ _ (by exact hv) (by decide)).mono ?_; rintro e w3 ⟨rfl, hb3⟩)))
  have hS := ‹World.cell? _ ⟨w.heap.size, 0, none⟩ = _ ∧ _ ∧ _ ∧ Below w.heap.size w _›
  go_wp2_with fail
  go_ret
  exact ⟨by rw [HH.out]; rfl, hS.2.2.2⟩

end Go.Proofs.YteioennfpkoagabGreatDoor.C
namespace Go.Proofs.YteioennfpkoagabGreatDoor.C
open Go.RowKit
attribute [local go_sem ↓] Go.wp_at_zero Go.wp_at_succ

/- the regions -/
theorem meet_apart {a b : RegD} : meetR a b = !(apartB b a) := by
  unfold meetR apartB
  rw [Bool.eq_iff_iff]
  simp
theorem regs_meet {rs : List RegD} {k : Nat} (hk : k < rs.length) (h : (rs.take k).any (meetR rs[k]) = true) : regsF rs = false := by
  apply regsF_not
  intro ho
  have := ho.take (k + 1)
  rw [take_snocD rs k hk, RegsOK.snoc] at this
  obtain ⟨a, ha, hm⟩ := List.any_eq_true.1 h
  rw [meet_apart, this.2.2 a ha] at hm
  cases hm
theorem regs_ok_step {rs : List RegD} {k : Nat} (hk : k < rs.length) (h0 : RegsOK (rs.take k)) (hb : regB rs[k] = true) (h : (rs.take k).any (meetR rs[k]) = false) : RegsOK (rs.take (k + 1)) := by
  rw [take_snocD rs k hk, RegsOK.snoc]
  refine ⟨h0, hb, fun a ha => ?_⟩
  rw [List.any_eq_false] at h
  have := h a ha
  rw [meet_apart] at this
  simpa using this
theorem RegsV.take {w : World} {b off cap : Nat} {rs : List RegD} (h : RegsV w (.slice (some ⟨b, off, none⟩) rs.length cap) rs) (k : Nat) (hk : k ≤ rs.length) (cap' : Nat) : RegsV w (.slice (some ⟨b, off, none⟩) k cap') (rs.take k) := by
  obtain ⟨va, c, e, hc⟩ := h
  cases e
  refine ⟨_, _, by rw [List.length_take, Nat.min_eq_left hk], fun i hi => ?_⟩
  have hi2 : i < rs.length := by rw [List.length_take] at hi; omega
  rw [List.getElem_take]
  exact hc i hi2
set_option maxRecDepth 100000 in
set_option maxHeartbeats 2000000 in
theorem areRegions_any (rs : List RegD) (v : Value) (w : World) (hv : RegsV w v rs) (hcap : capV v) (hl : rs.length ≤ 4611686018427387903) :
    Calls Tryz.prog 92 #[v] w fun e w' => e = .returned (.bool (regsF rs)) ∧ Below w.heap.size w w' := by
  have HV : Hid (RegsV w v rs) := hv
  obtain ⟨va, cap, rfl, hc⟩ := hv
  have HC : Hid _ := hc
  clear hc
  have hlc := hcap.le
  clear hcap
  go_enter Tryz.func92, Tryz.ntmps92
  go_wp2_with fail
  go_loopw [8] (fun i wr => ∃ (k : Nat), i = .int .i64 k ∧ k ≤ rs.length ∧ Hid (RegsOK (rs.take k)) ∧ Below w.heap.size w wr) (fun i _ => rs.length - (intOf i).toNat)
  case atStart => exact ⟨0, rfl, by omega, by simp [Hid, RegsOK], Below.refl _ _⟩
  case round =>
    obtain ⟨k, rfl, hk, HO, hbel⟩ := hrel
    by_cases hlt : k < rs.length
    · have hlt' : (k : Int) < (rs.length : Int) := by omega
      have hk0 : (0 : Int) ≤ (k : Int) := by omega
      obtain ⟨b, off, rfl, c0, c1, c2⟩ := HC.out k hlt
      have hbl := World.block_lt_of_cell? w _ c0
      have d0 := (hbel.cell (by exact hbl)).trans c0
      have d1 := (hbel.cell (by exact hbl)).trans c1
      have d2 := (hbel.cell (by exact hbl)).trans c2
      have HBAD : Hid _ := @regs_bad rs k hlt
      have HMT : Hid _ := @regs_meet rs k hlt
      have HOK : Hid _ := @regs_ok_step rs k hlt HO.out
      have HTK : Hid _ := fun cap' (w' : World) (hb : Below w.heap.size w w') => (RegsV.below HV.out hb).take k hk cap'
      have HRG : Hid _ := HO.out.1
      clear c0 c1 c2
      generalize rs[k] = r at *
      have b1 := hbel.alloc (o := .cells #[.int .i64 r.page, .int .i64 r.pages, .int .i64 r.rights] 56) hbel.size
      have h1 := heap_new wr (.cells #[.int .i64 r.page, .int .i64 r.pages, .int .i64 r.rights] 56)
      have hkc : (k : Int) ≤ (cap : Int) := by omega
      go_wp2_with fail
      clear d0 d1 d2
      generalize wr.alloc (.cells #[.int .i64 r.page, .int .i64 r.pages, .int .i64 r.rights] 56) = W1 at *
      generalize wr.heap.size = nb at *
      refine (isRegion_any r _).mono ?_
      rintro e w2 ⟨rfl, hb2⟩
      have h2 := (hb2.block _ (lt_of_blk h1)).trans h1
      have b2 := b1.trans (hb2.mono b1.size)
      clear h1 b1 hb2
      cases hr : regB r
      · have HF : Hid _ := HBAD.out hr
        clear hr
        go_wp2_with fail
        go_ret
        exact ⟨by rw [HF.out]; rfl, b2⟩
      · have HR : Hid _ := hr
        clear hr
        have e0 : w2.cell? ⟨nb, 0, none⟩ = some (.int .i64 r.page) := by rw [cell_of_blk h2]; rfl
        have e1 : w2.cell? ⟨nb, 1, none⟩ = some (.int .i64 r.pages) := by rw [cell_of_blk h2]; rfl
        have e2 : w2.cell? ⟨nb, 2, none⟩ = some (.int .i64 r.rights) := by rw [cell_of_blk h2]; rfl
        go_wp2_with fail
        refine (contains_meet nb r (rs.take k) _ w2 (HTK.out cap w2 b2) (by rw [List.length_take]; omega) e0 e1 e2 HR.out HRG.out).mono ?_
        rintro e w3 ⟨rfl, hb3⟩
        have b3 := b2.trans (hb3.mono b2.size)
        cases hm : (rs.take k).any (meetR r)
        · have HN : Hid _ := HOK.out HR.out hm
          clear hm
          go_wp2_with fail
          go_roundw
          case rel => exact ⟨k + 1, by go_num, by omega, HN, b3⟩
          case measure => simp [intOf]; omega
        · have HF : Hid _ := HMT.out hm
          clear hm
          go_wp2_with fail
          go_ret
          exact ⟨by rw [HF.out]; rfl, b3⟩
    · have hlt' : ¬ (k : Int) < (rs.length : Int) := by omega
      have hke : k = rs.length := by omega
      have HF : Hid (regsF rs = true) := by show _ = _; rw [regsF_iff]; have := HO.out; rw [hke, List.take_length] at this; exact this
      go_wp2_with fail
      go_ret
      exact ⟨by rw [HF.out]; rfl, hbel⟩
end Go.Proofs.YteioennfpkoagabGreatDoor.C
namespace Go.Proofs.YteioennfpkoagabGreatDoor.C
open Go.RowKit
attribute [local go_sem ↓] Go.wp_at_zero Go.wp_at_succ

/- what the program asks of one partition, its name apart -/
def partE (f : Int) (x : PartD) : Int :=
  if (decide (1 ≤ x.period) && decide (x.period ≤ f)) = false then 8
  else if (f % x.period != 0) = true then 8
  else if (decide (1 ≤ x.duration) && decide (x.duration ≤ x.period)) = false then 9
  else if actL.any (sameO x.action) = false then 10
  else if regsF x.regs = false then 11 else 0
theorem partErr_eq (f : Int) (bef : List PartD) (x : PartD) : partErr f bef x = if (nameF x.name.data.toList && freshP bef x) = false then 7 else partE f x := by
  unfold partErr partE
  rw [act_is]
  by_cases h0 : (nameF x.name.data.toList && freshP bef x) = false
  · rw [if_pos h0, if_pos h0]
  rw [if_neg h0, if_neg h0]
  by_cases h1 : x.period < 1 ∨ f < x.period
  · rw [if_pos (by omega), if_pos (by rw [Bool.and_eq_false_iff]; simp; omega)]
  have n1 : ¬ (decide (1 ≤ x.period) && decide (x.period ≤ f)) = false := by rw [Bool.and_eq_false_iff]; simp; omega
  by_cases h2 : f % x.period = 0
  · have n2 : ¬ (f % x.period != 0) = true := by simp [h2]
    rw [if_neg (by omega), if_neg n1, if_neg n2]
    by_cases h3 : x.duration < 1 ∨ x.period < x.duration
    · rw [if_pos h3, if_pos (by rw [Bool.and_eq_false_iff]; simp; omega)]
    have n3 : ¬ (decide (1 ≤ x.duration) && decide (x.duration ≤ x.period)) = false := by rw [Bool.and_eq_false_iff]; simp; omega
    rw [if_neg h3, if_neg n3]
    by_cases h4 : x.action < 1 ∨ 3 < x.action
    · rw [if_pos h4, if_pos (by rw [Bool.and_eq_false_iff]; simp; omega)]
    · have n4 : ¬ (decide (1 ≤ x.action) && decide (x.action ≤ 3)) = false := by rw [Bool.and_eq_false_iff]; simp; omega
      rw [if_neg h4, if_neg n4]
  · rw [if_pos (by omega), if_neg n1, if_pos (by simp [h2])]
theorem isOption_is (os : List (ByteArray × Int)) (v : Value) (n : Int) (w : World) (hv : OptsV w v os) (hl : os.length ≤ 9) (b : Bool) (hb : os.any (sameO n) = b) :
    Calls Tryz.prog 90 #[v, .int .i64 n] w fun e w' => e = .returned (.bool b) ∧ Below w.heap.size w w' := by
  subst hb; exact isOption_any os v n w hv hl
theorem keep2 {B : Nat} {W w1 w2 : World} {a0 a1 : Addr} {v0 v1 : Value} (h : w1.cell? a0 = some v0 ∧ w1.cell? a1 = some v1 ∧ Below B W w1) (hb : Below w1.heap.size w1 w2) (hB : B ≤ W.heap.size) : w2.cell? a0 = some v0 ∧ w2.cell? a1 = some v1 ∧ Below B W w2 := by
  obtain ⟨h0, h1, hx⟩ := h
  have k : ∀ {a : Addr} {v : Value}, w1.cell? a = some v → w2.cell? a = some v := fun h => (hb.cell (World.block_lt_of_cell? w1 _ h)).trans h
  exact ⟨k h0, k h1, hx.trans (hb.mono (Nat.le_trans hB hx.size))⟩
theorem keep4c {B : Nat} {W w1 w2 : World} {a0 a1 a2 a3 : Addr} {v0 v1 v2 v3 : Value} (h : w1.cell? a0 = some v0 ∧ w1.cell? a1 = some v1 ∧ w1.cell? a2 = some v2 ∧ w1.cell? a3 = some v3 ∧ Below B W w1) (hb : Below w1.heap.size w1 w2) (hB : B ≤ W.heap.size) : w2.cell? a0 = some v0 ∧ w2.cell? a1 = some v1 ∧ w2.cell? a2 = some v2 ∧ w2.cell? a3 = some v3 ∧ Below B W w2 := by
  obtain ⟨h0, h1, h2, h3, hx⟩ := h
  have k : ∀ {a : Addr} {v : Value}, w1.cell? a = some v → w2.cell? a = some v := fun h => (hb.cell (World.block_lt_of_cell? w1 _ h)).trans h
  exact ⟨k h0, k h1, k h2, k h3, hx.trans (hb.mono (Nat.le_trans hB hx.size))⟩
set_option maxRecDepth 100000 in
set_option maxHeartbeats 2000000 in
theorem checkPartition_any (f : Int) (x : PartD) (rv : Value) (w : World) (hrv : RegsV w rv x.regs) (hcap : capV rv) (hf : 1 ≤ f ∧ f ≤ 240) (hrl : x.regs.length ≤ 4611686018427387903) :
    Calls Tryz.prog 66 #[.agg #[.string x.name, .int .i64 x.period, .int .i64 x.duration, .int .i64 x.action, rv], .int .i64 f] w fun e w' => e = .returned (.int .i64 (partE f x)) ∧ Below w.heap.size w w' := by
  have HRV : Hid (RegsV w rv x.regs) := hrv
  have HCP : Hid (capV rv) := hcap
  clear hcap
  obtain ⟨ra, rcap, rfl, hrx⟩ := hrv
  clear hrx
  have b0 : Below w.heap.size w (w.alloc (.cells #[.string x.name, .int .i64 x.period, .int .i64 x.duration, .int .i64 x.action, .slice ra x.regs.length rcap] 54)) := (Below.refl _ w).alloc (Nat.le_refl _) _
  have h0 := heap_new w (.cells #[.string x.name, .int .i64 x.period, .int .i64 x.duration, .int .i64 x.action, .slice ra x.regs.length rcap] 54)
  have HE : Hid (partE f x = partE f x) := rfl
  conv at HE => arg 1; rhs; unfold partE
  go_enter Tryz.func66, Tryz.ntmps66
  go_wp2_with fail
  generalize w.alloc (.cells #[.string x.name, .int .i64 x.period, .int .i64 x.duration, .int .i64 x.action, .slice ra x.regs.length rcap] 54) = W0 at *
  have y1 : W0.cell? ⟨w.heap.size, 1, none⟩ = some (.int .i64 x.period) := by rw [cell_of_blk h0]; rfl
  have y2 : W0.cell? ⟨w.heap.size, 2, none⟩ = some (.int .i64 x.duration) := by rw [cell_of_blk h0]; rfl
  have y3 : W0.cell? ⟨w.heap.size, 3, none⟩ = some (.int .i64 x.action) := by rw [cell_of_blk h0]; rfl
  have y4 : W0.cell? ⟨w.heap.size, 4, none⟩ = some (.slice ra x.regs.length rcap) := by rw [cell_of_blk h0]; rfl
  refine (within_any _ _ _ _).mono ?_
  rintro e w1 ⟨rfl, rfl⟩
  cases hA : (decide (1 ≤ x.period) && decide (x.period ≤ f))
  · have HX : Hid (partE f x = 8) := by show _ = _; rw [HE.out, if_pos hA]
    clear hA
    go_wp2_with fail
    go_ret
    exact ⟨by rw [HX.out]; rfl, b0⟩
  have hA' := hA
  simp only [Bool.and_eq_true, decide_eq_true_eq] at hA'
  have HA : Hid _ := hA
  clear hA
  have hpz : ¬ x.period = 0 := by omega
  have hf0 : 0 ≤ f := by omega
  have hw : IntKind.i64.wrap (f % x.period) = f % x.period := by
    have h1 := Int.emod_lt_of_pos f (show 0 < x.period by omega)
    have h2 := Int.emod_nonneg f (show x.period ≠ 0 by omega)
    exact wrap_small _ (by omega) (by omega)
  cases hR : (f % x.period != 0)
  · have HRR : Hid _ := hR
    go_wp2_with fail
    clear hR hw hpz hf0 hA'
    refine (within_any _ _ _ _).mono ?_
    rintro e w1 ⟨rfl, rfl⟩
    cases hD : (decide (1 ≤ x.duration) && decide (x.duration ≤ x.period))
    · have HX : Hid (partE f x = 9) := by show _ = _; rw [HE.out, if_neg (by rw [HA.out]; simp), if_neg (by rw [HRR.out]; simp), if_pos hD]
      clear hD
      go_wp2_with fail
      go_ret
      exact ⟨by rw [HX.out]; rfl, b0⟩
    have HD : Hid _ := hD
    clear hD
    cases hO : actL.any (sameO x.action)
    · have HX : Hid (partE f x = 10) := by show _ = _; rw [HE.out, if_neg (by rw [HA.out]; simp), if_neg (by rw [HRR.out]; simp), if_neg (by rw [HD.out]; simp), if_pos hO]
      have HO : Hid _ := hO
      clear hO
      go_wp2_with fail
      go_region_held3 (fun w' => w'.cell? ⟨w.heap.size, 3, none⟩ = some (.int .i64 x.action) ∧ w'.cell? ⟨w.heap.size, 4, none⟩ = some (.slice ra x.regs.length rcap) ∧ Below w.heap.size w w') (first | assumption | exact ⟨y3, y4, b0.drew⟩ | exact keep2 (by assumption) hb3 (Nat.le_refl _) | exact keep2 (by assumption) hb2 (Nat.le_refl _)) ((first
        | (go_at_call 91; refine (actions_c _).mono ?_; rintro e w2 ⟨v, rfl, hv, hb2⟩)
        | (go_at_call 90; refine (isOption_is actL v _ _ (by exact hv) (by decide) false HO.out).mono ?_; rintro e w3 ⟨rfl, hb3⟩)))
      have hS := ‹World.cell? _ ⟨w.heap.size, 3, none⟩ = _ ∧ _ ∧ Below w.heap.size w _›
      go_wp2_with fail
      go_ret
      exact ⟨by rw [HX.out]; rfl, hS.2.2⟩
    have HO : Hid _ := hO
    clear hO
    go_wp2_with fail
    go_region_held3 (fun w' => w'.cell? ⟨w.heap.size, 3, none⟩ = some (.int .i64 x.action) ∧ w'.cell? ⟨w.heap.size, 4, none⟩ = some (.slice ra x.regs.length rcap) ∧ Below w.heap.size w w') (first | assumption | exact ⟨y3, y4, b0.drew⟩ | exact keep2 (by assumption) hb3 (Nat.le_refl _) | exact keep2 (by assumption) hb2 (Nat.le_refl _)) ((first
      | (go_at_call 91; refine (actions_c _).mono ?_; rintro e w2 ⟨v, rfl, hv, hb2⟩)
      | (go_at_call 90; refine (isOption_is actL v _ _ (by exact hv) (by decide) true HO.out).mono ?_; rintro e w3 ⟨rfl, hb3⟩)))
    have hS := ‹World.cell? _ ⟨w.heap.size, 3, none⟩ = _ ∧ _ ∧ Below w.heap.size w _›
    obtain ⟨_, z4, b1⟩ := hS
    clear y1 y2 y3 y4
    go_wp2_with fail
    refine (areRegions_any x.regs _ _ (RegsV.below HRV.out b1) HCP.out hrl).mono ?_
    rintro e w4 ⟨rfl, hb4⟩
    have b2 := b1.trans (hb4.mono b1.size)
    have HX : Hid (partE f x = if regsF x.regs = false then 11 else 0) := by show _ = _; rw [HE.out, if_neg (by rw [HA.out]; simp), if_neg (by rw [HRR.out]; simp), if_neg (by rw [HD.out]; simp), if_neg (by rw [HO.out]; simp)]
    cases hG : regsF x.regs
    · go_wp2_with fail
      go_ret
      exact ⟨by rw [HX.out, hG]; rfl, b2⟩
    · go_wp2_with fail
      go_ret
      exact ⟨by rw [HX.out, hG]; rfl, b2⟩
  · have HX : Hid (partE f x = 8) := by show _ = _; rw [HE.out, if_neg (by rw [HA.out]; simp), if_pos hR]
    go_wp2_with fail
    go_ret
    exact ⟨by rw [HX.out]; rfl, b0⟩

/- and of one channel -/
def maxD (k f : Int) : Int := if k = 2 then f else 8
def chanE (f : Int) (n : Nat) (c : ChanD) : Int :=
  if (decide (0 ≤ c.source) && decide (c.source ≤ (n : Int) - 1)) = false then 12
  else if (decide (0 ≤ c.target) && decide (c.target ≤ (n : Int) - 1)) = false then 12
  else if (c.source == c.target) = true then 12
  else if kindL.any (sameO c.kind) = false then 13
  else if (decide (1 ≤ c.size) && decide (c.size ≤ 32)) = false then 14
  else if (decide (1 ≤ c.depth) && decide (c.depth ≤ maxD c.kind f)) = false then 15 else 0
theorem chanErr_eq (f : Int) (n : Nat) (bef : List ChanD) (c : ChanD) : chanErr f n bef c = if (nameF c.name.data.toList && freshC bef c) = false then 7 else chanE f n c := by
  unfold chanErr chanE
  rw [kind_is]
  by_cases h0 : (nameF c.name.data.toList && freshC bef c) = false
  · rw [if_pos h0, if_pos h0]
  rw [if_neg h0, if_neg h0]
  by_cases h1 : c.source < 0 ∨ (n : Int) ≤ c.source
  · rw [if_pos (by omega), if_pos (by rw [Bool.and_eq_false_iff]; simp; omega)]
  have n1 : ¬ (decide (0 ≤ c.source) && decide (c.source ≤ (n : Int) - 1)) = false := by rw [Bool.and_eq_false_iff]; simp; omega
  rw [if_neg n1]
  by_cases h2 : c.target < 0 ∨ (n : Int) ≤ c.target
  · rw [if_pos (by omega), if_pos (by rw [Bool.and_eq_false_iff]; simp; omega)]
  have n2 : ¬ (decide (0 ≤ c.target) && decide (c.target ≤ (n : Int) - 1)) = false := by rw [Bool.and_eq_false_iff]; simp; omega
  rw [if_neg n2]
  by_cases h3 : c.source = c.target
  · rw [if_pos (by omega), if_pos (by simp [h3])]
  have n3 : ¬ (c.source == c.target) = true := by simp [h3]
  rw [if_neg (by omega), if_neg n3]
  by_cases h4 : ¬ c.kind = 1 ∧ ¬ c.kind = 2
  · rw [if_pos h4, if_pos (by rw [Bool.or_eq_false_iff]; simp; omega)]
  have n4 : ¬ (decide (c.kind = 1) || decide (c.kind = 2)) = false := by rw [Bool.or_eq_false_iff]; simp; omega
  rw [if_neg h4, if_neg n4]
  by_cases h5 : c.size < 1 ∨ 32 < c.size
  · rw [if_pos h5, if_pos (by rw [Bool.and_eq_false_iff]; simp; omega)]
  have n5 : ¬ (decide (1 ≤ c.size) && decide (c.size ≤ 32)) = false := by rw [Bool.and_eq_false_iff]; simp; omega
  rw [if_neg h5, if_neg n5]
  have e : (if c.kind = 1 then (8 : Int) else f) = maxD c.kind f := by
    unfold maxD
    by_cases hk : c.kind = 1
    · rw [if_pos hk, if_neg (by omega)]
    · rw [if_neg hk, if_pos (by omega)]
  rw [e]
  by_cases h6 : c.depth < 1 ∨ maxD c.kind f < c.depth
  · rw [if_pos h6, if_pos (by rw [Bool.and_eq_false_iff]; simp; omega)]
  · have n6 : ¬ (decide (1 ≤ c.depth) && decide (c.depth ≤ maxD c.kind f)) = false := by rw [Bool.and_eq_false_iff]; simp; omega
    rw [if_neg h6, if_neg n6]
set_option maxRecDepth 100000 in
theorem maxDepth_any (k f : Int) (w : World) :
    Calls Tryz.prog 95 #[.int .i64 k, .int .i64 f] w fun e w' => e = .returned (.int .i64 (maxD k f)) ∧ w' = w := by
  unfold maxD
  go_enter Tryz.func95, Tryz.ntmps95
  by_cases h : k = 2
  · subst h
    go_wp2_with fail
    go_ret
    exact ⟨rfl, rfl⟩
  · have hb : (k == 2) = false := by simp [h]
    go_wp2_with fail
    go_ret
    exact ⟨rfl, rfl⟩
set_option maxRecDepth 100000 in
set_option maxHeartbeats 2000000 in
theorem checkChannel_any (f : Int) (n : Nat) (c : ChanD) (pa : Option Addr) (pcap : Nat) (cv : Value) (w : World) (hn : n ≤ 4611686018427387903) (hcv : ∃ a l k, cv = .slice a l k) :
    Calls Tryz.prog 69 #[.agg #[.string c.name, .int .i64 c.source, .int .i64 c.target, .int .i64 c.kind, .int .i64 c.size, .int .i64 c.depth], .agg #[.int .i64 f, .slice pa n pcap, cv]] w fun e w' => e = .returned (.int .i64 (chanE f n c)) ∧ Below w.heap.size w w' := by
  obtain ⟨ca, cl, ck, rfl⟩ := hcv
  have b0 : Below w.heap.size w ((w.alloc (.cells #[.string c.name, .int .i64 c.source, .int .i64 c.target, .int .i64 c.kind, .int .i64 c.size, .int .i64 c.depth] 58)).alloc (.cells #[.int .i64 f, .slice pa n pcap, .slice ca cl ck] 31)) := ((Below.refl _ w).alloc (Nat.le_refl _) _).alloc (by simp) _
  have h0 := heap_old _ (.cells #[.int .i64 f, .slice pa n pcap, .slice ca cl ck] 31) (heap_new w (.cells #[.string c.name, .int .i64 c.source, .int .i64 c.target, .int .i64 c.kind, .int .i64 c.size, .int .i64 c.depth] 58))
  have h1 := heap_new (w.alloc (.cells #[.string c.name, .int .i64 c.source, .int .i64 c.target, .int .i64 c.kind, .int .i64 c.size, .int .i64 c.depth] 58)) (.cells #[.int .i64 f, .slice pa n pcap, .slice ca cl ck] 31)
  simp only [World.size_alloc] at h1
  have hw : IntKind.i64.wrap ((n : Int) - 1) = (n : Int) - 1 := wrap_small _ (by omega) (by omega)
  have HE : Hid (chanE f n c = chanE f n c) := rfl
  conv at HE => arg 1; rhs; unfold chanE
  go_enter Tryz.func69, Tryz.ntmps69
  go_wp2_with fail
  generalize (w.alloc (.cells #[.string c.name, .int .i64 c.source, .int .i64 c.target, .int .i64 c.kind, .int .i64 c.size, .int .i64 c.depth] 58)).alloc (.cells #[.int .i64 f, .slice pa n pcap, .slice ca cl ck] 31) = W0 at *
  have y1 : W0.cell? ⟨w.heap.size, 1, none⟩ = some (.int .i64 c.source) := by rw [cell_of_blk h0]; rfl
  have y2 : W0.cell? ⟨w.heap.size, 2, none⟩ = some (.int .i64 c.target) := by rw [cell_of_blk h0]; rfl
  have y3 : W0.cell? ⟨w.heap.size, 3, none⟩ = some (.int .i64 c.kind) := by rw [cell_of_blk h0]; rfl
  have y4 : W0.cell? ⟨w.heap.size, 4, none⟩ = some (.int .i64 c.size) := by rw [cell_of_blk h0]; rfl
  have y5 : W0.cell? ⟨w.heap.size, 5, none⟩ = some (.int .i64 c.depth) := by rw [cell_of_blk h0]; rfl
  have z0 : W0.cell? ⟨w.heap.size + 1, 0, none⟩ = some (.int .i64 f) := by rw [cell_of_blk h1]; rfl
  clear hw h0 h1
  refine (within_any _ _ _ _).mono ?_
  rintro e w1 ⟨rfl, rfl⟩
  cases hA : (decide (0 ≤ c.source) && decide (c.source ≤ (n : Int) - 1))
  · have HX : Hid (chanE f n c = 12) := by show _ = _; rw [HE.out, if_pos hA]
    clear hA
    go_wp2_with fail
    go_ret
    exact ⟨by rw [HX.out]; rfl, b0⟩
  have HA : Hid _ := hA
  clear hA
  go_wp2_with fail
  refine (within_any _ _ _ _).mono ?_
  rintro e w1 ⟨rfl, rfl⟩
  cases hB : (decide (0 ≤ c.target) && decide (c.target ≤ (n : Int) - 1))
  · have HX : Hid (chanE f n c = 12) := by show _ = _; rw [HE.out, if_neg (by rw [HA.out]; simp), if_pos hB]
    clear hB
    go_wp2_with fail
    go_ret
    exact ⟨by rw [HX.out]; rfl, b0⟩
  have HB : Hid _ := hB
  clear hB
  cases hC : (c.source == c.target)
  · have HC : Hid _ := hC
    cases hO : kindL.any (sameO c.kind)
    all_goals (have HO : Hid _ := hO)
    all_goals clear hO
    all_goals go_wp2_with fail
    · have HX : Hid (chanE f n c = 13) := by show _ = _; rw [HE.out, if_neg (by rw [HA.out]; simp), if_neg (by rw [HB.out]; simp), if_neg (by rw [HC.out]; simp), if_pos HO.out]
      go_region_held3 (fun w' => w'.cell? ⟨w.heap.size, 3, none⟩ = some (.int .i64 c.kind) ∧ w'.cell? ⟨w.heap.size, 4, none⟩ = some (.int .i64 c.size) ∧ w'.cell? ⟨w.heap.size, 5, none⟩ = some (.int .i64 c.depth) ∧ w'.cell? ⟨w.heap.size + 1, 0, none⟩ = some (.int .i64 f) ∧ Below w.heap.size w w') (first | assumption | exact ⟨y3, y4, y5, z0, b0.drew⟩ | exact keep4c (by assumption) hb3 (Nat.le_refl _) | exact keep4c (by assumption) hb2 (Nat.le_refl _)) ((first
        | (go_at_call 94; refine (kinds_c _).mono ?_; rintro e w2 ⟨v, rfl, hv, hb2⟩)
        | (go_at_call 90; refine (isOption_is kindL v _ _ (by exact hv) (by decide) false HO.out).mono ?_; rintro e w3 ⟨rfl, hb3⟩)))
      have hS := ‹World.cell? _ ⟨w.heap.size, 3, none⟩ = _ ∧ _ ∧ _ ∧ _ ∧ Below w.heap.size w _›
      go_wp2_with fail
      go_ret
      exact ⟨by rw [HX.out]; rfl, hS.2.2.2.2⟩
    · go_region_held3 (fun w' => w'.cell? ⟨w.heap.size, 3, none⟩ = some (.int .i64 c.kind) ∧ w'.cell? ⟨w.heap.size, 4, none⟩ = some (.int .i64 c.size) ∧ w'.cell? ⟨w.heap.size, 5, none⟩ = some (.int .i64 c.depth) ∧ w'.cell? ⟨w.heap.size + 1, 0, none⟩ = some (.int .i64 f) ∧ Below w.heap.size w w') (first | assumption | exact ⟨y3, y4, y5, z0, b0.drew⟩ | exact keep4c (by assumption) hb3 (Nat.le_refl _) | exact keep4c (by assumption) hb2 (Nat.le_refl _)) ((first
        | (go_at_call 94; refine (kinds_c _).mono ?_; rintro e w2 ⟨v, rfl, hv, hb2⟩)
        | (go_at_call 90; refine (isOption_is kindL v _ _ (by exact hv) (by decide) true HO.out).mono ?_; rintro e w3 ⟨rfl, hb3⟩)))
      have hS := ‹World.cell? _ ⟨w.heap.size, 3, none⟩ = _ ∧ _ ∧ _ ∧ _ ∧ Below w.heap.size w _›
      obtain ⟨x3, x4, x5, x0, b1⟩ := hS
      clear y1 y2 y3 y4 y5 z0 hC
      go_wp2_with fail
      refine (within_any _ _ _ _).mono ?_
      rintro e w4 ⟨rfl, rfl⟩
      cases hD : (decide (1 ≤ c.size) && decide (c.size ≤ 32))
      · have HX : Hid (chanE f n c = 14) := by show _ = _; rw [HE.out, if_neg (by rw [HA.out]; simp), if_neg (by rw [HB.out]; simp), if_neg (by rw [HC.out]; simp), if_neg (by rw [HO.out]; simp), if_pos hD]
        clear hD
        go_wp2_with fail
        go_ret
        exact ⟨by rw [HX.out]; rfl, b1⟩
      have HD : Hid _ := hD
      clear hD
      have HX : Hid (chanE f n c = if (decide (1 ≤ c.depth) && decide (c.depth ≤ maxD c.kind f)) = false then 15 else 0) := by show _ = _; rw [HE.out, if_neg (by rw [HA.out]; simp), if_neg (by rw [HB.out]; simp), if_neg (by rw [HC.out]; simp), if_neg (by rw [HO.out]; simp), if_neg (by rw [HD.out]; simp)]
      cases hF : (decide (1 ≤ c.depth) && decide (c.depth ≤ maxD c.kind f))
      all_goals (have HF := within_is _ _ _ _ hF; rw [hF] at HX; clear hF)
      all_goals go_wp2_with fail
      all_goals go_quiet (first | (go_at_call 95; exact Calls.quiet_of_same (maxDepth_any _ _ _)) | (go_at_call 32; exact Calls.quiet_of_same (HF _)))
      all_goals go_wp2_with fail
      all_goals go_ret
      all_goals exact ⟨by rw [HX.out]; rfl, below_drewN b1 _⟩
  · have HX : Hid (chanE f n c = 12) := by show _ = _; rw [HE.out, if_neg (by rw [HA.out]; simp), if_neg (by rw [HB.out]; simp), if_pos hC]
    go_wp2_with fail
    go_ret
    exact ⟨by rw [HX.out]; rfl, b0⟩
end Go.Proofs.YteioennfpkoagabGreatDoor.C
namespace Go.Proofs.YteioennfpkoagabGreatDoor.C
open Go.RowKit
attribute [local go_sem ↓] Go.wp_at_zero Go.wp_at_succ

theorem freshP_any (bef : List PartD) (x : PartD) : freshP bef x = !(bef.any (sameP x.name)) := by
  unfold freshP sameP
  rw [List.not_any_eq_all_not]
  rfl
theorem freshC_any (bef : List ChanD) (x : ChanD) : freshC bef x = !(bef.any (sameC x.name)) := by
  unfold freshC sameC
  rw [List.not_any_eq_all_not]
  rfl
theorem PartsV.take {w : World} {b off cap : Nat} {ps : List PartD} (h : PartsV w (.slice (some ⟨b, off, none⟩) ps.length cap) ps) (k : Nat) (hk : k ≤ ps.length) (cap' : Nat) : PartsV w (.slice (some ⟨b, off, none⟩) k cap') (ps.take k) := by
  obtain ⟨va, c, e, hc⟩ := h
  cases e
  refine ⟨_, _, by rw [List.length_take, Nat.min_eq_left hk], fun i hi => ?_⟩
  have hi2 : i < ps.length := by rw [List.length_take] at hi; omega
  rw [List.getElem_take]
  exact hc i hi2
theorem ChansV.take {w : World} {b off cap : Nat} {ps : List ChanD} (h : ChansV w (.slice (some ⟨b, off, none⟩) ps.length cap) ps) (k : Nat) (hk : k ≤ ps.length) (cap' : Nat) : ChansV w (.slice (some ⟨b, off, none⟩) k cap') (ps.take k) := by
  obtain ⟨va, c, e, hc⟩ := h
  cases e
  refine ⟨_, _, by rw [List.length_take, Nat.min_eq_left hk], fun i hi => ?_⟩
  have hi2 : i < ps.length := by rw [List.length_take] at hi; omega
  rw [List.getElem_take]
  exact hc i hi2

set_option maxRecDepth 100000 in
set_option maxHeartbeats 2000000 in
theorem checkPartitions_any (f : Int) (ps : List PartD) (cs : List ChanD) (pv cv : Value) (w : World) (hp : PartsV w pv ps) (hpc : PartsC w pv ps.length) (hcv : ∃ a l k, cv = .slice a l k) (hf : 1 ≤ f ∧ f ≤ 240) (hl : ps.length ≤ 4611686018427387903) (hrl : ∀ k (h : k < ps.length), ps[k].regs.length ≤ 4611686018427387903) :
    Calls Tryz.prog 34 #[.agg #[.int .i64 f, pv, cv]] w fun e w' => e = .returned (.int .i64 (firstNZ (partAt ⟨f, ps, cs⟩) ps.length)) ∧ Below w.heap.size w w' := by
  obtain ⟨ca, cl, ck, rfl⟩ := hcv
  have HP : Hid (PartsV w pv ps) := hp
  have HPC : Hid (PartsC w pv ps.length) := hpc
  obtain ⟨va, cap, rfl, hc⟩ := hp
  have hlc := hpc.1.le
  clear hpc
  have HC : Hid _ := hc
  have HRL : Hid _ := hrl
  clear hc hrl
  have b0 : Below w.heap.size w (w.alloc (.cells #[.int .i64 f, .slice va ps.length cap, .slice ca cl ck] 31)) := (Below.refl _ w).alloc (Nat.le_refl _) _
  have h0 := heap_new w (.cells #[.int .i64 f, .slice va ps.length cap, .slice ca cl ck] 31)
  go_enter Tryz.func34, Tryz.ntmps34
  go_wp2_with fail
  generalize w.alloc (.cells #[.int .i64 f, .slice va ps.length cap, .slice ca cl ck] 31) = W0 at *
  go_loopw [10] (fun i wr => ∃ (k : Nat), i = .int .i64 k ∧ k ≤ ps.length ∧ Hid (firstNZ (partAt ⟨f, ps, cs⟩) k = 0) ∧ wr.heap[w.heap.size]? = some (.cells #[.int .i64 f, .slice va ps.length cap, .slice ca cl ck] 31 (0, 0)) ∧ Below w.heap.size w wr) (fun i _ => ps.length - (intOf i).toNat)
  case atStart => exact ⟨0, rfl, by omega, rfl, h0, b0⟩
  case round =>
    obtain ⟨k, rfl, hk, HZ, hm, hbel⟩ := hrel
    by_cases hlt : k < ps.length
    · have hlt' : (k : Int) < (ps.length : Int) := by omega
      have hk0 : (0 : Int) ≤ (k : Int) := by omega
      obtain ⟨b, off, rv, rfl, c0, c1, c2, c3, c4, hrv⟩ := HC.out k hlt
      have hbl := World.block_lt_of_cell? w _ c0
      have HCR : Hid (capV rv) := HPC.out.2 k hlt b off _ _ rfl rv c4
      have HRV : Hid (RegsV w rv ps[k].regs) := hrv
      obtain ⟨ra, rcap, rfl, hrx⟩ := hrv
      clear hrx
      have d0 := (hbel.cell (by exact hbl)).trans c0
      have d1 := (hbel.cell (by exact hbl)).trans c1
      have d2 := (hbel.cell (by exact hbl)).trans c2
      have d3 := (hbel.cell (by exact hbl)).trans c3
      have d4 := (hbel.cell (by exact hbl)).trans c4
      clear c0 c1 c2 c3 c4
      have HAT : Hid (partAt ⟨f, ps, cs⟩ k = partErr f (ps.take k) ps[k]) := dif_pos hlt
      have HTK : Hid _ := fun cap' (w' : World) (hb : Below w.heap.size w w') => (PartsV.below HP.out hb).take k hk cap'
      have hRL := HRL.out k hlt
      have HST : Hid _ := @firstNZ_stop (partAt ⟨f, ps, cs⟩) k ps.length HZ.out
      have HSN : Hid _ := @firstNZ_step (partAt ⟨f, ps, cs⟩) k HZ.out
      generalize ps[k] = x at *
      have hkc : (k : Int) ≤ (cap : Int) := by omega
      have b1 := hbel.alloc (o := .cells #[.string x.name, .int .i64 x.period, .int .i64 x.duration, .int .i64 x.action, .slice ra x.regs.length rcap] 54) hbel.size
      have h1 := heap_new wr (.cells #[.string x.name, .int .i64 x.period, .int .i64 x.duration, .int .i64 x.action, .slice ra x.regs.length rcap] 54)
      have m1 := heap_old wr (.cells #[.string x.name, .int .i64 x.period, .int .i64 x.duration, .int .i64 x.action, .slice ra x.regs.length rcap] 54) hm
      go_wp2_with fail
      clear d0 d1 d2 d3 d4 hm hbel
      generalize wr.alloc (.cells #[.string x.name, .int .i64 x.period, .int .i64 x.duration, .int .i64 x.action, .slice ra x.regs.length rcap] 54) = W1 at *
      generalize wr.heap.size = nb at *
      have e0 : W1.cell? ⟨nb, 0, none⟩ = some (.string x.name) := by rw [cell_of_blk h1]; rfl
      have m2 : W1.cell? ⟨w.heap.size, 1, none⟩ = some (.slice (some ⟨b, off, none⟩) ps.length cap) := by rw [cell_of_blk m1]; rfl
      refine (isName_any _ _).mono ?_
      rintro e w2 ⟨rfl, rfl⟩
      have HPE : Hid _ := partErr_eq f (ps.take k) x
      cases hN : nameF x.name.data.toList
      · have HX : Hid (firstNZ (partAt ⟨f, ps, cs⟩) ps.length = 7) := by
          have h7 : partAt ⟨f, ps, cs⟩ k = 7 := by rw [HAT.out, HPE.out, hN]; rfl
          show _ = _
          rw [HST.out (by rw [h7]; decide) hlt, h7]
        clear hN
        go_wp2_with fail
        go_ret
        exact ⟨by rw [HX.out]; rfl, b1⟩
      have HN : Hid _ := hN
      clear hN
      go_wp2_with fail
      refine (contains_name nb x.name (ps.take k) _ w2 (HTK.out cap w2 b1) (by rw [List.length_take]; omega) e0).mono ?_
      rintro e w3 ⟨rfl, hb3⟩
      have h3 := (hb3.block _ (lt_of_blk h1)).trans h1
      have m3 := (hb3.block _ (lt_of_blk m1)).trans m1
      have b3 := b1.trans (hb3.mono b1.size)
      clear e0 m2 h1 m1 hb3 b1
      cases hF : (ps.take k).any (sameP x.name)
      · have HF : Hid _ := hF
        clear hF
        have g0 : w3.cell? ⟨nb, 0, none⟩ = some (.string x.name) := by rw [cell_of_blk h3]; rfl
        have g1 : w3.cell? ⟨nb, 1, none⟩ = some (.int .i64 x.period) := by rw [cell_of_blk h3]; rfl
        have g2 : w3.cell? ⟨nb, 2, none⟩ = some (.int .i64 x.duration) := by rw [cell_of_blk h3]; rfl
        have g3 : w3.cell? ⟨nb, 3, none⟩ = some (.int .i64 x.action) := by rw [cell_of_blk h3]; rfl
        have g4 : w3.cell? ⟨nb, 4, none⟩ = some (.slice ra x.regs.length rcap) := by rw [cell_of_blk h3]; rfl
        have g5 : w3.cell? ⟨w.heap.size, 0, none⟩ = some (.int .i64 f) := by rw [cell_of_blk m3]; rfl
        go_wp2_with fail
        refine (checkPartition_any f x _ w3 (RegsV.below HRV.out b3) HCR.out hf hRL).mono ?_
        rintro e w4 ⟨rfl, hb4⟩
        have m4 := (hb4.block _ (lt_of_blk m3)).trans m3
        have b4 := b3.trans (hb4.mono b3.size)
        have HVV : Hid (partAt ⟨f, ps, cs⟩ k = partE f x) := by
          show _ = _
          rw [HAT.out, HPE.out, HN.out, freshP_any, HF.out]; rfl
        clear g0 g1 g2 g3 g4 g5 m3 h3 hb4 b3
        by_cases hz : partE f x = 0
        · have HZ2 : Hid _ := HSN.out (HVV.out.trans hz)
          rw [hz]
          clear hz
          go_wp2_with fail
          go_roundw
          case rel => exact ⟨k + 1, by go_num, by omega, HZ2, m4, b4⟩
          case measure => simp [intOf]; omega
        · have hzz : (partE f x != 0) = true := by simp [hz]
          have HX : Hid (firstNZ (partAt ⟨f, ps, cs⟩) ps.length = partE f x) := by show _ = _; rw [HST.out (by rw [HVV.out]; exact hz) hlt, HVV.out]
          go_wp2_with fail
          go_ret
          exact ⟨by rw [HX.out]; rfl, b4⟩
      · have HX : Hid (firstNZ (partAt ⟨f, ps, cs⟩) ps.length = 7) := by
          have h7 : partAt ⟨f, ps, cs⟩ k = 7 := by rw [HAT.out, HPE.out, freshP_any, hF]; simp
          show _ = _
          rw [HST.out (by rw [h7]; decide) hlt, h7]
        clear hF
        go_wp2_with fail
        go_ret
        exact ⟨by rw [HX.out]; rfl, b3⟩
    · have hlt' : ¬ (k : Int) < (ps.length : Int) := by omega
      have hke : k = ps.length := by omega
      have HF : Hid (firstNZ (partAt ⟨f, ps, cs⟩) ps.length = 0) := by have := HZ.out; rw [hke] at this; exact this
      go_wp2_with fail
      go_ret
      exact ⟨by rw [HF.out]; rfl, hbel⟩
end Go.Proofs.YteioennfpkoagabGreatDoor.C
namespace Go.Proofs.YteioennfpkoagabGreatDoor.C
open Go.RowKit
attribute [local go_sem ↓] Go.wp_at_zero Go.wp_at_succ

set_option maxRecDepth 100000 in
set_option maxHeartbeats 2000000 in
theorem checkChannels_any (f : Int) (ps : List PartD) (cs : List ChanD) (pv cv : Value) (w : World) (hpv : ∃ a k, pv = .slice a ps.length k) (hp : ChansV w cv cs) (hpc : capV cv) (hn : ps.length ≤ 4611686018427387903) (hl : cs.length ≤ 4611686018427387903) :
    Calls Tryz.prog 35 #[.agg #[.int .i64 f, pv, cv]] w fun e w' => e = .returned (.int .i64 (firstNZ (chanAt ⟨f, ps, cs⟩) cs.length)) ∧ Below w.heap.size w w' := by
  obtain ⟨pa, pcap, rfl⟩ := hpv
  have HP : Hid (ChansV w cv cs) := hp
  obtain ⟨va, cap, rfl, hc⟩ := hp
  have hlc := hpc.le
  clear hpc
  have HC : Hid _ := hc
  clear hc
  have b0 : Below w.heap.size w (w.alloc (.cells #[.int .i64 f, .slice pa ps.length pcap, .slice va cs.length cap] 31)) := (Below.refl _ w).alloc (Nat.le_refl _) _
  have h0 := heap_new w (.cells #[.int .i64 f, .slice pa ps.length pcap, .slice va cs.length cap] 31)
  go_enter Tryz.func35, Tryz.ntmps35
  go_wp2_with fail
  generalize w.alloc (.cells #[.int .i64 f, .slice pa ps.length pcap, .slice va cs.length cap] 31) = W0 at *
  go_loopw [10] (fun i wr => ∃ (k : Nat), i = .int .i64 k ∧ k ≤ cs.length ∧ Hid (firstNZ (chanAt ⟨f, ps, cs⟩) k = 0) ∧ wr.heap[w.heap.size]? = some (.cells #[.int .i64 f, .slice pa ps.length pcap, .slice va cs.length cap] 31 (0, 0)) ∧ Below w.heap.size w wr) (fun i _ => cs.length - (intOf i).toNat)
  case atStart => exact ⟨0, rfl, by omega, rfl, h0, b0⟩
  case round =>
    obtain ⟨k, rfl, hk, HZ, hm, hbel⟩ := hrel
    by_cases hlt : k < cs.length
    · have hlt' : (k : Int) < (cs.length : Int) := by omega
      have hk0 : (0 : Int) ≤ (k : Int) := by omega
      obtain ⟨b, off, rfl, c0, c1, c2, c3, c4, c5⟩ := HC.out k hlt
      have hbl := World.block_lt_of_cell? w _ c0
      have d0 := (hbel.cell (by exact hbl)).trans c0
      have d1 := (hbel.cell (by exact hbl)).trans c1
      have d2 := (hbel.cell (by exact hbl)).trans c2
      have d3 := (hbel.cell (by exact hbl)).trans c3
      have d4 := (hbel.cell (by exact hbl)).trans c4
      have d5 := (hbel.cell (by exact hbl)).trans c5
      clear c0 c1 c2 c3 c4 c5
      have HAT : Hid (chanAt ⟨f, ps, cs⟩ k = chanErr f ps.length (cs.take k) cs[k]) := dif_pos hlt
      have HTK : Hid _ := fun cap' (w' : World) (hb : Below w.heap.size w w') => (ChansV.below HP.out hb).take k hk cap'
      have HST : Hid _ := @firstNZ_stop (chanAt ⟨f, ps, cs⟩) k cs.length HZ.out
      have HSN : Hid _ := @firstNZ_step (chanAt ⟨f, ps, cs⟩) k HZ.out
      generalize cs[k] = x at *
      have hkc : (k : Int) ≤ (cap : Int) := by omega
      have b1 := hbel.alloc (o := .cells #[.string x.name, .int .i64 x.source, .int .i64 x.target, .int .i64 x.kind, .int .i64 x.size, .int .i64 x.depth] 58) hbel.size
      have h1 := heap_new wr (.cells #[.string x.name, .int .i64 x.source, .int .i64 x.target, .int .i64 x.kind, .int .i64 x.size, .int .i64 x.depth] 58)
      have m1 := heap_old wr (.cells #[.string x.name, .int .i64 x.source, .int .i64 x.target, .int .i64 x.kind, .int .i64 x.size, .int .i64 x.depth] 58) hm
      go_wp2_with fail
      clear d0 d1 d2 d3 d4 d5 hm hbel
      generalize wr.alloc (.cells #[.string x.name, .int .i64 x.source, .int .i64 x.target, .int .i64 x.kind, .int .i64 x.size, .int .i64 x.depth] 58) = W1 at *
      generalize wr.heap.size = nb at *
      have e0 : W1.cell? ⟨nb, 0, none⟩ = some (.string x.name) := by rw [cell_of_blk h1]; rfl
      have m2 : W1.cell? ⟨w.heap.size, 2, none⟩ = some (.slice (some ⟨b, off, none⟩) cs.length cap) := by rw [cell_of_blk m1]; rfl
      refine (isName_any _ _).mono ?_
      rintro e w2 ⟨rfl, rfl⟩
      have HPE : Hid _ := chanErr_eq f ps.length (cs.take k) x
      cases hN : nameF x.name.data.toList
      · have HX : Hid (firstNZ (chanAt ⟨f, ps, cs⟩) cs.length = 7) := by
          have h7 : chanAt ⟨f, ps, cs⟩ k = 7 := by rw [HAT.out, HPE.out, hN]; rfl
          show _ = _
          rw [HST.out (by rw [h7]; decide) hlt, h7]
        clear hN
        go_wp2_with fail
        go_ret
        exact ⟨by rw [HX.out]; rfl, b1⟩
      have HN : Hid _ := hN
      clear hN
      go_wp2_with fail
      refine (contains_cname nb x.name (cs.take k) _ w2 (HTK.out cap w2 b1) (by rw [List.length_take]; omega) e0).mono ?_
      rintro e w3 ⟨rfl, hb3⟩
      have h3 := (hb3.block _ (lt_of_blk h1)).trans h1
      have m3 := (hb3.block _ (lt_of_blk m1)).trans m1
      have b3 := b1.trans (hb3.mono b1.size)
      clear e0 m2 h1 m1 hb3 b1
      cases hF : (cs.take k).any (sameC x.name)
      · have HF : Hid _ := hF
        clear hF
        have g0 : w3.cell? ⟨nb, 0, none⟩ = some (.string x.name) := by rw [cell_of_blk h3]; rfl
        have g1 : w3.cell? ⟨nb, 1, none⟩ = some (.int .i64 x.source) := by rw [cell_of_blk h3]; rfl
        have g2 : w3.cell? ⟨nb, 2, none⟩ = some (.int .i64 x.target) := by rw [cell_of_blk h3]; rfl
        have g3 : w3.cell? ⟨nb, 3, none⟩ = some (.int .i64 x.kind) := by rw [cell_of_blk h3]; rfl
        have g4 : w3.cell? ⟨nb, 4, none⟩ = some (.int .i64 x.size) := by rw [cell_of_blk h3]; rfl
        have g5 : w3.cell? ⟨nb, 5, none⟩ = some (.int .i64 x.depth) := by rw [cell_of_blk h3]; rfl
        have k0 : w3.cell? ⟨w.heap.size, 0, none⟩ = some (.int .i64 f) := by rw [cell_of_blk m3]; rfl
        have k1 : w3.cell? ⟨w.heap.size, 1, none⟩ = some (.slice pa ps.length pcap) := by rw [cell_of_blk m3]; rfl
        have k2 : w3.cell? ⟨w.heap.size, 2, none⟩ = some (.slice (some ⟨b, off, none⟩) cs.length cap) := by rw [cell_of_blk m3]; rfl
        go_wp2_with fail
        refine (checkChannel_any f ps.length x pa pcap _ w3 hn ⟨_, _, _, rfl⟩).mono ?_
        rintro e w4 ⟨rfl, hb4⟩
        have m4 := (hb4.block _ (lt_of_blk m3)).trans m3
        have b4 := b3.trans (hb4.mono b3.size)
        have HVV : Hid (chanAt ⟨f, ps, cs⟩ k = chanE f ps.length x) := by
          show _ = _
          rw [HAT.out, HPE.out, HN.out, freshC_any, HF.out]; rfl
        clear g0 g1 g2 g3 g4 g5 k0 k1 k2 m3 h3 hb4 b3
        by_cases hz : chanE f ps.length x = 0
        · have HZ2 : Hid _ := HSN.out (HVV.out.trans hz)
          rw [hz]
          clear hz
          go_wp2_with fail
          go_roundw
          case rel => exact ⟨k + 1, by go_num, by omega, HZ2, m4, b4⟩
          case measure => simp [intOf]; omega
        · have hzz : (chanE f ps.length x != 0) = true := by simp [hz]
          have HX : Hid (firstNZ (chanAt ⟨f, ps, cs⟩) cs.length = chanE f ps.length x) := by show _ = _; rw [HST.out (by rw [HVV.out]; exact hz) hlt, HVV.out]
          go_wp2_with fail
          go_ret
          exact ⟨by rw [HX.out]; rfl, b4⟩
      · have HX : Hid (firstNZ (chanAt ⟨f, ps, cs⟩) cs.length = 7) := by
          have h7 : chanAt ⟨f, ps, cs⟩ k = 7 := by rw [HAT.out, HPE.out, freshC_any, hF]; simp
          show _ = _
          rw [HST.out (by rw [h7]; decide) hlt, h7]
        clear hF
        go_wp2_with fail
        go_ret
        exact ⟨by rw [HX.out]; rfl, b3⟩
    · have hlt' : ¬ (k : Int) < (cs.length : Int) := by omega
      have hke : k = cs.length := by omega
      have HF : Hid (firstNZ (chanAt ⟨f, ps, cs⟩) cs.length = 0) := by have := HZ.out; rw [hke] at this; exact this
      go_wp2_with fail
      go_ret
      exact ⟨by rw [HF.out]; rfl, hbel⟩

theorem wideB_any (ps : List PartD) : wideB ps = ps.any wideP := rfl
set_option maxRecDepth 100000 in
set_option maxHeartbeats 2000000 in
theorem tooMany_any (f : Int) (ps : List PartD) (cs : List ChanD) (pv cv : Value) (w : World) (hp : PartsV w pv ps) (hcv : ∃ a k, cv = .slice a cs.length k) (hl : ps.length ≤ 4611686018427387903) :
    Calls Tryz.prog 33 #[.agg #[.int .i64 f, pv, cv]] w fun e w' => e = .returned (.bool (manyB ⟨f, ps, cs⟩)) ∧ Below w.heap.size w w' := by
  obtain ⟨ca, ck, rfl⟩ := hcv
  have HP : Hid (PartsV w pv ps) := hp
  obtain ⟨va, cap, rfl, hc⟩ := hp
  clear hc
  have b0 : Below w.heap.size w (w.alloc (.cells #[.int .i64 f, .slice va ps.length cap, .slice ca cs.length ck] 31)) := (Below.refl _ w).alloc (Nat.le_refl _) _
  have h0 := heap_new w (.cells #[.int .i64 f, .slice va ps.length cap, .slice ca cs.length ck] 31)
  have HT : Hid _ := @many_true ⟨f, ps, cs⟩
  have HW : Hid _ := @many_wide ⟨f, ps, cs⟩
  go_enter Tryz.func33, Tryz.ntmps33
  go_wp2_with fail
  generalize w.alloc (.cells #[.int .i64 f, .slice va ps.length cap, .slice ca cs.length ck] 31) = W0 at *
  have y1 : W0.cell? ⟨w.heap.size, 1, none⟩ = some (.slice va ps.length cap) := by rw [cell_of_blk h0]; rfl
  have y2 : W0.cell? ⟨w.heap.size, 2, none⟩ = some (.slice ca cs.length ck) := by rw [cell_of_blk h0]; rfl
  refine (within_any _ _ _ _).mono ?_
  rintro e w1 ⟨rfl, rfl⟩
  cases hA : (decide ((1 : Int) ≤ (ps.length : Int)) && decide ((ps.length : Int) ≤ 8))
  · have HX : Hid (manyB ⟨f, ps, cs⟩ = true) := by
      rw [Bool.and_eq_false_iff] at hA
      exact HT.out (by simp only [decide_eq_false_iff_not] at hA ⊢; omega)
    clear hA
    go_wp2_with fail
    go_ret
    exact ⟨by rw [HX.out]; rfl, b0⟩
  have hA' : 1 ≤ ps.length ∧ ps.length ≤ 8 := by simp only [Bool.and_eq_true, decide_eq_true_eq] at hA; omega
  clear hA
  cases hB : decide ((8 : Int) < (cs.length : Int))
  · have hB' : ¬ 8 < cs.length := by simp only [decide_eq_false_iff_not] at hB; omega
    have HX : Hid (manyB ⟨f, ps, cs⟩ = ps.any wideP) := HW.out (by omega)
    go_wp2_with fail
    refine (contains_wide ps _ w1 (PartsV.below HP.out b0) hl).mono ?_
    rintro e w2 ⟨rfl, hb2⟩
    go_wp2_with fail
    go_ret
    exact ⟨by rw [HX.out]; rfl, b0.trans (hb2.mono b0.size)⟩
  · have HX : Hid (manyB ⟨f, ps, cs⟩ = true) := HT.out (by simp only [decide_eq_true_eq] at hB ⊢; omega)
    go_wp2_with fail
    go_ret
    exact ⟨by rw [HX.out]; rfl, b0⟩

/- the sums -/
set_option maxRecDepth 100000 in
set_option maxHeartbeats 2000000 in
theorem load_any (f : Int) (ps : List PartD) (pv cv : Value) (w : World) (hp : PartsV w pv ps) (hcv : ∃ a l k, cv = .slice a l k) (hf : 1 ≤ f ∧ f ≤ 240) (hl : ps.length ≤ 8) (hok : ∀ k (h : k < ps.length), 1 ≤ ps[k].period ∧ ps[k].period ≤ f ∧ 1 ≤ ps[k].duration ∧ ps[k].duration ≤ ps[k].period) :
    Calls Tryz.prog 36 #[.agg #[.int .i64 f, pv, cv]] w fun e w' => e = .returned (.int .i64 (ticksF f ps)) ∧ Below w.heap.size w w' := by
  obtain ⟨ca, cl, ck, rfl⟩ := hcv
  obtain ⟨va, cap, rfl, hc⟩ := hp
  have HC : Hid _ := hc
  have HK : Hid _ := hok
  clear hc hok
  have b0 : Below w.heap.size w (w.alloc (.cells #[.int .i64 f, .slice va ps.length cap, .slice ca cl ck] 31)) := (Below.refl _ w).alloc (Nat.le_refl _) _
  have h0 := heap_new w (.cells #[.int .i64 f, .slice va ps.length cap, .slice ca cl ck] 31)
  go_enter Tryz.func36, Tryz.ntmps36
  go_wp2_with fail
  generalize w.alloc (.cells #[.int .i64 f, .slice va ps.length cap, .slice ca cl ck] 31) = W0 at *
  go_loopw [3, 9] (fun t i wr => ∃ (k : Nat) (T : Int), i = .int .i64 k ∧ t = .int .i64 T ∧ k ≤ ps.length ∧ Hid (T = ticksF f (ps.take k)) ∧ 0 ≤ T ∧ T ≤ 240 * k ∧ wr.heap[w.heap.size]? = some (.cells #[.int .i64 f, .slice va ps.length cap, .slice ca cl ck] 31 (0, 0)) ∧ Below w.heap.size w wr) (fun _ i _ => ps.length - (intOf i).toNat)
  case atStart => exact ⟨0, 0, rfl, rfl, by omega, by simp [Hid, ticksF], by omega, by omega, h0, b0⟩
  case round =>
    obtain ⟨k, T, rfl, rfl, hk, HT, hT0, hT1, hm, hbel⟩ := hrel
    by_cases hlt : k < ps.length
    · have hlt' : (k : Int) < (ps.length : Int) := by omega
      have hk0 : (0 : Int) ≤ (k : Int) := by omega
      obtain ⟨b, off, rv, rfl, c0, c1, c2, c3, c4, hrv⟩ := HC.out k hlt
      obtain ⟨ra, rcap, rfl, hrx⟩ := hrv
      clear hrx
      have hbl := World.block_lt_of_cell? w _ c0
      have d0 := (hbel.cell (by exact hbl)).trans c0
      have d1 := (hbel.cell (by exact hbl)).trans c1
      have d2 := (hbel.cell (by exact hbl)).trans c2
      have d3 := (hbel.cell (by exact hbl)).trans c3
      have d4 := (hbel.cell (by exact hbl)).trans c4
      clear c0 c1 c2 c3 c4
      obtain ⟨o1, o2, o3, o4⟩ := HK.out k hlt
      have HTS : Hid _ := ticksF_step f hlt
      generalize ps[k] = x at *
      obtain ⟨t1, t2, t3, t4⟩ := ticks_one o1 o2 o3 o4 (by omega)
      have w1 : IntKind.i64.wrap (f / x.period) = f / x.period := wrap_small _ (by omega) (by omega)
      have w2 : IntKind.i64.wrap (f / x.period * x.duration) = f / x.period * x.duration := wrap_small _ (by omega) (by omega)
      have w3 : IntKind.i64.wrap (T + f / x.period * x.duration) = T + f / x.period * x.duration := wrap_small _ (by omega) (by omega)
      have hpz : ¬ x.period = 0 := by omega
      have hf0 : 0 ≤ f := by omega
      have b1 := hbel.alloc (o := .cells #[.string x.name, .int .i64 x.period, .int .i64 x.duration, .int .i64 x.action, .slice ra x.regs.length rcap] 54) hbel.size
      have h1 := heap_new wr (.cells #[.string x.name, .int .i64 x.period, .int .i64 x.duration, .int .i64 x.action, .slice ra x.regs.length rcap] 54)
      have m1 := heap_old wr (.cells #[.string x.name, .int .i64 x.period, .int .i64 x.duration, .int .i64 x.action, .slice ra x.regs.length rcap] 54) hm
      go_wp2_with fail
      clear d0 d1 d2 d3 d4 hm hbel
      generalize wr.alloc (.cells #[.string x.name, .int .i64 x.period, .int .i64 x.duration, .int .i64 x.action, .slice ra x.regs.length rcap] 54) = W1 at *
      generalize wr.heap.size = nb at *
      have e1 : W1.cell? ⟨nb, 1, none⟩ = some (.int .i64 x.period) := by rw [cell_of_blk h1]; rfl
      have e2 : W1.cell? ⟨nb, 2, none⟩ = some (.int .i64 x.duration) := by rw [cell_of_blk h1]; rfl
      have m2 : W1.cell? ⟨w.heap.size, 0, none⟩ = some (.int .i64 f) := by rw [cell_of_blk m1]; rfl
      go_quiet (fail)
      go_wp2_with fail
      go_roundw
      case rel => exact ⟨k + 1, T + f / x.period * x.duration, by go_num, rfl, by omega, by show _ = _; rw [HTS.out, HT.out], by omega, by omega, m1, below_drewN b1 _⟩
      case measure => simp [intOf]; omega
    · have hlt' : ¬ (k : Int) < (ps.length : Int) := by omega
      have hke : k = ps.length := by omega
      have HF : Hid (T = ticksF f ps) := by have := HT.out; rw [hke, List.take_length] at this; exact this
      go_wp2_with fail
      go_ret
      exact ⟨by rw [← HF.out]; rfl, hbel⟩
set_option maxRecDepth 100000 in
set_option maxHeartbeats 2000000 in
theorem pages_any (f : Int) (ps : List PartD) (pv cv : Value) (w : World) (hp : PartsV w pv ps) (hcv : ∃ a l k, cv = .slice a l k) (hl : ps.length ≤ 8) (hok : ∀ k (h : k < ps.length), ps[k].regs.length ≤ 4 ∧ RegsOK ps[k].regs) :
    Calls Tryz.prog 37 #[.agg #[.int .i64 f, pv, cv]] w fun e w' => e = .returned (.int .i64 (pagesF ps)) ∧ Below w.heap.size w w' := by
  obtain ⟨ca, cl, ck, rfl⟩ := hcv
  obtain ⟨va, cap, rfl, hc⟩ := hp
  have HC : Hid _ := hc
  have HK : Hid _ := hok
  clear hc hok
  have b0 : Below w.heap.size w (w.alloc (.cells #[.int .i64 f, .slice va ps.length cap, .slice ca cl ck] 31)) := (Below.refl _ w).alloc (Nat.le_refl _) _
  go_enter Tryz.func37, Tryz.ntmps37
  go_wp2_with fail
  generalize w.alloc (.cells #[.int .i64 f, .slice va ps.length cap, .slice ca cl ck] 31) = W0 at *
  go_loopw [3, 11] (fun t i wr => ∃ (k : Nat) (T : Int), i = .int .i64 k ∧ t = .int .i64 T ∧ k ≤ ps.length ∧ Hid (T = pagesF (ps.take k)) ∧ 0 ≤ T ∧ T ≤ 256 * k ∧ Below w.heap.size w wr) (fun _ i _ => ps.length - (intOf i).toNat)
  case atStart => exact ⟨0, 0, rfl, rfl, by omega, by simp [Hid, pagesF], by omega, by omega, b0⟩
  case round =>
    obtain ⟨k, T, rfl, rfl, hk, HT, hT0, hT1, hbel⟩ := hrel
    by_cases hlt : k < ps.length
    · have hlt' : (k : Int) < (ps.length : Int) := by omega
      have hk0 : (0 : Int) ≤ (k : Int) := by omega
      obtain ⟨b, off, rv, rfl, c0, c1, c2, c3, c4, hrv⟩ := HC.out k hlt
      have HRV : Hid (RegsV w rv ps[k].regs) := hrv
      obtain ⟨ra, rcap, rfl, hrx⟩ := hrv
      clear hrx
      have hbl := World.block_lt_of_cell? w _ c0
      have d0 := (hbel.cell (by exact hbl)).trans c0
      have d1 := (hbel.cell (by exact hbl)).trans c1
      have d2 := (hbel.cell (by exact hbl)).trans c2
      have d3 := (hbel.cell (by exact hbl)).trans c3
      have d4 := (hbel.cell (by exact hbl)).trans c4
      clear c0 c1 c2 c3 c4
      obtain ⟨o1, o2⟩ := HK.out k hlt
      have HOK : Hid _ := o2
      clear o2
      have HTS : Hid _ := pagesF_step hlt
      generalize ps[k] = x at *
      have b1 := hbel.alloc (o := .cells #[.string x.name, .int .i64 x.period, .int .i64 x.duration, .int .i64 x.action, .slice ra x.regs.length rcap] 54) hbel.size
      have h1 := heap_new wr (.cells #[.string x.name, .int .i64 x.period, .int .i64 x.duration, .int .i64 x.action, .slice ra x.regs.length rcap] 54)
      go_wp2_with fail
      clear d0 d1 d2 d3 d4 hbel
      generalize wr.alloc (.cells #[.string x.name, .int .i64 x.period, .int .i64 x.duration, .int .i64 x.action, .slice ra x.regs.length rcap] 54) = W1 at *
      obtain ⟨ra', rcap', hrr, hrc⟩ := RegsV.below HRV.out b1
      cases hrr
      have HRC : Hid _ := hrc
      clear hrc
      go_loopw [3, 18] (fun t i wx => ∃ (q : Nat) (G : Int), i = .int .i64 q ∧ t = .int .i64 G ∧ q ≤ x.regs.length ∧ Hid (G = T + regPages (x.regs.take q)) ∧ 0 ≤ G ∧ G ≤ T + 64 * q ∧ Below W1.heap.size W1 wx) (fun _ i _ => x.regs.length - (intOf i).toNat)
      case atStart => exact ⟨0, T, rfl, rfl, by omega, by simp [Hid, regPages], by omega, by omega, Below.refl _ _⟩
      case round =>
        obtain ⟨q, G, rfl, rfl, hq, HG, hG0, hG1, hbx⟩ := hrel
        by_cases hql : q < x.regs.length
        · have hql' : (q : Int) < (x.regs.length : Int) := by omega
          have hq0 : (0 : Int) ≤ (q : Int) := by omega
          obtain ⟨rb, ro, rfl, z0, z1, z2⟩ := HRC.out q hql
          have hzl := World.block_lt_of_cell? W1 _ z0
          have u0 := (hbx.cell (by exact hzl)).trans z0
          have u1 := (hbx.cell (by exact hzl)).trans z1
          have u2 := (hbx.cell (by exact hzl)).trans z2
          clear z0 z1 z2
          have hbd := HOK.out.1 x.regs[q] (List.getElem_mem _)
          unfold regB at hbd
          simp only [decide_eq_true_eq] at hbd
          have HST : Hid _ := regPages_step hql
          generalize x.regs[q] = r at *
          have wg : IntKind.i64.wrap (G + r.pages) = G + r.pages := wrap_small _ (by omega) (by omega)
          go_wp2_with fail
          go_roundw
          case rel => exact ⟨q + 1, G + r.pages, by go_num, rfl, by omega, by show _ = _; rw [HST.out, HG.out]; omega, by omega, by omega, hbx.alloc hbx.size _⟩
          case measure => simp [intOf]; omega
        · have hql' : ¬ (q : Int) < (x.regs.length : Int) := by omega
          have hqe : q = x.regs.length := by omega
          have HG2 : Hid (G = T + regPages x.regs) := by have := HG.out; rw [hqe, List.take_length] at this; exact this
          clear HG
          go_wp2_with fail
          go_roundw
          case rel => exact ⟨k + 1, G, by go_num, rfl, by omega, by show _ = _; rw [HTS.out, HG2.out, HT.out], by omega, by omega, b1.trans (hbx.mono b1.size)⟩
          case measure => simp [intOf]; omega
    · have hlt' : ¬ (k : Int) < (ps.length : Int) := by omega
      have hke : k = ps.length := by omega
      have HF : Hid (T = pagesF ps) := by have := HT.out; rw [hke, List.take_length] at this; exact this
      go_wp2_with fail
      go_ret
      exact ⟨by rw [← HF.out]; rfl, hbel⟩
end Go.Proofs.YteioennfpkoagabGreatDoor.C
