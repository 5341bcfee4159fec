import Derived.Test.YteioennfpkoagaaDoorChkL
import Derived.Test.YteioennfpkoagaaDoorChkY
namespace Go.Proofs.YteioennfpkoagaaDoor.C
open Go.RowKit
attribute [local go_sem ↓] Go.wp_at_zero Go.wp_at_succ

/- the regions -/
theorem meet_apart {a b : RegD} : meetR a b = !(apartB b a) := by
  unfold meetR apartB
  rw [Bool.eq_iff_iff]
  simp
theorem regs_meet {rs : List RegD} {k : Nat} (hk : k < rs.length) (h : (rs.take k).any (meetR rs[k]) = true) : regsF rs = false := by
  apply regsF_not
  intro ho
  have := ho.take (k + 1)
  rw [take_snocD rs k hk, RegsOK.snoc] at this
  obtain ⟨a, ha, hm⟩ := List.any_eq_true.1 h
  rw [meet_apart, this.2.2 a ha] at hm
  cases hm
theorem regs_ok_step {rs : List RegD} {k : Nat} (hk : k < rs.length) (h0 : RegsOK (rs.take k)) (hb : regB rs[k] = true) (h : (rs.take k).any (meetR rs[k]) = false) : RegsOK (rs.take (k + 1)) := by
  rw [take_snocD rs k hk, RegsOK.snoc]
  refine ⟨h0, hb, fun a ha => ?_⟩
  rw [List.any_eq_false] at h
  have := h a ha
  rw [meet_apart] at this
  simpa using this
theorem RegsV.take {w : World} {b off cap : Nat} {rs : List RegD} (h : RegsV w (.slice (some ⟨b, off, none⟩) rs.length cap) rs) (k : Nat) (hk : k ≤ rs.length) (cap' : Nat) : RegsV w (.slice (some ⟨b, off, none⟩) k cap') (rs.take k) := by
  obtain ⟨va, c, e, hc⟩ := h
  cases e
  refine ⟨_, _, by rw [List.length_take, Nat.min_eq_left hk], fun i hi => ?_⟩
  have hi2 : i < rs.length := by rw [List.length_take] at hi; omega
  rw [List.getElem_take]
  exact hc i hi2
set_option maxRecDepth 100000 in
set_option maxHeartbeats 2000000 in
theorem areRegions_any (rs : List RegD) (v : Value) (w : World) (hv : RegsV w v rs) (hcap : capV v) (hl : rs.length ≤ 4611686018427387903) :
    Calls Tryd.prog 53 #[v] w fun e w' => e = .returned (.bool (regsF rs)) ∧ Below w.heap.size w w' := by
  have HV : Hid (RegsV w v rs) := hv
  obtain ⟨va, cap, rfl, hc⟩ := hv
  have HC : Hid _ := hc
  clear hc
  have hlc := hcap.le
  clear hcap
  go_enter Tryd.func53, Tryd.ntmps53
  go_wp2_with fail
  go_loopw [8] (fun i wr => ∃ (k : Nat), i = .int .i64 k ∧ k ≤ rs.length ∧ Hid (RegsOK (rs.take k)) ∧ Below w.heap.size w wr) (fun i _ => rs.length - (intOf i).toNat)
  case atStart => exact ⟨0, rfl, by omega, by simp [Hid, RegsOK], Below.refl _ _⟩
  case round =>
    obtain ⟨k, rfl, hk, HO, hbel⟩ := hrel
    by_cases hlt : k < rs.length
    · have hlt' : (k : Int) < (rs.length : Int) := by omega
      have hk0 : (0 : Int) ≤ (k : Int) := by omega
      obtain ⟨b, off, rfl, c0, c1, c2⟩ := HC.out k hlt
      have hbl := World.block_lt_of_cell? w _ c0
      have d0 := (hbel.cell (by exact hbl)).trans c0
      have d1 := (hbel.cell (by exact hbl)).trans c1
      have d2 := (hbel.cell (by exact hbl)).trans c2
      have HBAD : Hid _ := @regs_bad rs k hlt
      have HMT : Hid _ := @regs_meet rs k hlt
      have HOK : Hid _ := @regs_ok_step rs k hlt HO.out
      have HTK : Hid _ := fun cap' (w' : World) (hb : Below w.heap.size w w') => (RegsV.below HV.out hb).take k hk cap'
      have HRG : Hid _ := HO.out.1
      clear c0 c1 c2
      generalize rs[k] = r at *
      have b1 := hbel.alloc (o := .cells #[.int .i64 r.page, .int .i64 r.pages, .int .i64 r.rights] 48) hbel.size
      have h1 := heap_new wr (.cells #[.int .i64 r.page, .int .i64 r.pages, .int .i64 r.rights] 48)
      have hkc : (k : Int) ≤ (cap : Int) := by omega
      go_wp2_with fail
      clear d0 d1 d2
      generalize wr.alloc (.cells #[.int .i64 r.page, .int .i64 r.pages, .int .i64 r.rights] 48) = W1 at *
      generalize wr.heap.size = nb at *
      refine (isRegion_any r _).mono ?_
      rintro e w2 ⟨rfl, hb2⟩
      have h2 := (hb2.block _ (lt_of_blk h1)).trans h1
      have b2 := b1.trans (hb2.mono b1.size)
      clear h1 b1 hb2
      cases hr : regB r
      · have HF : Hid _ := HBAD.out hr
        clear hr
        go_wp2_with fail
        go_ret
        exact ⟨by rw [HF.out]; rfl, b2⟩
      · have HR : Hid _ := hr
        clear hr
        have e0 : w2.cell? ⟨nb, 0, none⟩ = some (.int .i64 r.page) := by rw [cell_of_blk h2]; rfl
        have e1 : w2.cell? ⟨nb, 1, none⟩ = some (.int .i64 r.pages) := by rw [cell_of_blk h2]; rfl
        have e2 : w2.cell? ⟨nb, 2, none⟩ = some (.int .i64 r.rights) := by rw [cell_of_blk h2]; rfl
        go_wp2_with fail
        refine (contains_meet nb r (rs.take k) _ w2 (HTK.out cap w2 b2) (by rw [List.length_take]; omega) e0 e1 e2 HR.out HRG.out).mono ?_
        rintro e w3 ⟨rfl, hb3⟩
        have b3 := b2.trans (hb3.mono b2.size)
        cases hm : (rs.take k).any (meetR r)
        · have HN : Hid _ := HOK.out HR.out hm
          clear hm
          go_wp2_with fail
          go_roundw
          case rel => exact ⟨k + 1, by go_num, by omega, HN, b3⟩
          case measure => simp [intOf]; omega
        · have HF : Hid _ := HMT.out hm
          clear hm
          go_wp2_with fail
          go_ret
          exact ⟨by rw [HF.out]; rfl, b3⟩
    · have hlt' : ¬ (k : Int) < (rs.length : Int) := by omega
      have hke : k = rs.length := by omega
      have HF : Hid (regsF rs = true) := by show _ = _; rw [regsF_iff]; have := HO.out; rw [hke, List.take_length] at this; exact this
      go_wp2_with fail
      go_ret
      exact ⟨by rw [HF.out]; rfl, hbel⟩
end Go.Proofs.YteioennfpkoagaaDoor.C
