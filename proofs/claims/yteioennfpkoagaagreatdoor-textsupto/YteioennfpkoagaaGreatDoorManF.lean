import Derived.Test.YteioennfpkoagaaGreatDoorManE
namespace Go.Proofs.YteioennfpkoagaaGreatDoor
open Go.RowKit
attribute [local go_sem ↓] Go.wp_at_zero Go.wp_at_succ

set_option maxRecDepth 100000 in
set_option maxHeartbeats 2000000 in
theorem next_any (s s2 tx : ByteArray) (gl n2 : Nat) (c : Nat) (ln cl pa pc pa2 pc2 : Int) (w : World) {B : Nat} {ew en eu es ex : Addr} (hgl : GL w B ew en eu es ex) (hBc : B ≤ c) (h : RV w c s ln cl) (hs : s.size ≤ 8192) (ha : 0 ≤ ln) (ha' : ln ≤ 900000) (hb : 0 ≤ cl) (hb' : cl ≤ 900000)
    (HGL : Hid (gapF false s.data.toList = gl)) (HPP : Hid (placeFrom (ln, cl) (s.data.toList.take gl) = (pa, pc))) (HS2 : Hid (s2 = s.extract gl s.size)) (HN2 : Hid ((tokF s2.data.toList).1 = n2)) (HTX : Hid (tx = s2.extract 0 n2)) (HP2 : Hid (placeFrom (pa, pc) tx.data.toList = (pa2, pc2))) (hpa : 0 ≤ pa) (hpa' : pa ≤ 900000) (hpc : 0 ≤ pc) (hpc' : pc ≤ 900000) :
    Calls Tryz.prog 139 #[.pointer (some ⟨c + 1 + 1, 0, none⟩), .pointer (some ⟨c, 0, none⟩), .pointer (some ⟨c + 1, 0, none⟩)] w fun e w' => ∃ (k : Int) (tt : ByteArray) (v a b : Int) (ev : Value), e = .returned (.tuple #[.agg #[.int .i64 k, .string tt, .int .i64 v, .int .i64 a, .int .i64 b], ev]) ∧ NT w w' tx pa pc ew en k tt v a b ev ∧ RV w' c (s2.extract n2 s2.size) pa2 pc2 ∧ KP c c w w' := by
  have e0 : w.cell? ⟨c, 0, none⟩ = some (.string s) := by rw [cell_of_blk h.rest]; rfl
  have e3 : w.cell? ⟨c + 1 + 1, 0, none⟩ = some (takeV c) := by obtain ⟨t, ht⟩ := h.take; rw [cell_of_blk ht]; rfl
  have hlt := lt_of_blk h.rest
  have hlt2 : c + 1 + 1 < w.heap.size := by obtain ⟨t, ht⟩ := h.take; exact lt_of_blk ht
  have hrv : RV ((w.alloc (Obj.cells #[.int .i64 0, .string ⟨#[]⟩, .int .i64 0, .int .i64 0, .int .i64 0] 175)).drew) c s ln cl := h.mono (grown_trans (grown_alloc w _ none) (grown_drewN _ 1 none))
  have hgl1 : gl ≤ s.size := by have := gapF_le false s.data.toList; rw [HGL.out] at this; simpa using this
  have hs2 : s2.size ≤ 8192 := by rw [HS2.out, ByteArray.size_extract]; omega
  have hn2 : n2 ≤ s2.size := by have := tokF_le s2.data.toList; rw [HN2.out] at this; simpa using this
  have htxs : tx.size ≤ 8192 := by rw [HTX.out, ByteArray.size_extract]; omega
  unfold takeV at e3
  have HK0 : Hid (KP c c w ((w.alloc (Obj.cells #[.int .i64 0, .string ⟨#[]⟩, .int .i64 0, .int .i64 0, .int .i64 0] 175)).drew)) := KP.of (row := none) (grown_trans (grown_alloc w _ none) (grown_drewN _ 1 none)) (by simp)
  have HB0 : Hid (((w.alloc (Obj.cells #[.int .i64 0, .string ⟨#[]⟩, .int .i64 0, .int .i64 0, .int .i64 0] 175)).drew).heap[w.heap.size]? = some (.cells #[.int .i64 0, .string ⟨#[]⟩, .int .i64 0, .int .i64 0, .int .i64 0] 175 (0, 0))) := heap_new w _
  go_enter Tryz.func139, Tryz.ntmps139
  go_wp2_with fail
  go_cut [] (fun wx => RV wx c s2 pa pc ∧ KP c c w wx ∧ wx.heap[w.heap.size]? = some (.cells #[.int .i64 0, .string ⟨#[]⟩, .int .i64 0, .int .i64 0, .int .i64 0] 175 (0, 0)))
  case first =>
    go_region_with (first
      | (go_at_call 140; refine (gapLength_any s _ hs).mono ?_; rintro e w' ⟨rfl, rfl⟩; rw [HGL.out])
      | (go_at_call 137; refine (take_any c s gl c ln cl _ hrv hgl1 hs ha (by omega) hb (by omega)).mono ?_; rintro e w2 ⟨rfl, hrv2, hkp2⟩))
    all_goals
      go_wp2_with fail
      go_meet
      case rel => exact ⟨by rw [HPP.out] at hrv2; rw [HS2.out]; exact hrv2, HK0.out.trans hkp2, KP.kp HB0.out hkp2 (by omega) (by omega) (by omega)⟩
  case rest =>
    obtain ⟨hrv2, hkp2, hres⟩ := hcut
    clear hrv e0 e3
    have hszc := hkp2.size
    have d0 : wc.cell? ⟨c, 0, none⟩ = some (.string s2) := by rw [cell_of_blk hrv2.rest]; rfl
    have d1 : wc.cell? ⟨c + 1, 0, none⟩ = some (.int .i64 pa) := by rw [cell_of_blk hrv2.place]; rfl
    have d2 : wc.cell? ⟨c + 1, 1, none⟩ = some (.int .i64 pc) := by rw [cell_of_blk hrv2.place]; rfl
    have d3 : wc.cell? ⟨c + 1 + 1, 0, none⟩ = some (takeV c) := by obtain ⟨t, ht⟩ := hrv2.take; rw [cell_of_blk ht]; rfl
    unfold takeV at d3
    have hltc : c + 1 + 1 < wc.heap.size := by omega
    have hltc1 : c + 1 < wc.heap.size := by omega
    have hltc0 : c < wc.heap.size := by omega
    have hrs := lt_of_blk hres
    go_wp2_with fail
    have HG : wc.grownBy ((wc.alloc (Obj.cells #[.int .i64 pa, .int .i64 pc] 36)).drew) none := grown_trans (grown_alloc wc _ none) (grown_drewN _ 1 none)
    have hrv3 := hrv2.mono HG
    have HBK : Hid (((wc.alloc (Obj.cells #[.int .i64 pa, .int .i64 pc] 36)).drew).heap[wc.heap.size]? = some (.cells #[.int .i64 pa, .int .i64 pc] 36 (0, 0))) := heap_new wc _
    have HKK : Hid (KP c c wc ((wc.alloc (Obj.cells #[.int .i64 pa, .int .i64 pc] 36)).drew)) := KP.of (row := none) HG (by simp)
    go_region_with (first
      | (go_at_call 142; refine (tokenLength_any s2 _ hs2).mono ?_; rintro e w' ⟨rfl, rfl⟩; rw [HN2.out])
      | (go_at_call 137; refine (take_any c s2 n2 c pa pc _ hrv3 hn2 hs2 hpa (by omega) hpc (by omega)).mono ?_; rintro e w3 ⟨rfl, hrv4, hkp4⟩; rw [← HTX.out]
         have b3 := KP.kp HBK.out hkp4 (by omega) (by omega) (by omega)
         have a0 : w3.cell? ⟨wc.heap.size, 0, none⟩ = some (.int .i64 pa) := by (rw [cell_of_blk b3]; rfl)
         have a1 : w3.cell? ⟨wc.heap.size, 1, none⟩ = some (.int .i64 pc) := by (rw [cell_of_blk b3]; rfl)
         have hkp5 : KP c c w w3 := (hkp2.trans HKK.out).trans hkp4)
      | (go_at_call 141; refine (newToken_ex tx pa pc _ (hgl.below (hkp5.toBelow hgl.size hBc hBc)) htxs).mono ?_; rintro e w4 ⟨tk0, tt0, tv0, ta0, tb0, ev0, rfl, hnt, hb4⟩
         have b4 : w4.heap[w.heap.size]? = some (.cells #[.int .i64 0, .string ⟨#[]⟩, .int .i64 0, .int .i64 0, .int .i64 0] 175 (0, 0)) := (KP.kp hres ((HKK.out.trans hkp4).trans (KP.below hb4)) (by omega) (by omega) (by omega))
         have r0 : w4.cell? ⟨w.heap.size, 0, none⟩ = some (.int .i64 0) := by (rw [cell_of_blk b4]; rfl)
         have r1 : w4.cell? ⟨w.heap.size, 1, none⟩ = some (.string ⟨#[]⟩) := by (rw [cell_of_blk b4]; rfl)
         have r2 : w4.cell? ⟨w.heap.size, 2, none⟩ = some (.int .i64 0) := by (rw [cell_of_blk b4]; rfl)
         have r3 : w4.cell? ⟨w.heap.size, 3, none⟩ = some (.int .i64 0) := by (rw [cell_of_blk b4]; rfl)
         have r4 : w4.cell? ⟨w.heap.size, 4, none⟩ = some (.int .i64 0) := by (rw [cell_of_blk b4]; rfl)
         have g0 : w4.frozen? ⟨w.heap.size, 0, none⟩ = false := frozen_of_blk b4
         have g1 : w4.frozen? ⟨w.heap.size, 1, none⟩ = false := frozen_of_blk b4
         have g2 : w4.frozen? ⟨w.heap.size, 2, none⟩ = false := frozen_of_blk b4
         have g3 : w4.frozen? ⟨w.heap.size, 3, none⟩ = false := frozen_of_blk b4
         have g4 : w4.frozen? ⟨w.heap.size, 4, none⟩ = false := frozen_of_blk b4))
    all_goals
      have hkp6 : KP c c w w4 := hkp5.trans (KP.below hb4)
      have hrv5 := hrv4.mono (grown_below hb4 none)
      rw [← take_list s2 n2, ← HTX.out, HP2.out] at hrv5
      have hnt2 : NT wc w4 tx pa pc ew en tk0 tt0 tv0 ta0 tb0 ev0 := hnt.out.mono (Nat.le_trans (by simp) hkp4.size)
      clear a0 a1 b3 hkp4 hkp5 hrv4 hnt
      go_wp2_with fail
      refine bodyPost_ret (v := .tuple #[.agg #[.int .i64 tk0, .string tt0, .int .i64 tv0, .int .i64 ta0, .int .i64 tb0], ev0]) (by simp [results, Tryz.results139, go_sem, r0, r1, r2, r3, r4]) rfl ⟨tk0, tt0, tv0, ta0, tb0, ev0, rfl, ?_, ?_, ?_⟩
      · exact (((((hnt2.set w.heap.size 0 _ hrs).set w.heap.size 1 _ hrs).set w.heap.size 2 _ hrs).set w.heap.size 3 _ hrs).set w.heap.size 4 _ hrs).mono hszc
      · exact ((((hrv5.far w.heap.size 0 _ hlt2).far w.heap.size 1 _ hlt2).far w.heap.size 2 _ hlt2).far w.heap.size 3 _ hlt2).far w.heap.size 4 _ hlt2
      · exact ((((hkp6.setNew 0 _ (Nat.le_refl _)).setNew 1 _ (Nat.le_refl _)).setNew 2 _ (Nat.le_refl _)).setNew 3 _ (Nat.le_refl _)).setNew 4 _ (Nat.le_refl _)
end Go.Proofs.YteioennfpkoagaaGreatDoor
