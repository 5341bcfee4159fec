import Derived.Test.YteioennfpkoagaaGreatDoorG21
namespace Go.Proofs.YteioennfpkoagaaGreatDoor
open Go.RowKit
attribute [local go_sem ↓] Go.wp_at_zero Go.wp_at_succ

set_option maxRecDepth 100000 in
set_option maxHeartbeats 1000000 in
theorem pchannel_r (w : World) (pb c B : Nat) (ew en eu es ex : Addr) (l : List UInt8) (r : RS) (pv : Value) (names : List (List UInt8)) (h : PR w pb c B ew en eu es ex l (absS l r) pv) (hpt : ∀ w', KP pb c w w' → PartT w' pv names) (hm : names.length ≤ 10000) (hnl : ∀ nm ∈ names, nm.length ≤ 16) :
    Calls Tryz.prog 146 #[.pointer (some ⟨pb, 0, none⟩)] w fun e w' => ∃ g : Chan, e = .returned (.agg #[.string ⟨g.name.toArray⟩, .int .i64 g.source, .int .i64 g.target, .int .i64 g.kind, .int .i64 g.size, .int .i64 g.depth]) ∧ Hid ((channelR l names r).2.e = 0 → g = (channelR l names r).1) ∧ PR w' pb c B ew en eu es ex l (absS l (channelR l names r).2) pv ∧ KP pb c w w' := by
  have HNL : Hid _ := hnl
  have HPT := hpt
  clear hnl hpt
  generalize hfinal : channelR l names r = final
  have HFN : Hid _ := hfinal
  clear hfinal
  have h0 := QW.start h 92 (by decide) #[.string ⟨#[]⟩, .int .i64 0, .int .i64 0, .int .i64 0, .int .i64 0, .int .i64 0] #[.string ⟨#[]⟩, .int .i64 0, .int .i64 0, .int .i64 0, .int .i64 0, .int .i64 0]
  clear h
  go_enter Tryz.func146, Tryz.ntmps146
  go_wp2_with fail
  generalize (w.alloc (Obj.cells #[.string ⟨#[]⟩, .int .i64 0, .int .i64 0, .int .i64 0, .int .i64 0, .int .i64 0] 92)).alloc (Obj.cells #[.string ⟨#[]⟩, .int .i64 0, .int .i64 0, .int .i64 0, .int .i64 0, .int .i64 0] 92) = W0 at *
  refine (expect_r W0 pb c B ew en eu es ex l r pv _ kChannel h0.rd (by decide) rfl).mono ?_
  rintro e W1 ⟨rfl, hr, hk⟩
  have h1 := h0.step hr hk
  clear hr hk h0
  have L1 : Hid (LeR r (mustR l r [kChannel])) := mustR_le _ _ _
  generalize hq : mustR l r [kChannel] = r1 at *
  have Q1 : Hid _ := hq
  clear hq
  go_wp2_with fail
  refine (name_r W1 pb c B ew en eu es ex l r1 pv h1.rd).mono ?_
  rintro e W2 ⟨nm, rfl, V2, hr, hk⟩
  have h2 := h1.step hr hk
  clear hr hk h1
  have L2 : Hid (LeR r1 (someR l r1 1).2) := someR_le _ _ _
  generalize hq : someR l r1 1 = q at *
  obtain ⟨y2, r2⟩ := q
  have Q2 : Hid _ := hq
  clear hq
  simp only [] at h2 V2 L2
  have x0 := h2.cell 0
  have f0 := h2.fz 0
  simp at x0
  go_wp2_with fail
  have h3 : QW w _ pb c B ew en eu es ex l r2 pv 92 _ #[.string ⟨nm.toArray⟩, .int .i64 0, .int .i64 0, .int .i64 0, .int .i64 0, .int .i64 0] := h2.set 0 (.string ⟨nm.toArray⟩)
  generalize W2.setCell ⟨w.heap.size + 1, 0, none⟩ (.string ⟨nm.toArray⟩) = W3 at *
  clear h2 x0 f0
  refine (place_r W3 pb c B ew en eu es ex l r2 pv names h3.rd (HPT W3 h3.kp) hm HNL.out).mono ?_
  rintro e W4 ⟨sv, rfl, V3, hr, hk⟩
  have h4 := h3.step hr hk
  clear hr hk h3
  have L3 : Hid (LeR r2 (endR l r2 names).2) := endR_le _ _ _
  generalize hq : endR l r2 names = q at *
  obtain ⟨y3, r3⟩ := q
  have Q3 : Hid _ := hq
  clear hq
  simp only [] at h4 V3 L3
  have x0 := h4.cell 1
  have f0 := h4.fz 1
  simp at x0
  go_wp2_with fail
  have h5 : QW w _ pb c B ew en eu es ex l r3 pv 92 _ #[.string ⟨nm.toArray⟩, .int .i64 sv, .int .i64 0, .int .i64 0, .int .i64 0, .int .i64 0] := h4.set 1 (.int .i64 sv)
  generalize W4.setCell ⟨w.heap.size + 1, 1, none⟩ (.int .i64 sv) = W5 at *
  clear h4 x0 f0
  refine (expect_r W5 pb c B ew en eu es ex l r3 pv _ kArrow h5.rd (by decide) rfl).mono ?_
  rintro e W6 ⟨rfl, hr, hk⟩
  have h6 := h5.step hr hk
  clear hr hk h5
  have L4 : Hid (LeR r3 (mustR l r3 [kArrow])) := mustR_le _ _ _
  generalize hq : mustR l r3 [kArrow] = r4 at *
  have Q4 : Hid _ := hq
  clear hq
  go_wp2_with fail
  refine (place_r W6 pb c B ew en eu es ex l r4 pv names h6.rd (HPT W6 h6.kp) hm HNL.out).mono ?_
  rintro e W7 ⟨tv, rfl, V5, hr, hk⟩
  have h7 := h6.step hr hk
  clear hr hk h6
  have L5 : Hid (LeR r4 (endR l r4 names).2) := endR_le _ _ _
  generalize hq : endR l r4 names = q at *
  obtain ⟨y5, r5⟩ := q
  have Q5 : Hid _ := hq
  clear hq
  simp only [] at h7 V5 L5
  have x0 := h7.cell 2
  have f0 := h7.fz 2
  simp at x0
  go_wp2_with fail
  have h8 : QW w _ pb c B ew en eu es ex l r5 pv 92 _ #[.string ⟨nm.toArray⟩, .int .i64 sv, .int .i64 tv, .int .i64 0, .int .i64 0, .int .i64 0] := h7.set 2 (.int .i64 tv)
  generalize W7.setCell ⟨w.heap.size + 1, 2, none⟩ (.int .i64 tv) = W8 at *
  clear h7 x0 f0
  refine (kinds_any W8).mono ?_
  rintro e W9 ⟨ob, oc, rfl, hob, hbb⟩
  have h9 := h8.below hbb
  clear hbb h8
  go_wp2_with fail
  refine (choice_r W9 pb c B ew en eu es ex ob oc 2 l r5 pv kKinds h9.rd hob rfl (by decide) (by decide)).mono ?_
  rintro e W10 ⟨rfl, hr, hk⟩
  have h10 := h9.step hr hk
  clear hr hk h9
  clear hob
  have L6 : Hid (LeR r5 (oneOfR l r5 0 kKinds).2) := oneOfR_le _ _ _ _
  generalize hq : oneOfR l r5 0 kKinds = q at *
  obtain ⟨kv, r6⟩ := q
  have Q6 : Hid _ := hq
  clear hq
  simp only [] at h10 L6
  have x0 := h10.cell 3
  have f0 := h10.fz 3
  simp at x0
  go_wp2_with fail
  have h11 : QW w _ pb c B ew en eu es ex l r6 pv 92 _ #[.string ⟨nm.toArray⟩, .int .i64 sv, .int .i64 tv, .int .i64 kv, .int .i64 0, .int .i64 0] := h10.set 3 (.int .i64 kv)
  generalize W10.setCell ⟨w.heap.size + 1, 3, none⟩ (.int .i64 kv) = W11 at *
  clear h10 x0 f0
  refine (number_r W11 pb c B ew en eu es ex l r6 pv h11.rd).mono ?_
  rintro e W12 ⟨zv, rfl, V7, hr, hk⟩
  have h12 := h11.step hr hk
  clear hr hk h11
  have L7 : Hid (LeR r6 (numberR l r6).2) := numberR_le _ _
  generalize hq : numberR l r6 = q at *
  obtain ⟨y7, r7⟩ := q
  have Q7 : Hid _ := hq
  clear hq
  simp only [] at h12 V7 L7
  have x0 := h12.cell 4
  have f0 := h12.fz 4
  simp at x0
  go_wp2_with fail
  have h13 : QW w _ pb c B ew en eu es ex l r7 pv 92 _ #[.string ⟨nm.toArray⟩, .int .i64 sv, .int .i64 tv, .int .i64 kv, .int .i64 zv, .int .i64 0] := h12.set 4 (.int .i64 zv)
  generalize W12.setCell ⟨w.heap.size + 1, 4, none⟩ (.int .i64 zv) = W13 at *
  clear h12 x0 f0
  refine (number_r W13 pb c B ew en eu es ex l r7 pv h13.rd).mono ?_
  rintro e W14 ⟨dv, rfl, V8, hr, hk⟩
  have h14 := h13.step hr hk
  clear hr hk h13
  have L8 : Hid (LeR r7 (numberR l r7).2) := numberR_le _ _
  generalize hq : numberR l r7 = q at *
  obtain ⟨y8, r8⟩ := q
  have Q8 : Hid _ := hq
  clear hq
  simp only [] at h14 V8 L8
  have x0 := h14.cell 5
  have f0 := h14.fz 5
  simp at x0
  go_wp2_with fail
  have h15 : QW w _ pb c B ew en eu es ex l r8 pv 92 _ #[.string ⟨nm.toArray⟩, .int .i64 sv, .int .i64 tv, .int .i64 kv, .int .i64 zv, .int .i64 dv] := h14.set 5 (.int .i64 dv)
  generalize W14.setCell ⟨w.heap.size + 1, 5, none⟩ (.int .i64 dv) = W15 at *
  clear h14 x0 f0
  refine (expect_r W15 pb c B ew en eu es ex l r8 pv _ kSemi h15.rd (by decide) rfl).mono ?_
  rintro e W16 ⟨rfl, hr, hk⟩
  have h16 := h15.step hr hk
  clear hr hk h15
  have L9 : Hid (LeR r8 (mustR l r8 [kSemi])) := mustR_le _ _ _
  generalize hq : mustR l r8 [kSemi] = r9 at *
  have Q9 : Hid _ := hq
  clear hq
  have HZ : Hid (final = (⟨y2, y3, y5, kv, y7, y8⟩, r9)) := by
    rw [← HFN.out]
    show _ = _
    simp only [channelR, Q1.out, Q2.out, Q3.out, Q4.out, Q5.out, Q6.out, Q7.out, Q8.out, Q9.out]
  have HV : Hid (r9.e = 0 → nm = y2 ∧ sv = y3 ∧ tv = y5 ∧ zv = y7 ∧ dv = y8) := by
    show r9.e = 0 → _
    intro E9
    have E8 : r8.e = 0 := L9.out.back E9
    have E7 : r7.e = 0 := L8.out.back E8
    have E6 : r6.e = 0 := L7.out.back E7
    have E5 : r5.e = 0 := L6.out.back E6
    have E4 : r4.e = 0 := L5.out.back E5
    have E3 : r3.e = 0 := L4.out.back E4
    have E2 : r2.e = 0 := L3.out.back E3
    exact ⟨V2.out E2, V3.out E3, V5.out E5, V7.out E7, V8.out E8⟩
  clear HFN Q1 L1 Q2 L2 Q3 L3 Q4 L4 Q5 L5 Q6 L6 Q7 L7 Q8 L8 Q9 L9 V2 V3 V5 V7 V8
  have x0 := h16.cell 0
  have z0 := h16.cellz 0
  have f0 := h16.fzz 0
  have x1 := h16.cell 1
  have z1 := h16.cellz 1
  have f1 := h16.fzz 1
  have x2 := h16.cell 2
  have z2 := h16.cellz 2
  have f2 := h16.fzz 2
  have x3 := h16.cell 3
  have z3 := h16.cellz 3
  have f3 := h16.fzz 3
  have x4 := h16.cell 4
  have z4 := h16.cellz 4
  have f4 := h16.fzz 4
  have x5 := h16.cell 5
  have z5 := h16.cellz 5
  have f5 := h16.fzz 5
  simp at x0 x1 x2 x3 x4 x5 z0 z1 z2 z3 z4 z5
  have hB1 := lt_of_blk h16.loc
  go_wp2_with fail
  have kz : QW w _ pb c B ew en eu es ex l _ pv 92 #[.string ⟨nm.toArray⟩, .int .i64 sv, .int .i64 tv, .int .i64 kv, .int .i64 zv, .int .i64 dv] _ := ((((((h16.setz 0 (.string ⟨nm.toArray⟩)).setz 1 (.int .i64 sv)).setz 2 (.int .i64 tv)).setz 3 (.int .i64 kv)).setz 4 (.int .i64 zv)).setz 5 (.int .i64 dv))
  generalize ((((((W16.setCell ⟨w.heap.size, 0, none⟩ (.string ⟨nm.toArray⟩)).setCell ⟨w.heap.size, 1, none⟩ (.int .i64 sv)).setCell ⟨w.heap.size, 2, none⟩ (.int .i64 tv)).setCell ⟨w.heap.size, 3, none⟩ (.int .i64 kv)).setCell ⟨w.heap.size, 4, none⟩ (.int .i64 zv)).setCell ⟨w.heap.size, 5, none⟩ (.int .i64 dv)) = WF at *
  have ya := kz.cellz 0
  have yb := kz.cellz 1
  have yc := kz.cellz 2
  have yd := kz.cellz 3
  have ye := kz.cellz 4
  have yf := kz.cellz 5
  simp at ya yb yc yd ye yf
  rw [HZ.out]
  refine bodyPost_ret (v := .agg #[.string ⟨nm.toArray⟩, .int .i64 sv, .int .i64 tv, .int .i64 kv, .int .i64 zv, .int .i64 dv]) (by simp [results, Tryz.results146, go_sem, ya, yb, yc, yd, ye, yf]) rfl ⟨⟨nm, sv, tv, kv, zv, dv⟩, rfl, ?_, kz.rd, kz.kp⟩
  intro he
  obtain ⟨rfl, rfl, rfl, rfl, rfl⟩ := HV.out he
  rfl
end Go.Proofs.YteioennfpkoagaaGreatDoor
