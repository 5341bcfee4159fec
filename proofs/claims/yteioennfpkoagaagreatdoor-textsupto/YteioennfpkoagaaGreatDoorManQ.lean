import Derived.Test.YteioennfpkoagaaGreatDoorManP
namespace Go.Proofs.YteioennfpkoagaaGreatDoor
open Go.RowKit
attribute [local go_sem ↓] Go.wp_at_zero Go.wp_at_succ

set_option maxRecDepth 100000 in
set_option maxHeartbeats 1000000 in
theorem region_r (w : World) (pb c B : Nat) (ew en eu es ex : Addr) (l : List UInt8) (r : RS) (pv : Value) (h : PR w pb c B ew en eu es ex l (absS l r) pv) (hi : isR l r kMemory = true) :
    Calls Tryz.prog 204 #[.pointer (some ⟨pb, 0, none⟩)] w fun e w' => ∃ g : Reg, e = .returned (.agg #[.int .i64 g.page, .int .i64 g.pages, .int .i64 g.rights]) ∧ Hid ((regionR l r).2.e = 0 → g = (regionR l r).1) ∧ PR w' pb c B ew en eu es ex l (absS l (regionR l r).2) pv ∧ KP pb c w w' := by
  have HI : Hid (mustR l r [kMemory] = nextR r) := mustR_one hi
  clear hi
  generalize hfinal : regionR l r = final
  have HFN : Hid _ := hfinal
  clear hfinal
  have h0 := QW.start h 90 (by decide) #[.int .i64 0, .int .i64 0, .int .i64 0] #[.int .i64 0, .int .i64 0, .int .i64 0]
  clear h
  go_enter Tryz.func204, Tryz.ntmps204
  go_wp2_with fail
  generalize (w.alloc (Obj.cells #[.int .i64 0, .int .i64 0, .int .i64 0] 90)).alloc (Obj.cells #[.int .i64 0, .int .i64 0, .int .i64 0] 90) = W0 at *
  refine (expect_r W0 pb c B ew en eu es ex l r pv _ kMemory h0.rd (by decide) rfl).mono ?_
  rintro e W1 ⟨rfl, hr, hk⟩
  have h1 := h0.step hr hk
  clear hr hk h0
  have L1 : Hid (LeR r (mustR l r [kMemory])) := mustR_le _ _ _
  generalize hq : mustR l r [kMemory] = r1 at *
  have Q1 : Hid _ := hq
  clear hq
  go_wp2_with fail
  refine (number_r W1 pb c B ew en eu es ex l r1 pv h1.rd).mono ?_
  rintro e W2 ⟨pg, rfl, V2, hr, hk⟩
  have h2 := h1.step hr hk
  clear hr hk h1
  have L2 : Hid (LeR r1 (numberR l r1).2) := numberR_le _ _
  generalize hq : numberR l r1 = q at *
  obtain ⟨y2, r2⟩ := q
  have Q2 : Hid _ := hq
  clear hq
  simp only [] at h2 V2 L2
  have x0 := h2.cell 0
  have f0 := h2.fz 0
  simp at x0
  go_wp2_with fail
  have h3 : QW w _ pb c B ew en eu es ex l r2 pv 90 _ #[.int .i64 pg, .int .i64 0, .int .i64 0] := h2.set 0 (.int .i64 pg)
  generalize W2.setCell ⟨w.heap.size + 1, 0, none⟩ (.int .i64 pg) = W3 at *
  clear h2 x0 f0
  refine (number_r W3 pb c B ew en eu es ex l r2 pv h3.rd).mono ?_
  rintro e W4 ⟨ps, rfl, V3, hr, hk⟩
  have h4 := h3.step hr hk
  clear hr hk h3
  have L3 : Hid (LeR r2 (numberR l r2).2) := numberR_le _ _
  generalize hq : numberR l r2 = q at *
  obtain ⟨y3, r3⟩ := q
  have Q3 : Hid _ := hq
  clear hq
  simp only [] at h4 V3 L3
  have x0 := h4.cell 1
  have f0 := h4.fz 1
  simp at x0
  go_wp2_with fail
  have h5 : QW w _ pb c B ew en eu es ex l r3 pv 90 _ #[.int .i64 pg, .int .i64 ps, .int .i64 0] := h4.set 1 (.int .i64 ps)
  generalize W4.setCell ⟨w.heap.size + 1, 1, none⟩ (.int .i64 ps) = W5 at *
  clear h4 x0 f0
  refine (rights_any W5).mono ?_
  rintro e W6 ⟨ob, oc, rfl, hob, hbb⟩
  have h6 := h5.below hbb
  clear hbb h5
  go_wp2_with fail
  refine (choice_r W6 pb c B ew en eu es ex ob oc 2 l r3 pv kRights h6.rd hob rfl (by decide) (by decide)).mono ?_
  rintro e W7 ⟨rfl, hr, hk⟩
  have h7 := h6.step hr hk
  clear hr hk h6
  clear hob
  have L4 : Hid (LeR r3 (oneOfR l r3 0 kRights).2) := oneOfR_le _ _ _ _
  generalize hq : oneOfR l r3 0 kRights = q at *
  obtain ⟨rv, r4⟩ := q
  have Q4 : Hid _ := hq
  clear hq
  simp only [] at h7 L4
  have x0 := h7.cell 2
  have f0 := h7.fz 2
  simp at x0
  go_wp2_with fail
  have h8 : QW w _ pb c B ew en eu es ex l r4 pv 90 _ #[.int .i64 pg, .int .i64 ps, .int .i64 rv] := h7.set 2 (.int .i64 rv)
  generalize W7.setCell ⟨w.heap.size + 1, 2, none⟩ (.int .i64 rv) = W8 at *
  clear h7 x0 f0
  refine (expect_r W8 pb c B ew en eu es ex l r4 pv _ kSemi h8.rd (by decide) rfl).mono ?_
  rintro e W9 ⟨rfl, hr, hk⟩
  have h9 := h8.step hr hk
  clear hr hk h8
  have L5 : Hid (LeR r4 (mustR l r4 [kSemi])) := mustR_le _ _ _
  generalize hq : mustR l r4 [kSemi] = r5 at *
  have Q5 : Hid _ := hq
  clear hq
  have HZ : Hid (final = (⟨y2, y3, rv⟩, r5)) := by
    rw [← HFN.out]
    show _ = _
    simp only [regionR, ← HI.out, Q2.out, Q3.out, Q4.out, Q5.out]
  have HV : Hid (r5.e = 0 → pg = y2 ∧ ps = y3) := by
    show r5.e = 0 → pg = y2 ∧ ps = y3
    intro E5
    have E4 : r4.e = 0 := L5.out.back E5
    have E3 : r3.e = 0 := L4.out.back E4
    have E2 : r2.e = 0 := L3.out.back E3
    exact ⟨V2.out E2, V3.out E3⟩
  clear HFN Q1 Q2 Q3 Q4 Q5 L1 L2 L3 L4 L5 V2 V3
  have x0 := h9.cell 0
  have z0 := h9.cellz 0
  have f0 := h9.fzz 0
  have x1 := h9.cell 1
  have z1 := h9.cellz 1
  have f1 := h9.fzz 1
  have x2 := h9.cell 2
  have z2 := h9.cellz 2
  have f2 := h9.fzz 2
  simp at x0 x1 x2 z0 z1 z2
  have hB1 := lt_of_blk h9.loc
  go_wp2_with fail
  have kz : QW w _ pb c B ew en eu es ex l _ pv 90 #[.int .i64 pg, .int .i64 ps, .int .i64 rv] _ := (((h9.setz 0 (.int .i64 pg)).setz 1 (.int .i64 ps)).setz 2 (.int .i64 rv))
  generalize (((W9.setCell ⟨w.heap.size, 0, none⟩ (.int .i64 pg)).setCell ⟨w.heap.size, 1, none⟩ (.int .i64 ps)).setCell ⟨w.heap.size, 2, none⟩ (.int .i64 rv)) = WF at *
  have ya := kz.cellz 0
  have yb := kz.cellz 1
  have yc := kz.cellz 2
  simp at ya yb yc
  rw [HZ.out]
  refine bodyPost_ret (v := .agg #[.int .i64 pg, .int .i64 ps, .int .i64 rv]) (by simp [results, Tryz.results204, go_sem, ya, yb, yc]) rfl ⟨⟨pg, ps, rv⟩, rfl, ?_, kz.rd, kz.kp⟩
  intro he
  obtain ⟨rfl, rfl⟩ := HV.out he
  rfl
end Go.Proofs.YteioennfpkoagaaGreatDoor
