import Derived.Test.YteioennfpkoagaaGreatDoorG22
import Derived.Test.YteioennfpkoagaaGreatDoorG09
import Derived.Deep.RegionLaw
namespace Go.Proofs.YteioennfpkoagaaGreatDoor
open Go.RowKit
attribute [local go_sem ↓] Go.wp_at_zero Go.wp_at_succ
theorem own_row {w : World} {o : Obj} {S base e size n : Nat} {v : Value} {xs : List Value} (h : w.ownsRow base e size v n xs) (hb : S < base) (he : e ≠ 182) : ∀ k, v.ownBlock = some k → S < k ∧ ∀ p, (w.alloc o).heap[k]? ≠ some (.cells p 182 (0, 0)) := by
  intro k hk
  rcases h.2 with ⟨rfl, _⟩ | ⟨g, cap, cur, rfl, hb2, hg, _⟩
  · simp [Value.ownBlock] at hk
  · simp [Value.ownBlock] at hk
    subst hk
    refine ⟨by omega, fun p hp => ?_⟩
    rw [Below.heap_alloc _ _ _ (lt_of_blk hg), hg] at hp
    simp at hp
    exact he hp.2
theorem own_kq {w w' : World} {pb c base e size n : Nat} {v : Value} {xs : List Value} {w0 : World} (h : w.ownsRow base e size v n xs) (hk : KP pb c w w') (h1 : pb < w0.heap.size) (h2 : c + 1 + 1 < pb) (h3 : w0.heap.size ≤ base) : w'.ownsRow base e size v n xs := by
  rcases h with ⟨hl, ⟨rfl, h0⟩ | ⟨g, cap, cur, rfl, h4, hg, h5⟩⟩
  · exact ⟨hl, .inl ⟨rfl, h0⟩⟩
  · exact ⟨hl, .inr ⟨g, cap, cur, rfl, h4, KP.kp hg hk (by omega) (by omega) (by omega), h5⟩⟩

set_option maxRecDepth 100000 in
set_option maxHeartbeats 1000000 in
theorem ppartition_r (w : World) (pb c B : Nat) (ew en eu es ex : Addr) (N : Nat) (l : List UInt8) (r : RS) (pv : Value) (h : PR w pb c B ew en eu es ex l (absS l r) pv) (hN : TokN l N) (hN2 : N ≤ 8193) :
    Calls Tryz.prog 145 #[.pointer (some ⟨pb, 0, none⟩)] w fun e w' => ∃ (p : Part) (v : Value), e = .returned (.agg #[.string ⟨p.name.toArray⟩, .int .i64 p.period, .int .i64 p.duration, .int .i64 p.action, v]) ∧ Hid ((partitionR l N r).2.e = 0 → p = (partitionR l N r).1) ∧ PR w' pb c B ew en eu es ex l (absS l (partitionR l N r).2) pv ∧ KP pb c w w' ∧ w'.ownsRow w.heap.size 90 3 v p.regs.length (regRows p.regs) := by
  have HTN : Hid _ := hN
  clear hN
  generalize hfinal : partitionR l N r = final
  have HFN : Hid _ := hfinal
  clear hfinal
  obtain ⟨i0, hi0, hz0, hz1, hz2⟩ := info_parts infoRegion
  have h0 := QW.start h 42 (by decide) #[.string ⟨#[]⟩, .int .i64 0, .int .i64 0, .int .i64 0, .slice none 0 0] #[.string ⟨#[]⟩, .int .i64 0, .int .i64 0, .int .i64 0, .slice none 0 0]
  clear h
  go_enter Tryz.func145, Tryz.ntmps145
  go_wp2_with fail
  generalize (w.alloc (Obj.cells #[.string ⟨#[]⟩, .int .i64 0, .int .i64 0, .int .i64 0, .slice none 0 0] 42)).alloc (Obj.cells #[.string ⟨#[]⟩, .int .i64 0, .int .i64 0, .int .i64 0, .slice none 0 0] 42) = W0 at *
  refine (expect_r W0 pb c B ew en eu es ex l r pv _ kPartition h0.rd (by decide) rfl).mono ?_
  rintro e W1 ⟨rfl, hr, hk⟩
  have h1 := h0.step hr hk
  clear hr hk h0
  have L1 : Hid (LeR r (mustR l r [kPartition])) := mustR_le _ _ _
  generalize hq : mustR l r [kPartition] = r1 at *
  have Q1 : Hid _ := hq
  clear hq
  go_wp2_with fail
  refine (name_r W1 pb c B ew en eu es ex l r1 pv h1.rd).mono ?_
  rintro e W2 ⟨nm, rfl, V2, hr, hk⟩
  have h2 := h1.step hr hk
  clear hr hk h1
  have L2 : Hid (LeR r1 (someR l r1 1).2) := someR_le _ _ _
  generalize hq : someR l r1 1 = q at *
  obtain ⟨y2, r2⟩ := q
  have Q2 : Hid _ := hq
  clear hq
  simp only [] at h2 V2 L2
  have x0 := h2.cell 0
  have f0 := h2.fz 0
  simp at x0
  go_wp2_with fail
  have h3 : QW w _ pb c B ew en eu es ex l r2 pv 42 _ #[.string ⟨nm.toArray⟩, .int .i64 0, .int .i64 0, .int .i64 0, .slice none 0 0] := h2.set 0 (.string ⟨nm.toArray⟩)
  generalize W2.setCell ⟨w.heap.size + 1, 0, none⟩ (.string ⟨nm.toArray⟩) = W3 at *
  clear h2 x0 f0
  refine (expect_r W3 pb c B ew en eu es ex l r2 pv _ kOpen h3.rd (by decide) rfl).mono ?_
  rintro e W4 ⟨rfl, hr, hk⟩
  have h4 := h3.step hr hk
  clear hr hk h3
  have L3 : Hid (LeR r2 (mustR l r2 [kOpen])) := mustR_le _ _ _
  generalize hq : mustR l r2 [kOpen] = r3 at *
  have Q3 : Hid _ := hq
  clear hq
  go_wp2_with fail
  refine (setting_r W4 pb c B ew en eu es ex l r3 pv _ kPeriod h4.rd (by decide) rfl).mono ?_
  rintro e W5 ⟨pdv, rfl, V5, hr, hk⟩
  have h5 := h4.step hr hk
  clear hr hk h4
  have L4 : Hid (LeR r3 (mustR l r3 [kPeriod])) := mustR_le _ _ _
  generalize hq : mustR l r3 [kPeriod] = r4 at *
  have Q4 : Hid _ := hq
  clear hq
  have L5 : Hid (LeR r4 (numberR l r4).2) := numberR_le _ _
  generalize hq : numberR l r4 = q at *
  obtain ⟨y5, r5⟩ := q
  have Q5 : Hid _ := hq
  clear hq
  simp only [] at h5 V5 L5
  have L6 : Hid (LeR r5 (mustR l r5 [kSemi])) := mustR_le _ _ _
  generalize hq : mustR l r5 [kSemi] = r6 at *
  have Q6 : Hid _ := hq
  clear hq
  have x0 := h5.cell 1
  have f0 := h5.fz 1
  simp at x0
  go_wp2_with fail
  have h6 : QW w _ pb c B ew en eu es ex l r6 pv 42 _ #[.string ⟨nm.toArray⟩, .int .i64 pdv, .int .i64 0, .int .i64 0, .slice none 0 0] := h5.set 1 (.int .i64 pdv)
  generalize W5.setCell ⟨w.heap.size + 1, 1, none⟩ (.int .i64 pdv) = W6 at *
  clear h5 x0 f0
  refine (setting_r W6 pb c B ew en eu es ex l r6 pv _ kDuration h6.rd (by decide) rfl).mono ?_
  rintro e W7 ⟨dv, rfl, V8, hr, hk⟩
  have h7 := h6.step hr hk
  clear hr hk h6
  have L7 : Hid (LeR r6 (mustR l r6 [kDuration])) := mustR_le _ _ _
  generalize hq : mustR l r6 [kDuration] = r7 at *
  have Q7 : Hid _ := hq
  clear hq
  have L8 : Hid (LeR r7 (numberR l r7).2) := numberR_le _ _
  generalize hq : numberR l r7 = q at *
  obtain ⟨y8, r8⟩ := q
  have Q8 : Hid _ := hq
  clear hq
  simp only [] at h7 V8 L8
  have L9 : Hid (LeR r8 (mustR l r8 [kSemi])) := mustR_le _ _ _
  generalize hq : mustR l r8 [kSemi] = r9 at *
  have Q9 : Hid _ := hq
  clear hq
  have x0 := h7.cell 2
  have f0 := h7.fz 2
  simp at x0
  go_wp2_with fail
  have h8 : QW w _ pb c B ew en eu es ex l r9 pv 42 _ #[.string ⟨nm.toArray⟩, .int .i64 pdv, .int .i64 dv, .int .i64 0, .slice none 0 0] := h7.set 2 (.int .i64 dv)
  generalize W7.setCell ⟨w.heap.size + 1, 2, none⟩ (.int .i64 dv) = W8 at *
  clear h7 x0 f0
  refine (expect_r W8 pb c B ew en eu es ex l r9 pv _ kFault h8.rd (by decide) rfl).mono ?_
  rintro e W9 ⟨rfl, hr, hk⟩
  have h9 := h8.step hr hk
  clear hr hk h8
  have L10 : Hid (LeR r9 (mustR l r9 [kFault])) := mustR_le _ _ _
  generalize hq : mustR l r9 [kFault] = r10 at *
  have Q10 : Hid _ := hq
  clear hq
  go_wp2_with fail
  refine (actions_any W9).mono ?_
  rintro e W10 ⟨ob, oc, rfl, hob, hbb⟩
  have h10 := h9.below hbb
  clear hbb h9
  go_wp2_with fail
  refine (choice_r W10 pb c B ew en eu es ex ob oc 3 l r10 pv kActions h10.rd hob rfl (by decide) (by decide)).mono ?_
  rintro e W11 ⟨rfl, hr, hk⟩
  have h11 := h10.step hr hk
  clear hr hk h10
  clear hob
  have L11 : Hid (LeR r10 (oneOfR l r10 0 kActions).2) := oneOfR_le _ _ _ _
  generalize hq : oneOfR l r10 0 kActions = q at *
  obtain ⟨av, r11⟩ := q
  have Q11 : Hid _ := hq
  clear hq
  simp only [] at h11 L11
  have x0 := h11.cell 3
  have f0 := h11.fz 3
  simp at x0
  go_wp2_with fail
  have h12 : QW w _ pb c B ew en eu es ex l r11 pv 42 _ #[.string ⟨nm.toArray⟩, .int .i64 pdv, .int .i64 dv, .int .i64 av, .slice none 0 0] := h11.set 3 (.int .i64 av)
  generalize W11.setCell ⟨w.heap.size + 1, 3, none⟩ (.int .i64 av) = W12 at *
  clear h11 x0 f0
  refine (expect_r W12 pb c B ew en eu es ex l r11 pv _ kSemi h12.rd (by decide) rfl).mono ?_
  rintro e W13 ⟨rfl, hr, hk⟩
  have h13 := h12.step hr hk
  clear hr hk h12
  have L12 : Hid (LeR r11 (mustR l r11 [kSemi])) := mustR_le _ _ _
  generalize hq : mustR l r11 [kSemi] = r12 at *
  have Q12 : Hid _ := hq
  clear hq
  go_wp2_with fail
  have HZ : Hid (partHeadR l r = ((y2, y5, y8, av), r12)) := by
    show _ = _
    simp only [partHeadR, mustR_two, Q1.out, Q2.out, Q3.out, Q4.out, Q5.out, Q6.out, Q7.out, Q8.out, Q9.out, Q10.out, Q11.out, Q12.out]
  have HV : Hid (r12.e = 0 → nm = y2 ∧ pdv = y5 ∧ dv = y8) := by
    show r12.e = 0 → _
    intro E12
    have E11 : r11.e = 0 := L12.out.back E12
    have E10 : r10.e = 0 := L11.out.back E11
    have E9 : r9.e = 0 := L10.out.back E10
    have E8 : r8.e = 0 := L9.out.back E9
    have E7 : r7.e = 0 := L8.out.back E8
    have E6 : r6.e = 0 := L7.out.back E7
    have E5 : r5.e = 0 := L6.out.back E6
    have E4 : r4.e = 0 := L5.out.back E5
    have E3 : r3.e = 0 := L4.out.back E4
    have E2 : r2.e = 0 := L3.out.back E3
    exact ⟨V2.out E2, V5.out E5, V8.out E8⟩
  clear Q1 L1 Q2 L2 Q3 L3 Q4 L4 Q5 L5 Q6 L6 Q7 L7 Q8 L8 Q9 L9 Q10 L10 Q11 L11 Q12 L12 V2 V5 V8
  generalize hfin : regsR l N r12 [] = fin
  have HF : Hid (fin = regsR l N r12 []) := hfin.symm
  have HF2 : Hid (fin = regsR l N r12 []) := hfin.symm
  clear hfin
  go_loopg [] N (fun f wr => ∃ (acc pacc : List Reg) (ra : RS) (v : Value), Hid (fin = regsR l f ra pacc) ∧ Hid (LeR r12 ra) ∧ Hid (ra.e = 0 → acc = pacc) ∧ leftR N ra ≤ f ∧ acc.length + f ≤ N ∧ QW w wr pb c B ew en eu es ex l ra pv 42 #[.string ⟨#[]⟩, .int .i64 0, .int .i64 0, .int .i64 0, .slice none 0 0] #[.string ⟨nm.toArray⟩, .int .i64 pdv, .int .i64 dv, .int .i64 av, v] ∧ wr.ownsRow (w.heap.size + 2) 90 3 v acc.length (regRows acc))
  case atStart => exact ⟨[], [], r12, _, HF, LeR.refl _, fun _ => rfl, by unfold leftR; split <;> omega, by simp, h13, World.ownsRow_nil _ _ _ _⟩
  case round =>
    obtain ⟨acc, pacc, ra, v, HK, HLE, HAC, hf, hacc, hp, hown⟩ := hrel
    clear HF h13
    go_wp2_with fail
    refine (at_r _ pb c B ew en eu es ex l ra pv _ kMemory hp.rd (by decide) rfl).mono ?_
    rintro e wq ⟨rfl, rfl⟩
    rcases hi : isR l ra kMemory with _ | _
    · have HX : Hid (fin = (pacc, ra)) := HK.out.trans (regsR_stop _ _ _ _ hi)
      clear HK hi
      go_wp2_with fail
      refine (expect_r wq pb c B ew en eu es ex l ra pv _ kShut hp.rd (by decide) rfl).mono ?_
      rintro e V1 ⟨rfl, hr, hk⟩
      have hp2 := hp.step hr hk
      have hown2 := own_kq hown hk hp.lt hr.ord (by omega)
      clear hr hk hp hown
      obtain ⟨va, vc, rfl⟩ := own_shape hown2
      have HF3 : Hid (final = (⟨y2, y5, y8, av, pacc⟩, mustR l ra [kShut])) := by
        rw [← HFN.out]
        have hx := HX.out
        show _ = _
        simp only [partitionR, HZ.out]
        rw [← HF2.out, hx]
      have HW : Hid ((mustR l ra [kShut]).e = 0 → nm = y2 ∧ pdv = y5 ∧ dv = y8 ∧ acc = pacc) := by
        show _ → _
        intro he
        have he2 := (mustR_le l ra [kShut]).back he
        obtain ⟨a1, a2, a3⟩ := HV.out (HLE.out.back he2)
        exact ⟨a1, a2, a3, HAC.out he2⟩
      clear HFN HX HZ HV HLE HAC HF2
      have x0 := hp2.cell 0
      have z0 := hp2.cellz 0
      have f0 := hp2.fzz 0
      have x1 := hp2.cell 1
      have z1 := hp2.cellz 1
      have f1 := hp2.fzz 1
      have x2 := hp2.cell 2
      have z2 := hp2.cellz 2
      have f2 := hp2.fzz 2
      have x3 := hp2.cell 3
      have z3 := hp2.cellz 3
      have f3 := hp2.fzz 3
      have x4 := hp2.cell 4
      have z4 := hp2.cellz 4
      have f4 := hp2.fzz 4
      simp at x0 x1 x2 x3 x4 z0 z1 z2 z3 z4
      have hB1 := lt_of_blk hp2.loc
      go_wp2_with fail
      have kz : QW w _ pb c B ew en eu es ex l _ pv 42 #[.string ⟨nm.toArray⟩, .int .i64 pdv, .int .i64 dv, .int .i64 av, .slice va acc.length vc] _ := (((((hp2.setz 0 (.string ⟨nm.toArray⟩)).setz 1 (.int .i64 pdv)).setz 2 (.int .i64 dv)).setz 3 (.int .i64 av)).setz 4 (.slice va acc.length vc))
      have ko := (own_setz (own_setz (own_setz (own_setz (own_setz hown2 0 (.string ⟨nm.toArray⟩)) 1 (.int .i64 pdv)) 2 (.int .i64 dv)) 3 (.int .i64 av)) 4 (.slice va acc.length vc))
      generalize (((((V1.setCell ⟨w.heap.size, 0, none⟩ (.string ⟨nm.toArray⟩)).setCell ⟨w.heap.size, 1, none⟩ (.int .i64 pdv)).setCell ⟨w.heap.size, 2, none⟩ (.int .i64 dv)).setCell ⟨w.heap.size, 3, none⟩ (.int .i64 av)).setCell ⟨w.heap.size, 4, none⟩ (.slice va acc.length vc)) = WF at *
      have ya := kz.cellz 0
      have yb := kz.cellz 1
      have yc := kz.cellz 2
      have yd := kz.cellz 3
      have ye := kz.cellz 4
      simp at ya yb yc yd ye
      rw [HF3.out]
      refine bodyPost_ret (v := .agg #[.string ⟨nm.toArray⟩, .int .i64 pdv, .int .i64 dv, .int .i64 av, .slice va acc.length vc]) (by simp [results, Tryz.results145, go_sem, ya, yb, yc, yd, ye]) rfl ⟨⟨nm, pdv, dv, av, acc⟩, _, rfl, ?_, kz.rd, kz.kp, own_mono ko (by omega)⟩
      intro he
      obtain ⟨rfl, rfl, rfl, rfl⟩ := HW.out he
      rfl
    · have hea := isR_e hi
      have hgk : 1 ≤ gk := by unfold leftR at hf; rw [if_neg (by simp [hea])] at hf; have := is_lt HTN.out hi; omega
      have HX : Hid (fin = regsR l (gk - 1) (regionR l ra).2 (pacc ++ [(regionR l ra).1])) := by
        have := HK.out
        obtain ⟨m, rfl⟩ : ∃ m, gk = m + 1 := ⟨gk - 1, by omega⟩
        rw [regsR_on _ _ _ _ hi] at this; exact this
      have HL : Hid (leftR N (regionR l ra).2 ≤ gk - 1) := by
        have h1 := left_lt (N := N) (r := ra) (is_lt HTN.out hi) hea (regionR_le l ra)
        show _ ≤ _; omega
      have HL2 : Hid (LeR r12 (regionR l ra).2) := HLE.out.trans ((nextR_le ra).trans (regionR_le l ra))
      have HAE : Hid (acc = pacc) := HAC.out hea
      have HII : Hid _ := hi
      clear HK hi hf HAC HLE
      have x4 := hp.cell 4
      have f4 := hp.fz 4
      have hB1 := lt_of_blk hp.loc
      have hlt := hp.lt
      have hord := hp.rd.ord
      simp at x4
      have hpd : QW w wq.drew pb c B ew en eu es ex l ra pv 42 _ _ := hp.aside (grown_drewN wq 1 none) (by simp)
      have hownd : wq.drew.ownsRow (w.heap.size + 2) 90 3 v acc.length (regRows acc) := hown.kept (grown_drewN wq 1 none) (by cases v.ownBlock <;> simp)
      clear hp hown
      go_wp2_with fail
      go_region_law (first
        | (refine step_append_lies _ (by rfl) _ _ _ (by rfl) (w.heap.size + 2) 90 i0 _ 3 24 Tryz.underlying40 hi0 hz0 hz1 hz2 rfl (by omega) v acc.length (regRows acc) (by rfl) (hown2.alloc _) ⟨V2.heap.size, 0, none⟩ 1 1 [.int .i64 gg.page, .int .i64 gg.pages, .int .i64 gg.rights] (by rfl) (by rfl) (World.news_of_block (cs := #[.int .i64 gg.page, .int .i64 gg.pages, .int .i64 gg.rights]) (t := 90) (fr := (0, 0)) (heap_new V2 _)) (by simp [Value.oneCell']) (by omega) (by unfold maxLen; omega) (by omega) (by simp; omega) (V2.heap.size + 1) (by simp) ?_; intro g9 c9 V9 hown3 hgrow hat9 hlt9
           have hp9 := (hp2.aside (grown_alloc V2 (.cells #[.int .i64 gg.page, .int .i64 gg.pages, .int .i64 gg.rights] 90) none) (by simp)).aside hgrow (own_row hown2 (by omega) (by decide))
           have x9 := hp9.cell 4
           have f9 := hp9.fz 4
           simp at x9)
        | (go_simp; go_at_call 204; refine (region_r wq.drew pb c B ew en eu es ex l ra pv hpd.rd HII.out).mono ?_; rintro e V2 ⟨gg, rfl, HG, hr, hk⟩
           have hp2 := hpd.step hr hk
           have hown2 := own_kq hownd hk hlt hord (by omega)
           have x5 := hp2.cell 4
           have f5 := hp2.fz 4
           have hB2 := lt_of_blk hp2.loc
           simp at x5))
      all_goals
        have q10 : QW w _ pb c B ew en eu es ex l (regionR l ra).2 pv 42 _ #[.string ⟨nm.toArray⟩, .int .i64 pdv, .int .i64 dv, .int .i64 av, .slice (some ⟨g9, 0, none⟩) (acc.length + 1) c9] := hp9.set 4 (.slice (some ⟨g9, 0, none⟩) (acc.length + 1) c9)
        have o10 := hown3.kept (grown_set V9 (w.heap.size + 1) 4 (.slice (some ⟨g9, 0, none⟩) (acc.length + 1) c9)) (.inr (by have := (hown3.lt g9 rfl).1; simp [Value.ownBlock]; omega))
        go_wp2_with fail
        go_roundg (gk - 1)
        case measure => omega
        case rel =>
          refine ⟨acc ++ [gg], pacc ++ [(regionR l ra).1], (regionR l ra).2, _, HX, HL2, fun he => ?_, HL.out, by simp; omega, q10, by simpa [regRows_snoc, regCells] using o10⟩
          rw [HAE.out, HG.out he]
end Go.Proofs.YteioennfpkoagaaGreatDoor
