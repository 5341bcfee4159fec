import Derived.Test.YteioennfpkoagaaGreatDoorRefH
namespace Go.Proofs.YteioennfpkoagaaGreatDoor
open Go.RowKit
attribute [local go_sem ↓] Go.wp_at_zero Go.wp_at_succ

theorem PartS.kept {w w' : World} {v : Value} {names : List (List UInt8)} (h : PartS w v names) {b : Nat} (hg : w.grownBy w' (some b)) (hne : v.ownBlock ≠ some b) : PartS w' v names := by
  rcases h with ⟨rfl, rfl⟩ | ⟨pb, c, rfl, hp⟩
  · exact .inl ⟨rfl, rfl⟩
  · exact .inr ⟨pb, c, rfl, hp.kept hg (by intro e; apply hne; rw [← e]; rfl)⟩

set_option maxRecDepth 100000 in
set_option maxHeartbeats 1000000 in
theorem channel_any (w : World) (b g N cap : Nat) (pv : Value) (l : List UInt8) (r : RS) (names : List (List UInt8)) (h : RdOK w b g N cap l r) (hps : PartS w pv names) (hpb : pv.ownBlock ≠ some b) (hm : names.length ≤ 10000) (hlen : l.length ≤ 8192) (hn : pos l (N - 1) = l.length) (hN : N ≤ 8193) :
    Calls Tryz.prog 83 #[.pointer (some ⟨b, 0, none⟩), pv] w fun e w' => e = .returned (.agg #[.string ⟨(channelR l names r).1.name.toArray⟩, .int .i64 (channelR l names r).1.source, .int .i64 (channelR l names r).1.target, .int .i64 (channelR l names r).1.kind, .int .i64 (channelR l names r).1.size, .int .i64 (channelR l names r).1.depth]) ∧ RdOK w' b g N cap l (channelR l names r).2 ∧ w.grownBy w' (some b) := by
  generalize hfinal : channelR l names r = final
  have HFN : Hid _ := hfinal
  clear hfinal
  have h0 := PW.start h 92 #[.string ⟨#[]⟩, .int .i64 0, .int .i64 0, .int .i64 0, .int .i64 0, .int .i64 0] #[.string ⟨#[]⟩, .int .i64 0, .int .i64 0, .int .i64 0, .int .i64 0, .int .i64 0]
  have HPS : Hid (PartS w pv names) := hps
  have HPB : Hid (pv.ownBlock ≠ some b) := hpb
  clear hps hpb
  go_enter Tryz.func83, Tryz.ntmps83
  go_wp2_with fail
  generalize (w.alloc (Obj.cells #[.string ⟨#[]⟩, .int .i64 0, .int .i64 0, .int .i64 0, .int .i64 0, .int .i64 0] 92)).alloc (Obj.cells #[.string ⟨#[]⟩, .int .i64 0, .int .i64 0, .int .i64 0, .int .i64 0, .int .i64 0] 92) = W0 at *
  refine (must_w W0 b g N cap l r _ [kChannel] h0.rd hlen hn hN (by decide) (by decide)).mono ?_
  rintro e W1 ⟨rfl, hr, hg⟩
  have h1 := h0.step hr hg
  clear hr hg h0
  generalize hq : mustR l r [kChannel] = r1 at *
  have Q1 : Hid _ := hq
  clear hq
  go_wp2_with fail
  refine (some_any W1 b g N cap l r1 1 h1.rd hlen hn (by omega) hN).mono ?_
  rintro e W2 ⟨rfl, hr, hg⟩
  have h2 := h1.step hr hg
  clear hr hg h1
  generalize hq : someR l r1 1 = q at *
  obtain ⟨nm, r2⟩ := q
  have Q2 : Hid _ := hq
  clear hq
  simp only [] at h2
  have x0 := h2.cell 0
  have f0 := h2.fz 0
  simp at x0
  go_wp2_with fail
  have h3 : PW w _ b g N cap l r2 92 _ #[.string ⟨nm.toArray⟩, .int .i64 0, .int .i64 0, .int .i64 0, .int .i64 0, .int .i64 0] := h2.set 0 (.string ⟨nm.toArray⟩)
  generalize W2.setCell ⟨w.heap.size + 1, 0, none⟩ (.string ⟨nm.toArray⟩) = W3 at *
  clear h2 x0 f0
  refine (end_any W3 b g N cap pv l r2 names h3.rd (HPS.out.kept h3.gr HPB.out) hm hlen hn hN).mono ?_
  rintro e W4 ⟨rfl, hr, hg⟩
  have h4 := h3.step hr hg
  clear hr hg h3
  generalize hq : endR l r2 names = q at *
  obtain ⟨sv, r3⟩ := q
  have Q3 : Hid _ := hq
  clear hq
  simp only [] at h4
  have x0 := h4.cell 1
  have f0 := h4.fz 1
  simp at x0
  go_wp2_with fail
  have h5 : PW w _ b g N cap l r3 92 _ #[.string ⟨nm.toArray⟩, .int .i64 sv, .int .i64 0, .int .i64 0, .int .i64 0, .int .i64 0] := h4.set 1 (.int .i64 sv)
  generalize W4.setCell ⟨w.heap.size + 1, 1, none⟩ (.int .i64 sv) = W5 at *
  clear h4 x0 f0
  refine (must_w W5 b g N cap l r3 _ [kArrow] h5.rd hlen hn hN (by decide) (by decide)).mono ?_
  rintro e W6 ⟨rfl, hr, hg⟩
  have h6 := h5.step hr hg
  clear hr hg h5
  generalize hq : mustR l r3 [kArrow] = r4 at *
  have Q4 : Hid _ := hq
  clear hq
  go_wp2_with fail
  refine (end_any W6 b g N cap pv l r4 names h6.rd (HPS.out.kept h6.gr HPB.out) hm hlen hn hN).mono ?_
  rintro e W7 ⟨rfl, hr, hg⟩
  have h7 := h6.step hr hg
  clear hr hg h6
  generalize hq : endR l r4 names = q at *
  obtain ⟨tv, r5⟩ := q
  have Q5 : Hid _ := hq
  clear hq
  simp only [] at h7
  have x0 := h7.cell 2
  have f0 := h7.fz 2
  simp at x0
  go_wp2_with fail
  have h8 : PW w _ b g N cap l r5 92 _ #[.string ⟨nm.toArray⟩, .int .i64 sv, .int .i64 tv, .int .i64 0, .int .i64 0, .int .i64 0] := h7.set 2 (.int .i64 tv)
  have hs8 : (W7.setCell ⟨w.heap.size + 1, 2, none⟩ (.int .i64 tv)).heap.size = W7.heap.size := by simp [World.setCell]
  generalize W7.setCell ⟨w.heap.size + 1, 2, none⟩ (.int .i64 tv) = W8 at *
  clear h7 x0 f0
  have hsb : StrB (W8.alloc (Obj.cells #[.string ⟨#[113, 117, 101, 117, 101]⟩, .string ⟨#[115, 97, 109, 112, 108, 101]⟩] 9)) W8.heap.size kKinds := strB_new _ _ _ _ (by intro j hj; match j, hj with | 0, _ => rfl | 1, _ => rfl)
  rw [hs8] at hsb
  clear hs8
  have h8' := h8.aside (grown_alloc W8 (Obj.cells #[.string ⟨#[113, 117, 101, 117, 101]⟩, .string ⟨#[115, 97, 109, 112, 108, 101]⟩] 9) none) (by simp)
  refine (oneOf_any _ b g N cap W7.heap.size 2 l r5 kKinds h8'.rd hsb (by decide) hlen hn hN).mono ?_
  rintro e W9 ⟨rfl, hr, hg⟩
  have h9 := h8'.step hr hg
  clear hr hg h8' h8 hsb
  generalize hq : oneOfR l r5 0 kKinds = q at *
  obtain ⟨kv, r6⟩ := q
  have Q6 : Hid _ := hq
  clear hq
  simp only [] at h9
  have x0 := h9.cell 3
  have f0 := h9.fz 3
  simp at x0
  go_wp2_with fail
  have h10 : PW w _ b g N cap l r6 92 _ #[.string ⟨nm.toArray⟩, .int .i64 sv, .int .i64 tv, .int .i64 kv, .int .i64 0, .int .i64 0] := h9.set 3 (.int .i64 kv)
  generalize W9.setCell ⟨w.heap.size + 1, 3, none⟩ (.int .i64 kv) = W10 at *
  clear h9 x0 f0
  refine (number_any W10 b g N cap l r6 h10.rd hlen hn hN).mono ?_
  rintro e W11 ⟨rfl, hr, hg⟩
  have h11 := h10.step hr hg
  clear hr hg h10
  generalize hq : numberR l r6 = q at *
  obtain ⟨zv, r7⟩ := q
  have Q7 : Hid _ := hq
  clear hq
  simp only [] at h11
  have x0 := h11.cell 4
  have f0 := h11.fz 4
  simp at x0
  go_wp2_with fail
  have h12 : PW w _ b g N cap l r7 92 _ #[.string ⟨nm.toArray⟩, .int .i64 sv, .int .i64 tv, .int .i64 kv, .int .i64 zv, .int .i64 0] := h11.set 4 (.int .i64 zv)
  generalize W11.setCell ⟨w.heap.size + 1, 4, none⟩ (.int .i64 zv) = W12 at *
  clear h11 x0 f0
  refine (number_any W12 b g N cap l r7 h12.rd hlen hn hN).mono ?_
  rintro e W13 ⟨rfl, hr, hg⟩
  have h13 := h12.step hr hg
  clear hr hg h12
  generalize hq : numberR l r7 = q at *
  obtain ⟨dv, r8⟩ := q
  have Q8 : Hid _ := hq
  clear hq
  simp only [] at h13
  have x0 := h13.cell 5
  have f0 := h13.fz 5
  simp at x0
  go_wp2_with fail
  have h14 : PW w _ b g N cap l r8 92 _ #[.string ⟨nm.toArray⟩, .int .i64 sv, .int .i64 tv, .int .i64 kv, .int .i64 zv, .int .i64 dv] := h13.set 5 (.int .i64 dv)
  generalize W13.setCell ⟨w.heap.size + 1, 5, none⟩ (.int .i64 dv) = W14 at *
  clear h13 x0 f0
  refine (must_w W14 b g N cap l r8 _ [kSemi] h14.rd hlen hn hN (by decide) (by decide)).mono ?_
  rintro e W15 ⟨rfl, hr, hg⟩
  have hp2 := h14.step hr hg
  clear hr hg h14
  generalize hq : mustR l r8 [kSemi] = r9 at *
  have Q9 : Hid _ := hq
  clear hq
  have HZ : Hid (final = (⟨nm, sv, tv, kv, zv, dv⟩, r9)) := by
    rw [← HFN.out]
    show _ = _
    simp only [channelR, Q1.out, Q2.out, Q3.out, Q4.out, Q5.out, Q6.out, Q7.out, Q8.out, Q9.out]
  clear HFN Q1 Q2 Q3 Q4 Q5 Q6 Q7 Q8 Q9
  have x0 := hp2.cell 0
  have z0 := hp2.cellz 0
  have f0 := hp2.fzz 0
  have x1 := hp2.cell 1
  have z1 := hp2.cellz 1
  have f1 := hp2.fzz 1
  have x2 := hp2.cell 2
  have z2 := hp2.cellz 2
  have f2 := hp2.fzz 2
  have x3 := hp2.cell 3
  have z3 := hp2.cellz 3
  have f3 := hp2.fzz 3
  have x4 := hp2.cell 4
  have z4 := hp2.cellz 4
  have f4 := hp2.fzz 4
  have x5 := hp2.cell 5
  have z5 := hp2.cellz 5
  have f5 := hp2.fzz 5
  simp at x0 x1 x2 x3 x4 x5 z0 z1 z2 z3 z4 z5
  have hB1 := lt_of_blk hp2.loc
  go_wp2_with fail
  have k1 : PW w _ b g N cap l _ 92 #[.string ⟨nm.toArray⟩, .int .i64 sv, .int .i64 tv, .int .i64 kv, .int .i64 zv, .int .i64 dv] _ := ((((((hp2.setz 0 (.string ⟨nm.toArray⟩)).setz 1 (.int .i64 sv)).setz 2 (.int .i64 tv)).setz 3 (.int .i64 kv)).setz 4 (.int .i64 zv)).setz 5 (.int .i64 dv))
  generalize ((((((W15.setCell ⟨w.heap.size, 0, none⟩ (.string ⟨nm.toArray⟩)).setCell ⟨w.heap.size, 1, none⟩ (.int .i64 sv)).setCell ⟨w.heap.size, 2, none⟩ (.int .i64 tv)).setCell ⟨w.heap.size, 3, none⟩ (.int .i64 kv)).setCell ⟨w.heap.size, 4, none⟩ (.int .i64 zv)).setCell ⟨w.heap.size, 5, none⟩ (.int .i64 dv)) = WF at *
  have y0 := k1.cellz 0
  have y1 := k1.cellz 1
  have y2 := k1.cellz 2
  have y3 := k1.cellz 3
  have y4 := k1.cellz 4
  have y5 := k1.cellz 5
  simp at y0 y1 y2 y3 y4 y5
  rw [HZ.out]
  refine bodyPost_ret (v := .agg #[.string ⟨nm.toArray⟩, .int .i64 sv, .int .i64 tv, .int .i64 kv, .int .i64 zv, .int .i64 dv]) (by simp [results, Tryz.results83, go_sem, y0, y1, y2, y3, y4, y5]) rfl ⟨rfl, k1.rd, k1.gr⟩
end Go.Proofs.YteioennfpkoagaaGreatDoor
