import Derived.Test.YteioennfpkoagaaGreatDoorB28
import Derived.Deep.DeepCutAuto
import Derived.Deep.CutBlock
import Derived.Test.YteioennfpkoagaaGreatDoorB06
namespace Go.Proofs.YteioennfpkoagaaGreatDoor.C
open Go.RowKit K
attribute [local go_sem ↓] Go.wp_at_zero Go.wp_at_succ

theorem cut_any (s : ByteArray) (hs : s.size ≤ 9223372036854775807) (w : World) :
    Calls Tryz.prog 65 #[.string s] w fun e w' => e = .returned (.string (cutF s)) ∧ w' = w := by
  by_cases h : 8 < s.size
  · have h' : (8 : Int) < (s.size : Int) := by omega
    go_enter Tryz.func65, Tryz.ntmps65
    go_wp2_with fail
    go_ret
    refine ⟨?_, rfl⟩
    unfold cutF
    rw [if_pos h]
    rfl
  · have h' : ¬ (8 : Int) < (s.size : Int) := by omega
    go_enter Tryz.func65, Tryz.ntmps65
    go_wp2_with fail
    go_ret
    refine ⟨?_, rfl⟩
    unfold cutF
    rw [if_neg h]
    rfl
def stepV (o : StepD) : Value := .agg #[.int .i64 o.kind, .int .i64 o.p, .int .i64 o.n, .int .i64 o.b, .string o.text]
def ansV (x : AnsD) : Value := .agg #[.int .i64 x.n, .string x.text, .bool x.yes, .int .i64 x.e]
structure StepR (o : StepD) : Prop where
  kind : inR o.kind
  p : inR o.p
  n : inR o.n
  b : inR o.b
  text : o.text.size ≤ 9223372036854775807
theorem cut_size (s : ByteArray) (h : s.size ≤ 9223372036854775807) : (cutF s).size ≤ 9223372036854775807 := by
  unfold cutF
  split
  · simp [ByteArray.size_extract]; omega
  · exact h
structure DoEq (D : ManD) (S : KS) (o : StepD) (q : Nat) (cc ad : Int) : Prop where
  k1 : o.kind = 1 → doF D S o = (ans0, tickK S)
  k2 : o.kind = 2 → doF D S o = (⟨(readF D S q ad).1, ⟨#[]⟩, false, (readF D S q ad).2.1⟩, (readF D S q ad).2.2)
  k3 : o.kind = 3 → doF D S o = (⟨0, ⟨#[]⟩, false, (writeF D S q ad o.b).1⟩, (writeF D S q ad o.b).2)
  k4 : o.kind = 4 → doF D S o = (⟨0, ⟨#[]⟩, false, (sendF D S q cc (cutF o.text)).1⟩, (sendF D S q cc (cutF o.text)).2)
  k5 : o.kind = 5 → doF D S o = (⟨0, (recvF D S q cc).1.1, (recvF D S q cc).1.2.1, (recvF D S q cc).1.2.2⟩, (recvF D S q cc).2)
  k6 : o.kind = 6 → doF D S o = (⟨0, ⟨#[]⟩, false, (raiseF D S q).1⟩, (raiseF D S q).2)
  k0 : ¬ o.kind = 1 → ¬ o.kind = 2 → ¬ o.kind = 3 → ¬ o.kind = 4 → ¬ o.kind = 5 → ¬ o.kind = 6 → doF D S o = (ans0, S)
theorem doF_eq (D : ManD) (S : KS) (ki pp nn bb : Int) (tx : ByteArray) (q : Nat) (cc ad : Int) (hq : whoP D ⟨ki, pp, nn, bb, tx⟩ = q) (hc : chanP D ⟨ki, pp, nn, bb, tx⟩ = cc) (ha : addrP D ⟨ki, pp, nn, bb, tx⟩ = ad) : DoEq D S ⟨ki, pp, nn, bb, tx⟩ q cc ad := by
  constructor <;> intros <;> unfold doF <;> simp_all <;> rfl
set_option maxRecDepth 100000 in
set_option maxHeartbeats 8000000 in
theorem do_any (I : KerI) (w : World) (n : Nat) (ps : List PartD) (cs : List ChanD) (pv cv : Value) (hp : PartsV w pv ps) (hc : ChansV w cv cs) (hz : checkF ⟨n, ps, cs⟩ = 0) (hne : ps ≠ []) (v : Value) (S : KS) (ow : Nat → Prop) (hk : I.KV w v ⟨n, ps, cs⟩ S ow) (hs : SmallK bigK S) (o : StepD) (ho : StepR o) :
    Calls Tryz.prog 27 #[v, .agg #[.int .i64 n, pv, cv], stepV o] w fun e w' => e = .returned (ansV (doF ⟨n, ps, cs⟩ S o).1) ∧ Aft I.KV v ⟨n, ps, cs⟩ (doF ⟨n, ps, cs⟩ S o).2 ow w w' := by
  have hco := check_ok hz
  have hpl : ps.length ≤ 8 := hco.2.2.1
  have hcl : cs.length ≤ 8 := hco.2.2.2.1
  have hpos : 0 < ps.length := List.length_pos_iff.2 hne
  have HCO : Hid (∀ k (hk : k < ps.length), ps[k].regs.length ≤ 4 ∧ partErr n (ps.take k) ps[k] = 0) := hco.2.2.2.2.1
  have HP : Hid (PartsV w pv ps) := hp
  have HC : Hid (ChansV w cv cs) := hc
  have HK : Hid (I.KV w v ⟨n, ps, cs⟩ S ow) := hk
  obtain ⟨va, cap, rfl, hx⟩ := hp
  clear hx
  obtain ⟨ca, ck, rfl, hx⟩ := hc
  clear hx hk hco hz hne
  obtain ⟨a, rfl⟩ := I.ptr HK.out
  obtain ⟨r1, r2, r3, r4, r5⟩ := ho
  have HO : Hid (StepR o) := ⟨r1, r2, r3, r4, r5⟩
  obtain ⟨ki, pp, nn, bb, tx⟩ := o
  simp only [] at r1 r2 r3 r4 r5
  unfold stepV
  have hpw : Hid (whoP ⟨n, ps, cs⟩ ⟨ki, pp, nn, bb, tx⟩ = pickF pp ps.length) := rfl
  obtain ⟨q, hq, hq1⟩ : ∃ q : Nat, pickF pp ps.length = q ∧ q < ps.length := by
    have := pickF_lt (c := pp) (n := ps.length) (by omega)
    exact ⟨(pickF pp ps.length).toNat, by omega, by omega⟩
  have HQ : Hid (pickF pp ps.length = q) := hq
  clear hq
  go_enter Tryz.func27, Tryz.ntmps27
  go_wp2_with fail
  have b1 := newB w (.cells #[.int .i64 n, .slice va ps.length cap, .slice ca cs.length ck] 34)
  have h1 := heap_new w (.cells #[.int .i64 n, .slice va ps.length cap, .slice ca cs.length ck] 34)
  have z1 : (w.alloc (.cells #[.int .i64 n, .slice va ps.length cap, .slice ca cs.length ck] 34)).heap.size = w.heap.size + 1 := by simp
  generalize w.alloc (.cells #[.int .i64 n, .slice va ps.length cap, .slice ca cs.length ck] 34) = V1 at *
  have b2 := newB V1 (.cells #[.int .i64 ki, .int .i64 pp, .int .i64 nn, .int .i64 bb, .string tx] 71)
  have h2 := heap_new V1 (.cells #[.int .i64 ki, .int .i64 pp, .int .i64 nn, .int .i64 bb, .string tx] 71)
  have z2 : (V1.alloc (.cells #[.int .i64 ki, .int .i64 pp, .int .i64 nn, .int .i64 bb, .string tx] 71)).heap.size = w.heap.size + 1 + 1 := by simp; omega
  generalize V1.alloc (.cells #[.int .i64 ki, .int .i64 pp, .int .i64 nn, .int .i64 bb, .string tx] 71) = V2 at *
  have b3 := newB V2 (.cells #[.int .i64 0, .string ⟨#[]⟩, .bool false, .int .i64 0] 73)
  have h3 := heap_new V2 (.cells #[.int .i64 0, .string ⟨#[]⟩, .bool false, .int .i64 0] 73)
  have z3 : (V2.alloc (.cells #[.int .i64 0, .string ⟨#[]⟩, .bool false, .int .i64 0] 73)).heap.size = w.heap.size + 3 := by simp; omega
  rw [z1] at h2
  rw [z2] at h3
  have HB3 : Hid (Below w.heap.size w (V2.alloc (.cells #[.int .i64 0, .string ⟨#[]⟩, .bool false, .int .i64 0] 73))) := (b1.trans (b2.mono (by omega))).trans (b3.mono (by omega))
  have HM : Hid ((V2.alloc (.cells #[.int .i64 0, .string ⟨#[]⟩, .bool false, .int .i64 0] 73)).heap[w.heap.size]? = some (.cells #[.int .i64 n, .slice va ps.length cap, .slice ca cs.length ck] 34 (0, 0))) := keepN (keepN h1 b2) b3
  have HST : Hid ((V2.alloc (.cells #[.int .i64 0, .string ⟨#[]⟩, .bool false, .int .i64 0] 73)).heap[w.heap.size + 1]? = some (.cells #[.int .i64 ki, .int .i64 pp, .int .i64 nn, .int .i64 bb, .string tx] 71 (0, 0))) := keepN h2 b3
  have HRS : Hid ((V2.alloc (.cells #[.int .i64 0, .string ⟨#[]⟩, .bool false, .int .i64 0] 73)).heap[w.heap.size + 1 + 1]? = some (.cells #[.int .i64 0, .string ⟨#[]⟩, .bool false, .int .i64 0] 73 (0, 0))) := h3
  have HZ3 : Hid ((V2.alloc (.cells #[.int .i64 0, .string ⟨#[]⟩, .bool false, .int .i64 0] 73)).heap.size = w.heap.size + 3) := z3
  generalize V2.alloc (.cells #[.int .i64 0, .string ⟨#[]⟩, .bool false, .int .i64 0] 73) = V3 at *
  clear b1 b2 b3 h1 h2 h3 z1 z2 z3
  refine Calls.mono (pick_any pp ps.length r2 (by omega) V3) ?_
  rintro e V ⟨rfl, rfl⟩
  rw [HQ.out]
  have m1 : V.cell? ⟨w.heap.size, 1, none⟩ = some (.slice va ps.length cap) := by rw [cell_of_blk HM.out]; rfl
  have m2 : V.cell? ⟨w.heap.size, 2, none⟩ = some (.slice ca cs.length ck) := by rw [cell_of_blk HM.out]; rfl
  have s0 : V.cell? ⟨w.heap.size + 1, 0, none⟩ = some (.int .i64 ki) := by rw [cell_of_blk HST.out]; rfl
  have s2 : V.cell? ⟨w.heap.size + 1, 2, none⟩ = some (.int .i64 nn) := by rw [cell_of_blk HST.out]; rfl
  have s3 : V.cell? ⟨w.heap.size + 1, 3, none⟩ = some (.int .i64 bb) := by rw [cell_of_blk HST.out]; rfl
  have s4 : V.cell? ⟨w.heap.size + 1, 4, none⟩ = some (.string tx) := by rw [cell_of_blk HST.out]; rfl
  go_upto_if 22 with fail
  go_cut [8] (fun c wc => c = .int .i64 (chanP ⟨n, ps, cs⟩ ⟨ki, pp, nn, bb, tx⟩) ∧ wc = V)
  case first =>
    by_cases hcz : 0 < cs.length
    · have hcz' : (0 : Int) < (cs.length : Int) := by omega
      go_wp2_with fail
      refine Calls.mono (pick_any nn cs.length r3 (by omega) V) ?_
      rintro e V' ⟨rfl, rfl⟩
      go_wp2_with fail
      go_meet
      refine ⟨?_, rfl⟩
      unfold chanP
      rw [if_pos hcz]
    · have hcz' : ¬ (0 : Int) < (cs.length : Int) := by omega
      go_wp2_with fail
      go_meet
      refine ⟨?_, rfl⟩
      unfold chanP
      rw [if_neg hcz]
  case rest =>
    obtain ⟨rfl, hwc⟩ := hcut
    have hwc2 := hwc.symm
    clear hwc
    subst hwc2
    have hcb : -1000 ≤ chanP ⟨n, ps, cs⟩ ⟨ki, pp, nn, bb, tx⟩ ∧ chanP ⟨n, ps, cs⟩ ⟨ki, pp, nn, bb, tx⟩ ≤ 1000 := by
      unfold chanP
      split
      · rename_i h
        have := pickF_lt (c := nn) (n := cs.length) (by simp only [] at h; omega)
        simp only [] at *
        omega
      · omega
    obtain ⟨cc, hcc⟩ : ∃ cc, chanP ⟨n, ps, cs⟩ ⟨ki, pp, nn, bb, tx⟩ = cc := ⟨_, rfl⟩
    have HCC : Hid (chanP ⟨n, ps, cs⟩ ⟨ki, pp, nn, bb, tx⟩ = cc) := hcc
    rw [hcc] at hcb ⊢
    clear hcc
    go_wp2_with fail
    refine Calls.mono (pick_any nn 4096 r3 (by omega) V) ?_
    rintro e V' ⟨rfl, hV⟩
    have hV2 := hV.symm
    clear hV
    subst hV2
    have hPV := PartsV.below HP.out HB3.out
    obtain ⟨va', cap', eva, hc⟩ := hPV
    simp only [Value.slice.injEq, true_and] at eva
    obtain ⟨rfl, rfl⟩ := eva
    obtain ⟨b, off, rv, rfl, d0, d1, d2, d3, d4, hrv⟩ := hc q hq1
    clear hc d0 d1 d2 d3
    have hpt := (HCO.out q hq1)
    obtain ⟨x, hx⟩ : ∃ x, ps[q] = x := ⟨_, rfl⟩
    have hra : regsAt ⟨n, ps, cs⟩ (whoP ⟨n, ps, cs⟩ ⟨ki, pp, nn, bb, tx⟩).toNat = x.regs := by
      rw [hpw.out, HQ.out, Int.toNat_natCast]
      exact regsAt_of (by show ps[q]? = some x; rw [List.getElem?_eq_getElem hq1, hx])
    rw [hx] at hrv hpt
    clear hx
    obtain ⟨ra, rc, rfl, hrc⟩ := hrv
    obtain ⟨hrl, hpt⟩ := hpt
    have HRA : Hid (regsAt ⟨n, ps, cs⟩ (whoP ⟨n, ps, cs⟩ ⟨ki, pp, nn, bb, tx⟩).toNat = x.regs) := hra
    have HRO : Hid (RegsOK x.regs) := (partErr_ok hpt).2.2.2.2.2.2
    have HRC : Hid (∀ (i : Nat) (h : i < x.regs.length), ∃ b off, ra = some ⟨b, off, none⟩ ∧ V.cell? ⟨b, off + i * 3, none⟩ = some (.int .i64 x.regs[i].page) ∧ V.cell? ⟨b, off + i * 3 + 1, none⟩ = some (.int .i64 x.regs[i].pages) ∧ V.cell? ⟨b, off + i * 3 + 2, none⟩ = some (.int .i64 x.regs[i].rights)) := hrc
    have hpk : 0 ≤ pickF nn 4096 ∧ pickF nn 4096 < 4096 := pickF_lt (by omega)
    obtain ⟨pk, hpke⟩ : ∃ pk, pickF nn 4096 = pk := ⟨_, rfl⟩
    have HPK : Hid (pickF nn 4096 = pk) := hpke
    rw [hpke] at hpk ⊢
    clear hrc hra hpt hpke
    go_upto_region 7 with fail
    go_cut [46] (fun t wc => t = .bool (decide (0 < x.regs.length ∧ bb % 4 ≠ 0)) ∧ wc = V)
    case first =>
      by_cases hl : 0 < x.regs.length
      · have hl' : (0 : Int) < (x.regs.length : Int) := by omega
        by_cases hb4 : bb.tmod 4 = 0
        · go_wp2_with fail
          go_meet
          refine ⟨?_, rfl⟩
          have : ¬ (0 < x.regs.length ∧ bb % 4 ≠ 0) := by rw [← Int.dvd_iff_tmod_eq_zero] at hb4; omega
          rw [decide_eq_false this]
        · go_wp2_with fail
          go_meet
          refine ⟨?_, rfl⟩
          have hb5 : (bb.tmod 4 != 0) = true := by simp [hb4]
          have : 0 < x.regs.length ∧ bb % 4 ≠ 0 := by rw [← Int.dvd_iff_tmod_eq_zero] at hb4; omega
          rw [decide_eq_true this, hb5]
      · have hl' : ¬ (0 : Int) < (x.regs.length : Int) := by omega
        go_wp2_with fail
        go_meet
        refine ⟨?_, rfl⟩
        rw [decide_eq_false (fun h => hl h.1)]
    case rest =>
      obtain ⟨rfl, hwc⟩ := hcut
      have hwc2 := hwc.symm
      clear hwc
      subst hwc2
      obtain ⟨tb, htb⟩ : ∃ tb, decide (0 < x.regs.length ∧ bb % 4 ≠ 0) = tb := ⟨_, rfl⟩
      have HTB : Hid (decide (0 < x.regs.length ∧ bb % 4 ≠ 0) = tb) := htb
      rw [htb]
      clear htb
      go_upto_if 46 with fail
      go_cut [9] (fun ad wc => ad = .int .i64 (addrP ⟨n, ps, cs⟩ ⟨ki, pp, nn, bb, tx⟩) ∧ Below V.heap.size V wc)
      case first =>
        cases tb
        · go_wp2_with fail
          go_meet
          refine ⟨?_, Below.refl _ _⟩
          have h := of_decide_eq_false HTB.out
          unfold addrP
          simp only [HRA.out]
          rw [if_neg h, HPK.out]
        · have h := of_decide_eq_true HTB.out
          obtain ⟨hl, hb4⟩ := h
          obtain ⟨j, hj, hj1⟩ : ∃ j : Nat, pickF bb x.regs.length = j ∧ j < x.regs.length := by
            have := pickF_lt (c := bb) (n := x.regs.length) (by omega)
            exact ⟨(pickF bb x.regs.length).toNat, by omega, by omega⟩
          have HJ : Hid (pickF bb x.regs.length = j) := hj
          have HHL : Hid (0 < x.regs.length ∧ bb % 4 ≠ 0) := ⟨hl, hb4⟩
          clear hj hb4
          go_wp2_with fail
          refine Calls.mono (pick_any bb x.regs.length r4 (by omega) V) ?_
          rintro e V' ⟨rfl, hV⟩
          have hV2 := hV.symm
          clear hV
          subst hV2
          rw [HJ.out]
          obtain ⟨rb, ro, rfl, f0, f1, f2⟩ := HRC.out j hj1
          have hrb := HRO.out.1 x.regs[j] (List.getElem_mem _)
          unfold regB at hrb
          simp only [decide_eq_true_eq] at hrb
          obtain ⟨g, hg⟩ : ∃ g, x.regs[j] = g := ⟨_, rfl⟩
          have HG : Hid (x.regs[j] = g) := hg
          rw [hg] at f0 f1 f2 hrb
          clear hg
          obtain ⟨gp, gn, gr⟩ := g
          simp only [] at f0 f1 f2 hrb
          obtain ⟨g0, g1, g2, g3, g4, _⟩ := hrb
          have hpk2 := pickF_lt (c := nn) (n := 64 * gn) (by omega)
          have hj' : (j : Int) < (x.regs.length : Int) := by omega
          have w1 : IntKind.i64.wrap (64 * gp) = 64 * gp := wrap_small _ (by omega) (by omega)
          have w2 : IntKind.i64.wrap (64 * gn) = 64 * gn := wrap_small _ (by omega) (by omega)
          obtain ⟨pk2, hpk2e⟩ : ∃ pk2, pickF nn (64 * gn) = pk2 := ⟨_, rfl⟩
          have HPK2 : Hid (pickF nn (64 * gn) = pk2) := hpk2e
          rw [hpk2e] at hpk2
          have w3 : IntKind.i64.wrap (64 * gp + pk2) = 64 * gp + pk2 := wrap_small _ (by omega) (by omega)
          clear hpk2e
          go_upto_region 9 with fail
          have bA := newB V (.cells #[.int .i64 gp, .int .i64 gn, .int .i64 gr] 90)
          have hA := heap_new V (.cells #[.int .i64 gp, .int .i64 gn, .int .i64 gr] 90)
          have sA : (V.alloc (.cells #[.int .i64 gp, .int .i64 gn, .int .i64 gr] 90)).cell? ⟨w.heap.size + 1, 2, none⟩ = some (.int .i64 nn) := (bA.cell (p := ⟨w.heap.size + 1, 2, none⟩) (World.block_lt_of_cell? V _ s2)).trans s2
          generalize V.alloc (.cells #[.int .i64 gp, .int .i64 gn, .int .i64 gr] 90) = VA at *
          have a0 : VA.cell? ⟨V.heap.size, 0, none⟩ = some (.int .i64 gp) := by rw [cell_of_blk hA]; rfl
          have a1 : VA.cell? ⟨V.heap.size, 1, none⟩ = some (.int .i64 gn) := by rw [cell_of_blk hA]; rfl
          have HBA : Hid (Below V.heap.size V VA) := bA
          clear bA hA f0 f1 f2
          go_wp2_with fail
          have H1 : ∀ u, Calls Tryz.prog 21 #[.int .i64 nn, .int .i64 (64 * gn)] u fun e w' => e = .returned (.int .i64 pk2) ∧ w' = u := fun u => by rw [← HPK2.out]; exact pick_any nn (64 * gn) r3 (by omega) u
          go_quiet (first | (go_at_call 21; exact Calls.quiet_of_same (H1 _)))
          go_wp2_with fail
          go_meet
          refine ⟨?_, below_drewN HBA.out _⟩
          unfold addrP
          simp only [HRA.out]
          rw [if_pos HHL.out, HJ.out, Int.toNat_natCast, List.getElem?_eq_getElem hj1, HG.out]
          simp only []
          rw [HPK2.out]
      case rest =>
        obtain ⟨rfl, hwc⟩ := hcut
        have hab : -1000000 ≤ addrP ⟨n, ps, cs⟩ ⟨ki, pp, nn, bb, tx⟩ ∧ addrP ⟨n, ps, cs⟩ ⟨ki, pp, nn, bb, tx⟩ ≤ 1000000 := by
          have h4 := pickF_lt (c := nn) (n := 4096) (by omega)
          unfold addrP
          simp only [HRA.out]
          split
          · split
            · omega
            · rename_i g hg
              have hgm := HRO.out.1 g (List.mem_of_getElem? hg)
              unfold regB at hgm
              simp only [decide_eq_true_eq] at hgm
              have h5 := pickF_lt (c := nn) (n := 64 * g.pages) (by omega)
              omega
          · omega
        obtain ⟨ad, had⟩ : ∃ ad, addrP ⟨n, ps, cs⟩ ⟨ki, pp, nn, bb, tx⟩ = ad := ⟨_, rfl⟩
        have HAD : Hid (addrP ⟨n, ps, cs⟩ ⟨ki, pp, nn, bb, tx⟩ = ad) := had
        rw [had] at hab ⊢
        clear had
        have hsz := HZ3.out
        have hcz := hwc.size
        have HBC : Hid (Below w.heap.size w (wc.alloc (.cells #[.int .i64 0, .string ⟨#[]⟩, .bool false, .int .i64 0] 73))) := (HB3.out.trans (hwc.mono HB3.out.size)).trans ((newB wc _).mono (by omega))
        have HLB : Hid ((wc.alloc (.cells #[.int .i64 0, .string ⟨#[]⟩, .bool false, .int .i64 0] 73)).heap[wc.heap.size]? = some (.cells #[.int .i64 0, .string ⟨#[]⟩, .bool false, .int .i64 0] 73 (0, 0))) := heap_new wc _
        have HRB : Hid ((wc.alloc (.cells #[.int .i64 0, .string ⟨#[]⟩, .bool false, .int .i64 0] 73)).heap[w.heap.size + 1 + 1]? = some (.cells #[.int .i64 0, .string ⟨#[]⟩, .bool false, .int .i64 0] 73 (0, 0))) := keepN (keepN HRS.out hwc) (newB wc _)
        have hst : (wc.alloc (.cells #[.int .i64 0, .string ⟨#[]⟩, .bool false, .int .i64 0] 73)).heap[w.heap.size + 1]? = some (.cells #[.int .i64 ki, .int .i64 pp, .int .i64 nn, .int .i64 bb, .string tx] 71 (0, 0)) := keepN (keepN HST.out hwc) (newB wc _)
        have HLO : Hid (∀ k, ow k → k < w.heap.size) := I.low HK.out
        have HLZ : Hid ((wc.alloc (.cells #[.int .i64 0, .string ⟨#[]⟩, .bool false, .int .i64 0] 73)).heap.size = wc.heap.size + 1) := by simp [Hid]
        clear m1 m2 s0 s2 s3 s4 d4
        go_upto_region 11 with fail
        generalize wc.alloc (.cells #[.int .i64 0, .string ⟨#[]⟩, .bool false, .int .i64 0] 73) = WL at *
        have s0 : WL.cell? ⟨w.heap.size + 1, 0, none⟩ = some (.int .i64 ki) := by rw [cell_of_blk hst]; rfl
        have s3 : WL.cell? ⟨w.heap.size + 1, 3, none⟩ = some (.int .i64 bb) := by rw [cell_of_blk hst]; rfl
        have s4 : WL.cell? ⟨w.heap.size + 1, 4, none⟩ = some (.string tx) := by rw [cell_of_blk hst]; rfl
        have HKL : Hid (I.KV WL (.pointer (some a)) ⟨n, ps, cs⟩ S ow) := I.below HK.out HBC.out
        obtain ⟨lb, hlb⟩ : ∃ lb, wc.heap.size = lb := ⟨_, rfl⟩
        rw [hlb] at hcz HLZ HLB ⊢
        clear hlb hst hwc
        go_upto_block 0 with fail
        clear s0
        go_cut [] (fun wx => Hid (wx.heap[lb]? = some (.cells #[.int .i64 (doF ⟨n, ps, cs⟩ S ⟨ki, pp, nn, bb, tx⟩).1.n, .string (doF ⟨n, ps, cs⟩ S ⟨ki, pp, nn, bb, tx⟩).1.text, .bool (doF ⟨n, ps, cs⟩ S ⟨ki, pp, nn, bb, tx⟩).1.yes, .int .i64 (doF ⟨n, ps, cs⟩ S ⟨ki, pp, nn, bb, tx⟩).1.e] 73 (0, 0))) ∧ Hid (wx.heap[w.heap.size + 1 + 1]? = some (.cells #[.int .i64 0, .string ⟨#[]⟩, .bool false, .int .i64 0] 73 (0, 0))) ∧ Hid (Aft3 I.KV (.pointer (some a)) ⟨n, ps, cs⟩ (doF ⟨n, ps, cs⟩ S ⟨ki, pp, nn, bb, tx⟩).2 ow w WL wx))
        case first =>
          have HDO := doF_eq ⟨n, ps, cs⟩ S ki pp nn bb tx q cc ad (by rw [hpw.out, HQ.out]) HCC.out HAD.out
          by_cases k1 : ki = 1
          · subst k1
            go_wp2_with fail
            refine Calls.mono (I.tick HKL.out hs) ?_
            rintro e w1 ⟨rfl, hA⟩
            have hl1 := hA.far (w := w) HLO.out (by omega) HLB.out
            have hr1 := hA.far (w := w) HLO.out (by omega) HRB.out
            have hdo := HDO.k1 rfl
            clear HDO
            have HL1 : Hid (w1.heap[lb]? = some (.cells #[.int .i64 0, .string ⟨#[]⟩, .bool false, .int .i64 0] 73 (0, 0))) := hl1
            have HR1 : Hid (w1.heap[w.heap.size + 1 + 1]? = some (.cells #[.int .i64 0, .string ⟨#[]⟩, .bool false, .int .i64 0] 73 (0, 0))) := hr1
            have HA3 := Aft3.of HBC.out hA
            have HA : Hid _ := HA3
            have HDX : Hid _ := hdo
            clear hl1 hr1 hA HA3 hdo
            go_wp2_with fail
            go_meet
            rw [HDX.out]
            exact ⟨HL1.out, HR1.out, HA.out⟩
          by_cases k2 : ki = 2
          · subst k2
            go_wp2_with fail
            refine Calls.mono (I.read HKL.out hs (p := (q : Int)) (a := ad) (by unfold inR; omega) (by unfold inR; omega)) ?_
            rintro e w1 ⟨rfl, hA⟩
            have hl1 := hA.far (w := w) HLO.out (by omega) HLB.out
            have hr1 := hA.far (w := w) HLO.out (by omega) HRB.out
            have hdo := HDO.k2 rfl
            clear HDO
            obtain ⟨res, hres⟩ : ∃ res, readF ⟨n, ps, cs⟩ S q ad = res := ⟨_, rfl⟩
            rw [hres] at hA hdo ⊢
            clear hres
            obtain ⟨rn, re, rS⟩ := res
            have l0 : w1.cell? ⟨lb, 0, none⟩ = some (.int .i64 0) := by rw [cell_of_blk hl1]; rfl
            have lf0 := frozen_of_row w1 lb 0 _ _ hl1
            have l3 : w1.cell? ⟨lb, 3, none⟩ = some (.int .i64 0) := by rw [cell_of_blk hl1]; rfl
            have lf3 := frozen_of_row w1 lb 3 _ _ hl1
            have HL1 : Hid (w1.heap[lb]? = some (.cells #[.int .i64 0, .string ⟨#[]⟩, .bool false, .int .i64 0] 73 (0, 0))) := hl1
            have HR1 : Hid (w1.heap[w.heap.size + 1 + 1]? = some (.cells #[.int .i64 0, .string ⟨#[]⟩, .bool false, .int .i64 0] 73 (0, 0))) := hr1
            have HA3 := Aft3.of HBC.out hA
            have HA : Hid _ := HA3
            have HDX : Hid _ := hdo
            clear hl1 hr1 hA HA3 hdo
            go_wp2_with fail
            go_meet
            rw [HDX.out]
            exact ⟨(blk_set 3 (.int .i64 re) (blk_set 0 (.int .i64 rn) HL1.out)), ((blk_far 3 (.int .i64 re) (show w.heap.size + 1 + 1 ≠ lb by omega)).trans ((blk_far 0 (.int .i64 rn) (show w.heap.size + 1 + 1 ≠ lb by omega)).trans HR1.out)), (Aft3.set I (Aft3.set I HA.out HLO.out (b := lb) (by omega) (by have := HLZ.out; omega) 0 (.int .i64 rn)) HLO.out (b := lb) (by omega) (by have := HLZ.out; omega) 3 (.int .i64 re))⟩
          by_cases k3 : ki = 3
          · subst k3
            go_wp2_with fail
            refine Calls.mono (I.write HKL.out hs (p := (q : Int)) (a := ad) (b := bb) (by unfold inR; omega) (by unfold inR; omega) r4) ?_
            rintro e w1 ⟨rfl, hA⟩
            have hl1 := hA.far (w := w) HLO.out (by omega) HLB.out
            have hr1 := hA.far (w := w) HLO.out (by omega) HRB.out
            have hdo := HDO.k3 rfl
            clear HDO
            obtain ⟨res, hres⟩ : ∃ res, writeF ⟨n, ps, cs⟩ S q ad bb = res := ⟨_, rfl⟩
            rw [hres] at hA hdo ⊢
            clear hres
            obtain ⟨re, rS⟩ := res
            have l3 : w1.cell? ⟨lb, 3, none⟩ = some (.int .i64 0) := by rw [cell_of_blk hl1]; rfl
            have lf3 := frozen_of_row w1 lb 3 _ _ hl1
            have HL1 : Hid (w1.heap[lb]? = some (.cells #[.int .i64 0, .string ⟨#[]⟩, .bool false, .int .i64 0] 73 (0, 0))) := hl1
            have HR1 : Hid (w1.heap[w.heap.size + 1 + 1]? = some (.cells #[.int .i64 0, .string ⟨#[]⟩, .bool false, .int .i64 0] 73 (0, 0))) := hr1
            have HA3 := Aft3.of HBC.out hA
            have HA : Hid _ := HA3
            have HDX : Hid _ := hdo
            clear hl1 hr1 hA HA3 hdo
            go_wp2_with fail
            go_meet
            rw [HDX.out]
            exact ⟨(blk_set 3 (.int .i64 re) HL1.out), ((blk_far 3 (.int .i64 re) (show w.heap.size + 1 + 1 ≠ lb by omega)).trans HR1.out), (Aft3.set I HA.out HLO.out (b := lb) (by omega) (by have := HLZ.out; omega) 3 (.int .i64 re))⟩
          by_cases k4 : ki = 4
          · subst k4
            go_wp2_with fail
            refine Calls.mono (cut_any tx r5 WL) ?_
            rintro e V9 ⟨rfl, hV9⟩
            have hV8 := hV9.symm
            clear hV9
            subst hV8
            have hct : (cutF tx).size ≤ 9223372036854775807 := cut_size tx r5
            go_wp2_with fail
            refine Calls.mono (I.send HKL.out hs (p := (q : Int)) (c := cc) (s := cutF tx) (by unfold inR; omega) (by unfold inR; omega) hct) ?_
            rintro e w1 ⟨rfl, hA⟩
            have hl1 := hA.far (w := w) HLO.out (by omega) HLB.out
            have hr1 := hA.far (w := w) HLO.out (by omega) HRB.out
            have hdo := HDO.k4 rfl
            clear HDO
            obtain ⟨res, hres⟩ : ∃ res, sendF ⟨n, ps, cs⟩ S q cc (cutF tx) = res := ⟨_, rfl⟩
            rw [hres] at hA hdo ⊢
            clear hres
            obtain ⟨re, rS⟩ := res
            have l3 : w1.cell? ⟨lb, 3, none⟩ = some (.int .i64 0) := by rw [cell_of_blk hl1]; rfl
            have lf3 := frozen_of_row w1 lb 3 _ _ hl1
            have HL1 : Hid (w1.heap[lb]? = some (.cells #[.int .i64 0, .string ⟨#[]⟩, .bool false, .int .i64 0] 73 (0, 0))) := hl1
            have HR1 : Hid (w1.heap[w.heap.size + 1 + 1]? = some (.cells #[.int .i64 0, .string ⟨#[]⟩, .bool false, .int .i64 0] 73 (0, 0))) := hr1
            have HA3 := Aft3.of HBC.out hA
            have HA : Hid _ := HA3
            have HDX : Hid _ := hdo
            clear hl1 hr1 hA HA3 hdo
            go_wp2_with fail
            go_meet
            rw [HDX.out]
            exact ⟨(blk_set 3 (.int .i64 re) HL1.out), ((blk_far 3 (.int .i64 re) (show w.heap.size + 1 + 1 ≠ lb by omega)).trans HR1.out), (Aft3.set I HA.out HLO.out (b := lb) (by omega) (by have := HLZ.out; omega) 3 (.int .i64 re))⟩
          by_cases k5 : ki = 5
          · subst k5
            go_wp2_with fail
            refine Calls.mono (I.recv HKL.out hs (p := (q : Int)) (c := cc) (by unfold inR; omega) (by unfold inR; omega)) ?_
            rintro e w1 ⟨rfl, hA⟩
            have hl1 := hA.far (w := w) HLO.out (by omega) HLB.out
            have hr1 := hA.far (w := w) HLO.out (by omega) HRB.out
            have hdo := HDO.k5 rfl
            clear HDO
            obtain ⟨res, hres⟩ : ∃ res, recvF ⟨n, ps, cs⟩ S q cc = res := ⟨_, rfl⟩
            rw [hres] at hA hdo ⊢
            clear hres
            obtain ⟨⟨rt, ry, re⟩, rS⟩ := res
            have l1 : w1.cell? ⟨lb, 1, none⟩ = some (.string ⟨#[]⟩) := by rw [cell_of_blk hl1]; rfl
            have lf1 := frozen_of_row w1 lb 1 _ _ hl1
            have l2 : w1.cell? ⟨lb, 2, none⟩ = some (.bool false) := by rw [cell_of_blk hl1]; rfl
            have lf2 := frozen_of_row w1 lb 2 _ _ hl1
            have l3 : w1.cell? ⟨lb, 3, none⟩ = some (.int .i64 0) := by rw [cell_of_blk hl1]; rfl
            have lf3 := frozen_of_row w1 lb 3 _ _ hl1
            have HL1 : Hid (w1.heap[lb]? = some (.cells #[.int .i64 0, .string ⟨#[]⟩, .bool false, .int .i64 0] 73 (0, 0))) := hl1
            have HR1 : Hid (w1.heap[w.heap.size + 1 + 1]? = some (.cells #[.int .i64 0, .string ⟨#[]⟩, .bool false, .int .i64 0] 73 (0, 0))) := hr1
            have HA3 := Aft3.of HBC.out hA
            have HA : Hid _ := HA3
            have HDX : Hid _ := hdo
            clear hl1 hr1 hA HA3 hdo
            go_wp2_with fail
            go_meet
            rw [HDX.out]
            exact ⟨(blk_set 3 (.int .i64 re) (blk_set 2 (.bool ry) (blk_set 1 (.string rt) HL1.out))), ((blk_far 3 (.int .i64 re) (show w.heap.size + 1 + 1 ≠ lb by omega)).trans ((blk_far 2 (.bool ry) (show w.heap.size + 1 + 1 ≠ lb by omega)).trans ((blk_far 1 (.string rt) (show w.heap.size + 1 + 1 ≠ lb by omega)).trans HR1.out))), (Aft3.set I (Aft3.set I (Aft3.set I HA.out HLO.out (b := lb) (by omega) (by have := HLZ.out; omega) 1 (.string rt)) HLO.out (b := lb) (by omega) (by have := HLZ.out; omega) 2 (.bool ry)) HLO.out (b := lb) (by omega) (by have := HLZ.out; omega) 3 (.int .i64 re))⟩
          by_cases k6 : ki = 6
          · subst k6
            go_wp2_with fail
            refine Calls.mono (I.raise HKL.out hs (p := (q : Int)) (by unfold inR; omega)) ?_
            rintro e w1 ⟨rfl, hA⟩
            have hl1 := hA.far (w := w) HLO.out (by omega) HLB.out
            have hr1 := hA.far (w := w) HLO.out (by omega) HRB.out
            have hdo := HDO.k6 rfl
            clear HDO
            obtain ⟨res, hres⟩ : ∃ res, raiseF ⟨n, ps, cs⟩ S q = res := ⟨_, rfl⟩
            rw [hres] at hA hdo ⊢
            clear hres
            obtain ⟨re, rS⟩ := res
            have l3 : w1.cell? ⟨lb, 3, none⟩ = some (.int .i64 0) := by rw [cell_of_blk hl1]; rfl
            have lf3 := frozen_of_row w1 lb 3 _ _ hl1
            have HL1 : Hid (w1.heap[lb]? = some (.cells #[.int .i64 0, .string ⟨#[]⟩, .bool false, .int .i64 0] 73 (0, 0))) := hl1
            have HR1 : Hid (w1.heap[w.heap.size + 1 + 1]? = some (.cells #[.int .i64 0, .string ⟨#[]⟩, .bool false, .int .i64 0] 73 (0, 0))) := hr1
            have HA3 := Aft3.of HBC.out hA
            have HA : Hid _ := HA3
            have HDX : Hid _ := hdo
            clear hl1 hr1 hA HA3 hdo
            go_wp2_with fail
            go_meet
            rw [HDX.out]
            exact ⟨(blk_set 3 (.int .i64 re) HL1.out), ((blk_far 3 (.int .i64 re) (show w.heap.size + 1 + 1 ≠ lb by omega)).trans HR1.out), (Aft3.set I HA.out HLO.out (b := lb) (by omega) (by have := HLZ.out; omega) 3 (.int .i64 re))⟩
          have hdo := HDO.k0 k1 k2 k3 k4 k5 k6
          have HDX : Hid _ := hdo
          clear HDO hdo
          go_wp2_with fail
          go_meet
          rw [HDX.out]
          exact ⟨HLB.out, HRB.out, ⟨⟨ow, HKL.out, newO.refl _ _⟩, Frm.all _ HBC.out, HBC.out.size⟩⟩
        case rest =>
          obtain ⟨HXL, HXR, HX3⟩ := hcut
          obtain ⟨dres, hd⟩ : ∃ d, doF ⟨n, ps, cs⟩ S ⟨ki, pp, nn, bb, tx⟩ = d := ⟨_, rfl⟩
          have HDX : Hid (doF ⟨n, ps, cs⟩ S ⟨ki, pp, nn, bb, tx⟩ = dres) := hd
          rw [hd] at HXL HX3
          clear hd
          obtain ⟨⟨an, at_, ay, ae⟩, dS⟩ := dres
          simp only [] at HXL HX3
          have l0 : wc.cell? ⟨lb, 0, none⟩ = some (.int .i64 an) := by rw [cell_of_blk HXL.out]; rfl
          have l1 : wc.cell? ⟨lb, 1, none⟩ = some (.string at_) := by rw [cell_of_blk HXL.out]; rfl
          have l2 : wc.cell? ⟨lb, 2, none⟩ = some (.bool ay) := by rw [cell_of_blk HXL.out]; rfl
          have l3 : wc.cell? ⟨lb, 3, none⟩ = some (.int .i64 ae) := by rw [cell_of_blk HXL.out]; rfl
          have c0 : wc.cell? ⟨w.heap.size + 1 + 1, 0, none⟩ = some (.int .i64 0) := by rw [cell_of_blk HXR.out]; rfl
          have c1 : wc.cell? ⟨w.heap.size + 1 + 1, 1, none⟩ = some (.string ⟨#[]⟩) := by rw [cell_of_blk HXR.out]; rfl
          have c2 : wc.cell? ⟨w.heap.size + 1 + 1, 2, none⟩ = some (.bool false) := by rw [cell_of_blk HXR.out]; rfl
          have c3 : wc.cell? ⟨w.heap.size + 1 + 1, 3, none⟩ = some (.int .i64 0) := by rw [cell_of_blk HXR.out]; rfl
          have cf := fun i => frozen_of_row wc (w.heap.size + 1 + 1) i _ _ HXR.out
          have cf0 := cf 0
          have cf1 := cf 1
          have cf2 := cf 2
          have cf3 := cf 3
          clear cf
          go_wp2_with fail
          have hb4 := blk_set 3 (.int .i64 ae) (blk_set 2 (.bool ay) (blk_set 1 (.string at_) (blk_set 0 (.int .i64 an) HXR.out)))
          have h4 := Aft3.set I (Aft3.set I (Aft3.set I (Aft3.set I HX3.out HLO.out (b := w.heap.size + 1 + 1) (by omega) (by have := HLZ.out; omega) 0 (.int .i64 an)) HLO.out (b := w.heap.size + 1 + 1) (by omega) (by have := HLZ.out; omega) 1 (.string at_)) HLO.out (b := w.heap.size + 1 + 1) (by omega) (by have := HLZ.out; omega) 2 (.bool ay)) HLO.out (b := w.heap.size + 1 + 1) (by omega) (by have := HLZ.out; omega) 3 (.int .i64 ae)
          have H4 : Hid _ := h4
          clear l0 l1 l2 l3 c0 c1 c2 c3 cf0 cf1 cf2 cf3 h4
          generalize (((wc.setCell ⟨w.heap.size + 1 + 1, 0, none⟩ (.int .i64 an)).setCell ⟨w.heap.size + 1 + 1, 1, none⟩ (.string at_)).setCell ⟨w.heap.size + 1 + 1, 2, none⟩ (.bool ay)).setCell ⟨w.heap.size + 1 + 1, 3, none⟩ (.int .i64 ae) = W9 at *
          have e0 : W9.cell? ⟨w.heap.size + 1 + 1, 0, none⟩ = some (.int .i64 an) := by rw [cell_of_blk hb4]; rfl
          have e1 : W9.cell? ⟨w.heap.size + 1 + 1, 1, none⟩ = some (.string at_) := by rw [cell_of_blk hb4]; rfl
          have e2 : W9.cell? ⟨w.heap.size + 1 + 1, 2, none⟩ = some (.bool ay) := by rw [cell_of_blk hb4]; rfl
          have e3 : W9.cell? ⟨w.heap.size + 1 + 1, 3, none⟩ = some (.int .i64 ae) := by rw [cell_of_blk hb4]; rfl
          refine bodyPost_ret (v := .agg #[.int .i64 an, .string at_, .bool ay, .int .i64 ae]) (by simp [results, Tryz.results27, go_sem, *]) rfl ?_
          rw [HDX.out]
          exact ⟨rfl, H4.out.fin⟩
end Go.Proofs.YteioennfpkoagaaGreatDoor.C
namespace Go.Proofs.YteioennfpkoagaaGreatDoor.C

/- from whom a way leads -/
def upB (S : Nat → Bool) (i : Nat) : Nat → Bool := fun q => if q = i then true else S q
def chanL (S : Nat → Bool) (c : ChanD) : Nat → Bool :=
  let T := if S c.target.toNat = true then upB S c.source.toNat else S
  if T c.source.toNat = true ∧ c.kind = 1 then upB T c.target.toNat else T
def roundL (cs : List ChanD) (S : Nat → Bool) : Nat → Bool := cs.foldl chanL S
def leadL (cs : List ChanD) (S : Nat → Bool) : Nat → (Nat → Bool)
  | 0 => S
  | r + 1 => roundL cs (leadL cs S r)
def leB (S T : Nat → Bool) : Prop := ∀ q, S q = true → T q = true
theorem leB.trans {S T U : Nat → Bool} (h : leB S T) (g : leB T U) : leB S U := fun q hq => g q (h q hq)
theorem leB_up (S : Nat → Bool) (i : Nat) : leB S (upB S i) := fun q hq => by
  unfold upB
  split
  · rfl
  · exact hq
theorem chanL_le (S : Nat → Bool) (c : ChanD) : leB S (chanL S c) := by
  have h1 : leB S (if S c.target.toNat = true then upB S c.source.toNat else S) := by
    split
    · exact leB_up _ _
    · exact fun _ h => h
  unfold chanL
  generalize (if S c.target.toNat = true then upB S c.source.toNat else S) = T at *
  simp only []
  split
  · exact h1.trans (leB_up _ _)
  · exact h1
theorem roundL_le (cs : List ChanD) (S : Nat → Bool) : leB S (roundL cs S) := by
  induction cs generalizing S with
  | nil => exact fun _ h => h
  | cons c cs ih => exact (chanL_le S c).trans (ih _)
def EndsB (n : Nat) (cs : List ChanD) : Prop := ∀ x ∈ cs, x.source.toNat < n ∧ x.target.toNat < n
def sameB (n : Nat) (S T : Nat → Bool) : Prop := ∀ q, q < n → S q = T q
def shutB (cs : List ChanD) (S : Nat → Bool) : Prop :=
  ∀ x ∈ cs, (S x.target.toNat = true → S x.source.toNat = true) ∧ (x.kind = 1 → S x.source.toNat = true → S x.target.toNat = true)
theorem chanL_shut {S : Nat → Bool} {c : ChanD} (h1 : S c.target.toNat = true → S c.source.toNat = true) (h2 : c.kind = 1 → S c.source.toNat = true → S c.target.toNat = true) : ∀ q, chanL S c q = S q := by
  intro q
  have e1 : (if S c.target.toNat = true then upB S c.source.toNat else S) = S := by
    split
    · rename_i h
      funext x
      unfold upB
      split
      · rename_i e; rw [e, h1 h]
      · rfl
    · rfl
  unfold chanL
  simp only [e1]
  split
  · rename_i h
    unfold upB
    split
    · rename_i e; rw [e, h2 h.2 h.1]
    · rfl
  · rfl
theorem roundL_shut {cs : List ChanD} {S : Nat → Bool} (h : shutB cs S) : roundL cs S = S := by
  induction cs with
  | nil => rfl
  | cons c cs ih =>
    have e : chanL S c = S := funext (chanL_shut (h c (by simp)).1 (h c (by simp)).2)
    show roundL cs (chanL S c) = S
    rw [e]
    exact ih fun x hx => h x (by simp [hx])
theorem leB_same {n : Nat} {S T U : Nat → Bool} (h1 : leB S T) (h2 : leB T U) (h : sameB n S U) : sameB n S T ∧ sameB n T U := by
  refine ⟨fun q hq => ?_, fun q hq => ?_⟩
  · have := h q hq
    cases hs : S q
    · cases ht : T q
      · rfl
      · rw [hs, h2 q ht] at this; cases this
    · exact (h1 q hs).symm
  · have := h q hq
    cases ht : T q
    · cases hu : U q
      · rfl
      · rw [hu] at this
        have := h1 q this
        rw [ht] at this; cases this
    · exact (h2 q ht).symm
theorem chanL_same {n : Nat} {S : Nat → Bool} {c : ChanD} (hs : c.source.toNat < n) (ht : c.target.toNat < n) (h : sameB n S (chanL S c)) :
    (S c.target.toNat = true → S c.source.toNat = true) ∧ (c.kind = 1 → S c.source.toNat = true → S c.target.toNat = true) := by
  have a := h _ hs
  have b := h _ ht
  unfold chanL at a b
  refine ⟨fun h1 => ?_, fun hk h1 => ?_⟩
  · rw [a, if_pos h1]
    split
    · unfold upB; split
      · rfl
      · simp
    · unfold upB; simp
  · rw [b]
    have : (if S c.target.toNat = true then upB S c.source.toNat else S) c.source.toNat = true := by
      split
      · unfold upB; simp
      · exact h1
    rw [if_pos ⟨this, hk⟩]
    unfold upB; simp
theorem roundL_same {n : Nat} {cs : List ChanD} {S : Nat → Bool} (he : EndsB n cs) (h : sameB n S (roundL cs S)) : shutB cs S := by
  induction cs generalizing S with
  | nil => intro x hx; cases hx
  | cons c cs ih =>
    have hc := he c (by simp)
    obtain ⟨h1, h2⟩ := leB_same (chanL_le S c) (roundL_le cs (chanL S c)) h
    have h3 := chanL_same hc.1 hc.2 h1
    have e : chanL S c = S := funext (chanL_shut h3.1 h3.2)
    rw [e] at h2
    have h4 := ih (fun x hx => he x (by simp [hx])) h2
    intro x hx
    rcases List.mem_cons.1 hx with rfl | hx
    · exact h3
    · exact h4 x hx
def cntB (S : Nat → Bool) : Nat → Nat
  | 0 => 0
  | n + 1 => cntB S n + if S n = true then 1 else 0
theorem cntB_le (S : Nat → Bool) (n : Nat) : cntB S n ≤ n := by
  induction n with
  | zero => exact Nat.le_refl _
  | succ n ih => simp only [cntB]; split <;> omega
theorem cntB_mono {S T : Nat → Bool} (h : leB S T) (n : Nat) : cntB S n ≤ cntB T n ∧ (cntB S n = cntB T n → sameB n S T) := by
  induction n with
  | zero => exact ⟨Nat.le_refl _, fun _ q hq => by omega⟩
  | succ n ih =>
    simp only [cntB]
    have hn := h n
    refine ⟨?_, fun he q hq => ?_⟩
    · by_cases h1 : S n = true
      · rw [if_pos h1, if_pos (hn h1)]; omega
      · rw [if_neg h1]; omega
    · by_cases h1 : S n = true
      · rw [if_pos h1, if_pos (hn h1)] at he
        rcases Nat.lt_or_ge q n with h2 | h2
        · exact ih.2 (by omega) q h2
        · have : q = n := by omega
          rw [this, h1, hn h1]
      · rw [if_neg h1] at he
        by_cases h3 : T n = true
        · rw [if_pos h3] at he; omega
        · rw [if_neg h3] at he
          rcases Nat.lt_or_ge q n with h2 | h2
          · exact ih.2 (by omega) q h2
          · have : q = n := by omega
            rw [this]
            simp at h1 h3
            rw [h1, h3]
theorem cntB_pos {S : Nat → Bool} {i n : Nat} (hi : i < n) (h : S i = true) : 1 ≤ cntB S n := by
  induction n with
  | zero => omega
  | succ n ih =>
    simp only [cntB]
    rcases Nat.lt_or_ge i n with h1 | h1
    · have := ih h1; omega
    · have : i = n := by omega
      rw [← this, if_pos h]; omega
theorem leadL_shut {n : Nat} {cs : List ChanD} {S : Nat → Bool} {i : Nat} (he : EndsB n cs) (hi : i < n) (hS : S i = true) : shutB cs (leadL cs S n) := by
  have key : ∀ r, shutB cs (leadL cs S r) ∨ r + 1 ≤ cntB (leadL cs S r) n := by
    intro r
    induction r with
    | zero => exact .inr (cntB_pos hi hS)
    | succ r ih =>
      rcases ih with h | h
      · left
        show shutB cs (roundL cs (leadL cs S r))
        rw [roundL_shut h]; exact h
      · have hm := cntB_mono (roundL_le cs (leadL cs S r)) n
        by_cases e : cntB (leadL cs S r) n = cntB (roundL cs (leadL cs S r)) n
        · left
          have hsh := roundL_same he (hm.2 e)
          show shutB cs (roundL cs (leadL cs S r))
          rw [roundL_shut hsh]; exact hsh
        · right
          show r + 1 + 1 ≤ cntB (roundL cs (leadL cs S r)) n
          have := hm.1; omega
  rcases key n with h | h
  · exact h
  · have := cntB_le (leadL cs S n) n; omega
theorem leadL_le (cs : List ChanD) (S : Nat → Bool) (r : Nat) : leB S (leadL cs S r) := by
  induction r with
  | zero => exact fun _ h => h
  | succ r ih => exact ih.trans (roundL_le _ _)
theorem shut_of {D : ManD} {S : Nat → Bool} (h : shutB D.chans S) : Shut D (fun q => S q = true) :=
  ⟨fun _ x hx => (h x (List.mem_of_getElem? hx)).1, fun _ x hx hk => (h x (List.mem_of_getElem? hx)).2 hk⟩
end Go.Proofs.YteioennfpkoagaaGreatDoor.C
