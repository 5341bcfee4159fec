import Derived.Test.YteioennfpkoagabGreatDoorH18
import Derived.Deep.DeepCutAuto
import Derived.Deep.CutBlock
import Derived.Test.YteioennfpkoagabGreatDoorH16
import Derived.Test.YteioennfpkoagabGreatDoorH07
import Derived.Test.YteioennfpkoagabGreatDoorH05
namespace Go.Proofs.YteioennfpkoagabGreatDoor.C
open Go.RowKit K
attribute [local go_sem ↓] Go.wp_at_zero Go.wp_at_succ

theorem cut_any (s : ByteArray) (hs : s.size ≤ 9223372036854775807) (w : World) :
    Calls Tryz.prog 23 #[.string s] w fun e w' => e = .returned (.string (cutF s)) ∧ w' = w := by
  by_cases h : 8 < s.size
  · have h' : (8 : Int) < (s.size : Int) := by omega
    go_enter Tryz.func23, Tryz.ntmps23
    go_wp2_with fail
    go_ret
    refine ⟨?_, rfl⟩
    unfold cutF
    rw [if_pos h]
    rfl
  · have h' : ¬ (8 : Int) < (s.size : Int) := by omega
    go_enter Tryz.func23, Tryz.ntmps23
    go_wp2_with fail
    go_ret
    refine ⟨?_, rfl⟩
    unfold cutF
    rw [if_neg h]
    rfl
def stepV (o : StepD) : Value := .agg #[.int .i64 o.kind, .int .i64 o.p, .int .i64 o.n, .int .i64 o.b, .string o.text]
def ansV (x : AnsD) : Value := .agg #[.int .i64 x.n, .string x.text, .bool x.yes, .int .i64 x.e]
structure StepR (o : StepD) : Prop where
  kind : inR o.kind
  p : inR o.p
  n : inR o.n
  b : inR o.b
  text : o.text.size ≤ 9223372036854775807
theorem cut_size (s : ByteArray) (h : s.size ≤ 9223372036854775807) : (cutF s).size ≤ 9223372036854775807 := by
  unfold cutF
  split
  · simp [ByteArray.size_extract]; omega
  · exact h
structure DoEq (D : ManD) (S : KS) (o : StepD) (q : Nat) (cc ad : Int) : Prop where
  k1 : o.kind = 1 → doF D S o = (ans0, tickK S)
  k2 : o.kind = 2 → doF D S o = (⟨(readF D S q ad).1, ⟨#[]⟩, false, (readF D S q ad).2.1⟩, (readF D S q ad).2.2)
  k3 : o.kind = 3 → doF D S o = (⟨0, ⟨#[]⟩, false, (writeF D S q ad o.b).1⟩, (writeF D S q ad o.b).2)
  k4 : o.kind = 4 → doF D S o = (⟨0, ⟨#[]⟩, false, (sendF D S q cc (cutF o.text)).1⟩, (sendF D S q cc (cutF o.text)).2)
  k5 : o.kind = 5 → doF D S o = (⟨0, (recvF D S q cc).1.1, (recvF D S q cc).1.2.1, (recvF D S q cc).1.2.2⟩, (recvF D S q cc).2)
  k6 : o.kind = 6 → doF D S o = (⟨0, ⟨#[]⟩, false, (raiseF D S q).1⟩, (raiseF D S q).2)
  k0 : ¬ o.kind = 1 → ¬ o.kind = 2 → ¬ o.kind = 3 → ¬ o.kind = 4 → ¬ o.kind = 5 → ¬ o.kind = 6 → doF D S o = (ans0, S)
theorem doF_eq (D : ManD) (S : KS) (ki pp nn bb : Int) (tx : ByteArray) (q : Nat) (cc ad : Int) (hq : whoP D ⟨ki, pp, nn, bb, tx⟩ = q) (hc : chanP D ⟨ki, pp, nn, bb, tx⟩ = cc) (ha : addrP D ⟨ki, pp, nn, bb, tx⟩ = ad) : DoEq D S ⟨ki, pp, nn, bb, tx⟩ q cc ad := by
  constructor <;> intros <;> unfold doF <;> simp_all <;> rfl
set_option maxRecDepth 100000 in
set_option maxHeartbeats 8000000 in
theorem do_any (I : KerI) (w : World) (n : Nat) (ps : List PartD) (cs : List ChanD) (pv cv : Value) (hp : PartsV w pv ps) (hc : ChansV w cv cs) (hz : checkF ⟨n, ps, cs⟩ = 0) (hne : ps ≠ []) (v : Value) (S : KS) (ow : Nat → Prop) (hk : I.KV w v ⟨n, ps, cs⟩ S ow) (hs : SmallK bigK S) (o : StepD) (ho : StepR o) :
    Calls Tryz.prog 8 #[v, .agg #[.int .i64 n, pv, cv], stepV o] w fun e w' => e = .returned (ansV (doF ⟨n, ps, cs⟩ S o).1) ∧ Aft I.KV v ⟨n, ps, cs⟩ (doF ⟨n, ps, cs⟩ S o).2 ow w w' := by
  have hco := check_ok hz
  have hpl : ps.length ≤ 8 := hco.2.2.1
  have hcl : cs.length ≤ 8 := hco.2.2.2.1
  have hpos : 0 < ps.length := List.length_pos_iff.2 hne
  have HCO : Hid (∀ k (hk : k < ps.length), ps[k].regs.length ≤ 4 ∧ partErr n (ps.take k) ps[k] = 0) := hco.2.2.2.2.1
  have HP : Hid (PartsV w pv ps) := hp
  have HC : Hid (ChansV w cv cs) := hc
  have HK : Hid (I.KV w v ⟨n, ps, cs⟩ S ow) := hk
  obtain ⟨va, cap, rfl, hx⟩ := hp
  clear hx
  obtain ⟨ca, ck, rfl, hx⟩ := hc
  clear hx hk hco hz hne
  obtain ⟨a, rfl⟩ := I.ptr HK.out
  obtain ⟨r1, r2, r3, r4, r5⟩ := ho
  have HO : Hid (StepR o) := ⟨r1, r2, r3, r4, r5⟩
  obtain ⟨ki, pp, nn, bb, tx⟩ := o
  simp only [] at r1 r2 r3 r4 r5
  unfold stepV
  have hpw : Hid (whoP ⟨n, ps, cs⟩ ⟨ki, pp, nn, bb, tx⟩ = pickF pp ps.length) := rfl
  obtain ⟨q, hq, hq1⟩ : ∃ q : Nat, pickF pp ps.length = q ∧ q < ps.length := by
    have := pickF_lt (c := pp) (n := ps.length) (by omega)
    exact ⟨(pickF pp ps.length).toNat, by omega, by omega⟩
  have HQ : Hid (pickF pp ps.length = q) := hq
  clear hq
  go_enter Tryz.func8, Tryz.ntmps8
  go_wp2_with fail
  have b1 := newB w (.cells #[.int .i64 n, .slice va ps.length cap, .slice ca cs.length ck] 31)
  have h1 := heap_new w (.cells #[.int .i64 n, .slice va ps.length cap, .slice ca cs.length ck] 31)
  have z1 : (w.alloc (.cells #[.int .i64 n, .slice va ps.length cap, .slice ca cs.length ck] 31)).heap.size = w.heap.size + 1 := by simp
  generalize w.alloc (.cells #[.int .i64 n, .slice va ps.length cap, .slice ca cs.length ck] 31) = V1 at *
  have b2 := newB V1 (.cells #[.int .i64 ki, .int .i64 pp, .int .i64 nn, .int .i64 bb, .string tx] 41)
  have h2 := heap_new V1 (.cells #[.int .i64 ki, .int .i64 pp, .int .i64 nn, .int .i64 bb, .string tx] 41)
  have z2 : (V1.alloc (.cells #[.int .i64 ki, .int .i64 pp, .int .i64 nn, .int .i64 bb, .string tx] 41)).heap.size = w.heap.size + 1 + 1 := by simp; omega
  generalize V1.alloc (.cells #[.int .i64 ki, .int .i64 pp, .int .i64 nn, .int .i64 bb, .string tx] 41) = V2 at *
  have b3 := newB V2 (.cells #[.int .i64 0, .string ⟨#[]⟩, .bool false, .int .i64 0] 38)
  have h3 := heap_new V2 (.cells #[.int .i64 0, .string ⟨#[]⟩, .bool false, .int .i64 0] 38)
  have z3 : (V2.alloc (.cells #[.int .i64 0, .string ⟨#[]⟩, .bool false, .int .i64 0] 38)).heap.size = w.heap.size + 3 := by simp; omega
  rw [z1] at h2
  rw [z2] at h3
  have HB3 : Hid (Below w.heap.size w (V2.alloc (.cells #[.int .i64 0, .string ⟨#[]⟩, .bool false, .int .i64 0] 38))) := (b1.trans (b2.mono (by omega))).trans (b3.mono (by omega))
  have HM : Hid ((V2.alloc (.cells #[.int .i64 0, .string ⟨#[]⟩, .bool false, .int .i64 0] 38)).heap[w.heap.size]? = some (.cells #[.int .i64 n, .slice va ps.length cap, .slice ca cs.length ck] 31 (0, 0))) := keepN (keepN h1 b2) b3
  have HST : Hid ((V2.alloc (.cells #[.int .i64 0, .string ⟨#[]⟩, .bool false, .int .i64 0] 38)).heap[w.heap.size + 1]? = some (.cells #[.int .i64 ki, .int .i64 pp, .int .i64 nn, .int .i64 bb, .string tx] 41 (0, 0))) := keepN h2 b3
  have HRS : Hid ((V2.alloc (.cells #[.int .i64 0, .string ⟨#[]⟩, .bool false, .int .i64 0] 38)).heap[w.heap.size + 1 + 1]? = some (.cells #[.int .i64 0, .string ⟨#[]⟩, .bool false, .int .i64 0] 38 (0, 0))) := h3
  have HZ3 : Hid ((V2.alloc (.cells #[.int .i64 0, .string ⟨#[]⟩, .bool false, .int .i64 0] 38)).heap.size = w.heap.size + 3) := z3
  generalize V2.alloc (.cells #[.int .i64 0, .string ⟨#[]⟩, .bool false, .int .i64 0] 38) = V3 at *
  clear b1 b2 b3 h1 h2 h3 z1 z2 z3
  refine Calls.mono (pick_any pp ps.length r2 (by omega) V3) ?_
  rintro e V ⟨rfl, rfl⟩
  rw [HQ.out]
  have m1 : V.cell? ⟨w.heap.size, 1, none⟩ = some (.slice va ps.length cap) := by rw [cell_of_blk HM.out]; rfl
  have m2 : V.cell? ⟨w.heap.size, 2, none⟩ = some (.slice ca cs.length ck) := by rw [cell_of_blk HM.out]; rfl
  have s0 : V.cell? ⟨w.heap.size + 1, 0, none⟩ = some (.int .i64 ki) := by rw [cell_of_blk HST.out]; rfl
  have s2 : V.cell? ⟨w.heap.size + 1, 2, none⟩ = some (.int .i64 nn) := by rw [cell_of_blk HST.out]; rfl
  have s3 : V.cell? ⟨w.heap.size + 1, 3, none⟩ = some (.int .i64 bb) := by rw [cell_of_blk HST.out]; rfl
  have s4 : V.cell? ⟨w.heap.size + 1, 4, none⟩ = some (.string tx) := by rw [cell_of_blk HST.out]; rfl
  go_upto_if 22 with fail
  go_cut [8] (fun c wc => c = .int .i64 (chanP ⟨n, ps, cs⟩ ⟨ki, pp, nn, bb, tx⟩) ∧ wc = V)
  case first =>
    by_cases hcz : 0 < cs.length
    · have hcz' : (0 : Int) < (cs.length : Int) := by omega
      go_wp2_with fail
      refine Calls.mono (pick_any nn cs.length r3 (by omega) V) ?_
      rintro e V' ⟨rfl, rfl⟩
      go_wp2_with fail
      go_meet
      refine ⟨?_, rfl⟩
      unfold chanP
      rw [if_pos hcz]
    · have hcz' : ¬ (0 : Int) < (cs.length : Int) := by omega
      go_wp2_with fail
      go_meet
      refine ⟨?_, rfl⟩
      unfold chanP
      rw [if_neg hcz]
  case rest =>
    obtain ⟨rfl, hwc⟩ := hcut
    have hwc2 := hwc.symm
    clear hwc
    subst hwc2
    have hcb : -1000 ≤ chanP ⟨n, ps, cs⟩ ⟨ki, pp, nn, bb, tx⟩ ∧ chanP ⟨n, ps, cs⟩ ⟨ki, pp, nn, bb, tx⟩ ≤ 1000 := by
      unfold chanP
      split
      · rename_i h
        have := pickF_lt (c := nn) (n := cs.length) (by simp only [] at h; omega)
        simp only [] at *
        omega
      · omega
    obtain ⟨cc, hcc⟩ : ∃ cc, chanP ⟨n, ps, cs⟩ ⟨ki, pp, nn, bb, tx⟩ = cc := ⟨_, rfl⟩
    have HCC : Hid (chanP ⟨n, ps, cs⟩ ⟨ki, pp, nn, bb, tx⟩ = cc) := hcc
    rw [hcc] at hcb ⊢
    clear hcc
    go_wp2_with fail
    refine Calls.mono (pick_any nn 4096 r3 (by omega) V) ?_
    rintro e V' ⟨rfl, hV⟩
    have hV2 := hV.symm
    clear hV
    subst hV2
    have hPV := PartsV.below HP.out HB3.out
    obtain ⟨va', cap', eva, hc⟩ := hPV
    simp only [Value.slice.injEq, true_and] at eva
    obtain ⟨rfl, rfl⟩ := eva
    obtain ⟨b, off, rv, rfl, d0, d1, d2, d3, d4, hrv⟩ := hc q hq1
    clear hc d0 d1 d2 d3
    have hpt := (HCO.out q hq1)
    obtain ⟨x, hx⟩ : ∃ x, ps[q] = x := ⟨_, rfl⟩
    have hra : regsAt ⟨n, ps, cs⟩ (whoP ⟨n, ps, cs⟩ ⟨ki, pp, nn, bb, tx⟩).toNat = x.regs := by
      rw [hpw.out, HQ.out, Int.toNat_natCast]
      exact regsAt_of (by show ps[q]? = some x; rw [List.getElem?_eq_getElem hq1, hx])
    rw [hx] at hrv hpt
    clear hx
    obtain ⟨ra, rc, rfl, hrc⟩ := hrv
    obtain ⟨hrl, hpt⟩ := hpt
    have HRA : Hid (regsAt ⟨n, ps, cs⟩ (whoP ⟨n, ps, cs⟩ ⟨ki, pp, nn, bb, tx⟩).toNat = x.regs) := hra
    have HRO : Hid (RegsOK x.regs) := (partErr_ok hpt).2.2.2.2.2.2
    have HRC : Hid (∀ (i : Nat) (h : i < x.regs.length), ∃ b off, ra = some ⟨b, off, none⟩ ∧ V.cell? ⟨b, off + i * 3, none⟩ = some (.int .i64 x.regs[i].page) ∧ V.cell? ⟨b, off + i * 3 + 1, none⟩ = some (.int .i64 x.regs[i].pages) ∧ V.cell? ⟨b, off + i * 3 + 2, none⟩ = some (.int .i64 x.regs[i].rights)) := hrc
    have hpk : 0 ≤ pickF nn 4096 ∧ pickF nn 4096 < 4096 := pickF_lt (by omega)
    obtain ⟨pk, hpke⟩ : ∃ pk, pickF nn 4096 = pk := ⟨_, rfl⟩
    have HPK : Hid (pickF nn 4096 = pk) := hpke
    rw [hpke] at hpk ⊢
    clear hrc hra hpt hpke
    go_upto_region 7 with fail
    go_cut [46] (fun t wc => t = .bool (decide (0 < x.regs.length ∧ bb % 4 ≠ 0)) ∧ wc = V)
    case first =>
      by_cases hl : 0 < x.regs.length
      · have hl' : (0 : Int) < (x.regs.length : Int) := by omega
        by_cases hb4 : bb.tmod 4 = 0
        · go_wp2_with fail
          go_meet
          refine ⟨?_, rfl⟩
          have : ¬ (0 < x.regs.length ∧ bb % 4 ≠ 0) := by rw [← Int.dvd_iff_tmod_eq_zero] at hb4; omega
          rw [decide_eq_false this]
        · go_wp2_with fail
          go_meet
          refine ⟨?_, rfl⟩
          have hb5 : (bb.tmod 4 != 0) = true := by simp [hb4]
          have : 0 < x.regs.length ∧ bb % 4 ≠ 0 := by rw [← Int.dvd_iff_tmod_eq_zero] at hb4; omega
          rw [decide_eq_true this, hb5]
      · have hl' : ¬ (0 : Int) < (x.regs.length : Int) := by omega
        go_wp2_with fail
        go_meet
        refine ⟨?_, rfl⟩
        rw [decide_eq_false (fun h => hl h.1)]
    case rest =>
      obtain ⟨rfl, hwc⟩ := hcut
      have hwc2 := hwc.symm
      clear hwc
      subst hwc2
      obtain ⟨tb, htb⟩ : ∃ tb, decide (0 < x.regs.length ∧ bb % 4 ≠ 0) = tb := ⟨_, rfl⟩
      have HTB : Hid (decide (0 < x.regs.length ∧ bb % 4 ≠ 0) = tb) := htb
      rw [htb]
      clear htb
      go_upto_if 46 with fail
      go_cut [9] (fun ad wc => ad = .int .i64 (addrP ⟨n, ps, cs⟩ ⟨ki, pp, nn, bb, tx⟩) ∧ Below V.heap.size V wc)
      case first =>
        cases tb
        · go_wp2_with fail
          go_meet
          refine ⟨?_, Below.refl _ _⟩
          have h := of_decide_eq_false HTB.out
          unfold addrP
          simp only [HRA.out]
          rw [if_neg h, HPK.out]
        · have h := of_decide_eq_true HTB.out
          obtain ⟨hl, hb4⟩ := h
          obtain ⟨j, hj, hj1⟩ : ∃ j : Nat, pickF bb x.regs.length = j ∧ j < x.regs.length := by
            have := pickF_lt (c := bb) (n := x.regs.length) (by omega)
            exact ⟨(pickF bb x.regs.length).toNat, by omega, by omega⟩
          have HJ : Hid (pickF bb x.regs.length = j) := hj
          have HHL : Hid (0 < x.regs.length ∧ bb % 4 ≠ 0) := ⟨hl, hb4⟩
          clear hj hb4
          go_wp2_with fail
          refine Calls.mono (pick_any bb x.regs.length r4 (by omega) V) ?_
          rintro e V' ⟨rfl, hV⟩
          have hV2 := hV.symm
          clear hV
          subst hV2
          rw [HJ.out]
          obtain ⟨rb, ro, rfl, f0, f1, f2⟩ := HRC.out j hj1
          have hrb := HRO.out.1 x.regs[j] (List.getElem_mem _)
          unfold regB at hrb
          simp only [decide_eq_true_eq] at hrb
          obtain ⟨g, hg⟩ : ∃ g, x.regs[j] = g := ⟨_, rfl⟩
          have HG : Hid (x.regs[j] = g) := hg
          rw [hg] at f0 f1 f2 hrb
          clear hg
          obtain ⟨gp, gn, gr⟩ := g
          simp only [] at f0 f1 f2 hrb
          obtain ⟨g0, g1, g2, g3, g4, _⟩ := hrb
          have hpk2 := pickF_lt (c := nn) (n := 64 * gn) (by omega)
          have hj' : (j : Int) < (x.regs.length : Int) := by omega
          have w1 : IntKind.i64.wrap (64 * gp) = 64 * gp := wrap_small _ (by omega) (by omega)
          have w2 : IntKind.i64.wrap (64 * gn) = 64 * gn := wrap_small _ (by omega) (by omega)
          obtain ⟨pk2, hpk2e⟩ : ∃ pk2, pickF nn (64 * gn) = pk2 := ⟨_, rfl⟩
          have HPK2 : Hid (pickF nn (64 * gn) = pk2) := hpk2e
          rw [hpk2e] at hpk2
          have w3 : IntKind.i64.wrap (64 * gp + pk2) = 64 * gp + pk2 := wrap_small _ (by omega) (by omega)
          clear hpk2e
          go_upto_region 9 with fail
          have bA := newB V (.cells #[.int .i64 gp, .int .i64 gn, .int .i64 gr] 56)
          have hA := heap_new V (.cells #[.int .i64 gp, .int .i64 gn, .int .i64 gr] 56)
          have sA : (V.alloc (.cells #[.int .i64 gp, .int .i64 gn, .int .i64 gr] 56)).cell? ⟨w.heap.size + 1, 2, none⟩ = some (.int .i64 nn) := (bA.cell (p := ⟨w.heap.size + 1, 2, none⟩) (World.block_lt_of_cell? V _ s2)).trans s2
          generalize V.alloc (.cells #[.int .i64 gp, .int .i64 gn, .int .i64 gr] 56) = VA at *
          have a0 : VA.cell? ⟨V.heap.size, 0, none⟩ = some (.int .i64 gp) := by rw [cell_of_blk hA]; rfl
          have a1 : VA.cell? ⟨V.heap.size, 1, none⟩ = some (.int .i64 gn) := by rw [cell_of_blk hA]; rfl
          have HBA : Hid (Below V.heap.size V VA) := bA
          clear bA hA f0 f1 f2
          go_wp2_with fail
          have H1 : ∀ u, Calls Tryz.prog 13 #[.int .i64 nn, .int .i64 (64 * gn)] u fun e w' => e = .returned (.int .i64 pk2) ∧ w' = u := fun u => by rw [← HPK2.out]; exact pick_any nn (64 * gn) r3 (by omega) u
          go_quiet (first | (go_at_call 13; exact Calls.quiet_of_same (H1 _)))
          go_wp2_with fail
          go_meet
          refine ⟨?_, below_drewN HBA.out _⟩
          unfold addrP
          simp only [HRA.out]
          rw [if_pos HHL.out, HJ.out, Int.toNat_natCast, List.getElem?_eq_getElem hj1, HG.out]
          simp only []
          rw [HPK2.out]
      case rest =>
        obtain ⟨rfl, hwc⟩ := hcut
        have hab : -1000000 ≤ addrP ⟨n, ps, cs⟩ ⟨ki, pp, nn, bb, tx⟩ ∧ addrP ⟨n, ps, cs⟩ ⟨ki, pp, nn, bb, tx⟩ ≤ 1000000 := by
          have h4 := pickF_lt (c := nn) (n := 4096) (by omega)
          unfold addrP
          simp only [HRA.out]
          split
          · split
            · omega
            · rename_i g hg
              have hgm := HRO.out.1 g (List.mem_of_getElem? hg)
              unfold regB at hgm
              simp only [decide_eq_true_eq] at hgm
              have h5 := pickF_lt (c := nn) (n := 64 * g.pages) (by omega)
              omega
          · omega
        obtain ⟨ad, had⟩ : ∃ ad, addrP ⟨n, ps, cs⟩ ⟨ki, pp, nn, bb, tx⟩ = ad := ⟨_, rfl⟩
        have HAD : Hid (addrP ⟨n, ps, cs⟩ ⟨ki, pp, nn, bb, tx⟩ = ad) := had
        rw [had] at hab ⊢
        clear had
        have hsz := HZ3.out
        have hcz := hwc.size
        have HBC : Hid (Below w.heap.size w (wc.alloc (.cells #[.int .i64 0, .string ⟨#[]⟩, .bool false, .int .i64 0] 38))) := (HB3.out.trans (hwc.mono HB3.out.size)).trans ((newB wc _).mono (by omega))
        have HLB : Hid ((wc.alloc (.cells #[.int .i64 0, .string ⟨#[]⟩, .bool false, .int .i64 0] 38)).heap[wc.heap.size]? = some (.cells #[.int .i64 0, .string ⟨#[]⟩, .bool false, .int .i64 0] 38 (0, 0))) := heap_new wc _
        have HRB : Hid ((wc.alloc (.cells #[.int .i64 0, .string ⟨#[]⟩, .bool false, .int .i64 0] 38)).heap[w.heap.size + 1 + 1]? = some (.cells #[.int .i64 0, .string ⟨#[]⟩, .bool false, .int .i64 0] 38 (0, 0))) := keepN (keepN HRS.out hwc) (newB wc _)
        have hst : (wc.alloc (.cells #[.int .i64 0, .string ⟨#[]⟩, .bool false, .int .i64 0] 38)).heap[w.heap.size + 1]? = some (.cells #[.int .i64 ki, .int .i64 pp, .int .i64 nn, .int .i64 bb, .string tx] 41 (0, 0)) := keepN (keepN HST.out hwc) (newB wc _)
        have HLO : Hid (∀ k, ow k → k < w.heap.size) := I.low HK.out
        have HLZ : Hid ((wc.alloc (.cells #[.int .i64 0, .string ⟨#[]⟩, .bool false, .int .i64 0] 38)).heap.size = wc.heap.size + 1) := by simp [Hid]
        clear m1 m2 s0 s2 s3 s4 d4
        go_upto_region 11 with fail
        generalize wc.alloc (.cells #[.int .i64 0, .string ⟨#[]⟩, .bool false, .int .i64 0] 38) = WL at *
        have s0 : WL.cell? ⟨w.heap.size + 1, 0, none⟩ = some (.int .i64 ki) := by rw [cell_of_blk hst]; rfl
        have s3 : WL.cell? ⟨w.heap.size + 1, 3, none⟩ = some (.int .i64 bb) := by rw [cell_of_blk hst]; rfl
        have s4 : WL.cell? ⟨w.heap.size + 1, 4, none⟩ = some (.string tx) := by rw [cell_of_blk hst]; rfl
        have HKL : Hid (I.KV WL (.pointer (some a)) ⟨n, ps, cs⟩ S ow) := I.below HK.out HBC.out
        obtain ⟨lb, hlb⟩ : ∃ lb, wc.heap.size = lb := ⟨_, rfl⟩
        rw [hlb] at hcz HLZ HLB ⊢
        clear hlb hst hwc
        go_upto_block 0 with fail
        clear s0
        go_cut [] (fun wx => Hid (wx.heap[lb]? = some (.cells #[.int .i64 (doF ⟨n, ps, cs⟩ S ⟨ki, pp, nn, bb, tx⟩).1.n, .string (doF ⟨n, ps, cs⟩ S ⟨ki, pp, nn, bb, tx⟩).1.text, .bool (doF ⟨n, ps, cs⟩ S ⟨ki, pp, nn, bb, tx⟩).1.yes, .int .i64 (doF ⟨n, ps, cs⟩ S ⟨ki, pp, nn, bb, tx⟩).1.e] 38 (0, 0))) ∧ Hid (wx.heap[w.heap.size + 1 + 1]? = some (.cells #[.int .i64 0, .string ⟨#[]⟩, .bool false, .int .i64 0] 38 (0, 0))) ∧ Hid (Aft3 I.KV (.pointer (some a)) ⟨n, ps, cs⟩ (doF ⟨n, ps, cs⟩ S ⟨ki, pp, nn, bb, tx⟩).2 ow w WL wx))
        case first =>
          have HDO := doF_eq ⟨n, ps, cs⟩ S ki pp nn bb tx q cc ad (by rw [hpw.out, HQ.out]) HCC.out HAD.out
          by_cases k1 : ki = 1
          · subst k1
            go_wp2_with fail
            refine Calls.mono (I.tick HKL.out hs) ?_
            rintro e w1 ⟨rfl, hA⟩
            have hl1 := hA.far (w := w) HLO.out (by omega) HLB.out
            have hr1 := hA.far (w := w) HLO.out (by omega) HRB.out
            have hdo := HDO.k1 rfl
            clear HDO
            have HL1 : Hid (w1.heap[lb]? = some (.cells #[.int .i64 0, .string ⟨#[]⟩, .bool false, .int .i64 0] 38 (0, 0))) := hl1
            have HR1 : Hid (w1.heap[w.heap.size + 1 + 1]? = some (.cells #[.int .i64 0, .string ⟨#[]⟩, .bool false, .int .i64 0] 38 (0, 0))) := hr1
            have HA3 := Aft3.of HBC.out hA
            have HA : Hid _ := HA3
            have HDX : Hid _ := hdo
            clear hl1 hr1 hA HA3 hdo
            go_wp2_with fail
            go_meet
            rw [HDX.out]
            exact ⟨HL1.out, HR1.out, HA.out⟩
          by_cases k2 : ki = 2
          · subst k2
            go_wp2_with fail
            refine Calls.mono (I.read HKL.out hs (p := (q : Int)) (a := ad) (by unfold inR; omega) (by unfold inR; omega)) ?_
            rintro e w1 ⟨rfl, hA⟩
            have hl1 := hA.far (w := w) HLO.out (by omega) HLB.out
            have hr1 := hA.far (w := w) HLO.out (by omega) HRB.out
            have hdo := HDO.k2 rfl
            clear HDO
            obtain ⟨res, hres⟩ : ∃ res, readF ⟨n, ps, cs⟩ S q ad = res := ⟨_, rfl⟩
            rw [hres] at hA hdo ⊢
            clear hres
            obtain ⟨rn, re, rS⟩ := res
            have l0 : w1.cell? ⟨lb, 0, none⟩ = some (.int .i64 0) := by rw [cell_of_blk hl1]; rfl
            have lf0 := frozen_of_row w1 lb 0 _ _ hl1
            have l3 : w1.cell? ⟨lb, 3, none⟩ = some (.int .i64 0) := by rw [cell_of_blk hl1]; rfl
            have lf3 := frozen_of_row w1 lb 3 _ _ hl1
            have HL1 : Hid (w1.heap[lb]? = some (.cells #[.int .i64 0, .string ⟨#[]⟩, .bool false, .int .i64 0] 38 (0, 0))) := hl1
            have HR1 : Hid (w1.heap[w.heap.size + 1 + 1]? = some (.cells #[.int .i64 0, .string ⟨#[]⟩, .bool false, .int .i64 0] 38 (0, 0))) := hr1
            have HA3 := Aft3.of HBC.out hA
            have HA : Hid _ := HA3
            have HDX : Hid _ := hdo
            clear hl1 hr1 hA HA3 hdo
            go_wp2_with fail
            go_meet
            rw [HDX.out]
            exact ⟨(blk_set 3 (.int .i64 re) (blk_set 0 (.int .i64 rn) HL1.out)), ((blk_far 3 (.int .i64 re) (show w.heap.size + 1 + 1 ≠ lb by omega)).trans ((blk_far 0 (.int .i64 rn) (show w.heap.size + 1 + 1 ≠ lb by omega)).trans HR1.out)), (Aft3.set I (Aft3.set I HA.out HLO.out (b := lb) (by omega) (by have := HLZ.out; omega) 0 (.int .i64 rn)) HLO.out (b := lb) (by omega) (by have := HLZ.out; omega) 3 (.int .i64 re))⟩
          by_cases k3 : ki = 3
          · subst k3
            go_wp2_with fail
            refine Calls.mono (I.write HKL.out hs (p := (q : Int)) (a := ad) (b := bb) (by unfold inR; omega) (by unfold inR; omega) r4) ?_
            rintro e w1 ⟨rfl, hA⟩
            have hl1 := hA.far (w := w) HLO.out (by omega) HLB.out
            have hr1 := hA.far (w := w) HLO.out (by omega) HRB.out
            have hdo := HDO.k3 rfl
            clear HDO
            obtain ⟨res, hres⟩ : ∃ res, writeF ⟨n, ps, cs⟩ S q ad bb = res := ⟨_, rfl⟩
            rw [hres] at hA hdo ⊢
            clear hres
            obtain ⟨re, rS⟩ := res
            have l3 : w1.cell? ⟨lb, 3, none⟩ = some (.int .i64 0) := by rw [cell_of_blk hl1]; rfl
            have lf3 := frozen_of_row w1 lb 3 _ _ hl1
            have HL1 : Hid (w1.heap[lb]? = some (.cells #[.int .i64 0, .string ⟨#[]⟩, .bool false, .int .i64 0] 38 (0, 0))) := hl1
            have HR1 : Hid (w1.heap[w.heap.size + 1 + 1]? = some (.cells #[.int .i64 0, .string ⟨#[]⟩, .bool false, .int .i64 0] 38 (0, 0))) := hr1
            have HA3 := Aft3.of HBC.out hA
            have HA : Hid _ := HA3
            have HDX : Hid _ := hdo
            clear hl1 hr1 hA HA3 hdo
            go_wp2_with fail
            go_meet
            rw [HDX.out]
            exact ⟨(blk_set 3 (.int .i64 re) HL1.out), ((blk_far 3 (.int .i64 re) (show w.heap.size + 1 + 1 ≠ lb by omega)).trans HR1.out), (Aft3.set I HA.out HLO.out (b := lb) (by omega) (by have := HLZ.out; omega) 3 (.int .i64 re))⟩
          by_cases k4 : ki = 4
          · subst k4
            go_wp2_with fail
            refine Calls.mono (cut_any tx r5 WL) ?_
            rintro e V9 ⟨rfl, hV9⟩
            have hV8 := hV9.symm
            clear hV9
            subst hV8
            have hct : (cutF tx).size ≤ 9223372036854775807 := cut_size tx r5
            go_wp2_with fail
            refine Calls.mono (I.send HKL.out hs (p := (q : Int)) (c := cc) (s := cutF tx) (by unfold inR; omega) (by unfold inR; omega) hct) ?_
            rintro e w1 ⟨rfl, hA⟩
            have hl1 := hA.far (w := w) HLO.out (by omega) HLB.out
            have hr1 := hA.far (w := w) HLO.out (by omega) HRB.out
            have hdo := HDO.k4 rfl
            clear HDO
            obtain ⟨res, hres⟩ : ∃ res, sendF ⟨n, ps, cs⟩ S q cc (cutF tx) = res := ⟨_, rfl⟩
            rw [hres] at hA hdo ⊢
            clear hres
            obtain ⟨re, rS⟩ := res
            have l3 : w1.cell? ⟨lb, 3, none⟩ = some (.int .i64 0) := by rw [cell_of_blk hl1]; rfl
            have lf3 := frozen_of_row w1 lb 3 _ _ hl1
            have HL1 : Hid (w1.heap[lb]? = some (.cells #[.int .i64 0, .string ⟨#[]⟩, .bool false, .int .i64 0] 38 (0, 0))) := hl1
            have HR1 : Hid (w1.heap[w.heap.size + 1 + 1]? = some (.cells #[.int .i64 0, .string ⟨#[]⟩, .bool false, .int .i64 0] 38 (0, 0))) := hr1
            have HA3 := Aft3.of HBC.out hA
            have HA : Hid _ := HA3
            have HDX : Hid _ := hdo
            clear hl1 hr1 hA HA3 hdo
            go_wp2_with fail
            go_meet
            rw [HDX.out]
            exact ⟨(blk_set 3 (.int .i64 re) HL1.out), ((blk_far 3 (.int .i64 re) (show w.heap.size + 1 + 1 ≠ lb by omega)).trans HR1.out), (Aft3.set I HA.out HLO.out (b := lb) (by omega) (by have := HLZ.out; omega) 3 (.int .i64 re))⟩
          by_cases k5 : ki = 5
          · subst k5
            go_wp2_with fail
            refine Calls.mono (I.recv HKL.out hs (p := (q : Int)) (c := cc) (by unfold inR; omega) (by unfold inR; omega)) ?_
            rintro e w1 ⟨rfl, hA⟩
            have hl1 := hA.far (w := w) HLO.out (by omega) HLB.out
            have hr1 := hA.far (w := w) HLO.out (by omega) HRB.out
            have hdo := HDO.k5 rfl
            clear HDO
            obtain ⟨res, hres⟩ : ∃ res, recvF ⟨n, ps, cs⟩ S q cc = res := ⟨_, rfl⟩
            rw [hres] at hA hdo ⊢
            clear hres
            obtain ⟨⟨rt, ry, re⟩, rS⟩ := res
            have l1 : w1.cell? ⟨lb, 1, none⟩ = some (.string ⟨#[]⟩) := by rw [cell_of_blk hl1]; rfl
            have lf1 := frozen_of_row w1 lb 1 _ _ hl1
            have l2 : w1.cell? ⟨lb, 2, none⟩ = some (.bool false) := by rw [cell_of_blk hl1]; rfl
            have lf2 := frozen_of_row w1 lb 2 _ _ hl1
            have l3 : w1.cell? ⟨lb, 3, none⟩ = some (.int .i64 0) := by rw [cell_of_blk hl1]; rfl
            have lf3 := frozen_of_row w1 lb 3 _ _ hl1
            have HL1 : Hid (w1.heap[lb]? = some (.cells #[.int .i64 0, .string ⟨#[]⟩, .bool false, .int .i64 0] 38 (0, 0))) := hl1
            have HR1 : Hid (w1.heap[w.heap.size + 1 + 1]? = some (.cells #[.int .i64 0, .string ⟨#[]⟩, .bool false, .int .i64 0] 38 (0, 0))) := hr1
            have HA3 := Aft3.of HBC.out hA
            have HA : Hid _ := HA3
            have HDX : Hid _ := hdo
            clear hl1 hr1 hA HA3 hdo
            go_wp2_with fail
            go_meet
            rw [HDX.out]
            exact ⟨(blk_set 3 (.int .i64 re) (blk_set 2 (.bool ry) (blk_set 1 (.string rt) HL1.out))), ((blk_far 3 (.int .i64 re) (show w.heap.size + 1 + 1 ≠ lb by omega)).trans ((blk_far 2 (.bool ry) (show w.heap.size + 1 + 1 ≠ lb by omega)).trans ((blk_far 1 (.string rt) (show w.heap.size + 1 + 1 ≠ lb by omega)).trans HR1.out))), (Aft3.set I (Aft3.set I (Aft3.set I HA.out HLO.out (b := lb) (by omega) (by have := HLZ.out; omega) 1 (.string rt)) HLO.out (b := lb) (by omega) (by have := HLZ.out; omega) 2 (.bool ry)) HLO.out (b := lb) (by omega) (by have := HLZ.out; omega) 3 (.int .i64 re))⟩
          by_cases k6 : ki = 6
          · subst k6
            go_wp2_with fail
            refine Calls.mono (I.raise HKL.out hs (p := (q : Int)) (by unfold inR; omega)) ?_
            rintro e w1 ⟨rfl, hA⟩
            have hl1 := hA.far (w := w) HLO.out (by omega) HLB.out
            have hr1 := hA.far (w := w) HLO.out (by omega) HRB.out
            have hdo := HDO.k6 rfl
            clear HDO
            obtain ⟨res, hres⟩ : ∃ res, raiseF ⟨n, ps, cs⟩ S q = res := ⟨_, rfl⟩
            rw [hres] at hA hdo ⊢
            clear hres
            obtain ⟨re, rS⟩ := res
            have l3 : w1.cell? ⟨lb, 3, none⟩ = some (.int .i64 0) := by rw [cell_of_blk hl1]; rfl
            have lf3 := frozen_of_row w1 lb 3 _ _ hl1
            have HL1 : Hid (w1.heap[lb]? = some (.cells #[.int .i64 0, .string ⟨#[]⟩, .bool false, .int .i64 0] 38 (0, 0))) := hl1
            have HR1 : Hid (w1.heap[w.heap.size + 1 + 1]? = some (.cells #[.int .i64 0, .string ⟨#[]⟩, .bool false, .int .i64 0] 38 (0, 0))) := hr1
            have HA3 := Aft3.of HBC.out hA
            have HA : Hid _ := HA3
            have HDX : Hid _ := hdo
            clear hl1 hr1 hA HA3 hdo
            go_wp2_with fail
            go_meet
            rw [HDX.out]
            exact ⟨(blk_set 3 (.int .i64 re) HL1.out), ((blk_far 3 (.int .i64 re) (show w.heap.size + 1 + 1 ≠ lb by omega)).trans HR1.out), (Aft3.set I HA.out HLO.out (b := lb) (by omega) (by have := HLZ.out; omega) 3 (.int .i64 re))⟩
          have hdo := HDO.k0 k1 k2 k3 k4 k5 k6
          have HDX : Hid _ := hdo
          clear HDO hdo
          go_wp2_with fail
          go_meet
          rw [HDX.out]
          exact ⟨HLB.out, HRB.out, ⟨⟨ow, HKL.out, newO.refl _ _⟩, Frm.all _ HBC.out, HBC.out.size⟩⟩
        case rest =>
          obtain ⟨HXL, HXR, HX3⟩ := hcut
          obtain ⟨dres, hd⟩ : ∃ d, doF ⟨n, ps, cs⟩ S ⟨ki, pp, nn, bb, tx⟩ = d := ⟨_, rfl⟩
          have HDX : Hid (doF ⟨n, ps, cs⟩ S ⟨ki, pp, nn, bb, tx⟩ = dres) := hd
          rw [hd] at HXL HX3
          clear hd
          obtain ⟨⟨an, at_, ay, ae⟩, dS⟩ := dres
          simp only [] at HXL HX3
          have l0 : wc.cell? ⟨lb, 0, none⟩ = some (.int .i64 an) := by rw [cell_of_blk HXL.out]; rfl
          have l1 : wc.cell? ⟨lb, 1, none⟩ = some (.string at_) := by rw [cell_of_blk HXL.out]; rfl
          have l2 : wc.cell? ⟨lb, 2, none⟩ = some (.bool ay) := by rw [cell_of_blk HXL.out]; rfl
          have l3 : wc.cell? ⟨lb, 3, none⟩ = some (.int .i64 ae) := by rw [cell_of_blk HXL.out]; rfl
          have c0 : wc.cell? ⟨w.heap.size + 1 + 1, 0, none⟩ = some (.int .i64 0) := by rw [cell_of_blk HXR.out]; rfl
          have c1 : wc.cell? ⟨w.heap.size + 1 + 1, 1, none⟩ = some (.string ⟨#[]⟩) := by rw [cell_of_blk HXR.out]; rfl
          have c2 : wc.cell? ⟨w.heap.size + 1 + 1, 2, none⟩ = some (.bool false) := by rw [cell_of_blk HXR.out]; rfl
          have c3 : wc.cell? ⟨w.heap.size + 1 + 1, 3, none⟩ = some (.int .i64 0) := by rw [cell_of_blk HXR.out]; rfl
          have cf := fun i => frozen_of_row wc (w.heap.size + 1 + 1) i _ _ HXR.out
          have cf0 := cf 0
          have cf1 := cf 1
          have cf2 := cf 2
          have cf3 := cf 3
          clear cf
          go_wp2_with fail
          have hb4 := blk_set 3 (.int .i64 ae) (blk_set 2 (.bool ay) (blk_set 1 (.string at_) (blk_set 0 (.int .i64 an) HXR.out)))
          have h4 := Aft3.set I (Aft3.set I (Aft3.set I (Aft3.set I HX3.out HLO.out (b := w.heap.size + 1 + 1) (by omega) (by have := HLZ.out; omega) 0 (.int .i64 an)) HLO.out (b := w.heap.size + 1 + 1) (by omega) (by have := HLZ.out; omega) 1 (.string at_)) HLO.out (b := w.heap.size + 1 + 1) (by omega) (by have := HLZ.out; omega) 2 (.bool ay)) HLO.out (b := w.heap.size + 1 + 1) (by omega) (by have := HLZ.out; omega) 3 (.int .i64 ae)
          have H4 : Hid _ := h4
          clear l0 l1 l2 l3 c0 c1 c2 c3 cf0 cf1 cf2 cf3 h4
          generalize (((wc.setCell ⟨w.heap.size + 1 + 1, 0, none⟩ (.int .i64 an)).setCell ⟨w.heap.size + 1 + 1, 1, none⟩ (.string at_)).setCell ⟨w.heap.size + 1 + 1, 2, none⟩ (.bool ay)).setCell ⟨w.heap.size + 1 + 1, 3, none⟩ (.int .i64 ae) = W9 at *
          have e0 : W9.cell? ⟨w.heap.size + 1 + 1, 0, none⟩ = some (.int .i64 an) := by rw [cell_of_blk hb4]; rfl
          have e1 : W9.cell? ⟨w.heap.size + 1 + 1, 1, none⟩ = some (.string at_) := by rw [cell_of_blk hb4]; rfl
          have e2 : W9.cell? ⟨w.heap.size + 1 + 1, 2, none⟩ = some (.bool ay) := by rw [cell_of_blk hb4]; rfl
          have e3 : W9.cell? ⟨w.heap.size + 1 + 1, 3, none⟩ = some (.int .i64 ae) := by rw [cell_of_blk hb4]; rfl
          refine bodyPost_ret (v := .agg #[.int .i64 an, .string at_, .bool ay, .int .i64 ae]) (by simp [results, Tryz.results8, go_sem, *]) rfl ?_
          rw [HDX.out]
          exact ⟨rfl, H4.out.fin⟩
end Go.Proofs.YteioennfpkoagabGreatDoor.C
namespace Go.Proofs.YteioennfpkoagabGreatDoor.C
open Go.RowKit K
attribute [local go_sem ↓] Go.wp_at_zero Go.wp_at_succ

theorem infoIntI : (Tryz.prog.info? 3).map (fun i => (i.zero, i.size, i.bytes)) = some (some (.int .i64 0), 1, 8) := by kernel_rfl
/- a list in the midst of its reading -/
structure LR {α : Type} (f : List UInt8 → α × List UInt8) (n : Nat) (l0 : List UInt8) (k : Nat) (X : List α) (l : List UInt8) : Prop where
  len : X.length = k
  all : readN f n l0 = (X ++ (readN f (n - k) l).1, (readN f (n - k) l).2)
  le : k ≤ n
theorem RD.below {w w' : World} {rb : Nat} {s : ByteArray} {l : List UInt8} (h : RD w rb s l) (hb : Below w.heap.size w w') : RD w' rb s l := h.keep (hb.block rb h.lt)
theorem own_far {w w' : World} {B e s n rb : Nat} {v : Value} {xs : List Value} (h : w.ownsRow B e s v n xs) (hB : rb < B) (hf : Frm (isB rb) w w') : w'.ownsRow B e s v n xs :=
  owns_keep h fun b hb => hf.block b (h.lt b hb).2 (fun e => by have := (h.lt b hb).1; unfold isB at e; omega)
theorem Frm.grow {w w1 w2 : World} {B rb e s n : Nat} {v : Value} {xs : List Value} (hf : Frm (isB rb) w w1) (hB : w.heap.size ≤ B) (h : w1.ownsRow B e s v n xs) (hg : w1.grownBy w2 v.ownBlock) : Frm (isB rb) w w2 := by
  have h2 := Frm.grown hg
  refine ⟨h2.os.trans hf.os, h2.tape.trans hf.tape, h2.output.trans hf.output, Nat.le_trans hf.size h2.size, fun k hk hn => ?_⟩
  rw [h2.block k (by have := hf.size; omega) (fun e => by have := (h.lt k e).1; omega), hf.block k hk hn]
theorem RD.grow {w1 w2 : World} {B rb e s n : Nat} {v : Value} {xs : List Value} {t : ByteArray} {l : List UInt8} (hr : RD w1 rb t l) (hB : rb < B) (h : w1.ownsRow B e s v n xs) (hg : w1.grownBy w2 v.ownBlock) : RD w2 rb t l :=
  hr.keep ((Frm.grown hg).block rb hr.lt fun e => by have := (h.lt rb e).1; omega)
theorem LR.start {α : Type} (f : List UInt8 → α × List UInt8) (n : Nat) (l0 : List UInt8) : LR f n l0 0 [] l0 := ⟨rfl, rfl, Nat.zero_le _⟩
theorem LR.step {α : Type} {f : List UInt8 → α × List UInt8} {n k : Nat} {l0 l : List UInt8} {X : List α} (h : LR f n l0 k X l) (hk : k < n) : LR f n l0 (k + 1) (X ++ [(f l).1]) (f l).2 := by
  refine ⟨by rw [List.length_append, h.len]; rfl, ?_, hk⟩
  rw [h.all]
  obtain ⟨m, hm⟩ : ∃ m, n - k = m + 1 := ⟨n - k - 1, by omega⟩
  have hm2 : n - (k + 1) = m := by omega
  rw [hm, hm2]
  show (X ++ ((f l).1 :: (readN f m (f l).2).1), _) = _
  rw [List.append_assoc]
  rfl
theorem LR.fin {α : Type} {f : List UInt8 → α × List UInt8} {n k : Nat} {l0 l : List UInt8} {X : List α} (h : LR f n l0 k X l) (hk : ¬ k < n) : readN f n l0 = (X, l) := by
  have := h.le
  have hm : n - k = 0 := by omega
  rw [h.all, hm]
  simp [readN]
set_option maxRecDepth 100000 in
set_option maxHeartbeats 4000000 in
theorem iplan_any (w : World) (rb : Nat) (s : ByteArray) (l : List UInt8) (hs : s.size ≤ 9223372036854775807) (h : RD w rb s l) :
    Calls Tryz.prog 55 #[.pointer (some ⟨rb, 0, none⟩)] w fun e w' => ∃ v, e = .returned v ∧ w'.ownsRow w.heap.size 3 1 v (planI l).1.length (intsC (planI l).1) ∧ RD w' rb s (planI l).2 ∧ Frm (isB rb) w w' := by
  obtain ⟨i0, hi0, hz0, hz1, hz2⟩ := parts_of infoIntI
  have hrb := h.lt
  go_enter Tryz.func55, Tryz.ntmps55
  go_wp2_with fail
  refine Calls.mono (number_any w rb s l hs h) ?_
  rintro e w1 ⟨rfl, hr1, hf1⟩
  have hn := num_lt l
  have HR1 : Hid (RD w1 rb s (numI l).2) := hr1
  have HF1 : Hid (Frm (isB rb) w w1) := hf1
  obtain ⟨n, hne⟩ : ∃ n, (numI l).1 = n := ⟨_, rfl⟩
  have HL : Hid (planI l = readN tickI n (numI l).2) := by
    show _ = _
    rw [← hne]; rfl
  rw [hne] at hn ⊢
  clear h hr1 hf1 hne
  generalize (numI l).2 = l0 at *
  go_wp2_with fail
  go_loopw [3, 6] (fun v i wr => ∃ (k : Nat) (va : Option Addr) (c : Nat) (X : List Int) (l' : List UInt8), i = .int .i64 k ∧ v = .slice va k c ∧ Hid (LR tickI n l0 k X l') ∧ Hid (wr.ownsRow w.heap.size 3 1 (.slice va k c) k (intsC X)) ∧ Hid (RD wr rb s l') ∧ Hid (Frm (isB rb) w wr)) (fun _ i _ => n - (intOf i).toNat)
  case atStart => exact ⟨0, none, 0, [], l0, rfl, rfl, LR.start _ _ _, World.ownsRow_nil _ _ _ _, HR1, HF1⟩
  case round =>
    obtain ⟨k, va, c, X, l', rfl, rfl, HLR, HOW, HRD, HFR⟩ := hrel
    clear HR1 HF1
    by_cases hlt : k < n
    · have hlt' : (k : Int) < (n : Int) := by omega
      go_wp2_with fail
      refine Calls.mono (number_any wr rb s l' hs HRD.out) ?_
      rintro e w2 ⟨rfl, hr2, hf2⟩
      have hx := num_lt l'
      have HR2 : Hid (RD w2 rb s (numI l').2) := hr2
      have HF2 : Hid (Frm (isB rb) w w2) := HFR.out.trans hf2 (newO.refl _ _)
      have HO2 : Hid (w2.ownsRow w.heap.size 3 1 (.slice va k c) k (intsC X)) := own_far HOW.out hrb hf2
      have HL2 : Hid (LR tickI n l0 (k + 1) (X ++ [(((numI l').1 : Nat) : Int) - 1]) (numI l').2) := HLR.out.step hlt
      clear hr2 hf2 HLR HOW HRD HFR
      generalize (numI l').2 = l2 at *
      generalize (numI l').1 = x at *
      have hsz := HF2.out.size
      go_wp2_with (first
        | (at_builtin; refine wpList_append_lies _ rfl _ _ _ rfl w.heap.size 3 i0 _ 1 8 Tryz.underlying22 hi0 hz0 hz1 hz2 rfl (by omega) (.slice va k c) k (intsC X) rfl (HO2.out.alloc _) ⟨w2.heap.size, 0, none⟩ 1 1 [.int .i64 ((x : Int) - 1)] rfl rfl (World.news_of_block (cs := #[.int .i64 ((x : Int) - 1)]) (t := 3) (fr := (0, 0)) (heap_new w2 _)) (by simp [Value.oneCell']) (by omega) (by unfold maxLen; omega) (by omega) (by simp; omega) (w2.heap.size + 1) (by simp) ?_; intro g9 c9 V9 hown9 hgrow9 hat9 hlt9)
        | fail)
      have hfa : Frm (isB rb) w (w2.alloc (.cells #[.int .i64 ((x : Int) - 1)] 3)) := HF2.out.alloc _
      refine ⟨⟨k + 1, _, c9, _, l2, by go_num, rfl, HL2, ?_, ?_, ?_⟩, by simp [intOf]; omega⟩
      · have e : intsC (X ++ [(x : Int) - 1]) = intsC X ++ [.int .i64 ((x : Int) - 1)] := by simp [intsC]
        rw [e]; exact hown9
      · exact (HR2.out.below (newB w2 _)).grow hrb (HO2.out.alloc _) hgrow9
      · exact hfa.grow (Nat.le_refl _) (HO2.out.alloc _) hgrow9
    · have hlt' : ¬ (k : Int) < (n : Int) := by omega
      go_wp2_with fail
      go_ret
      have hfin := HLR.out.fin hlt
      have hl := HLR.out.len
      rw [HL.out, hfin]
      exact ⟨_, rfl, by rw [hl]; exact HOW.out, HRD.out, HFR.out⟩
end Go.Proofs.YteioennfpkoagabGreatDoor.C
namespace Go.Proofs.YteioennfpkoagabGreatDoor.C
open Go.RowKit K
attribute [local go_sem ↓] Go.wp_at_zero Go.wp_at_succ

theorem infoRegI : (Tryz.prog.info? 56).map (fun i => (i.zero, i.size, i.bytes)) = some (some (.agg #[.int .i64 0, .int .i64 0, .int .i64 0]), 3, 24) := by kernel_rfl
/- an element in the making, beside the list and the reader -/
structure RSt (w W : World) (rb : Nat) (s : ByteArray) (l : List UInt8) (b : Nat) (cs : Array Value) (t : TypeId) (e sz : Nat) (v : Value) (n : Nat) (xs : List Value) : Prop where
  rd : RD W rb s l
  frm : Frm (isB rb) w W
  blk : W.heap[b]? = some (.cells cs t (0, 0))
  own : W.ownsRow w.heap.size e sz v n xs
  far : v.ownBlock ≠ some b
  lo : w.heap.size ≤ b
  old : rb < w.heap.size
section
variable {w W W2 : World} {rb : Nat} {s : ByteArray} {l l2 : List UInt8} {b : Nat} {cs : Array Value} {t : TypeId} {e sz : Nat} {v : Value} {n : Nat} {xs : List Value}
theorem RSt.start (hr : RD W rb s l) (hf : Frm (isB rb) w W) (ho : W.ownsRow w.heap.size e sz v n xs) (hlt : rb < w.heap.size) (cs : Array Value) (t : TypeId) : RSt w (W.alloc (.cells cs t)) rb s l W.heap.size cs t e sz v n xs :=
  ⟨hr.below (newB W _), hf.alloc _, heap_new W _, ho.alloc _, fun h => by have := (ho.lt _ h).2; omega, hf.size, hlt⟩
theorem RSt.num (h : RSt w W rb s l b cs t e sz v n xs) (hr : RD W2 rb s l2) (hf : Frm (isB rb) W W2) : RSt w W2 rb s l2 b cs t e sz v n xs :=
  ⟨hr, h.frm.trans hf (newO.refl _ _), (hf.block b (lt_of_blk h.blk) (fun e => by unfold isB at e; have := h.lo; have := h.old; omega)).trans h.blk, own_far h.own h.old hf, h.far, h.lo, h.old⟩
theorem RSt.set (h : RSt w W rb s l b cs t e sz v n xs) (i : Nat) (u : Value) : RSt w (W.setCell ⟨b, i, none⟩ u) rb s l b (cs.setIfInBounds i u) t e sz v n xs :=
  ⟨h.rd.keep (blk_far i u (by have := h.lo; have := h.old; omega)), h.frm.set (.inr h.lo) i u, blk_set i u h.blk, owns_keep h.own fun k hk => blk_far i u (fun e => h.far (e ▸ hk)), h.far, h.lo, h.old⟩
theorem RSt.cell (h : RSt w W rb s l b cs t e sz v n xs) (i : Nat) : W.cell? ⟨b, i, none⟩ = cs[i]? := cell_of_blk h.blk
theorem RSt.free (h : RSt w W rb s l b cs t e sz v n xs) (i : Nat) : W.frozen? ⟨b, i, none⟩ = false := frozen_of_blk h.blk
theorem RSt.grow (h : RSt w W rb s l b cs t e sz v n xs) (o : Obj) (hg : (W.alloc o).grownBy W2 v.ownBlock) : RD W2 rb s l ∧ Frm (isB rb) w W2 :=
  ⟨(h.rd.below (newB W o)).grow h.old (h.own.alloc _) hg, (h.frm.alloc o).grow (Nat.le_refl _) (h.own.alloc _) hg⟩
end
set_option maxRecDepth 100000 in
set_option maxHeartbeats 4000000 in
theorem iregs_any (w : World) (rb : Nat) (s : ByteArray) (l : List UInt8) (hs : s.size ≤ 9223372036854775807) (h : RD w rb s l) :
    Calls Tryz.prog 78 #[.pointer (some ⟨rb, 0, none⟩)] w fun e w' => ∃ v, e = .returned v ∧ w'.ownsRow w.heap.size 56 3 v (regsI l).1.length (rC (regsI l).1) ∧ RD w' rb s (regsI l).2 ∧ Frm (isB rb) w w' := by
  obtain ⟨i0, hi0, hz0, hz1, hz2⟩ := parts_of infoRegI
  have hrb := h.lt
  go_enter Tryz.func78, Tryz.ntmps78
  go_wp2_with fail
  refine Calls.mono (number_any w rb s l hs h) ?_
  rintro e w1 ⟨rfl, hr1, hf1⟩
  have hn := num_lt l
  have HR1 : Hid (RD w1 rb s (numI l).2) := hr1
  have HF1 : Hid (Frm (isB rb) w w1) := hf1
  obtain ⟨n, hne⟩ : ∃ n, (numI l).1 = n := ⟨_, rfl⟩
  have HL : Hid (regsI l = readN regI n (numI l).2) := by
    show _ = _
    rw [← hne]; rfl
  rw [hne] at hn ⊢
  clear h hr1 hf1 hne
  generalize (numI l).2 = l0 at *
  go_wp2_with fail
  go_loopw [3, 7] (fun v i wr => ∃ (k : Nat) (va : Option Addr) (c : Nat) (X : List RegD) (l' : List UInt8), i = .int .i64 k ∧ v = .slice va k c ∧ Hid (LR regI n l0 k X l') ∧ Hid (wr.ownsRow w.heap.size 56 3 (.slice va k c) k (rC X)) ∧ Hid (RD wr rb s l') ∧ Hid (Frm (isB rb) w wr)) (fun _ i _ => n - (intOf i).toNat)
  case atStart => exact ⟨0, none, 0, [], l0, rfl, rfl, LR.start _ _ _, World.ownsRow_nil _ _ _ _, HR1, HF1⟩
  case round =>
    obtain ⟨k, va, c, X, l', rfl, rfl, HLR, HOW, HRD, HFR⟩ := hrel
    clear HR1 HF1
    by_cases hlt : k < n
    · have hlt' : (k : Int) < (n : Int) := by omega
      have HS0 : Hid (RSt w (wr.alloc (.cells #[.int .i64 0, .int .i64 0, .int .i64 0] 56)) rb s l' wr.heap.size #[.int .i64 0, .int .i64 0, .int .i64 0] 56 56 3 (.slice va k c) k (rC X)) := RSt.start HRD.out HFR.out HOW.out hrb _ _
      have HL2 : Hid (LR regI n l0 (k + 1) (X ++ [(regI l').1]) (regI l').2) := HLR.out.step hlt
      go_wp2_with fail
      generalize wr.alloc (.cells #[.int .i64 0, .int .i64 0, .int .i64 0] 56) = W1 at *
      generalize wr.heap.size = b at *
      refine Calls.mono (number_any W1 rb s l' hs HS0.out.rd) ?_
      rintro e w2 ⟨rfl, hr2, hf2⟩
      have HS1 : Hid _ := HS0.out.num hr2 hf2
      have c0 : w2.cell? ⟨b, 0, none⟩ = some (.int .i64 0) := HS1.out.cell 0
      have f0 : w2.frozen? ⟨b, 0, none⟩ = false := HS1.out.free 0
      clear hr2 hf2 HLR HOW HRD HFR
      obtain ⟨x1, hx1⟩ : ∃ x, (numI l').1 = x := ⟨_, rfl⟩
      rw [hx1]
      go_wp2_with fail
      have HS2 : Hid _ := HS1.out.set 0 (.int .i64 x1)
      clear c0 f0
      generalize w2.setCell ⟨b, 0, none⟩ (.int .i64 x1) = W2 at *
      refine Calls.mono (number_any W2 rb s _ hs HS2.out.rd) ?_
      rintro e w3 ⟨rfl, hr3, hf3⟩
      have HS3 : Hid _ := HS2.out.num hr3 hf3
      have c0 : w3.cell? ⟨b, 1, none⟩ = some (.int .i64 0) := HS3.out.cell 1
      have f0 : w3.frozen? ⟨b, 1, none⟩ = false := HS3.out.free 1
      clear hr3 hf3
      obtain ⟨x2, hx2⟩ : ∃ x, (numI (numI l').2).1 = x := ⟨_, rfl⟩
      rw [hx2]
      go_wp2_with fail
      have HS4 : Hid _ := HS3.out.set 1 (.int .i64 x2)
      clear c0 f0
      generalize w3.setCell ⟨b, 1, none⟩ (.int .i64 x2) = W3 at *
      refine Calls.mono (number_any W3 rb s _ hs HS4.out.rd) ?_
      rintro e w4 ⟨rfl, hr4, hf4⟩
      have HS5 : Hid _ := HS4.out.num hr4 hf4
      have c0 : w4.cell? ⟨b, 2, none⟩ = some (.int .i64 0) := HS5.out.cell 2
      have f0 : w4.frozen? ⟨b, 2, none⟩ = false := HS5.out.free 2
      clear hr4 hf4
      obtain ⟨x3, hx3⟩ : ∃ x, (numI (numI (numI l').2).2).1 = x := ⟨_, rfl⟩
      rw [hx3]
      have HX : Hid ((regI l').1 = ⟨x1, x2, x3⟩) := by
        show (⟨_, _, _⟩ : RegD) = _
        rw [hx1, hx2, hx3]
      have HS6 : Hid (RSt w (w4.setCell ⟨b, 2, none⟩ (.int .i64 x3)) rb s (regI l').2 b #[.int .i64 x1, .int .i64 x2, .int .i64 x3] 56 56 3 (.slice va k c) k (rC X)) := HS5.out.set 2 (.int .i64 x3)
      have d0 : (w4.setCell ⟨b, 2, none⟩ (.int .i64 x3)).cell? ⟨b, 0, none⟩ = some (.int .i64 x1) := HS6.out.cell 0
      have d1 : (w4.setCell ⟨b, 2, none⟩ (.int .i64 x3)).cell? ⟨b, 1, none⟩ = some (.int .i64 x2) := HS6.out.cell 1
      have d2 : (w4.setCell ⟨b, 2, none⟩ (.int .i64 x3)).cell? ⟨b, 2, none⟩ = some (.int .i64 x3) := HS6.out.cell 2
      clear HS0 HS1 HS2 HS3 HS4 HS5 hx1 hx2 hx3
      go_upto_region 8 with fail
      generalize w4.setCell ⟨b, 2, none⟩ (.int .i64 x3) = W4 at *
      have hsz := HS6.out.frm.size
      go_wp2_with (first
        | (at_builtin; refine wpList_append_lies _ rfl _ _ _ rfl w.heap.size 56 i0 _ 3 24 Tryz.underlying52 hi0 hz0 hz1 hz2 rfl (by omega) (.slice va k c) k (rC X) rfl (HS6.out.own.alloc _) ⟨W4.heap.size, 0, none⟩ 1 1 [.int .i64 x1, .int .i64 x2, .int .i64 x3] rfl rfl (World.news_of_block (cs := #[.int .i64 x1, .int .i64 x2, .int .i64 x3]) (t := 56) (fr := (0, 0)) (heap_new W4 _)) (by simp [Value.oneCell']) (by omega) (by unfold maxLen; omega) (by omega) (by simp; omega) (W4.heap.size + 1) (by simp) ?_; intro g9 c9 V9 hown9 hgrow9 hat9 hlt9)
        | fail)
      obtain ⟨hr9, hf9⟩ := HS6.out.grow _ hgrow9
      refine ⟨⟨k + 1, _, c9, _, _, by go_num, rfl, HL2, ?_, hr9, hf9⟩, by simp [intOf]; omega⟩
      have e : rC (X ++ [(regI l').1]) = rC X ++ [.int .i64 x1, .int .i64 x2, .int .i64 x3] := by rw [HX.out]; simp [rC, rC1]
      rw [e]; exact hown9
    · have hlt' : ¬ (k : Int) < (n : Int) := by omega
      go_wp2_with fail
      go_ret
      have hfin := HLR.out.fin hlt
      have hl := HLR.out.len
      rw [HL.out, hfin]
      exact ⟨_, rfl, by rw [hl]; exact HOW.out, HRD.out, HFR.out⟩
end Go.Proofs.YteioennfpkoagabGreatDoor.C
namespace Go.Proofs.YteioennfpkoagabGreatDoor.C
open Go.RowKit K
attribute [local go_sem ↓] Go.wp_at_zero Go.wp_at_succ

theorem infoPartI : (Tryz.prog.info? 54).map (fun i => (i.zero, i.size, i.bytes)) = some (some (.agg #[.string ⟨#[]⟩, .int .i64 0, .int .i64 0, .int .i64 0, .slice none 0 0]), 5, 64) := by kernel_rfl
theorem own_base {w : World} {B B' e s n : Nat} {v : Value} {xs : List Value} (h : w.ownsRow B' e s v n xs) (hB : B ≤ B') : w.ownsRow B e s v n xs := by
  refine ⟨h.1, ?_⟩
  rcases h.2 with hn | ⟨g, cap, cur, hv, hb, rest⟩
  · exact .inl hn
  · exact .inr ⟨g, cap, cur, hv, Nat.le_trans hB hb, rest⟩
theorem PA.far {w w' : World} {B rb : Nat} {v : Value} {ys : List (PartD × Value)} (h : PA w B v ys) (hB : rb < B) (hf : Frm (isB rb) w w') : PA w' B v ys :=
  ⟨own_far h.own hB hf, fun y hy => own_far (h.reg y hy) hB hf⟩
theorem PA.set {w : World} {B b : Nat} {v : Value} {ys : List (PartD × Value)} {cs : Array Value} (h : PA w B v ys) (hb : w.heap[b]? = some (.cells cs 54 (0, 0))) (hv : v.ownBlock ≠ some b) (i : Nat) (u : Value) : PA (w.setCell ⟨b, i, none⟩ u) B v ys :=
  ⟨owns_keep h.own fun k hk => blk_far i u (fun e => hv (e ▸ hk)), fun y hy => owns_keep (h.reg y hy) fun k hk => blk_far i u (fun e => own_not_blk (h.reg y hy) hb (by decide) (e ▸ hk).symm)⟩
set_option maxRecDepth 100000 in
set_option maxHeartbeats 4000000 in
theorem iparts_any (w : World) (rb : Nat) (s : ByteArray) (l : List UInt8) (hs : s.size ≤ 9223372036854775807) (h : RD w rb s l) :
    Calls Tryz.prog 56 #[.pointer (some ⟨rb, 0, none⟩)] w fun e w' => ∃ v ys, e = .returned v ∧ ys.map Prod.fst = (partsI l).1 ∧ PA w' w.heap.size v ys ∧ RD w' rb s (partsI l).2 ∧ Frm (isB rb) w w' := by
  obtain ⟨i0, hi0, hz0, hz1, hz2⟩ := parts_of infoPartI
  have hrb := h.lt
  go_enter Tryz.func56, Tryz.ntmps56
  go_wp2_with fail
  refine Calls.mono (number_any w rb s l hs h) ?_
  rintro e w1 ⟨rfl, hr1, hf1⟩
  have hn := num_lt l
  have HR1 : Hid (RD w1 rb s (numI l).2) := hr1
  have HF1 : Hid (Frm (isB rb) w w1) := hf1
  obtain ⟨n, hne⟩ : ∃ n, (numI l).1 = n := ⟨_, rfl⟩
  have HL : Hid (partsI l = readN partI n (numI l).2) := by
    show _ = _
    rw [← hne]; rfl
  rw [hne] at hn ⊢
  clear h hr1 hf1 hne
  generalize (numI l).2 = l0 at *
  go_wp2_with fail
  go_loopw [3, 7] (fun v i wr => ∃ (k : Nat) (va : Option Addr) (c : Nat) (ys : List (PartD × Value)) (l' : List UInt8), i = .int .i64 k ∧ v = .slice va k c ∧ Hid (LR partI n l0 k (ys.map Prod.fst) l') ∧ Hid (PA wr w.heap.size (.slice va k c) ys) ∧ Hid (RD wr rb s l') ∧ Hid (Frm (isB rb) w wr)) (fun _ i _ => n - (intOf i).toNat)
  case atStart => exact ⟨0, none, 0, [], l0, rfl, rfl, LR.start _ _ _, ⟨World.ownsRow_nil _ _ _ _, fun y hy => by cases hy⟩, HR1, HF1⟩
  case round =>
    obtain ⟨k, va, c, ys, l', rfl, rfl, HLR, HPA, HRD, HFR⟩ := hrel
    clear HR1 HF1
    by_cases hlt : k < n
    · have hlt' : (k : Int) < (n : Int) := by omega
      have HL2 : Hid (LR partI n l0 (k + 1) (ys.map Prod.fst ++ [(partI l').1]) (partI l').2) := HLR.out.step hlt
      have HYL : Hid (ys.length = k) := by
        have := HLR.out.len
        rw [List.length_map] at this
        exact this
      go_wp2_with fail
      refine Calls.mono (number_any wr rb s l' hs HRD.out) ?_
      rintro e w2 ⟨rfl, hr2, hf2⟩
      have HP2 : Hid (PA w2 w.heap.size (.slice va k c) ys) := HPA.out.far hrb hf2
      have HF2 : Hid (Frm (isB rb) w w2) := HFR.out.trans hf2 (newO.refl _ _)
      have HR2 : Hid (RD w2 rb s (numI l').2) := hr2
      obtain ⟨x1, hx1⟩ : ∃ x, (numI l').1 = x := ⟨_, rfl⟩
      have HX : Hid ((partI l').1 = ⟨noName, 0, 0, x1, (regsI (numI l').2).1⟩ ∧ (partI l').2 = (regsI (numI l').2).2) := by
        refine ⟨?_, rfl⟩
        rw [← hx1]; rfl
      rw [hx1]
      clear hr2 hf2 HLR HPA HRD HFR hx1
      have hsz2 := HF2.out.size
      have h0 := heap_new w2 (.cells #[.string ⟨#[]⟩, .int .i64 0, .int .i64 0, .int .i64 x1, .slice none 0 0] 54)
      have b0 := newB w2 (.cells #[.string ⟨#[]⟩, .int .i64 0, .int .i64 0, .int .i64 x1, .slice none 0 0] 54)
      have HFA : Hid (Frm (isB rb) w (w2.alloc (.cells #[.string ⟨#[]⟩, .int .i64 0, .int .i64 0, .int .i64 x1, .slice none 0 0] 54))) := HF2.out.alloc _
      have hfar : (Value.slice va k c).ownBlock ≠ some w2.heap.size := fun h => by have := (HP2.out.own.lt _ h).2; omega
      go_wp2_with fail
      have HP3 : Hid _ := HP2.out.below b0
      have HR3 : Hid _ := HR2.out.below b0
      have HH0 : Hid _ := h0
      have HFV : Hid _ := hfar
      clear b0 h0 hfar HP2 HR2 HF2
      generalize w2.alloc (.cells #[.string ⟨#[]⟩, .int .i64 0, .int .i64 0, .int .i64 x1, .slice none 0 0] 54) = W1 at *
      generalize w2.heap.size = b at *
      refine Calls.mono (iregs_any W1 rb s _ hs HR3.out) ?_
      rintro e w3 ⟨rv, rfl, hrow, hr3, hf3⟩
      have hsz1 := HFA.out.size
      have HP4 : Hid (PA w3 w.heap.size (.slice va k c) ys) := HP3.out.far hrb hf3
      have HH3 : Hid (w3.heap[b]? = some (.cells #[.string ⟨#[]⟩, .int .i64 0, .int .i64 0, .int .i64 x1, .slice none 0 0] 54 (0, 0))) := (hf3.block b (lt_of_blk HH0.out) (fun e => by unfold isB at e; omega)).trans HH0.out
      have HRW : Hid (w3.ownsRow w.heap.size 56 3 rv (regsI (numI l').2).1.length (rC (regsI (numI l').2).1)) := own_base hrow hsz1
      have HR4 : Hid (RD w3 rb s (regsI (numI l').2).2) := hr3
      have HF4 : Hid (Frm (isB rb) w w3) := HFA.out.trans hf3 (newO.refl _ _)
      have c0 : w3.cell? ⟨b, 4, none⟩ = some (.slice none 0 0) := by rw [cell_of_blk HH3.out]; rfl
      have f0 : w3.frozen? ⟨b, 4, none⟩ = false := frozen_of_blk HH3.out
      obtain ⟨ra, rc, hrv⟩ := own_slice HRW.out
      subst hrv
      clear hrow hr3 hf3 HFA HP3 HR3 HH0
      generalize (regsI (numI l').2).2 = l3 at *
      generalize (regsI (numI l').2).1 = rs at *
      have HP5 : Hid (PA (w3.setCell ⟨b, 4, none⟩ (.slice ra rs.length rc)) w.heap.size (.slice va k c) ys) := HP4.out.set HH3.out HFV.out 4 _
      have HH5 : Hid ((w3.setCell ⟨b, 4, none⟩ (.slice ra rs.length rc)).heap[b]? = some (.cells #[.string ⟨#[]⟩, .int .i64 0, .int .i64 0, .int .i64 x1, .slice ra rs.length rc] 54 (0, 0))) := blk_set 4 _ HH3.out
      have HRW5 : Hid ((w3.setCell ⟨b, 4, none⟩ (.slice ra rs.length rc)).ownsRow w.heap.size 56 3 (.slice ra rs.length rc) rs.length (rC rs)) := owns_keep HRW.out fun q hq => blk_far 4 _ (fun e => own_not_blk HRW.out HH3.out (by decide) (e ▸ hq).symm)
      have HR5 : Hid (RD (w3.setCell ⟨b, 4, none⟩ (.slice ra rs.length rc)) rb s l3) := HR4.out.keep (blk_far 4 _ (by omega))
      have HF5 : Hid (Frm (isB rb) w (w3.setCell ⟨b, 4, none⟩ (.slice ra rs.length rc))) := HF4.out.set (.inr hsz2) 4 _
      have d0 : (w3.setCell ⟨b, 4, none⟩ (.slice ra rs.length rc)).cell? ⟨b, 0, none⟩ = some (.string ⟨#[]⟩) := by rw [cell_of_blk HH5.out]; rfl
      have d1 : (w3.setCell ⟨b, 4, none⟩ (.slice ra rs.length rc)).cell? ⟨b, 1, none⟩ = some (.int .i64 0) := by rw [cell_of_blk HH5.out]; rfl
      have d2 : (w3.setCell ⟨b, 4, none⟩ (.slice ra rs.length rc)).cell? ⟨b, 2, none⟩ = some (.int .i64 0) := by rw [cell_of_blk HH5.out]; rfl
      have d3 : (w3.setCell ⟨b, 4, none⟩ (.slice ra rs.length rc)).cell? ⟨b, 3, none⟩ = some (.int .i64 x1) := by rw [cell_of_blk HH5.out]; rfl
      have d4 : (w3.setCell ⟨b, 4, none⟩ (.slice ra rs.length rc)).cell? ⟨b, 4, none⟩ = some (.slice ra rs.length rc) := by rw [cell_of_blk HH5.out]; rfl
      clear HP4 HH3 HRW HR4 HF4
      go_upto_region 6 with fail
      generalize w3.setCell ⟨b, 4, none⟩ (.slice ra rs.length rc) = W4 at *
      have hsz := HF5.out.size
      go_wp2_with (first
        | (at_builtin; refine wpList_append_lies _ rfl _ _ _ rfl w.heap.size 54 i0 _ 5 64 Tryz.underlying28 hi0 hz0 hz1 hz2 rfl (by omega) (.slice va k c) k (pC ys) rfl (by have := HP5.out.own.alloc (.cells #[.string ⟨#[]⟩, .int .i64 0, .int .i64 0, .int .i64 x1, .slice ra rs.length rc] 54); rwa [HYL.out] at this) ⟨W4.heap.size, 0, none⟩ 1 1 [.string ⟨#[]⟩, .int .i64 0, .int .i64 0, .int .i64 x1, .slice ra rs.length rc] rfl rfl (World.news_of_block (cs := #[.string ⟨#[]⟩, .int .i64 0, .int .i64 0, .int .i64 x1, .slice ra rs.length rc]) (t := 54) (fr := (0, 0)) (heap_new W4 _)) (by simp [Value.oneCell']) (by omega) (by unfold maxLen; omega) (by omega) (by simp; omega) (W4.heap.size + 1) (by simp) ?_; intro g9 c9 V9 hown9 hgrow9 hat9 hlt9)
        | fail)
      have hal : (W4.alloc (.cells #[.string ⟨#[]⟩, .int .i64 0, .int .i64 0, .int .i64 x1, .slice ra rs.length rc] 54)).ownsRow w.heap.size 54 5 (.slice va k c) ys.length (pC ys) := HP5.out.own.alloc _
      refine ⟨⟨k + 1, _, c9, ys ++ [(⟨noName, 0, 0, x1, rs⟩, .slice ra rs.length rc)], l3, by go_num, rfl, ?_, ?_, ?_, ?_⟩, by simp [intOf]; omega⟩
      · have := HL2.out
        rw [HX.out.1, HX.out.2] at this
        rw [List.map_append]
        exact this
      · have hy := HYL.out
        subst hy
        exact PA.snoc (HP5.out.below (newB W4 _)) (own_stays HRW5.out (newB W4 _)) hgrow9 hown9
      · exact (HR5.out.below (newB W4 _)).grow hrb hal hgrow9
      · exact (HF5.out.alloc _).grow (Nat.le_refl _) hal hgrow9
    · have hlt' : ¬ (k : Int) < (n : Int) := by omega
      go_wp2_with fail
      go_ret
      have hfin := HLR.out.fin hlt
      rw [HL.out, hfin]
      exact ⟨_, rfl, ys, rfl, HPA.out, HRD.out, HFR.out⟩
end Go.Proofs.YteioennfpkoagabGreatDoor.C
