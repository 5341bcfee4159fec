import Derived.Test.YteioennfpkoagaaGreatDoorRows
import Derived.WalkKit
import Derived.WalkSpells
import Derived.WalkLawsBesides
import Derived.Deep.RegionHeld3
import Derived.Deep.AppendLies
import Derived.Deep.DrawnRows
import Derived.Deep.QuietTactic
import Derived.BigQuiet
import Derived.Handy
import Derived.Test.YteioennfpkoagaaGreatDoorG03
import Derived.Test.YteioennfpkoagaaGreatDoorG02
namespace Go.Proofs.YteioennfpkoagaaGreatDoor.C
open Go.RowKit
attribute [local go_sem ↓] Go.wp_at_zero Go.wp_at_succ

/- the raw numbers -/
def inI (x : Int) : Prop := -9223372036854775808 ≤ x ∧ x ≤ 9223372036854775807
def IntsV (w : World) (v : Value) (L : List Int) : Prop :=
  L.length ≤ 9223372036854775807 ∧ (∀ x ∈ L, inI x) ∧ ∃ va cap, v = .slice va L.length cap ∧ ∀ i (h : i < L.length), ∃ b off, va = some ⟨b, off, none⟩ ∧ w.cell? ⟨b, off + i, none⟩ = some (.int .i64 L[i])
theorem IntsV.below {w w' : World} {v : Value} {L : List Int} (h : IntsV w v L) (hb : Below w.heap.size w w') : IntsV w' v L := by
  obtain ⟨h0, h1, va, cap, e, hc⟩ := h
  refine ⟨h0, h1, va, cap, e, fun i hi => ?_⟩
  obtain ⟨b, off, e1, h1⟩ := hc i hi
  have hlt := World.block_lt_of_cell? w _ h1
  exact ⟨b, off, e1, (hb.cell (by exact hlt)).trans h1⟩
def pickF (c n : Int) : Int := (if c < 0 then -(c + 1) else c) % n
theorem pickF_lt {c n : Int} (h : 0 < n) : 0 ≤ pickF c n ∧ pickF c n < n := ⟨Int.emod_nonneg _ (by omega), Int.emod_lt_of_pos _ h⟩
def rawF (L : List Int) (i : Nat) : Int := L.getD (i % L.length) 0
theorem rawF_in {w : World} {v : Value} {L : List Int} (h : IntsV w v L) (i : Nat) : inI (rawF L i) := by
  unfold rawF
  by_cases hl : i % L.length < L.length
  · simp only [List.getD, List.getElem?_eq_getElem hl, Option.getD_some]
    exact h.2.1 _ (List.getElem_mem _)
  · simp only [List.getD, List.getElem?_eq_none (by omega : L.length ≤ i % L.length), Option.getD_none]
    unfold inI; omega
theorem pick_any (c n : Int) (hc : inI c) (hn : 0 < n ∧ n ≤ 1000000) (w : World) :
    Calls Tryz.prog 21 #[.int .i64 c, .int .i64 n] w fun e w' => e = .returned (.int .i64 (pickF c n)) ∧ w' = w := by
  unfold inI at hc
  have hn0 : n ≠ 0 := by omega
  by_cases h : c < 0
  · go_enter Tryz.func21, Tryz.ntmps21
    go_wp2_with fail
    go_ret
    refine ⟨?_, rfl⟩
    unfold pickF
    rw [if_pos h]
    show Ending.returned (Value.int IntKind.i64 (-((c + 1).tmod n))) = _
    rw [← Int.neg_tmod, Int.tmod_eq_emod_of_nonneg (by omega)]
  · go_enter Tryz.func21, Tryz.ntmps21
    go_wp2_with fail
    go_ret
    refine ⟨?_, rfl⟩
    unfold pickF
    rw [if_neg (by omega)]
    rfl
theorem raw_any (v : Value) (L : List Int) (i : Nat) (hi : i ≤ 1000000) (w : World) (hL : IntsV w v L) :
    Calls Tryz.prog 51 #[v, .int .i64 i] w fun e w' => e = .returned (.int .i64 (rawF L i)) ∧ w' = w := by
  obtain ⟨h0, h1, va, cap, rfl, hc⟩ := hL
  by_cases h : L.length = 0
  · have q : ((L.length : Int) = 0) := by omega
    go_enter Tryz.func51, Tryz.ntmps51
    go_wp2_with fail
    go_ret
    refine ⟨?_, rfl⟩
    unfold rawF
    simp [List.getD, List.length_eq_zero_iff.1 h]
  · have q : ¬ ((L.length : Int) = 0) := by omega
    have hlt := Nat.mod_lt i (show L.length > 0 by omega)
    obtain ⟨b, off, rfl, hcell⟩ := hc (i % L.length) hlt
    have e : (i : Int) % (L.length : Int) = ((i % L.length : Nat) : Int) := (Int.natCast_emod i L.length).symm
    have hb : 0 ≤ (i : Int) % (L.length : Int) ∧ (i : Int) % (L.length : Int) < (L.length : Int) := by omega
    have er : rawF L i = L[i % L.length] := by unfold rawF; simp [List.getD, hlt]
    rw [er]
    clear e er hc
    generalize L[i % L.length] = y at *
    go_enter Tryz.func51, Tryz.ntmps51
    go_wp2_with fail
    go_ret
    exact ⟨rfl, rfl⟩
/- a name -/
def nmL (i : Nat) : List UInt8 := [112, UInt8.ofNat (97 + i % 26)]
theorem nums_nm (n : Nat) (h : n < 26) : strOfNums [97 + (n : Int)] = ba [UInt8.ofNat (97 + n)] := by
  have e : (97 + (n : Int)).toNat = 97 + n := by omega
  unfold strOfNums ba
  rw [List.map_cons, List.map_nil, e]
set_option maxRecDepth 100000 in
set_option maxHeartbeats 1000000 in
theorem name_any (i : Nat) (hi : i ≤ 1000000) (w : World) :
    Calls Tryz.prog 52 #[.int .i64 i] w fun e w' => e = .returned (.string (ba (nmL i))) ∧ Below w.heap.size w w' := by
  have hm : i % 26 < 26 := Nat.mod_lt _ (by omega)
  have h4 : IntKind.i64.wrap (97 + (i : Int) % 26) = 97 + (i : Int) % 26 := wrap_small _ (by omega) (by omega)
  have h5 : IntKind.u8.wrap (97 + (i : Int) % 26) = 97 + (i : Int) % 26 := by simp [IntKind.wrap, IntKind.bits, IntKind.signed]; omega
  have h6 : IntKind.i64.wrap ((i : Int) % 26) = (i : Int) % 26 := wrap_small _ (by omega) (by omega)
  have hcv := conv_one w (97 + (i : Int) % 26)
  have hs : strOfNums [97 + (i : Int) % 26] = ba [UInt8.ofNat (97 + i % 26)] := nums_nm (i % 26) hm
  rw [hs] at hcv
  have hb0 : Below w.heap.size w (w.alloc (.cells #[.int .u8 (97 + (i : Int) % 26)] 5)) := (Below.refl _ _).alloc (Nat.le_refl _) _
  have hz : (ba [UInt8.ofNat (97 + i % 26)]).size = 1 := rfl
  generalize he : ba [UInt8.ofNat (97 + i % 26)] = t at *
  have hsum : ¬ 9223372036854775807 < 1 + t.size := by omega
  go_enter Tryz.func52, Tryz.ntmps52
  go_wp2_with fail
  go_ret
  refine ⟨?_, hb0⟩
  subst he
  rfl
end Go.Proofs.YteioennfpkoagaaGreatDoor.C
namespace Go.Proofs.YteioennfpkoagaaGreatDoor.C
open Go.RowKit
attribute [local go_sem ↓] Go.wp_at_zero Go.wp_at_succ

set_option maxRecDepth 100000 in
set_option maxHeartbeats 1000000 in
theorem sameRegions_true (w : World) (u v : Value) (rs : List RegD) (hl : rs.length ≤ 1048576) (hu : RegsV w u rs) (hv : RegsV w v rs) :
    Calls Tryz.prog 55 #[u, v] w fun e w' => e = .returned (.bool true) ∧ Below w.heap.size w w' := by
  obtain ⟨ua, uc, rfl, hu⟩ := hu
  obtain ⟨va, vc, rfl, hv⟩ := hv
  have HU : Hid _ := hu
  have HV : Hid _ := hv
  clear hu hv
  go_enter Tryz.func55, Tryz.ntmps55
  go_wp2_with fail
  go_loopw [5] (fun i wr => ∃ (k : Nat), i = .int .i64 k ∧ k ≤ rs.length ∧ Below w.heap.size w wr) (fun i _ => rs.length - (intOf i).toNat)
  case atStart => exact ⟨0, rfl, by omega, Below.refl _ _⟩
  case round =>
    obtain ⟨k, rfl, hk, hbel⟩ := hrel
    by_cases hlt : k < rs.length
    · have hlt' : (k : Int) < (rs.length : Int) := by omega
      have hk0 : (0 : Int) ≤ (k : Int) := by omega
      obtain ⟨b, off, e1, a1, a2, a3⟩ := HU.out k hlt
      obtain ⟨b', off', e2, c1, c2, c3⟩ := HV.out k hlt
      subst e1 e2
      have d1 := (hbel.cell (by exact World.block_lt_of_cell? w _ a1)).trans a1
      have d2 := (hbel.cell (by exact World.block_lt_of_cell? w _ a2)).trans a2
      have d3 := (hbel.cell (by exact World.block_lt_of_cell? w _ a3)).trans a3
      have f1 := (hbel.cell (by exact World.block_lt_of_cell? w _ c1)).trans c1
      have f2 := (hbel.cell (by exact World.block_lt_of_cell? w _ c2)).trans c2
      have f3 := (hbel.cell (by exact World.block_lt_of_cell? w _ c3)).trans c3
      clear a1 a2 a3 c1 c2 c3
      generalize rs[k].page = y1 at *
      generalize rs[k].pages = y2 at *
      generalize rs[k].rights = y3 at *
      go_wp2_with fail
      go_quiet (fail)
      go_wp2_with fail
      go_roundw
      case rel => exact ⟨k + 1, by go_num, by omega, below_drewN hbel _⟩
      case measure => simp [intOf]; omega
    · have hlt' : ¬ (k : Int) < (rs.length : Int) := by omega
      go_wp2_with fail
      go_ret
      exact ⟨rfl, hbel⟩
end Go.Proofs.YteioennfpkoagaaGreatDoor.C
namespace Go.Proofs.YteioennfpkoagaaGreatDoor.C
open Go.RowKit
attribute [local go_sem ↓] Go.wp_at_zero Go.wp_at_succ

theorem keepE {w1 w2 : World} {a : Addr} {v : Value} (h : w1.cell? a = some v) (hb : Below w1.heap.size w1 w2) : w2.cell? a = some v := (hb.cell (World.block_lt_of_cell? w1 _ h)).trans h
def SmB (w : World) (f : Int) (pa pb ca cb : Option Addr) (n pc pd m cc cd : Nat) (V : World) : Prop :=
  V.heap[w.heap.size]? = some (.cells #[.int .i64 f, .slice pa n pc, .slice ca m cc] 34 (0, 0)) ∧ V.heap[w.heap.size + 1]? = some (.cells #[.int .i64 f, .slice pb n pd, .slice cb m cd] 34 (0, 0)) ∧ Below w.heap.size w V
theorem SmB.below {w V V' : World} {f : Int} {pa pb ca cb : Option Addr} {n pc pd m cc cd : Nat} (h : SmB w f pa pb ca cb n pc pd m cc cd V) (hb : Below V.heap.size V V') : SmB w f pa pb ca cb n pc pd m cc cd V' := by
  obtain ⟨h1, h2, h3⟩ := h
  exact ⟨(hb.block _ (lt_of_blk h1)).trans h1, (hb.block _ (lt_of_blk h2)).trans h2, h3.trans (hb.mono h3.size)⟩
set_option maxRecDepth 100000 in
set_option maxHeartbeats 2000000 in
theorem same_true (w : World) (f : Int) (pv qv cv dv : Value) (ps : List PartD) (cs : List ChanD) (hl : ps.length ≤ 1048576) (hm : cs.length ≤ 1048576) (hr : ∀ x ∈ ps, x.regs.length ≤ 1048576) (hp : PartsV w pv ps) (hq : PartsV w qv ps) (hc : ChansV w cv cs) (hd : ChansV w dv cs) :
    Calls Tryz.prog 18 #[.agg #[.int .i64 f, pv, cv], .agg #[.int .i64 f, qv, dv]] w fun e w' => e = .returned (.bool true) ∧ Below w.heap.size w w' := by
  have HP : Hid _ := hp
  have HQ : Hid _ := hq
  have HC : Hid _ := hc
  have HD : Hid _ := hd
  obtain ⟨pa, pc, rfl, hp⟩ := hp
  obtain ⟨pb, pd, rfl, hq⟩ := hq
  obtain ⟨ca, cc, rfl, hc⟩ := hc
  obtain ⟨cb, cd, rfl, hd⟩ := hd
  clear HP HQ HC HD
  have HP : Hid _ := hp
  have HQ : Hid _ := hq
  have HC : Hid _ := hc
  have HD : Hid _ := hd
  have HR : Hid _ := hr
  clear hp hq hc hd hr
  go_enter Tryz.func18, Tryz.ntmps18
  go_wp2_with fail
  have h0 : SmB w f pa pb ca cb ps.length pc pd cs.length cc cd ((w.alloc (.cells #[.int .i64 f, .slice pa ps.length pc, .slice ca cs.length cc] 34)).alloc (.cells #[.int .i64 f, .slice pb ps.length pd, .slice cb cs.length cd] 34)) := by
    refine ⟨heap_old _ _ (heap_new _ _), ?_, ((Below.refl _ _).alloc (Nat.le_refl _) _).alloc (by simp) _⟩
    have := heap_new (w.alloc (.cells #[.int .i64 f, .slice pa ps.length pc, .slice ca cs.length cc] 34)) (.cells #[.int .i64 f, .slice pb ps.length pd, .slice cb cs.length cd] 34)
    simpa using this
  generalize (w.alloc (.cells #[.int .i64 f, .slice pa ps.length pc, .slice ca cs.length cc] 34)).alloc (.cells #[.int .i64 f, .slice pb ps.length pd, .slice cb cs.length cd] 34) = w1 at *
  go_loopw [5] (fun i wr => ∃ (k : Nat), i = .int .i64 k ∧ k ≤ ps.length ∧ SmB w f pa pb ca cb ps.length pc pd cs.length cc cd wr) (fun i _ => ps.length - (intOf i).toNat)
  case atStart => exact ⟨0, rfl, by omega, h0⟩
  case round =>
    obtain ⟨k, rfl, hk, hS⟩ := hrel
    have HS : Hid _ := hS
    have m1 : wr.cell? ⟨w.heap.size, 1, none⟩ = some (.slice pa ps.length pc) := by rw [cell_of_blk hS.1]; rfl
    have m2 : wr.cell? ⟨w.heap.size + 1, 1, none⟩ = some (.slice pb ps.length pd) := by rw [cell_of_blk hS.2.1]; rfl
    have hbel := hS.2.2
    clear hS
    by_cases hlt : k < ps.length
    · have hlt' : (k : Int) < (ps.length : Int) := by omega
      have hk0 : (0 : Int) ≤ (k : Int) := by omega
      obtain ⟨b, off, rv, e1, a1, a2, a3, a4, a5, ar⟩ := HP.out k hlt
      obtain ⟨b', off', rv', e2, c1, c2, c3, c4, c5, cr⟩ := HQ.out k hlt
      subst e1 e2
      have d1 := (hbel.cell (by exact World.block_lt_of_cell? w _ a1)).trans a1
      have d2 := (hbel.cell (by exact World.block_lt_of_cell? w _ a2)).trans a2
      have d3 := (hbel.cell (by exact World.block_lt_of_cell? w _ a3)).trans a3
      have d4 := (hbel.cell (by exact World.block_lt_of_cell? w _ a4)).trans a4
      have d5 := (hbel.cell (by exact World.block_lt_of_cell? w _ a5)).trans a5
      have f1 := (hbel.cell (by exact World.block_lt_of_cell? w _ c1)).trans c1
      have f2 := (hbel.cell (by exact World.block_lt_of_cell? w _ c2)).trans c2
      have f3 := (hbel.cell (by exact World.block_lt_of_cell? w _ c3)).trans c3
      have f4 := (hbel.cell (by exact World.block_lt_of_cell? w _ c4)).trans c4
      have f5 := (hbel.cell (by exact World.block_lt_of_cell? w _ c5)).trans c5
      have hrl := HR.out _ (List.getElem_mem hlt)
      have ar' := ar.below hbel
      have cr' := cr.below hbel
      clear a1 a2 a3 a4 a5 c1 c2 c3 c4 c5 ar cr
      generalize ps[k].name = y1 at *
      generalize ps[k].period = y2 at *
      generalize ps[k].duration = y3 at *
      generalize ps[k].action = y4 at *
      generalize ps[k].regs = ys at *
      obtain ⟨ra, rc, rfl, _⟩ := id ar'
      obtain ⟨ra', rc', rfl, _⟩ := id cr'
      have B1 : Below wr.heap.size wr (wr.alloc (.cells #[.string y1, .int .i64 y2, .int .i64 y3, .int .i64 y4, .slice ra ys.length rc] 42)) := (Below.refl _ _).alloc (Nat.le_refl _) _
      have B2 : Below wr.heap.size wr ((wr.alloc (.cells #[.string y1, .int .i64 y2, .int .i64 y3, .int .i64 y4, .slice ra ys.length rc] 42)).alloc (.cells #[.string y1, .int .i64 y2, .int .i64 y3, .int .i64 y4, .slice ra' ys.length rc'] 42)) := B1.alloc (by simp) _
      have m3 := keepE m2 B1
      have g1 := keepE f1 B1
      have g2 := keepE f2 B1
      have g3 := keepE f3 B1
      have g4 := keepE f4 B1
      have g5 := keepE f5 B1
      have X1 := heap_old _ (.cells #[.string y1, .int .i64 y2, .int .i64 y3, .int .i64 y4, .slice ra' ys.length rc'] 42) (heap_new wr (.cells #[.string y1, .int .i64 y2, .int .i64 y3, .int .i64 y4, .slice ra ys.length rc] 42))
      have X2 := heap_new (wr.alloc (.cells #[.string y1, .int .i64 y2, .int .i64 y3, .int .i64 y4, .slice ra ys.length rc] 42)) (.cells #[.string y1, .int .i64 y2, .int .i64 y3, .int .i64 y4, .slice ra' ys.length rc'] 42)
      simp only [World.size_alloc] at X2
      have hcall := sameRegions_true _ _ _ ys hrl (ar'.below B2) (cr'.below B2)
      have HK : Hid _ := hcall
      have HB2 : Hid _ := B2
      have HX : Hid _ := And.intro X1 X2
      have u5 := cell_of_blk X1 (i := 4)
      have v5 := cell_of_blk X2 (i := 4)
      clear hcall B1 B2 X1 X2
      go_wp2_with fail
      refine Calls.mono HK.out ?_
      rintro e V ⟨rfl, hbV⟩
      have Y1 := (hbV.block _ (lt_of_blk HX.out.1)).trans HX.out.1
      have Y2 := (hbV.block _ (lt_of_blk HX.out.2)).trans HX.out.2
      have S2 := SmB.below (w := w) (V := wr) HS.out (HB2.out.trans (hbV.mono (by simp; omega)))
      clear u5 v5 HX HK HB2 hbV m3 g1 g2 g3 g4 g5
      have s0 := cell_of_blk Y1 (i := 0)
      have s1 := cell_of_blk Y1 (i := 1)
      have s2 := cell_of_blk Y1 (i := 2)
      have s3 := cell_of_blk Y1 (i := 3)
      have t0 := cell_of_blk Y2 (i := 0)
      have t1 := cell_of_blk Y2 (i := 1)
      have t2 := cell_of_blk Y2 (i := 2)
      have t3 := cell_of_blk Y2 (i := 3)
      clear Y1 Y2
      go_wp2_with fail
      go_roundw
      case rel => exact ⟨k + 1, by go_num, by omega, S2⟩
      case measure => simp [intOf]; omega
    · have hlt' : ¬ (k : Int) < (ps.length : Int) := by omega
      go_wp2_with fail
      clear m1 m2 hbel hlt'
      generalize wr = w2 at *
      have hS : SmB w f pa pb ca cb ps.length pc pd cs.length cc cd w2 := HS.out
      clear HS h0
      go_loopw [9] (fun i wr => ∃ (k : Nat), i = .int .i64 k ∧ k ≤ cs.length ∧ SmB w f pa pb ca cb ps.length pc pd cs.length cc cd wr) (fun i _ => cs.length - (intOf i).toNat)
      case atStart => exact ⟨0, rfl, by omega, hS⟩
      case round =>
        obtain ⟨j, rfl, hj, hT⟩ := hrel
        have HT : Hid _ := hT
        have m1 : wr.cell? ⟨w.heap.size, 2, none⟩ = some (.slice ca cs.length cc) := by rw [cell_of_blk hT.1]; rfl
        have m2 : wr.cell? ⟨w.heap.size + 1, 2, none⟩ = some (.slice cb cs.length cd) := by rw [cell_of_blk hT.2.1]; rfl
        have hbel := hT.2.2
        clear hT hS
        by_cases hlt : j < cs.length
        · have hlt' : (j : Int) < (cs.length : Int) := by omega
          have hk0 : (0 : Int) ≤ (j : Int) := by omega
          obtain ⟨b, off, e1, a1, a2, a3, a4, a5, a6⟩ := HC.out j hlt
          obtain ⟨b', off', e2, c1, c2, c3, c4, c5, c6⟩ := HD.out j hlt
          subst e1 e2
          have d1 := keepE a1 (hbel)
          have d2 := keepE a2 (hbel)
          have d3 := keepE a3 (hbel)
          have d4 := keepE a4 (hbel)
          have d5 := keepE a5 (hbel)
          have d6 := keepE a6 (hbel)
          have f1 := keepE c1 (hbel)
          have f2 := keepE c2 (hbel)
          have f3 := keepE c3 (hbel)
          have f4 := keepE c4 (hbel)
          have f5 := keepE c5 (hbel)
          have f6 := keepE c6 (hbel)
          clear a1 a2 a3 a4 a5 a6 c1 c2 c3 c4 c5 c6
          generalize cs[j].name = y1 at *
          generalize cs[j].source = y2 at *
          generalize cs[j].target = y3 at *
          generalize cs[j].kind = y4 at *
          generalize cs[j].size = y5 at *
          generalize cs[j].depth = y6 at *
          go_wp2_with fail
          go_quiet (fail)
          go_wp2_with fail
          go_roundw
          case rel => exact ⟨j + 1, by go_num, by omega, SmB.below (w := w) (V := wr) HT.out (below_drewN (Below.refl _ _) _)⟩
          case measure => simp [intOf]; omega
        · have hlt' : ¬ (j : Int) < (cs.length : Int) := by omega
          go_wp2_with fail
          go_ret
          exact ⟨rfl, hbel⟩
end Go.Proofs.YteioennfpkoagaaGreatDoor.C
namespace Go.Proofs.YteioennfpkoagaaGreatDoor.C
open Go.RowKit

/- a text whose gaps are blanks and lines alone -/
def plain (t : List UInt8) : Prop := ∀ b ∈ t, b.toNat ≠ 32 ∧ b.toNat ≠ 10 ∧ b.toNat ≠ 59
inductive TxtP : List UInt8 → List (List UInt8) → Prop
  | nil : TxtP [] []
  | gap {b : UInt8} {l : List UInt8} {ts : List (List UInt8)} (hb : b.toNat = 32 ∨ b.toNat = 10) (h : TxtP l ts) : TxtP (b :: l) ts
  | tok {t rest : List UInt8} {ts : List (List UInt8)} (ht : isTok t) (hs : t = [59] ∨ plain t) (hn : notIn rest) (h : TxtP rest ts) : TxtP (t ++ rest) (t :: ts)
theorem Txt.pre {l c : List UInt8} {ts : List (List UInt8)} (h : Txt l ts) (hc : gapS false c = some false) : Txt (c ++ l) ts := by
  cases h with
  | nil h =>
    refine .nil ?_
    rcases h with h | h
    · exact .inl (gapS_cat hc h)
    · exact .inr (gapS_cat hc h)
  | cons hg ht hn h =>
    rw [← List.append_assoc]
    exact .cons (gapS_cat hc hg) ht hn h
theorem TxtP.txt {l : List UInt8} {ts : List (List UInt8)} (h : TxtP l ts) : Txt l ts := by
  induction h with
  | nil => exact .nil (.inl rfl)
  | @gap b l ts hb h ih =>
    refine Txt.pre (c := [b]) ih ?_
    rcases hb with hb | hb <;> simp [gapS, hb]
  | tok ht hs hn h ih =>
    exact Txt.cons (g := []) rfl ht (fun _ => hn) ih
/- the same with other gaps -/
def gapW : Nat → List UInt8
  | 0 => [32]
  | 1 => [32, 32]
  | 2 => [10]
  | 3 => [32, 35, 32, 114, 101, 109, 97, 114, 107, 59, 32, 123, 10]
  | _ => [10, 10]
def spF (f : Nat → Nat) : Nat → List UInt8 → List UInt8
  | _, [] => []
  | n, b :: l => if b.toNat = 32 ∨ b.toNat = 10 then gapW (f n) ++ spF f (n + 1) l else if b.toNat = 59 then [32, 59] ++ gapW (f n) ++ spF f (n + 1) l else b :: spF f n l
theorem gapW_ok (n : Nat) : gapS false (gapW n) = some false := by
  unfold gapW
  split <;> decide
theorem gapW_head (n : Nat) (l : List UInt8) : notIn (gapW n ++ l) := by
  unfold gapW notIn
  split <;> (intro b hb; simp at hb; subst hb; decide)
theorem spF_notIn (f : Nat → Nat) (n : Nat) {l : List UInt8} (h : notIn l) : notIn (spF f n l) := by
  cases l with
  | nil => intro b hb; simp [spF] at hb
  | cons b l =>
    simp only [spF]
    split
    · exact gapW_head _ _
    · split
      · intro c hc
        simp at hc
        subst hc; decide
      · intro c hc
        simp at hc
        subst hc
        exact h b rfl
theorem spF_plain (f : Nat → Nat) (n : Nat) {t : List UInt8} (h : plain t) (rest : List UInt8) : spF f n (t ++ rest) = t ++ spF f n rest := by
  induction t with
  | nil => rfl
  | cons b t ih =>
    have hb := h b (by simp)
    simp only [List.cons_append, spF]
    rw [if_neg (by omega), if_neg (by omega), ih (fun c hc => h c (by simp [hc]))]
theorem TxtP.spaced {l : List UInt8} {ts : List (List UInt8)} (h : TxtP l ts) (f : Nat → Nat) : ∀ n, Txt (spF f n l) ts := by
  induction h with
  | nil => intro n; exact .nil (.inl rfl)
  | @gap b l ts hb h ih =>
    intro n
    simp only [spF]
    rw [if_pos hb]
    exact Txt.pre (ih _) (gapW_ok _)
  | @tok t rest ts ht hs hn h ih =>
    intro n
    rcases hs with rfl | hs
    · show Txt (if _ then _ else _) _
      rw [if_neg (by decide), if_pos (by decide)]
      have := Txt.cons (g := [32]) (rest := gapW (f n) ++ spF f (n + 1) rest) rfl ht (fun _ => gapW_head _ _) (Txt.pre (ih (n + 1)) (gapW_ok _))
      simpa using this
    · rw [spF_plain f n hs]
      exact Txt.cons (g := []) rfl ht (fun _ => spF_notIn f n hn) (ih n)
/- cut -/
theorem TxtP.blank {l : List UInt8} {ts : List (List UInt8)} (h : TxtP l ts) (e : ts = []) : ∀ b ∈ l, b.toNat = 32 ∨ b.toNat = 10 := by
  induction h with
  | nil => intro b hb; simp at hb
  | gap hb h ih =>
    intro c hc
    rcases List.mem_cons.1 hc with rfl | hc
    · exact hb
    · exact ih e c hc
  | tok => cases e
theorem TxtP.some {l : List UInt8} {ts : List (List UInt8)} (h : TxtP l ts) (e : ts ≠ []) : ∃ b ∈ l, ¬ (b.toNat = 32 ∨ b.toNat = 10) := by
  induction h with
  | nil => exact absurd rfl e
  | gap hb h ih =>
    obtain ⟨c, hc, hc'⟩ := ih e
    exact ⟨c, by simp [hc], hc'⟩
  | @tok t rest ts ht hs hn h ih =>
    rcases hs with rfl | hs
    · exact ⟨59, by simp, by decide⟩
    · cases t with
      | nil => exact absurd rfl ht.1
      | cons c t => exact ⟨c, by simp, by have := hs c (by simp); omega⟩
theorem TxtP.cut {l : List UInt8} {ts : List (List UInt8)} (h : TxtP l ts) {b : UInt8} (hb : b.toNat = 59 ∨ b.toNat = 125) : ∀ (l' : List UInt8) (ts' : List (List UInt8)), l = l' ++ [b, 10] → ts = ts' ++ [[b]] → TxtP l' ts' := by
  induction h with
  | nil => intro l' ts' h1 h2; simp at h1
  | @gap c l ts hc h ih =>
    intro l' ts' h1 h2
    cases l' with
    | nil =>
      simp at h1
      rw [h1.1] at hc; omega
    | cons d l'' =>
      simp only [List.cons_append, List.cons.injEq] at h1
      rw [← h1.1]
      exact .gap hc (ih l'' ts' h1.2 h2)
  | @tok t rest ts ht hs hn h ih =>
    intro l' ts' h1 h2
    cases ts' with
    | nil =>
      simp only [List.nil_append, List.cons.injEq] at h2
      obtain ⟨rfl, rfl⟩ := h2
      cases l' with
      | nil => exact .nil
      | cons d l'' =>
        simp only [List.cons_append, List.nil_append, List.cons.injEq] at h1
        have := h.blank rfl b (by rw [h1.2]; simp)
        omega
    | cons t' ts'' =>
      simp only [List.cons_append, List.cons.injEq] at h2
      obtain ⟨rfl, rfl⟩ := h2
      obtain ⟨x, hx, hx'⟩ := h.some (by simp)
      have hne : 2 ≤ rest.length := by
        cases rest with
        | nil => simp at hx
        | cons c r =>
          cases r with
          | cons _ _ => simp
          | nil =>
            have e : c = 10 := by
              have := congrArg List.getLast? h1
              simpa using this
            simp at hx
            rw [hx, e] at hx'
            exact absurd (.inr rfl) hx'
      have hl : t.length + rest.length = l'.length + 2 := by have := congrArg List.length h1; simpa using this
      have h3 : t ++ rest.take (rest.length - 2) = l' := by
        have := congrArg (List.take l'.length) h1
        rw [List.take_left, List.take_append] at this
        rw [List.take_of_length_le (by omega), show l'.length - t.length = rest.length - 2 by omega] at this
        exact this
      have h4 : rest = rest.take (rest.length - 2) ++ [b, 10] := by
        have h5 : t ++ rest = t ++ (rest.take (rest.length - 2) ++ [b, 10]) := by rw [← List.append_assoc, h3]; exact h1
        exact List.append_cancel_left h5
      rw [← h3]
      refine .tok ht hs (fun c hc => ?_) (ih _ _ h4 rfl)
      apply hn c
      rw [h4, List.head?_append, hc]; rfl
end Go.Proofs.YteioennfpkoagaaGreatDoor.C
namespace Go.Proofs.YteioennfpkoagaaGreatDoor.C
open Go.RowKit

/- the printed text is made of such gaps and tokens -/
theorem ni {b : UInt8} {l : List UInt8} (h : insideB b.toNat = false) : notIn (b :: l) := fun c hc => by
  simp at hc; subst hc; exact h
def kwB (t : List UInt8) : Bool := decide (t ≠ []) && decide ((tokF t).1 = t.length) && decide ((tokF t).2 ≠ 4) && t.all fun b => decide (b.toNat ≠ 32 ∧ b.toNat ≠ 10 ∧ b.toNat ≠ 59)
theorem kw_of {t : List UInt8} (h : kwB t = true) : isTok t ∧ (t = [59] ∨ plain t) := by
  unfold kwB at h
  simp only [Bool.and_eq_true, decide_eq_true_eq, List.all_eq_true] at h
  exact ⟨⟨h.1.1.1, h.1.1.2, h.1.2⟩, .inr h.2⟩
theorem semi_of : isTok kSemi ∧ (kSemi = [59] ∨ plain kSemi) := ⟨⟨by decide, by decide, by decide⟩, .inl rfl⟩
theorem dec_all : ((List.range 1000).all fun n => kwB (decG 3 n)) = true := by kernel_rfl
theorem dec_kw {n : Int} (h : 0 ≤ n ∧ n ≤ 999) : isTok (decF n) ∧ (decF n = [59] ∨ plain (decF n)) := kw_of (List.all_eq_true.1 dec_all n.toNat (List.mem_range.2 (by omega)))
theorem name_kw {t : List UInt8} (h : nameF t = true) : isTok t ∧ (t = [59] ∨ plain t) := by
  refine ⟨(name_tok h).1, .inr ?_⟩
  unfold nameF at h
  simp only [Bool.and_eq_true, decide_eq_true_eq, List.all_eq_true] at h
  intro b hb
  have := h.2 b hb
  simp [insideB, smallB, digitB] at this
  omega
theorem right_kw {n : Int} (h1 : 1 ≤ n) (h2 : n ≤ 2) : isTok (rightW n.toNat) ∧ (rightW n.toNat = [59] ∨ plain (rightW n.toNat)) := by
  rcases (show n = 1 ∨ n = 2 by omega) with rfl | rfl <;> exact kw_of (by decide)
theorem kind_kw {n : Int} (h1 : 1 ≤ n) (h2 : n ≤ 2) : isTok (kindW n.toNat) ∧ (kindW n.toNat = [59] ∨ plain (kindW n.toNat)) := by
  rcases (show n = 1 ∨ n = 2 by omega) with rfl | rfl <;> exact kw_of (by decide)
theorem act_kw {n : Int} (h1 : 1 ≤ n) (h2 : n ≤ 3) : isTok (actW n.toNat) ∧ (actW n.toNat = [59] ∨ plain (actW n.toNat)) := by
  rcases (show n = 1 ∨ n = 2 ∨ n = 3 by omega) with rfl | rfl | rfl <;> exact kw_of (by decide)
theorem TxtP.t {t rest : List UInt8} {b : UInt8} {ts : List (List UInt8)} (ht : isTok t ∧ (t = [59] ∨ plain t)) (hb : insideB b.toNat = false) (h : TxtP (b :: rest) ts) : TxtP (t ++ (b :: rest)) (t :: ts) := .tok ht.1 ht.2 (ni hb) h
theorem TxtP.g1 {l : List UInt8} {ts : List (List UInt8)} (h : TxtP l ts) : TxtP (32 :: l) ts := .gap (.inl rfl) h
theorem TxtP.g2 {l : List UInt8} {ts : List (List UInt8)} (h : TxtP l ts) : TxtP (10 :: l) ts := .gap (.inr rfl) h
theorem TxtP.semi {l : List UInt8} {ts : List (List UInt8)} (h : TxtP l ts) : TxtP (59 :: 10 :: l) (kSemi :: ts) := TxtP.t (t := [59]) semi_of rfl h.g2
theorem head_txt {f : Int} (hf : 0 ≤ f ∧ f ≤ 999) {rest : List UInt8} {ts : List (List UInt8)} (h : TxtP rest ts) : TxtP (headT f ++ rest) ([kModule, decF f, kSemi] ++ ts) := by
  have e : headT f ++ rest = kModule ++ (32 :: (decF f ++ (59 :: 10 :: rest))) := by simp [headT, kModule]
  rw [e]
  exact .t (kw_of (by decide)) rfl (.g1 (.t (dec_kw hf) rfl (.semi h)))
theorem reg_txt {r : RegD} (hb : regB r = true) {rest : List UInt8} {ts : List (List UInt8)} (h : TxtP rest ts) : TxtP (regT r ++ rest) (regK r ++ ts) := by
  unfold regB at hb
  simp only [decide_eq_true_eq] at hb
  have e : regT r ++ rest = 32 :: 32 :: (kMemory ++ (32 :: (decF r.page ++ (32 :: (decF r.pages ++ (32 :: (rightW r.rights.toNat ++ (59 :: 10 :: rest)))))))) := by simp [regT, kMemory]
  rw [e]
  exact .g1 (.g1 (.t (kw_of (by decide)) rfl (.g1 (.t (dec_kw ⟨by omega, by omega⟩) rfl (.g1 (.t (dec_kw ⟨by omega, by omega⟩) rfl (.g1 (.t (right_kw (by omega) (by omega)) rfl (.semi h)))))))))
theorem regs_txt : ∀ (rs : List RegD), (∀ r ∈ rs, regB r = true) → ∀ {rest : List UInt8} {ts : List (List UInt8)}, TxtP rest ts → TxtP (rs.flatMap regT ++ rest) (rs.flatMap regK ++ ts)
  | [], _, _, _, h => h
  | r :: rs, hb, _, _, h => by
    rw [List.flatMap_cons, List.flatMap_cons, List.append_assoc, List.append_assoc]
    exact reg_txt (hb r (by simp)) (regs_txt rs (fun x hx => hb x (by simp [hx])) h)
theorem part_txt {x : PartD} (hx : PartOK x) {rest : List UInt8} {ts : List (List UInt8)} (h : TxtP rest ts) : TxtP (partT x ++ rest) (partK x ++ ts) := by
  obtain ⟨h1, h2, h3, h4, h5⟩ := hx
  have e : partT x ++ rest = kPartition ++ (32 :: (x.name.data.toList ++ (32 :: (kOpen ++ (10 :: 32 :: 32 :: (kPeriod ++ (32 :: (decF x.period ++ (59 :: 10 :: 32 :: 32 :: (kDuration ++ (32 :: (decF x.duration ++ (59 :: 10 :: 32 :: 32 :: (kFault ++ (32 :: (actW x.action.toNat ++ (59 :: 10 :: (x.regs.flatMap regT ++ (kShut ++ (10 :: rest)))))))))))))))))))) := by
    simp [partT, kPartition, kOpen, kPeriod, kDuration, kFault, kShut]
  have e2 : partK x ++ ts = [kPartition, x.name.data.toList, kOpen, kPeriod, decF x.period, kSemi, kDuration, decF x.duration, kSemi, kFault, actW x.action.toNat, kSemi] ++ (x.regs.flatMap regK ++ (kShut :: ts)) := by
    simp [partK, partK0]
  rw [e, e2]
  exact .t (kw_of (by decide)) rfl (.g1 (.t (name_kw h1) rfl (.g1 (.t (kw_of (by decide)) rfl (.g2 (.g1 (.g1 (.t (kw_of (by decide)) rfl (.g1 (.t (dec_kw h2) rfl (.semi (.g1 (.g1 (.t (kw_of (by decide)) rfl (.g1 (.t (dec_kw h3) rfl (.semi (.g1 (.g1 (.t (kw_of (by decide)) rfl (.g1 (.t (act_kw h4.1 h4.2) rfl (.semi (regs_txt x.regs h5 (.t (kw_of (by decide)) rfl (.g2 h))))))))))))))))))))))))))
theorem parts_txt : ∀ (ps : List PartD), (∀ x ∈ ps, PartOK x) → ∀ {rest : List UInt8} {ts : List (List UInt8)}, TxtP rest ts → TxtP (ps.flatMap partT ++ rest) (ps.flatMap partK ++ ts)
  | [], _, _, _, h => h
  | r :: rs, hb, _, _, h => by
    rw [List.flatMap_cons, List.flatMap_cons, List.append_assoc, List.append_assoc]
    exact part_txt (hb r (by simp)) (parts_txt rs (fun x hx => hb x (by simp [hx])) h)
theorem nameAt_kw {ps : List PartD} (hn : NamesOK ps) {i : Int} (h : 0 ≤ i ∧ i < ps.length) : isTok (nameAt ps i) ∧ (nameAt ps i = [59] ∨ plain (nameAt ps i)) := by
  have h1 := name_at h
  unfold namesK at h1
  rw [List.getElem?_map, List.getElem?_eq_getElem (by omega)] at h1
  simp only [Option.map_some, Option.some.injEq] at h1
  rw [← h1]
  exact name_kw (hn.1 _ (List.getElem_mem _))
theorem chan_txt {ps : List PartD} {c : ChanD} (hn : NamesOK ps) (hc : ChanOK ps c) {rest : List UInt8} {ts : List (List UInt8)} (h : TxtP rest ts) : TxtP (chanT ps c ++ rest) (chanK ps c ++ ts) := by
  obtain ⟨h1, h2, h3, h4, h5, h6⟩ := hc
  have e : chanT ps c ++ rest = kChannel ++ (32 :: (c.name.data.toList ++ (32 :: (nameAt ps c.source ++ (32 :: (kArrow ++ (32 :: (nameAt ps c.target ++ (32 :: (kindW c.kind.toNat ++ (32 :: (decF c.size ++ (32 :: (decF c.depth ++ (59 :: 10 :: rest))))))))))))))) := by
    simp [chanT, kChannel, kArrow]
  rw [e]
  exact .t (kw_of (by decide)) rfl (.g1 (.t (name_kw h1) rfl (.g1 (.t (nameAt_kw hn h2) rfl (.g1 (.t (kw_of (by decide)) rfl (.g1 (.t (nameAt_kw hn h3) rfl (.g1 (.t (kind_kw h4.1 h4.2) rfl (.g1 (.t (dec_kw h5) rfl (.g1 (.t (dec_kw h6) rfl (.semi h)))))))))))))))
theorem chans_txt {ps : List PartD} (hn : NamesOK ps) : ∀ (cs : List ChanD), (∀ c ∈ cs, ChanOK ps c) → ∀ {rest : List UInt8} {ts : List (List UInt8)}, TxtP rest ts → TxtP (cs.flatMap (chanT ps) ++ rest) (cs.flatMap (chanK ps) ++ ts)
  | [], _, _, _, h => h
  | r :: rs, hb, _, _, h => by
    rw [List.flatMap_cons, List.flatMap_cons, List.append_assoc, List.append_assoc]
    exact chan_txt hn (hb r (by simp)) (chans_txt hn rs (fun x hx => hb x (by simp [hx])) h)
def ManOK (M : ManD) : Prop := (0 ≤ M.frame ∧ M.frame ≤ 999) ∧ (∀ x ∈ M.parts, PartOK x) ∧ NamesOK M.parts ∧ ∀ c ∈ M.chans, ChanOK M.parts c
theorem print_txt {M : ManD} (h : ManOK M) : TxtP (printL M) (manK M) := by
  obtain ⟨h1, h2, h3, h4⟩ := h
  unfold printL manK
  rw [List.append_assoc]
  have := head_txt h1 (parts_txt M.parts h2 (chans_txt h3 M.chans h4 .nil))
  rwa [List.append_nil, List.append_nil] at this
end Go.Proofs.YteioennfpkoagaaGreatDoor.C
