import Derived.Test.YteioennfpkoagaaGreatDoorB15
import Derived.Test.YteioennfpkoagaaGreatDoorB02
import Derived.Deep.DeepCutAuto
import Derived.Lib.SliceRun
import Derived.Deep.AppendLies
import Derived.Deep.RegionLaw
namespace Go.Proofs.YteioennfpkoagaaGreatDoor.C
open Go.RowKit
attribute [local go_sem ↓] Go.wp_at_zero Go.wp_at_succ

theorem make_rowF {t e size bytes : Nat} (ht : Tryz.prog.underlying t = some (.slice e)) (hi : (Tryz.prog.info? e).map (fun i => (i.zero.isSome, i.size, i.bytes)) = some (true, size, bytes)) (w : World) (c : Nat) (hb : bytes * c ≤ 281474976710656) (hc : c ≤ 9000000000000000000) :
    ∃ cs : Array Value, cs.size = c * size ∧ (Instr.makeSlice t (.int .i64 (c : Int)) (.int .i64 (c : Int))).run Tryz.prog w = .ok (.slice (some ⟨w.heap.size, 0, none⟩) c c) (w.alloc (.cells cs e)) := by
  obtain ⟨i, hi1, hi2⟩ := Option.map_eq_some_iff.1 hi
  simp only [Prod.mk.injEq] at hi2
  obtain ⟨hz, hs, hby⟩ := hi2
  obtain ⟨z, hz⟩ := Option.isSome_iff_exists.1 hz
  have hbc : i.bytes * c ≤ 281474976710656 := by rw [hby]; exact hb
  have hbi : (i.bytes : Int) * (c : Int) ≤ 281474976710656 := by
    have h : ((i.bytes * c : Nat) : Int) ≤ 281474976710656 := by omega
    rwa [Int.natCast_mul] at h
  have hr := run_make (P := Tryz.prog) w t e i z ht hi1 hz .i64 .i64 c c (by omega) (by omega) hbi (by omega)
  simp only [Int.toNat_natCast] at hr
  exact ⟨_, by rw [size_madeCells, hs], hr⟩
theorem make_row8 {t e size bytes : Nat} (ht : Tryz.prog.underlying t = some (.slice e)) (hi : (Tryz.prog.info? e).map (fun i => (i.zero.isSome, i.size, i.bytes)) = some (true, size, bytes)) (w : World) (n : Nat) (hb : bytes * (n + 8) ≤ 281474976710656) (hn : n ≤ 8000000000000000000) :
    ∃ cs : Array Value, cs.size = (n + 8) * size ∧ (Instr.makeSlice t (.int .i64 ((n : Int) + 8)) (.int .i64 ((n : Int) + 8))).run Tryz.prog w = .ok (.slice (some ⟨w.heap.size, 0, none⟩) (n + 8) (n + 8)) (w.alloc (.cells cs e)) := by
  obtain ⟨cs, h1, h2⟩ := make_rowF ht hi w (n + 8) hb (by omega)
  have e : ((n + 8 : Nat) : Int) = (n : Int) + 8 := by omega
  rw [e] at h2
  exact ⟨cs, h1, h2⟩

theorem infoRegions : (Tryz.prog.info? 40).map (fun i => (i.zero, i.size, i.bytes)) = some (some (.slice none 0 0), 1, 24) := by kernel_rfl
theorem infoInt : (Tryz.prog.info? 3).map (fun i => (i.zero, i.size, i.bytes)) = some (some (.int .i64 0), 1, 8) := by kernel_rfl
theorem PartsC.nil {w : World} {n : Nat} (h : n = 0) : PartsC w (.slice none 0 0) n := ⟨⟨_, _, _, rfl, Nat.le_refl _⟩, fun i hi => absurd hi (by omega)⟩
theorem LO.partsC {wA w : World} {lb pb hb : Nat} {f : Int} {pv cv : Value} {ps : List PartD} {cs : List ChanD} {rgv ctv : Value} {G : List Nat} (h : LO wA w lb pb hb f pv cv ps cs rgv ctv G) : PartsC w (.slice (some ⟨pb, 0, none⟩) ps.length (ps.length + 8)) ps.length := by
  refine ⟨⟨_, _, _, rfl, by omega⟩, fun i hi b off l c e rv hc => ?_⟩
  cases e
  obtain ⟨va, cap, e1, hq⟩ := h.parts
  cases e1
  have hgi : i < G.length := by rw [h.gl]; exact hi
  have h4 : w.cell? ⟨pb, 0 + i * 5 + 4, none⟩ = (partC ps[i] G[i])[4]? := by
    rw [cell_of_blk h.part]
    rw [List.getElem?_toArray, List.getElem?_append_left (by rw [partsC_len _ _ (by rw [h.gl]; exact Nat.le_refl _), h.gl]; omega), Nat.zero_add]
    exact partsC_at ps G i 4 hgi (by rw [h.gl]; exact Nat.le_refl _) (by omega)
  rw [h4] at hc
  have : rv = .slice (some ⟨G[i], 0, none⟩) ps[i].regs.length (ps[i].regs.length + 8) := (Option.some.inj hc).symm
  exact ⟨_, _, _, this, by omega⟩
theorem info_parts {e s b : Nat} {z : Value} (h : (Tryz.prog.info? e).map (fun i => (i.zero, i.size, i.bytes)) = some (some z, s, b)) : ∃ i, Tryz.prog.info? e = some i ∧ i.zero = some z ∧ i.size = s ∧ i.bytes = b := by
  obtain ⟨i, hi, h2⟩ := Option.map_eq_some_iff.1 h
  simp only [Prod.mk.injEq] at h2
  exact ⟨i, hi, h2.1, h2.2.1, h2.2.2⟩
set_option maxRecDepth 100000 in
set_option maxHeartbeats 8000000 in
theorem lent_any (wA w : World) (lb : Nat) (f : Int) (pv cv : Value) (ps : List PartD) (cs : List ChanD) (hA : Below wA.heap.size wA w) (hp : PartsV wA pv ps) (hc : ChansV wA cv cs) (hlb : wA.heap.size ≤ lb)
    (hl : w.heap[lb]? = some (.cells #[.slice none 0 0, .slice none 0 0, .slice none 0 0, .slice none 0 0, .int .i64 0, .slice none 0 0, .slice none 0 0] 186 (0, 0)))
    (hn : ps.length ≤ 2199023255552) (hm : cs.length ≤ 2513169434844) (hr : ∀ i (hi : i < ps.length), ps[i].regs.length ≤ 5864062014635) :
    Calls Tryz.prog 94 #[.pointer (some ⟨lb, 0, none⟩), .agg #[.int .i64 f, pv, cv]] w fun e w' => ∃ pv' cv', e = .returned (.agg #[.int .i64 f, pv', cv']) ∧ PartsV w' pv' ps ∧ ChansV w' cv' cs ∧ (PartsC w' pv' ps.length ∧ capV cv') ∧ ∃ pb hb rgv ctv G, LO wA w' lb pb hb f pv cv ps cs rgv ctv G := by
  have HP : Hid (PartsV wA pv ps) := hp
  have HCV : Hid (ChansV wA cv cs) := hc
  obtain ⟨pa, pcap, rfl, hpc⟩ := hp
  obtain ⟨ca, ccap, rfl, hcc⟩ := hc
  have HPC : Hid _ := hpc
  have HCC : Hid _ := hcc
  have HR : Hid _ := hr
  clear hpc hcc hr
  have hlb2 := lt_of_blk hl
  have hwn : IntKind.i64.wrap ((ps.length : Int) + 8) = (ps.length : Int) + 8 := wrap_small _ (by omega) (by omega)
  have z := frozen_of_blk (i := 4) hl
  have c4 : w.cell? ⟨lb, 4, none⟩ = some (.int .i64 0) := by rw [cell_of_blk hl]; rfl
  have c5 : w.cell? ⟨lb, 5, none⟩ = some (.slice none 0 0) := by rw [cell_of_blk hl]; rfl
  have c6 : w.cell? ⟨lb, 6, none⟩ = some (.slice none 0 0) := by rw [cell_of_blk hl]; rfl
  have z4 := frozen_of_blk (i := 4) hl
  have z5 := frozen_of_blk (i := 5) hl
  have z6 := frozen_of_blk (i := 6) hl
  go_enter Tryz.func94, Tryz.ntmps94
  go_upto_region 3 with fail
  have hl0 : (((((w.setCell ⟨lb, 4, none⟩ (.int .i64 f)).setCell ⟨lb, 5, none⟩ (.slice pa ps.length pcap)).setCell ⟨lb, 6, none⟩ (.slice ca cs.length ccap)).alloc (.cells #[.int .i64 f, .slice pa ps.length pcap, .slice ca cs.length ccap] 34)).alloc (.cells #[.int .i64 0, .slice none 0 0, .slice none 0 0] 34)).heap[lb]? = some (.cells #[.slice none 0 0, .slice none 0 0, .slice none 0 0, .slice none 0 0, .int .i64 f, .slice pa ps.length pcap, .slice ca cs.length ccap] 186 (0, 0)) :=
    heap_old _ _ (heap_old _ _ (by rw [blk_set 6 _ (blk_set 5 _ (blk_set 4 _ hl))]; rfl))
  have hm0 : (((((w.setCell ⟨lb, 4, none⟩ (.int .i64 f)).setCell ⟨lb, 5, none⟩ (.slice pa ps.length pcap)).setCell ⟨lb, 6, none⟩ (.slice ca cs.length ccap)).alloc (.cells #[.int .i64 f, .slice pa ps.length pcap, .slice ca cs.length ccap] 34)).alloc (.cells #[.int .i64 0, .slice none 0 0, .slice none 0 0] 34)).heap[w.heap.size]? = some (.cells #[.int .i64 f, .slice pa ps.length pcap, .slice ca cs.length ccap] 34 (0, 0)) := heap_old _ _ (by
    have := heap_new (((w.setCell ⟨lb, 4, none⟩ (.int .i64 f)).setCell ⟨lb, 5, none⟩ (.slice pa ps.length pcap)).setCell ⟨lb, 6, none⟩ (.slice ca cs.length ccap)) (.cells #[.int .i64 f, .slice pa ps.length pcap, .slice ca cs.length ccap] 34)
    simpa only [World.size_setCell] using this)
  have ho0 : (((((w.setCell ⟨lb, 4, none⟩ (.int .i64 f)).setCell ⟨lb, 5, none⟩ (.slice pa ps.length pcap)).setCell ⟨lb, 6, none⟩ (.slice ca cs.length ccap)).alloc (.cells #[.int .i64 f, .slice pa ps.length pcap, .slice ca cs.length ccap] 34)).alloc (.cells #[.int .i64 0, .slice none 0 0, .slice none 0 0] 34)).heap[w.heap.size + 1]? = some (.cells #[.int .i64 0, .slice none 0 0, .slice none 0 0] 34 (0, 0)) := by
    have := heap_new ((((w.setCell ⟨lb, 4, none⟩ (.int .i64 f)).setCell ⟨lb, 5, none⟩ (.slice pa ps.length pcap)).setCell ⟨lb, 6, none⟩ (.slice ca cs.length ccap)).alloc (.cells #[.int .i64 f, .slice pa ps.length pcap, .slice ca cs.length ccap] 34)) (.cells #[.int .i64 0, .slice none 0 0, .slice none 0 0] 34)
    simpa only [World.size_alloc, World.size_setCell] using this
  have hA0 : Below wA.heap.size wA (((((w.setCell ⟨lb, 4, none⟩ (.int .i64 f)).setCell ⟨lb, 5, none⟩ (.slice pa ps.length pcap)).setCell ⟨lb, 6, none⟩ (.slice ca cs.length ccap)).alloc (.cells #[.int .i64 f, .slice pa ps.length pcap, .slice ca cs.length ccap] 34)).alloc (.cells #[.int .i64 0, .slice none 0 0, .slice none 0 0] 34)) := ((((hA.setCell hlb _).setCell hlb _).setCell hlb _).alloc (by simp only [World.size_setCell]; exact hA.size) _).alloc (by simp only [World.size_alloc, World.size_setCell]; have := hA.size; omega) _
  have hs0 : (((((w.setCell ⟨lb, 4, none⟩ (.int .i64 f)).setCell ⟨lb, 5, none⟩ (.slice pa ps.length pcap)).setCell ⟨lb, 6, none⟩ (.slice ca cs.length ccap)).alloc (.cells #[.int .i64 f, .slice pa ps.length pcap, .slice ca cs.length ccap] 34)).alloc (.cells #[.int .i64 0, .slice none 0 0, .slice none 0 0] 34)).heap.size = w.heap.size + 1 + 1 := by simp only [World.size_alloc, World.size_setCell]
  clear z c4 c5 c6 z4 z5 z6
  generalize ((((w.setCell ⟨lb, 4, none⟩ (.int .i64 f)).setCell ⟨lb, 5, none⟩ (.slice pa ps.length pcap)).setCell ⟨lb, 6, none⟩ (.slice ca cs.length ccap)).alloc (.cells #[.int .i64 f, .slice pa ps.length pcap, .slice ca cs.length ccap] 34)).alloc (.cells #[.int .i64 0, .slice none 0 0, .slice none 0 0] 34) = W0 at *
  obtain ⟨zs, hzs, hmk⟩ := make_row8 Tryz.underlying31 infoPart W0 ps.length (by omega) (by omega)
  have hl1 := heap_old W0 (.cells zs 42) hl0
  have y2 : (W0.alloc (.cells zs 42)).cell? ⟨lb, 2, none⟩ = some (.slice none 0 0) := by rw [cell_of_blk hl1]; rfl
  have z2 := frozen_of_blk (i := 2) hl1
  have hLS : LS wA ((W0.alloc (.cells zs 42)).setCell ⟨lb, 2, none⟩ (.slice (some ⟨w.heap.size + 1 + 1, 0, none⟩) (ps.length + 8) (ps.length + 8))) lb w.heap.size (w.heap.size + 1) (w.heap.size + 1 + 1) f (.slice pa ps.length pcap) (.slice ca cs.length ccap) ps 0 (.slice none 0 0) (.slice none 0 0) (.slice none 0 0) [] [] [] zs.toList := by
    have hz : zs.toList.length = (ps.length + 8) * 5 := by simpa using hzs
    have hp1 := heap_new W0 (.cells zs 42)
    rw [hs0] at hp1
    refine ⟨by rw [blk_set 2 _ hl1]; rfl, by rw [blk_far _ _ (by omega)]; exact heap_old _ _ hm0, by rw [blk_far _ _ (by omega)]; exact heap_old _ _ ho0, ?_, by simp, by simpa using hz, by rw [show rgL ps [] = [] by cases ps <;> rfl]; exact World.ownsRow_nil _ _ _ _, by rw [show ctL ps [] = [] by cases ps <;> rfl]; exact World.ownsRow_nil _ _ _ _, by simp, fun j h => absurd h (by simp), (hA0.alloc hA0.size _).setCell hlb _, ?_⟩
    · rw [blk_far _ _ (by omega), hp1]
      have e1 : partsC ps [] = [] := by cases ps <;> rfl
      rw [e1]; simp [rep]
    · have := hA.size; exact ⟨hlb, this, by omega, by omega, by omega⟩
  go_wp2_with fail
  clear y2 z2 hl1 hmk hl0 hm0 ho0 hA0
  generalize ((W0.alloc (.cells zs 42)).setCell ⟨lb, 2, none⟩ (.slice (some ⟨w.heap.size + 1 + 1, 0, none⟩) (ps.length + 8) (ps.length + 8))) = W1 at *
  go_loopw [6] (fun i wr => ∃ (k : Nat) (rgv ctv : Value) (G : List Nat) (R : List Value), i = .int .i64 k ∧ k ≤ ps.length + 8 ∧ LS wA wr lb w.heap.size (w.heap.size + 1) (w.heap.size + 1 + 1) f (.slice pa ps.length pcap) (.slice ca cs.length ccap) ps k rgv ctv (.slice none 0 0) G G G R) (fun i _ => ps.length + 8 - (intOf i).toNat)
  case atStart => exact ⟨0, _, _, _, _, rfl, by omega, hLS⟩
  case round =>
    obtain ⟨k, rgv, ctv, G, R, rfl, hk, hS⟩ := hrel
    clear hLS
    obtain ⟨ra, rcap, rfl⟩ := own_shapeT hS.rr
    obtain ⟨ta, tcap, rfl⟩ := own_shapeT hS.rc
    have l2 : wr.cell? ⟨lb, 2, none⟩ = some (.slice (some ⟨w.heap.size + 1 + 1, 0, none⟩) (ps.length + 8) (ps.length + 8)) := by rw [cell_of_blk hS.loan]; rfl
    by_cases hlt : k < ps.length + 8
    · have hlt' : (k : Int) < (ps.length : Int) + 8 := by omega
      have hk0 : (0 : Int) ≤ (k : Int) := by omega
      have hDl := hS.dlen
      have hR5 := hS.rlen hlt
      have hpt := hS.part
      rw [← List.append_assoc] at hpt
      have cellAt : ∀ j, j < 5 → ∃ y, wr.cell? ⟨w.heap.size + 1 + 1, k * 5 + j, none⟩ = some y := by
        intro j hj
        rw [cell_of_blk hpt]
        have : k * 5 + j < (partsC ps G ++ rep badPC (k - ps.length) ++ R).toArray.size := by simp only [List.size_toArray, List.length_append] at *; omega
        exact ⟨_, Array.getElem?_eq_getElem this⟩
      obtain ⟨p0, e0⟩ := cellAt 0 (by omega)
      obtain ⟨p1, e1⟩ := cellAt 1 (by omega)
      obtain ⟨p2, e2⟩ := cellAt 2 (by omega)
      obtain ⟨p3, e3⟩ := cellAt 3 (by omega)
      obtain ⟨p4, e4⟩ := cellAt 4 (by omega)
      simp only [Nat.add_zero] at e0
      have HPT : Hid _ := hpt
      have HDL : Hid _ := hDl
      clear cellAt hpt hDl
      have fz : ∀ j, wr.frozen? ⟨w.heap.size + 1 + 1, j, none⟩ = false := fun j => frozen_of_blk hS.part
      have hpbl := lt_of_blk hS.part
      have hll := lt_of_blk hS.loan
      generalize w.heap.size + 1 + 1 = pb at *
      go_wp2_with fail
      go_cut [] (fun wc => LS wA wc lb w.heap.size (w.heap.size + 1) pb f (.slice pa ps.length pcap) (.slice ca cs.length ccap) ps k (.slice ra G.length rcap) (.slice ta G.length tcap) (.slice none 0 0) G G G (badPC ++ R.drop 5))
      case first =>
        go_region_with ((first
          | (go_at_call 88; refine (badP_0 _).mono ?_; rintro e w2 ⟨rfl, hb2⟩
             have l2' := keepC (w1 := wr.drew) l2 hb2
             have e0' := keepC (w1 := wr.drew) e0 hb2
             have e1' := keepC (w1 := wr.drew) e1 hb2
             have e2' := keepC (w1 := wr.drew) e2 hb2
             have e3' := keepC (w1 := wr.drew) e3 hb2
             have e4' := keepC (w1 := wr.drew) e4 hb2
             have fz' : ∀ j, w2.frozen? ⟨pb, j, none⟩ = false := fun j => (hb2.frozen (by exact hpbl)).trans (fz j))))
        all_goals (
          go_wp2_with fail
          go_meet
          exact (LS.below hS (w' := w2) ⟨hb2.os, hb2.tape, hb2.output, hb2.size, hb2.block⟩).setRow hlt badPC rfl)
      case rest =>
        clear hS l2 e0 e1 e2 e3 e4 fz HPT HDL hpbl hll
        have hll := lt_of_blk hcut.loan
        by_cases hkn : k < ps.length
        · have hkn' : (k : Int) < (ps.length : Int) := by omega
          obtain ⟨b, off, rv, rfl, c0, c1, c2, c3, c4, hrv⟩ := HPC.out k hkn
          have HRV : Hid _ := hrv
          obtain ⟨xa, xcap, rfl, hrx⟩ := hrv
          clear hrx
          have d0 := keepC c0 hcut.low
          have d1 := keepC c1 hcut.low
          have d2 := keepC c2 hcut.low
          have d3 := keepC c3 hcut.low
          have d4 := keepC c4 hcut.low
          clear c0 c1 c2 c3 c4
          have hxr := HR.out k hkn
          have m1 : wc.cell? ⟨w.heap.size, 1, none⟩ = some (.slice (some ⟨b, off, none⟩) ps.length pcap) := by rw [cell_of_blk hcut.man]; rfl
          generalize hx : ps[k] = x at *
          have HX : Hid _ := hx
          clear hx
          go_upto_region 10 with fail
          have hx1 := heap_new wc (.cells #[.string x.name, .int .i64 x.period, .int .i64 x.duration, .int .i64 x.action, .slice xa x.regs.length xcap] 42)
          have hS1 := hcut.below ((Below.refl wc.heap.size wc).alloc (Nat.le_refl _) (.cells #[.string x.name, .int .i64 x.period, .int .i64 x.duration, .int .i64 x.action, .slice xa x.regs.length xcap] 42))
          have hxl : wc.heap.size < (wc.alloc (.cells #[.string x.name, .int .i64 x.period, .int .i64 x.duration, .int .i64 x.action, .slice xa x.regs.length xcap] 42)).heap.size := lt_of_blk hx1
          have hpx : pb ≠ wc.heap.size := by have := lt_of_blk hcut.part; omega
          clear d0 d1 d2 d3 d4 m1 hcut
          generalize wc.alloc (.cells #[.string x.name, .int .i64 x.period, .int .i64 x.duration, .int .i64 x.action, .slice xa x.regs.length xcap] 42) = V1 at *
          generalize wc.heap.size = xb at *
          have x4 : V1.cell? ⟨xb, 4, none⟩ = some (.slice xa x.regs.length xcap) := by rw [cell_of_blk hx1]; rfl
          obtain ⟨rs, hrs, hmk⟩ := make_row8 Tryz.underlying40 infoReg V1 x.regs.length (by omega) (by omega)
          have hwr : IntKind.i64.wrap ((x.regs.length : Int) + 8) = (x.regs.length : Int) + 8 := wrap_small _ (by omega) (by omega)
          go_upto_region 11 with fail
          have hg2 := heap_new V1 (.cells rs 90)
          have hb2 := (Below.refl V1.heap.size V1).alloc (Nat.le_refl _) (.cells rs 90)
          have hS2 := hS1.below hb2
          have hx2 := heap_old V1 (.cells rs 90) hx1
          have hxg : xb ≠ V1.heap.size := by omega
          have hgx : pb ≠ V1.heap.size := by have := lt_of_blk hS1.part; omega
          have hgb : wA.heap.size ≤ V1.heap.size := hS1.low.size
          have hGn : ∀ j (hj : j < G.length), G[j] ≠ V1.heap.size := fun j hj => by have := hS1.gl; have := lt_of_blk (hS1.blk j hj (by omega)).1; omega
          clear x4 hmk hS1 hx1 hb2 hxl
          generalize V1.alloc (.cells rs 90) = V2 at *
          generalize V1.heap.size = gb at *
          have x4 : V2.cell? ⟨xb, 4, none⟩ = some (.slice xa x.regs.length xcap) := by rw [cell_of_blk hx2]; rfl
          have hcp := run_copy_rows (P := Tryz.prog) V2 40 40 3 90 gb (x.regs.length + 8) (x.regs.length + 8) xa x.regs.length xcap 3 rs 90 (regsC x.regs) Tryz.underlying40 infoReg3 hg2 (by omega) (regsC_len _) (fun hp => regs_src (RegsV.below HRV.out hS2.low) hp) (by rw [regsC_len, hrs]; omega) (regsC_one _)
          go_upto_region 12 with fail
          have hk3 := kb_setRow V2 gb (regsC x.regs ++ List.drop (regsC x.regs).length rs.toList).toArray
          have hg3 := setRow_heap V2 gb rs (regsC x.regs ++ List.drop (regsC x.regs).length rs.toList).toArray 90 _ hg2
          have hS3 := hS2.kbReg hg2 hgb hGn hk3
          have hx3 := (hk3.block _ (lt_of_blk hx2) hxg).trans hx2
          have hrest : (List.drop (regsC x.regs).length rs.toList).length = 8 * 3 := by rw [List.length_drop, regsC_len]; have : rs.toList.length = (x.regs.length + 8) * 3 := by simpa using hrs
                                                                                        omega
          clear x4 hcp hk3 hg2 hS2 hx2
          generalize V2.setRow gb (regsC x.regs ++ List.drop (regsC x.regs).length rs.toList).toArray = V3 at *
          generalize List.drop (regsC x.regs).length rs.toList = rest0 at *
          have x4 : V3.cell? ⟨xb, 4, none⟩ = some (.slice xa x.regs.length xcap) := by rw [cell_of_blk hx3]; rfl
          go_wp2_with fail
          go_loopw [9] (fun i wx => ∃ (j : Nat) (rest : List Value), i = .int .i64 (j : Int) ∧ x.regs.length ≤ j ∧ j ≤ x.regs.length + 8 ∧ rest.length = (x.regs.length + 8 - j) * 3 ∧ wx.heap[gb]? = some (.cells (regsC x.regs ++ rep badRC (j - x.regs.length) ++ rest).toArray 90 (0, 0)) ∧ KB (fun x => x = gb) V3 wx) (fun i _ => x.regs.length + 8 - (intOf i).toNat)
          case atStart => exact ⟨x.regs.length, rest0, rfl, by omega, by omega, by omega, by simpa [rep] using hg3, KB.refl _ _⟩
          case round =>
            obtain ⟨j, rest, rfl, hj1, hj2, hrl, hg4, hk4⟩ := hrel
            by_cases hql : j < x.regs.length + 8
            · have hql' : (j : Int) < (x.regs.length : Int) + 8 := by omega
              have hq0 : (0 : Int) ≤ (j : Int) := by omega
              have hDl : (regsC x.regs ++ rep badRC (j - x.regs.length)).length = j * 3 := by
                rw [List.length_append, regsC_len, rep_len]
                have : badRC.length = 3 := rfl
                rw [this]; omega
              have hr3 : 3 ≤ rest.length := by omega
              have cellAt : ∀ r, r < 3 → ∃ y, wr.cell? ⟨gb, j * 3 + r, none⟩ = some y := by
                intro r hr
                rw [cell_of_blk hg4]
                have : j * 3 + r < (regsC x.regs ++ rep badRC (j - x.regs.length) ++ rest).toArray.size := by simp only [List.size_toArray, List.length_append] at *; omega
                exact ⟨_, Array.getElem?_eq_getElem this⟩
              obtain ⟨p0, e0⟩ := cellAt 0 (by omega)
              obtain ⟨p1, e1⟩ := cellAt 1 (by omega)
              obtain ⟨p2, e2⟩ := cellAt 2 (by omega)
              simp only [Nat.add_zero] at e0
              have fz : ∀ r, wr.frozen? ⟨gb, r, none⟩ = false := fun r => frozen_of_blk hg4
              have hgl4 := lt_of_blk hg4
              have HDL : Hid _ := hDl
              clear cellAt hDl
              go_wp2_with fail
              refine (badR_0 _).mono ?_
              rintro e w2 ⟨rfl, hb2⟩
              have e0' := keepC e0 hb2
              have e1' := keepC e1 hb2
              have e2' := keepC e2 hb2
              have fz' : ∀ r, w2.frozen? ⟨gb, r, none⟩ = false := fun r => (hb2.frozen (by exact hgl4)).trans (fz r)
              have hg5 := (hb2.block _ hgl4).trans hg4
              have hk5 := hk4.trans (KB.below hb2)
              clear e0 e1 e2 fz
              go_wp2_with fail
              go_roundw
              case rel =>
                refine ⟨j + 1, rest.drop 3, by go_num, by omega, by omega, by rw [List.length_drop]; omega, ?_, hk5.trans (kb_setCells w2 gb (j * 3) badRC)⟩
                rw [show j + 1 - x.regs.length = (j - x.regs.length) + 1 by omega, rep_add, rep_one]
                have := reg_row (vs := badRC) HDL.out rfl hr3 hg5
                rw [← List.append_assoc] at this
                rw [← List.append_assoc]
                exact this
              case measure => simp [intOf]; omega
            · have hql' : ¬ (j : Int) < (x.regs.length : Int) + 8 := by omega
              have hje : j = x.regs.length + 8 := by omega
              have hg5 : wr.heap[gb]? = some (.cells (regsC x.regs ++ rep badRC 8).toArray 90 (0, 0)) := by
                rw [hje] at hg4 hrl
                have : rest = [] := List.eq_nil_of_length_eq_zero (by rw [hrl]; omega)
                rw [this] at hg4
                simpa using hg4
              have hS5 := hS3.kbReg hg3 hgb hGn hk4
              have hx5 := (hk4.block _ (lt_of_blk hx3) hxg).trans hx3
              clear hg4 hrl hj1 hj2 x4
              generalize wr = V5 at *
              have HGK : Hid (G.length = k) := by have := hS5.gl; show _ = _; omega
              have hGl : G.length ≤ 2199023255552 := by have := HGK.out; omega
              have hS6 := hS5.below ((Below.refl V5.heap.size V5).alloc (Nat.le_refl _) (.cells #[.slice (some ⟨gb, 0, none⟩) (x.regs.length + 8) (x.regs.length + 8)] 40))
              have hg6 := heap_old V5 (.cells #[.slice (some ⟨gb, 0, none⟩) (x.regs.length + 8) (x.regs.length + 8)] 40) hg5
              have hx6 := heap_old V5 (.cells #[.slice (some ⟨gb, 0, none⟩) (x.regs.length + 8) (x.regs.length + 8)] 40) hx5
              have hl6 := lt_of_blk hS6.loan
              have r0 : V5.cell? ⟨lb, 0, none⟩ = some (.slice ra G.length rcap) := by rw [cell_of_blk hS5.loan]; rfl
              have nb := own_not hS6.rr hS6.loan (by decide)
              obtain ⟨j0, hj0, hy0, hy1, hy2⟩ := info_parts infoRegions
              go_upto_region 17 with (first
                | (at_builtin; refine wpList_append_lies _ rfl _ _ _ rfl wA.heap.size 40 j0 _ 1 24 Tryz.underlying24 hj0 hy0 hy1 hy2 rfl (by omega) (.slice ra G.length rcap) G.length (rgL ps G) rfl hS6.rr ⟨V5.heap.size, 0, none⟩ 1 1 [.slice (some ⟨gb, 0, none⟩) (x.regs.length + 8) (x.regs.length + 8)] rfl rfl (World.news_of_block (cs := #[.slice (some ⟨gb, 0, none⟩) (x.regs.length + 8) (x.regs.length + 8)]) (t := 40) (fr := (0, 0)) (heap_new V5 _)) (by simp [Value.oneCell']) (by omega) (by unfold maxLen; omega) (by omega) hS6.low.size _ rfl ?_; intro g1 c1 V6 o6 gr6 d6 l6
                   have b6 : V6.heap[lb]? = _ := (gr6.block lb hl6 (fun e => nb e.symm)).trans hS6.loan
                   have q6 : V6.cell? ⟨lb, 0, none⟩ = some (.slice ra G.length rcap) := by (rw [cell_of_blk b6]; rfl)
                   have z6 : V6.frozen? ⟨lb, 0, none⟩ = false := frozen_of_blk b6))
              have hl7 : G.length < ps.length := by have := HGK.out; omega
              have hpx7 : ps[G.length] = x := by
                have e : ps[G.length] = ps[k] := by congr 1
                rw [e]; exact HX.out
              have hS7 := hS6.addR (gb := gb) hl7 (by rw [hpx7]; exact hg6) hgb gr6 (by rw [hpx7]; exact o6)
              have hx7 : (V6.setCell ⟨lb, 0, none⟩ (.slice (some ⟨g1, 0, none⟩) (G.length + 1) c1)).heap[xb]? = some (.cells #[.string x.name, .int .i64 x.period, .int .i64 x.duration, .int .i64 x.action, .slice xa x.regs.length xcap] 42 (0, 0)) := by
                have h1 := (gr6.block xb (lt_of_blk hx6) (fun e => own_not hS6.rr hx6 (by decide) e.symm)).trans hx6
                rw [blk_far _ _ (blk_ty h1 b6 (by decide))]; exact h1
              have HPX7 : Hid _ := hpx7
              clear hpx7 hS6 hg6 hx6 hl6 r0 nb o6 gr6 d6 l6 b6 q6 z6 hS5 hx5 hg5 hg3 hS3 hx3 hk4
              generalize V6.setCell ⟨lb, 0, none⟩ (.slice (some ⟨g1, 0, none⟩) (G.length + 1) c1) = V7 at *
              obtain ⟨i0, hi0, hz0, hz1, hz2⟩ := info_parts infoInt
              have hS8 : LS wA (V7.drew.alloc (.cells #[.int .i64 (x.regs.length : Int)] 3)) lb w.heap.size (w.heap.size + 1) pb f (.slice (some ⟨b, off, none⟩) ps.length pcap) (.slice ca cs.length ccap) ps k _ _ _ G (G ++ [gb]) G _ := (hS7.below ((Below.refl V7.heap.size V7).drew)).below ((Below.refl V7.drew.heap.size V7.drew).alloc (Nat.le_refl _) (.cells #[.int .i64 (x.regs.length : Int)] 3))
              have hx8 : (V7.drew.alloc (.cells #[.int .i64 (x.regs.length : Int)] 3)).heap[xb]? = some (.cells #[.string x.name, .int .i64 x.period, .int .i64 x.duration, .int .i64 x.action, .slice xa x.regs.length xcap] 42 (0, 0)) := heap_old V7.drew (.cells #[.int .i64 (x.regs.length : Int)] 3) hx7
              have hl8 := lt_of_blk hS8.loan
              have hxl8 := lt_of_blk hx8
              have r1 : V7.cell? ⟨lb, 1, none⟩ = some (.slice ta G.length tcap) := by rw [cell_of_blk hS7.loan]; rfl
              have x4 : V7.cell? ⟨xb, 4, none⟩ = some (.slice xa x.regs.length xcap) := by rw [cell_of_blk hx7]; rfl
              have r1' : (V7.alloc (.cells #[.int .i64 (x.regs.length : Int)] 3)).cell? ⟨lb, 1, none⟩ = some (.slice ta G.length tcap) := by rw [cell_of_blk (w := V7.alloc (.cells #[.int .i64 (x.regs.length : Int)] 3)) hS8.loan]; rfl
              have nb := own_not hS8.rc hS8.loan (by decide)
              have nx := own_not hS8.rc hx8 (by decide)
              go_cut [] (fun wc => (∃ g2 c2, LS wA wc lb w.heap.size (w.heap.size + 1) pb f (.slice (some ⟨b, off, none⟩) ps.length pcap) (.slice ca cs.length ccap) ps k (.slice (some ⟨g1, 0, none⟩) (G.length + 1) c1) (.slice (some ⟨g2, 0, none⟩) (G.length + 1) c2) (.slice none 0 0) G (G ++ [gb]) (G ++ [gb]) (badPC ++ R.drop 5)) ∧ wc.heap[xb]? = some (.cells #[.string x.name, .int .i64 x.period, .int .i64 x.duration, .int .i64 x.action, .slice xa x.regs.length xcap] 42 (0, 0)))
              case first =>
                go_region_law (first
                  | (refine step_append_lies _ (by rfl) _ _ _ (by rfl) wA.heap.size 3 i0 _ 1 8 Tryz.underlying48 hi0 hz0 hz1 hz2 rfl (by omega) (.slice ta G.length tcap) G.length (ctL ps G) (by rfl) hS8.rc ⟨V7.heap.size, 0, none⟩ 1 1 [.int .i64 (x.regs.length : Int)] (by rfl) (by rfl) (World.news_of_block (cs := #[.int .i64 (x.regs.length : Int)]) (t := 3) (fr := (0, 0)) (heap_new V7.drew _)) (by simp [Value.oneCell']) (by omega) (by unfold maxLen; omega) (by omega) hS8.low.size (V7.heap.size + 1) (by simp) ?_; intro g2 c2 V8 o8 gr8 d8 l8
                     have b8 : V8.heap[lb]? = _ := (gr8.block lb hl8 (fun e => nb e.symm)).trans hS8.loan
                     have q8 : V8.cell? ⟨lb, 1, none⟩ = some (.slice ta G.length tcap) := by (rw [cell_of_blk b8]; rfl)
                     have z8 : V8.frozen? ⟨lb, 1, none⟩ = false := frozen_of_blk b8))
                all_goals (
                  go_wp2_with fail
                  go_meet
                  have h1 := (gr8.block xb hxl8 (fun e => nx e.symm)).trans hx8
                  exact ⟨⟨g2, c2, hS8.addC (gb := gb) hl7 gr8 (by rw [HPX7.out]; exact o8)⟩, by rw [blk_far _ _ (blk_ty h1 b8 (by decide))]; exact h1⟩)
              case rest =>
                obtain ⟨⟨g2, c2, hS9⟩, hx9⟩ := hcut
                clear hS8 hx8 hl8 hxl8 r1 r1' x4 nb nx hS7 hx7
                have x4 : wc.cell? ⟨xb, 4, none⟩ = some (.slice xa x.regs.length xcap) := by rw [cell_of_blk hx9]; rfl
                have fz4 := frozen_of_blk (i := 4) hx9
                have hle8 : (x.regs.length : Int) ≤ (x.regs.length : Int) + 8 := by omega
                have hle0 : (0 : Int) ≤ (x.regs.length : Int) := by omega
                have hxbA : wA.heap.size ≤ xb := by omega
                go_upto_region 19 with fail
                have hkx := kb_set wc xb 4 (.slice (some ⟨gb, 0, none⟩) x.regs.length (x.regs.length + 8))
                have hS10 := hS9.kbPart hx9 hxbA hpx hkx
                have hx10 : (wc.setCell ⟨xb, 4, none⟩ (.slice (some ⟨gb, 0, none⟩) x.regs.length (x.regs.length + 8))).heap[xb]? = some (.cells #[.string x.name, .int .i64 x.period, .int .i64 x.duration, .int .i64 x.action, .slice (some ⟨gb, 0, none⟩) x.regs.length (x.regs.length + 8)] 42 (0, 0)) := by rw [blk_set 4 _ hx9]; rfl
                clear hS9 hx9 x4 fz4 hkx
                generalize wc.setCell ⟨xb, 4, none⟩ (.slice (some ⟨gb, 0, none⟩) x.regs.length (x.regs.length + 8)) = V10 at *
                have l2 : V10.cell? ⟨lb, 2, none⟩ = some (.slice (some ⟨pb, 0, none⟩) (ps.length + 8) (ps.length + 8)) := by rw [cell_of_blk hS10.loan]; rfl
                have u0 : V10.cell? ⟨xb, 0, none⟩ = some (.string x.name) := by rw [cell_of_blk hx10]; rfl
                have u1 : V10.cell? ⟨xb, 1, none⟩ = some (.int .i64 x.period) := by rw [cell_of_blk hx10]; rfl
                have u2 : V10.cell? ⟨xb, 2, none⟩ = some (.int .i64 x.duration) := by rw [cell_of_blk hx10]; rfl
                have u3 : V10.cell? ⟨xb, 3, none⟩ = some (.int .i64 x.action) := by rw [cell_of_blk hx10]; rfl
                have u4 : V10.cell? ⟨xb, 4, none⟩ = some (.slice (some ⟨gb, 0, none⟩) x.regs.length (x.regs.length + 8)) := by rw [cell_of_blk hx10]; rfl
                obtain ⟨p0, e0⟩ := hS10.cells hlt 0 (by omega)
                obtain ⟨p1, e1⟩ := hS10.cells hlt 1 (by omega)
                obtain ⟨p2, e2⟩ := hS10.cells hlt 2 (by omega)
                obtain ⟨p3, e3⟩ := hS10.cells hlt 3 (by omega)
                obtain ⟨p4, e4⟩ := hS10.cells hlt 4 (by omega)
                simp only [Nat.add_zero] at e0
                have fz : ∀ j, V10.frozen? ⟨pb, j, none⟩ = false := fun j => frozen_of_blk hS10.part
                have hS11 := (hS10.below ((Below.refl V10.heap.size V10).drew)).setRow hlt (partC x gb) rfl
                have HS11 : Hid _ := hS11
                clear hS11
                go_region
                go_wp2_with fail
                go_roundw
                case rel => exact ⟨k + 1, _, _, G ++ [gb], R.drop 5, by go_num, by omega, LS.next hkn (by rw [HX.out]; exact HS11.out)⟩
                case measure => simp [intOf]; omega
        · have hkn' : ¬ (k : Int) < (ps.length : Int) := by omega
          go_wp2_with fail
          go_roundw
          case rel => exact ⟨k + 1, _, _, G, R.drop 5, by go_num, by omega, hcut.bad hlt (by omega)⟩
          case measure => simp [intOf]; omega
    · have hlt' : ¬ (k : Int) < (ps.length : Int) + 8 := by omega
      have hke : k = ps.length + 8 := by omega
      subst hke
      have m2 : wr.cell? ⟨w.heap.size, 2, none⟩ = some (.slice ca cs.length ccap) := by rw [cell_of_blk hS.man]; rfl
      obtain ⟨ys, hys, hmk⟩ := make_row8 Tryz.underlying32 infoChan wr cs.length (by omega) (by omega)
      have hwm : IntKind.i64.wrap ((cs.length : Int) + 8) = (cs.length : Int) + 8 := wrap_small _ (by omega) (by omega)
      have hS1 := hS.below ((Below.refl wr.heap.size wr).alloc (Nat.le_refl _) (.cells ys 92))
      have hg1 := heap_new wr (.cells ys 92)
      have hgA : wA.heap.size ≤ wr.heap.size := hS.low.size
      have y3 : (wr.alloc (.cells ys 92)).cell? ⟨lb, 3, none⟩ = some (.slice none 0 0) := by rw [cell_of_blk hS1.loan]; rfl
      have z3 := frozen_of_blk (i := 3) hS1.loan
      generalize w.heap.size + 1 + 1 = pb at *
      go_upto_region 21 with fail
      have hS2 := hS1.setCh (.slice (some ⟨wr.heap.size, 0, none⟩) (cs.length + 8) (cs.length + 8))
      have hg2 : ((wr.alloc (.cells ys 92)).setCell ⟨lb, 3, none⟩ (.slice (some ⟨wr.heap.size, 0, none⟩) (cs.length + 8) (cs.length + 8))).heap[wr.heap.size]? = some (.cells ys 92 (0, 0)) := by
        rw [blk_far _ _ (blk_ty hg1 hS1.loan (by decide))]; exact hg1
      clear y3 z3 hS1 hg1 hmk m2 hS l2
      generalize (wr.alloc (.cells ys 92)).setCell ⟨lb, 3, none⟩ (.slice (some ⟨wr.heap.size, 0, none⟩) (cs.length + 8) (cs.length + 8)) = V2 at *
      generalize wr.heap.size = hb at *
      have q3 : V2.cell? ⟨lb, 3, none⟩ = some (.slice (some ⟨hb, 0, none⟩) (cs.length + 8) (cs.length + 8)) := by rw [cell_of_blk hS2.loan]; rfl
      have m2 : V2.cell? ⟨w.heap.size, 2, none⟩ = some (.slice ca cs.length ccap) := by rw [cell_of_blk hS2.man]; rfl
      have hcp := run_copy_rows (P := Tryz.prog) V2.drew 32 32 3 92 hb (cs.length + 8) (cs.length + 8) ca cs.length ccap 6 ys 92 (chansC cs) Tryz.underlying32 infoChan6 hg2 (by omega) (chansC_len _) (fun hp => chans_src (ChansV.below HCV.out (hS2.low.drew)) hp) (by rw [chansC_len, hys]; omega) (chansC_one _)
      have hS2d : LS wA V2.drew lb w.heap.size (w.heap.size + 1) pb f (.slice pa ps.length pcap) (.slice ca cs.length ccap) ps (ps.length + 8) _ _ _ G G G R := hS2.below ((Below.refl V2.heap.size V2).drew)
      go_region
      have hk3 := kb_setRow V2.drew hb (chansC cs ++ List.drop (chansC cs).length ys.toList).toArray
      have hg3 := setRow_heap V2.drew hb ys (chansC cs ++ List.drop (chansC cs).length ys.toList).toArray 92 _ hg2
      have hS3 := hS2d.kbChan hg2 hgA hk3
      have hrest : (List.drop (chansC cs).length ys.toList).length = 8 * 6 := by
        rw [List.length_drop, chansC_len]
        have : ys.toList.length = (cs.length + 8) * 6 := by simpa using hys
        omega
      clear hcp hk3 hg2 hS2 hS2d q3 m2
      generalize V2.drew.setRow hb (chansC cs ++ List.drop (chansC cs).length ys.toList).toArray = V3 at *
      generalize List.drop (chansC cs).length ys.toList = rest0 at *
      have m2 : V3.cell? ⟨w.heap.size, 2, none⟩ = some (.slice ca cs.length ccap) := by rw [cell_of_blk hS3.man]; rfl
      go_wp2_with fail
      go_loopw [10] (fun i wx => ∃ (j : Nat) (rest : List Value), i = .int .i64 (j : Int) ∧ cs.length ≤ j ∧ j ≤ cs.length + 8 ∧ rest.length = (cs.length + 8 - j) * 6 ∧ wx.heap[hb]? = some (.cells (chansC cs ++ rep badCC (j - cs.length) ++ rest).toArray 92 (0, 0)) ∧ LS wA wx lb w.heap.size (w.heap.size + 1) pb f (.slice pa ps.length pcap) (.slice ca cs.length ccap) ps (ps.length + 8) (.slice ra G.length rcap) (.slice ta G.length tcap) (.slice (some ⟨hb, 0, none⟩) (cs.length + 8) (cs.length + 8)) G G G R) (fun i _ => cs.length + 8 - (intOf i).toNat)
      case atStart => exact ⟨cs.length, rest0, rfl, by omega, by omega, by omega, by simpa [rep] using hg3, hS3⟩
      case round =>
        obtain ⟨j, rest, rfl, hj1, hj2, hrl, hg4, hS4⟩ := hrel
        clear m2 hS3 hg3
        have q3 : wr.cell? ⟨lb, 3, none⟩ = some (.slice (some ⟨hb, 0, none⟩) (cs.length + 8) (cs.length + 8)) := by rw [cell_of_blk hS4.loan]; rfl
        by_cases hql : j < cs.length + 8
        · have hql' : (j : Int) < (cs.length : Int) + 8 := by omega
          have hq0 : (0 : Int) ≤ (j : Int) := by omega
          have hDl : (chansC cs ++ rep badCC (j - cs.length)).length = j * 6 := by
            rw [List.length_append, chansC_len, rep_len]
            have : badCC.length = 6 := rfl
            rw [this]; omega
          have hr6 : 6 ≤ rest.length := by omega
          have cellAt : ∀ r, r < 6 → ∃ y, wr.cell? ⟨hb, j * 6 + r, none⟩ = some y := by
            intro r hr
            rw [cell_of_blk hg4]
            have : j * 6 + r < (chansC cs ++ rep badCC (j - cs.length) ++ rest).toArray.size := by simp only [List.size_toArray, List.length_append] at *; omega
            exact ⟨_, Array.getElem?_eq_getElem this⟩
          obtain ⟨p0, e0⟩ := cellAt 0 (by omega)
          obtain ⟨p1, e1⟩ := cellAt 1 (by omega)
          obtain ⟨p2, e2⟩ := cellAt 2 (by omega)
          obtain ⟨p3, e3⟩ := cellAt 3 (by omega)
          obtain ⟨p4, e4⟩ := cellAt 4 (by omega)
          obtain ⟨p5, e5⟩ := cellAt 5 (by omega)
          simp only [Nat.add_zero] at e0
          have fz : ∀ r, wr.frozen? ⟨hb, r, none⟩ = false := fun r => frozen_of_blk hg4
          have hgl4 := lt_of_blk hg4
          have HDL : Hid _ := hDl
          clear cellAt hDl
          go_wp2_with fail
          go_region_with ((first
            | (go_at_call 44; refine (badC_0 _).mono ?_; rintro e w2 ⟨rfl, hb2⟩
               have q3' := keepC (w1 := wr.drew) q3 hb2
               have e0' := keepC (w1 := wr.drew) e0 hb2
               have e1' := keepC (w1 := wr.drew) e1 hb2
               have e2' := keepC (w1 := wr.drew) e2 hb2
               have e3' := keepC (w1 := wr.drew) e3 hb2
               have e4' := keepC (w1 := wr.drew) e4 hb2
               have e5' := keepC (w1 := wr.drew) e5 hb2
               have fz' : ∀ r, w2.frozen? ⟨hb, r, none⟩ = false := fun r => (hb2.frozen (by exact hgl4)).trans (fz r))))
          all_goals (
            have hb2' : Below wr.heap.size wr w2 := ⟨hb2.os, hb2.tape, hb2.output, hb2.size, hb2.block⟩
            have hg5 := (hb2'.block _ hgl4).trans hg4
            have hS5 := (hS4.below hb2').kbChan hg5 hgA (kb_setCells w2 hb (j * 6) badCC)
            go_wp2_with fail
            go_roundw
            case rel =>
              refine ⟨j + 1, rest.drop 6, by go_num, by omega, by omega, by rw [List.length_drop]; omega, ?_, hS5⟩
              rw [show j + 1 - cs.length = (j - cs.length) + 1 by omega, rep_add, rep_one]
              have := chan_row (vs := badCC) HDL.out rfl hr6 hg5
              rw [← List.append_assoc] at this
              rw [← List.append_assoc]
              exact this
            case measure => simp [intOf]; omega)
        · have hql' : ¬ (j : Int) < (cs.length : Int) + 8 := by omega
          have hje : j = cs.length + 8 := by omega
          have hg5 : wr.heap[hb]? = some (.cells (chansC cs ++ rep badCC 8).toArray 92 (0, 0)) := by
            rw [hje] at hg4 hrl
            have : rest = [] := List.eq_nil_of_length_eq_zero (by rw [hrl]; omega)
            rw [this] at hg4
            simpa using hg4
          clear hg4 hrl hj1 hj2
          generalize wr = V5 at *
          go_upto_region 26 with fail
          have m0 : V5.cell? ⟨w.heap.size, 0, none⟩ = some (.int .i64 f) := by rw [cell_of_blk hS4.man]; rfl
          have m2 : V5.cell? ⟨w.heap.size, 2, none⟩ = some (.slice ca cs.length ccap) := by rw [cell_of_blk hS4.man]; rfl
          have l2 : V5.cell? ⟨lb, 2, none⟩ = some (.slice (some ⟨pb, 0, none⟩) (ps.length + 8) (ps.length + 8)) := by rw [cell_of_blk hS4.loan]; rfl
          have w1 : (ps.length : Int) ≤ (ps.length : Int) + 8 := by omega
          have w2 : (0 : Int) ≤ (ps.length : Int) := by omega
          have w3 : (cs.length : Int) ≤ (cs.length : Int) + 8 := by omega
          have w4 : (0 : Int) ≤ (cs.length : Int) := by omega
          have hbz := (Below.refl V5.heap.size V5).alloc (Nat.le_refl _) (.cells #[.int .i64 0, .slice none 0 0, .slice none 0 0] 34)
          have m0' := keepC m0 hbz
          have m2' := keepC m2 hbz
          have l2' := keepC l2 hbz
          have q3' := keepC q3 hbz
          have ho6 : (V5.alloc (.cells #[.int .i64 f, .slice (some ⟨pb, 0, none⟩) ps.length (ps.length + 8), .slice (some ⟨hb, 0, none⟩) cs.length (cs.length + 8)] 34)).drew.heap[V5.heap.size]? = _ := heap_new V5 (.cells #[.int .i64 f, .slice (some ⟨pb, 0, none⟩) ps.length (ps.length + 8), .slice (some ⟨hb, 0, none⟩) cs.length (cs.length + 8)] 34)
          have hS6 : LS wA (V5.alloc (.cells #[.int .i64 f, .slice (some ⟨pb, 0, none⟩) ps.length (ps.length + 8), .slice (some ⟨hb, 0, none⟩) cs.length (cs.length + 8)] 34)).drew lb w.heap.size (w.heap.size + 1) pb f (.slice pa ps.length pcap) (.slice ca cs.length ccap) ps (ps.length + 8) _ _ _ G G G R := (hS4.below ((Below.refl V5.heap.size V5).alloc (Nat.le_refl _) (.cells #[.int .i64 f, .slice (some ⟨pb, 0, none⟩) ps.length (ps.length + 8), .slice (some ⟨hb, 0, none⟩) cs.length (cs.length + 8)] 34))).below ((Below.refl _ _).drew)
          have hg6 : (V5.alloc (.cells #[.int .i64 f, .slice (some ⟨pb, 0, none⟩) ps.length (ps.length + 8), .slice (some ⟨hb, 0, none⟩) cs.length (cs.length + 8)] 34)).drew.heap[hb]? = _ := heap_old V5 (.cells #[.int .i64 f, .slice (some ⟨pb, 0, none⟩) ps.length (ps.length + 8), .slice (some ⟨hb, 0, none⟩) cs.length (cs.length + 8)] 34) hg5
          have hor : w.heap.size + 1 ≠ V5.heap.size := by have := lt_of_blk hS4.res; omega
          have hrA : wA.heap.size ≤ V5.heap.size := hS4.low.size
          go_region
          clear m0 m2 l2 m0' m2' l2' q3' hbz q3 hS4 hg5
          generalize (V5.alloc (.cells #[.int .i64 f, .slice (some ⟨pb, 0, none⟩) ps.length (ps.length + 8), .slice (some ⟨hb, 0, none⟩) cs.length (cs.length + 8)] 34)).drew = V6 at *
          generalize V5.heap.size = rb at *
          have m1 : V6.cell? ⟨w.heap.size, 1, none⟩ = some (.slice pa ps.length pcap) := by rw [cell_of_blk hS6.man]; rfl
          have m2 : V6.cell? ⟨w.heap.size, 2, none⟩ = some (.slice ca cs.length ccap) := by rw [cell_of_blk hS6.man]; rfl
          have a0 : V6.cell? ⟨rb, 0, none⟩ = some (.int .i64 f) := by rw [cell_of_blk ho6]; rfl
          have a1 : V6.cell? ⟨rb, 1, none⟩ = some (.slice (some ⟨pb, 0, none⟩) ps.length (ps.length + 8)) := by rw [cell_of_blk ho6]; rfl
          have a2 : V6.cell? ⟨rb, 2, none⟩ = some (.slice (some ⟨hb, 0, none⟩) cs.length (cs.length + 8)) := by rw [cell_of_blk ho6]; rfl
          have b0 : V6.cell? ⟨w.heap.size + 1, 0, none⟩ = some (.int .i64 0) := by rw [cell_of_blk hS6.res]; rfl
          have b1 : V6.cell? ⟨w.heap.size + 1, 1, none⟩ = some (.slice none 0 0) := by rw [cell_of_blk hS6.res]; rfl
          have b2 : V6.cell? ⟨w.heap.size + 1, 2, none⟩ = some (.slice none 0 0) := by rw [cell_of_blk hS6.res]; rfl
          have fr : ∀ j, V6.frozen? ⟨rb, j, none⟩ = false := fun j => frozen_of_blk ho6
          have fo : ∀ j, V6.frozen? ⟨w.heap.size + 1, j, none⟩ = false := fun j => frozen_of_blk hS6.res
          have ep := fun W => Lib.run_eql_slice_nil (P := Tryz.prog) W 31 42 pa ps.length pcap 0 0 Tryz.underlying31
          have ec := fun W => Lib.run_eql_slice_nil (P := Tryz.prog) W 32 92 ca cs.length ccap 0 0 Tryz.underlying32
          have HKR : Hid (∀ (W : World) (i : Nat) (v : Value), KB (fun x => x = rb ∨ x = w.heap.size + 1) W (W.setCell ⟨rb, i, none⟩ v)) := fun W i v => (kb_set W rb i v).mono (fun x e => .inl e)
          have HKO : Hid (∀ (W : World) (i : Nat) (v : Value), KB (fun x => x = rb ∨ x = w.heap.size + 1) W (W.setCell ⟨w.heap.size + 1, i, none⟩ v)) := fun W i v => (kb_set W (w.heap.size + 1) i v).mono (fun x e => .inr e)
          have HLO : Hid _ := hS6.done hg6
          have HLW : Hid (∀ x, (fun x => x = rb ∨ x = w.heap.size + 1) x → wA.heap.size ≤ x) := fun x e => by
            have := hS6.ord
            rcases e with e | e <;> omega
          have HTY : Hid (∀ x, (fun x => x = rb ∨ x = w.heap.size + 1) x → ∃ c, V6.heap[x]? = some (.cells c 34 (0, 0))) := fun x e => by
            rcases e with e | e
            · rw [e]; exact ⟨_, ho6⟩
            · rw [e]; exact ⟨_, hS6.res⟩
          cases pa <;> cases ca
          all_goals simp only [Option.isNone_none, Option.isNone_some] at ep ec
          all_goals go_wp2_with fail
          · have hk := (((((HKR.out V6 1 (.slice none 0 0)).trans (HKR.out _ 2 (.slice none 0 0))).trans (HKO.out _ 0 (.int .i64 f))).trans (HKO.out _ 1 (.slice none 0 0))).trans (HKO.out _ 2 (.slice none 0 0)))
            have hL := HLO.out.kb hk HLW.out HTY.out
            refine bodyPost_ret (v := .agg #[.int .i64 f, (.slice none 0 0), (.slice none 0 0)]) (by simp [results, Tryz.results94, go_sem, *]) rfl ⟨_, _, rfl, ?_, ?_, ⟨by first | exact hL.partsC | (exact PartsC.nil (by rcases Nat.eq_zero_or_pos ps.length with h | h; exact h; obtain ⟨_, _, _, e, _⟩ := HPC.out 0 h; cases e)), ⟨_, _, _, rfl, by omega⟩⟩, pb, hb, _, _, G, hL⟩
            · have hn0 : ps = [] := List.eq_nil_of_length_eq_zero (by rcases Nat.eq_zero_or_pos ps.length with h | h; exact h; obtain ⟨_, _, _, e, _⟩ := HPC.out 0 h; cases e)
              rw [hn0]; exact ⟨none, 0, rfl, fun i h => absurd h (by simp)⟩
            · have hn0 : cs = [] := List.eq_nil_of_length_eq_zero (by rcases Nat.eq_zero_or_pos cs.length with h | h; exact h; obtain ⟨_, _, e, _⟩ := HCC.out 0 h; cases e)
              rw [hn0]; exact ⟨none, 0, rfl, fun i h => absurd h (by simp)⟩
          · have hk := ((((HKR.out V6 1 (.slice none 0 0)).trans (HKO.out _ 0 (.int .i64 f))).trans (HKO.out _ 1 (.slice none 0 0))).trans (HKO.out _ 2 (.slice (some ⟨hb, 0, none⟩) cs.length (cs.length + 8))))
            have hL := HLO.out.kb hk HLW.out HTY.out
            refine bodyPost_ret (v := .agg #[.int .i64 f, (.slice none 0 0), (.slice (some ⟨hb, 0, none⟩) cs.length (cs.length + 8))]) (by simp [results, Tryz.results94, go_sem, *]) rfl ⟨_, _, rfl, ?_, ?_, ⟨by first | exact hL.partsC | (exact PartsC.nil (by rcases Nat.eq_zero_or_pos ps.length with h | h; exact h; obtain ⟨_, _, _, e, _⟩ := HPC.out 0 h; cases e)), ⟨_, _, _, rfl, by omega⟩⟩, pb, hb, _, _, G, hL⟩
            · have hn0 : ps = [] := List.eq_nil_of_length_eq_zero (by rcases Nat.eq_zero_or_pos ps.length with h | h; exact h; obtain ⟨_, _, _, e, _⟩ := HPC.out 0 h; cases e)
              rw [hn0]; exact ⟨none, 0, rfl, fun i h => absurd h (by simp)⟩
            · exact hL.chans
          · have hk := ((((HKR.out V6 2 (.slice none 0 0)).trans (HKO.out _ 0 (.int .i64 f))).trans (HKO.out _ 1 (.slice (some ⟨pb, 0, none⟩) ps.length (ps.length + 8)))).trans (HKO.out _ 2 (.slice none 0 0)))
            have hL := HLO.out.kb hk HLW.out HTY.out
            refine bodyPost_ret (v := .agg #[.int .i64 f, (.slice (some ⟨pb, 0, none⟩) ps.length (ps.length + 8)), (.slice none 0 0)]) (by simp [results, Tryz.results94, go_sem, *]) rfl ⟨_, _, rfl, ?_, ?_, ⟨by first | exact hL.partsC | (exact PartsC.nil (by rcases Nat.eq_zero_or_pos ps.length with h | h; exact h; obtain ⟨_, _, _, e, _⟩ := HPC.out 0 h; cases e)), ⟨_, _, _, rfl, by omega⟩⟩, pb, hb, _, _, G, hL⟩
            · exact hL.parts
            · have hn0 : cs = [] := List.eq_nil_of_length_eq_zero (by rcases Nat.eq_zero_or_pos cs.length with h | h; exact h; obtain ⟨_, _, e, _⟩ := HCC.out 0 h; cases e)
              rw [hn0]; exact ⟨none, 0, rfl, fun i h => absurd h (by simp)⟩
          · have hk := (((HKO.out V6 0 (.int .i64 f)).trans (HKO.out _ 1 (.slice (some ⟨pb, 0, none⟩) ps.length (ps.length + 8)))).trans (HKO.out _ 2 (.slice (some ⟨hb, 0, none⟩) cs.length (cs.length + 8))))
            have hL := HLO.out.kb hk HLW.out HTY.out
            refine bodyPost_ret (v := .agg #[.int .i64 f, (.slice (some ⟨pb, 0, none⟩) ps.length (ps.length + 8)), (.slice (some ⟨hb, 0, none⟩) cs.length (cs.length + 8))]) (by simp [results, Tryz.results94, go_sem, *]) rfl ⟨_, _, rfl, ?_, ?_, ⟨by first | exact hL.partsC | (exact PartsC.nil (by rcases Nat.eq_zero_or_pos ps.length with h | h; exact h; obtain ⟨_, _, _, e, _⟩ := HPC.out 0 h; cases e)), ⟨_, _, _, rfl, by omega⟩⟩, pb, hb, _, _, G, hL⟩
            · exact hL.parts
            · exact hL.chans
end Go.Proofs.YteioennfpkoagaaGreatDoor.C
