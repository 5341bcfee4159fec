import Derived.Test.YteioennfpkoagaaDoorCdfI
import Derived.Test.YteioennfpkoagaaDoorChkG
namespace Go.Proofs.YteioennfpkoagaaDoor.C
open Go.RowKit
attribute [local go_sem ↓] Go.wp_at_zero Go.wp_at_succ

set_option maxRecDepth 100000 in
set_option maxHeartbeats 8000000 in
theorem print_any (f : Int) (ps : List PartD) (cs : List ChanD) (pv cv : Value) (w : World) (hp : PartsV w pv ps) (hc : ChansV w cv cs) (hl : ps.length ≤ 4611686018427387903) :
    Calls Tryd.prog 6 #[.agg #[.int .i64 f, pv, cv]] w fun e w' => (¬ checkF ⟨f, ps, cs⟩ = 0 ∧ e = .returned (.tuple #[.string ⟨#[]⟩, .int .i64 (checkF ⟨f, ps, cs⟩)]) ∨ checkF ⟨f, ps, cs⟩ = 0 ∧ e = .returned (.tuple #[.string (ba (printL ⟨f, ps, cs⟩)), .int .i64 0])) ∧ Below w.heap.size w w' := by
  have HP : Hid (PartsV w pv ps) := hp
  have HCV : Hid (ChansV w cv cs) := hc
  obtain ⟨pa, pcap, rfl, hpc⟩ := hp
  obtain ⟨ca, ccap, rfl, hcc⟩ := hc
  have HPC : Hid _ := hpc
  have HCC : Hid _ := hcc
  clear hpc hcc
  have hb0 : Below w.heap.size w (w.alloc (.cells #[.int .i64 f, .slice pa ps.length pcap, .slice ca cs.length ccap] 25)) := (Below.refl _ _).alloc (Nat.le_refl _) _
  have hm0 := heap_new w (.cells #[.int .i64 f, .slice pa ps.length pcap, .slice ca cs.length ccap] 25)
  go_enter Tryd.func6, Tryd.ntmps6
  go_wp2_with fail
  refine (check_any f ps cs _ _ _ (PartsV.below HP.out hb0) (ChansV.below HCV.out hb0) hl).mono ?_
  rintro e V ⟨rfl, hbv⟩
  have b1 := hb0.trans (hbv.mono hb0.size)
  have hm1 := (hbv.block _ (lt_of_blk hm0)).trans hm0
  clear hb0 hm0 hbv
  by_cases hz : ¬ checkF ⟨f, ps, cs⟩ = 0
  · have hzz : (checkF ⟨f, ps, cs⟩ != 0) = true := by simp [hz]
    have HZ : Hid _ := hz
    clear hz
    go_wp2_with fail
    go_ret2
    exact ⟨.inl ⟨HZ.out, rfl⟩, b1⟩
  have hz0 : checkF ⟨f, ps, cs⟩ = 0 := by omega
  clear hz
  obtain ⟨o1, o2, o3, o4, o5, o6⟩ := check_ok hz0
  simp only [] at o1 o2 o3 o4 o5 o6
  have HO5 : Hid _ := o5
  have HO6 : Hid _ := o6
  have HZ0 : Hid _ := hz0
  clear o5 o6
  rw [hz0]
  clear hz0
  have hm2 : w.heap.size < V.heap.size := lt_of_blk hm1
  have x0 : V.cell? ⟨w.heap.size, 0, none⟩ = some (.int .i64 f) := by rw [cell_of_blk hm1]; rfl
  have hB : PrB w f pa ca ps.length pcap cs.length ccap V.heap.size (((V.alloc (.cells #[.string { data := #[] }, .string { data := #[105, 103, 110, 111, 114, 101] }, .string { data := #[115, 116, 111, 112] }, .string { data := #[114, 101, 115, 116, 97, 114, 116] }] 9)).alloc (.cells #[.string { data := #[] }, .string { data := #[108, 111, 111, 107] }, .string { data := #[99, 104, 97, 110, 103, 101] }] 9)).alloc (.cells #[.string { data := #[] }, .string { data := #[113, 117, 101, 117, 101] }, .string { data := #[115, 97, 109, 112, 108, 101] }] 9)) := by
    have g1 := heap_new V (.cells #[.string { data := #[] }, .string { data := #[105, 103, 110, 111, 114, 101] }, .string { data := #[115, 116, 111, 112] }, .string { data := #[114, 101, 115, 116, 97, 114, 116] }] 9)
    have g2 := heap_new (V.alloc (.cells #[.string { data := #[] }, .string { data := #[105, 103, 110, 111, 114, 101] }, .string { data := #[115, 116, 111, 112] }, .string { data := #[114, 101, 115, 116, 97, 114, 116] }] 9)) (.cells #[.string { data := #[] }, .string { data := #[108, 111, 111, 107] }, .string { data := #[99, 104, 97, 110, 103, 101] }] 9)
    have g3 := heap_new ((V.alloc (.cells #[.string { data := #[] }, .string { data := #[105, 103, 110, 111, 114, 101] }, .string { data := #[115, 116, 111, 112] }, .string { data := #[114, 101, 115, 116, 97, 114, 116] }] 9)).alloc (.cells #[.string { data := #[] }, .string { data := #[108, 111, 111, 107] }, .string { data := #[99, 104, 97, 110, 103, 101] }] 9)) (.cells #[.string { data := #[] }, .string { data := #[113, 117, 101, 117, 101] }, .string { data := #[115, 97, 109, 112, 108, 101] }] 9)
    simp only [World.size_alloc] at g2 g3
    exact ⟨heap_old _ _ (heap_old _ _ (heap_old _ _ hm1)), heap_old _ _ (heap_old _ _ g1), heap_old _ _ g2, g3, ((b1.alloc b1.size _).alloc (by simp; omega) _).alloc (by simp; omega) _⟩
  have y0 : (((V.alloc (.cells #[.string { data := #[] }, .string { data := #[105, 103, 110, 111, 114, 101] }, .string { data := #[115, 116, 111, 112] }, .string { data := #[114, 101, 115, 116, 97, 114, 116] }] 9)).alloc (.cells #[.string { data := #[] }, .string { data := #[108, 111, 111, 107] }, .string { data := #[99, 104, 97, 110, 103, 101] }] 9)).alloc (.cells #[.string { data := #[] }, .string { data := #[113, 117, 101, 117, 101] }, .string { data := #[115, 97, 109, 112, 108, 101] }] 9)).cell? ⟨w.heap.size, 0, none⟩ = some (.int .i64 f) := by rw [cell_of_blk hB.1]; rfl
  clear hm1 b1
  have za0 : ¬ 9223372036854775807 < (({ data := #[109, 111, 100, 117, 108, 101, 32] } : ByteArray)).size + (ba (decF f)).size := cat_ok (show ({ data := #[109, 111, 100, 117, 108, 101, 32] } : ByteArray).size ≤ 7 from Nat.le_refl _) (dec_sz f) (by omega)
  have ra0 := cat_run (({ data := #[109, 111, 100, 117, 108, 101, 32] } : ByteArray)) (ba (decF f)) za0
  have sa0 : (({ data := #[109, 111, 100, 117, 108, 101, 32] } : ByteArray) ++ ba (decF f)).size ≤ 7 + 3 := cat_le (show ({ data := #[109, 111, 100, 117, 108, 101, 32] } : ByteArray).size ≤ 7 from Nat.le_refl _) (dec_sz f)
  have za1 : ¬ 9223372036854775807 < (({ data := #[109, 111, 100, 117, 108, 101, 32] } : ByteArray) ++ ba (decF f)).size + (({ data := #[59, 10] } : ByteArray)).size := cat_ok sa0 (show ({ data := #[59, 10] } : ByteArray).size ≤ 2 from Nat.le_refl _) (by omega)
  have ra1 := cat_run (({ data := #[109, 111, 100, 117, 108, 101, 32] } : ByteArray) ++ ba (decF f)) (({ data := #[59, 10] } : ByteArray)) za1
  have sa1 : (({ data := #[109, 111, 100, 117, 108, 101, 32] } : ByteArray) ++ ba (decF f) ++ ({ data := #[59, 10] } : ByteArray)).size ≤ 7 + 3 + 2 := cat_le sa0 (show ({ data := #[59, 10] } : ByteArray).size ≤ 2 from Nat.le_refl _)
  go_wp2_with fail
  clear x0
  generalize V.heap.size = ab at *
  generalize (((V.alloc (.cells #[.string { data := #[] }, .string { data := #[105, 103, 110, 111, 114, 101] }, .string { data := #[115, 116, 111, 112] }, .string { data := #[114, 101, 115, 116, 97, 114, 116] }] 9)).alloc (.cells #[.string { data := #[] }, .string { data := #[108, 111, 111, 107] }, .string { data := #[99, 104, 97, 110, 103, 101] }] 9)).alloc (.cells #[.string { data := #[] }, .string { data := #[113, 117, 101, 117, 101] }, .string { data := #[115, 97, 109, 112, 108, 101] }] 9)) = V1 at *
  refine (dec_any f V1 ⟨by omega, by omega⟩).mono ?_
  rintro e V2 ⟨rfl, hb2⟩
  have hB2 := hB.below hb2
  clear hB y0 hb2
  go_wp2_with fail
  have HS0 : Hid ((({ data := #[109, 111, 100, 117, 108, 101, 32] } : ByteArray) ++ ba (decF f) ++ ({ data := #[59, 10] } : ByteArray)).data.toList = headT f) := by simp [Hid, headT, ba]
  have hs0 : (({ data := #[109, 111, 100, 117, 108, 101, 32] } : ByteArray) ++ ba (decF f) ++ ({ data := #[59, 10] } : ByteArray)).size ≤ 100 := by have := sa1; omega
  clear za0 za1 sa0 sa1 ra0 ra1
  generalize ({ data := #[109, 111, 100, 117, 108, 101, 32] } : ByteArray) ++ ba (decF f) ++ ({ data := #[59, 10] } : ByteArray) = S0 at *
  go_loopw [8, 9] (fun s i wr => ∃ (k : Nat) (S : ByteArray), i = .int .i64 k ∧ s = .string S ∧ k ≤ ps.length ∧ Hid (S.data.toList = headT f ++ (ps.take k).flatMap partT) ∧ S.size ≤ 100 + 300 * k ∧ PrB w f pa ca ps.length pcap cs.length ccap ab wr) (fun _ i _ => ps.length - (intOf i).toNat)
  case atStart => exact ⟨0, S0, rfl, rfl, by omega, by show _ = _; rw [HS0.out]; simp, by omega, hB2⟩
  case round =>
    obtain ⟨k, S, rfl, rfl, hk, HS, hSz, hB⟩ := hrel
    have x1 : wr.cell? ⟨w.heap.size, 1, none⟩ = some (.slice pa ps.length pcap) := by rw [cell_of_blk hB.1]; rfl
    have x2 : wr.cell? ⟨w.heap.size, 2, none⟩ = some (.slice ca cs.length ccap) := by rw [cell_of_blk hB.1]; rfl
    by_cases hlt : k < ps.length
    · have hlt' : (k : Int) < (ps.length : Int) := by omega
      have hk0 : (0 : Int) ≤ (k : Int) := by omega
      obtain ⟨b, off, rv, rfl, c0, c1, c2, c3, c4, hrv⟩ := HPC.out k hlt
      have HRV : Hid _ := hrv
      obtain ⟨ra, rcap, rfl, hrx⟩ := hrv
      clear hrx
      obtain ⟨hr4, hpe⟩ := HO5.out k hlt
      obtain ⟨p1, p2, p3, p4, p5, p6, hro⟩ := partErr_ok hpe
      have hnm := partErr_name hpe
      have HRO : Hid _ := hro
      have HFS : Hid _ := flat_step ps partT k hlt
      have d0 := keepW c0 hB.2.2.2.2
      have d1 := keepW c1 hB.2.2.2.2
      have d2 := keepW c2 hB.2.2.2.2
      have d3 := keepW c3 hB.2.2.2.2
      have d4 := keepW c4 hB.2.2.2.2
      clear c0 c1 c2 c3 c4 hro hpe
      generalize ps[k] = x at *
      have hac : x.action = ((x.action.toNat : Nat) : Int) := by omega
      rw [hac] at d3
      have ha3 : x.action.toNat ≤ 3 := by omega
      have HPT : Hid (partT x = partT x) := rfl
      generalize hA : x.action.toNat = a at *
      have HA : Hid _ := hA
      clear hA hac HPT
      go_wp2_with fail
      have hx3 := heap_new wr (.cells #[.string x.name, .int .i64 x.period, .int .i64 x.duration, .int .i64 a, .slice ra x.regs.length rcap] 51)
      have hbw := (Below.refl wr.heap.size wr).alloc (Nat.le_refl _) (.cells #[.string x.name, .int .i64 x.period, .int .i64 x.duration, .int .i64 a, .slice ra x.regs.length rcap] 51)
      have hB3 := hB.below hbw
      clear d0 d1 d2 d3 d4 x1 x2 hB hbw
      generalize wr.alloc (.cells #[.string x.name, .int .i64 x.period, .int .i64 x.duration, .int .i64 a, .slice ra x.regs.length rcap] 51) = V3 at *
      generalize wr.heap.size = xb at *
      have y0 : V3.cell? ⟨xb, 0, none⟩ = some (.string x.name) := by rw [cell_of_blk hx3]; rfl
      have y1 : V3.cell? ⟨xb, 1, none⟩ = some (.int .i64 x.period) := by rw [cell_of_blk hx3]; rfl
      have y2 : V3.cell? ⟨xb, 2, none⟩ = some (.int .i64 x.duration) := by rw [cell_of_blk hx3]; rfl
      have y3 : V3.cell? ⟨xb, 3, none⟩ = some (.int .i64 a) := by rw [cell_of_blk hx3]; rfl
      have ya := act_cell hB3.2.1 a ha3
      have ha4 : (a : Int) < 4 := by omega
      have ha0 : (0 : Int) ≤ (a : Int) := by omega
      have zp0 : ¬ 9223372036854775807 < (S).size + (({ data := #[112, 97, 114, 116, 105, 116, 105, 111, 110, 32] } : ByteArray)).size := cat_ok hSz (show ({ data := #[112, 97, 114, 116, 105, 116, 105, 111, 110, 32] } : ByteArray).size ≤ 10 from Nat.le_refl _) (by omega)
      have rp0 := cat_run (S) (({ data := #[112, 97, 114, 116, 105, 116, 105, 111, 110, 32] } : ByteArray)) zp0
      have sp0 : (S ++ ({ data := #[112, 97, 114, 116, 105, 116, 105, 111, 110, 32] } : ByteArray)).size ≤ 100 + 300 * k + 10 := cat_le hSz (show ({ data := #[112, 97, 114, 116, 105, 116, 105, 111, 110, 32] } : ByteArray).size ≤ 10 from Nat.le_refl _)
      have np0 : ¬ 9223372036854775807 < S.size + 10 := by (have upb := hSz; omega)
      have zp1 : ¬ 9223372036854775807 < (S ++ ({ data := #[112, 97, 114, 116, 105, 116, 105, 111, 110, 32] } : ByteArray)).size + (x.name).size := cat_ok sp0 hnm (by omega)
      have rp1 := cat_run (S ++ ({ data := #[112, 97, 114, 116, 105, 116, 105, 111, 110, 32] } : ByteArray)) (x.name) zp1
      have sp1 : (S ++ ({ data := #[112, 97, 114, 116, 105, 116, 105, 111, 110, 32] } : ByteArray) ++ x.name).size ≤ 100 + 300 * k + 10 + 16 := cat_le sp0 hnm
      have np1 : ¬ 9223372036854775807 < S.size + 10 + x.name.size := by (have upb := hSz; have up1 := hnm; omega)
      have zp2 : ¬ 9223372036854775807 < (S ++ ({ data := #[112, 97, 114, 116, 105, 116, 105, 111, 110, 32] } : ByteArray) ++ x.name).size + (({ data := #[32, 123, 10, 32, 32, 112, 101, 114, 105, 111, 100, 32] } : ByteArray)).size := cat_ok sp1 (show ({ data := #[32, 123, 10, 32, 32, 112, 101, 114, 105, 111, 100, 32] } : ByteArray).size ≤ 12 from Nat.le_refl _) (by omega)
      have rp2 := cat_run (S ++ ({ data := #[112, 97, 114, 116, 105, 116, 105, 111, 110, 32] } : ByteArray) ++ x.name) (({ data := #[32, 123, 10, 32, 32, 112, 101, 114, 105, 111, 100, 32] } : ByteArray)) zp2
      have sp2 : (S ++ ({ data := #[112, 97, 114, 116, 105, 116, 105, 111, 110, 32] } : ByteArray) ++ x.name ++ ({ data := #[32, 123, 10, 32, 32, 112, 101, 114, 105, 111, 100, 32] } : ByteArray)).size ≤ 100 + 300 * k + 10 + 16 + 12 := cat_le sp1 (show ({ data := #[32, 123, 10, 32, 32, 112, 101, 114, 105, 111, 100, 32] } : ByteArray).size ≤ 12 from Nat.le_refl _)
      have np2 : ¬ 9223372036854775807 < S.size + 10 + x.name.size + 12 := by (have upb := hSz; have up1 := hnm; omega)
      have zp3 : ¬ 9223372036854775807 < (S ++ ({ data := #[112, 97, 114, 116, 105, 116, 105, 111, 110, 32] } : ByteArray) ++ x.name ++ ({ data := #[32, 123, 10, 32, 32, 112, 101, 114, 105, 111, 100, 32] } : ByteArray)).size + (ba (decF x.period)).size := cat_ok sp2 (dec_sz x.period) (by omega)
      have rp3 := cat_run (S ++ ({ data := #[112, 97, 114, 116, 105, 116, 105, 111, 110, 32] } : ByteArray) ++ x.name ++ ({ data := #[32, 123, 10, 32, 32, 112, 101, 114, 105, 111, 100, 32] } : ByteArray)) (ba (decF x.period)) zp3
      have sp3 : (S ++ ({ data := #[112, 97, 114, 116, 105, 116, 105, 111, 110, 32] } : ByteArray) ++ x.name ++ ({ data := #[32, 123, 10, 32, 32, 112, 101, 114, 105, 111, 100, 32] } : ByteArray) ++ ba (decF x.period)).size ≤ 100 + 300 * k + 10 + 16 + 12 + 3 := cat_le sp2 (dec_sz x.period)
      have np3 : ¬ 9223372036854775807 < S.size + 10 + x.name.size + 12 + (ba (decF x.period)).size := by (have upb := hSz; have up1 := hnm; have up3 := (dec_sz x.period); omega)
      have zp4 : ¬ 9223372036854775807 < (S ++ ({ data := #[112, 97, 114, 116, 105, 116, 105, 111, 110, 32] } : ByteArray) ++ x.name ++ ({ data := #[32, 123, 10, 32, 32, 112, 101, 114, 105, 111, 100, 32] } : ByteArray) ++ ba (decF x.period)).size + (({ data := #[59, 10, 32, 32, 100, 117, 114, 97, 116, 105, 111, 110, 32] } : ByteArray)).size := cat_ok sp3 (show ({ data := #[59, 10, 32, 32, 100, 117, 114, 97, 116, 105, 111, 110, 32] } : ByteArray).size ≤ 13 from Nat.le_refl _) (by omega)
      have rp4 := cat_run (S ++ ({ data := #[112, 97, 114, 116, 105, 116, 105, 111, 110, 32] } : ByteArray) ++ x.name ++ ({ data := #[32, 123, 10, 32, 32, 112, 101, 114, 105, 111, 100, 32] } : ByteArray) ++ ba (decF x.period)) (({ data := #[59, 10, 32, 32, 100, 117, 114, 97, 116, 105, 111, 110, 32] } : ByteArray)) zp4
      have sp4 : (S ++ ({ data := #[112, 97, 114, 116, 105, 116, 105, 111, 110, 32] } : ByteArray) ++ x.name ++ ({ data := #[32, 123, 10, 32, 32, 112, 101, 114, 105, 111, 100, 32] } : ByteArray) ++ ba (decF x.period) ++ ({ data := #[59, 10, 32, 32, 100, 117, 114, 97, 116, 105, 111, 110, 32] } : ByteArray)).size ≤ 100 + 300 * k + 10 + 16 + 12 + 3 + 13 := cat_le sp3 (show ({ data := #[59, 10, 32, 32, 100, 117, 114, 97, 116, 105, 111, 110, 32] } : ByteArray).size ≤ 13 from Nat.le_refl _)
      have np4 : ¬ 9223372036854775807 < S.size + 10 + x.name.size + 12 + (ba (decF x.period)).size + 13 := by (have upb := hSz; have up1 := hnm; have up3 := (dec_sz x.period); omega)
      have zp5 : ¬ 9223372036854775807 < (S ++ ({ data := #[112, 97, 114, 116, 105, 116, 105, 111, 110, 32] } : ByteArray) ++ x.name ++ ({ data := #[32, 123, 10, 32, 32, 112, 101, 114, 105, 111, 100, 32] } : ByteArray) ++ ba (decF x.period) ++ ({ data := #[59, 10, 32, 32, 100, 117, 114, 97, 116, 105, 111, 110, 32] } : ByteArray)).size + (ba (decF x.duration)).size := cat_ok sp4 (dec_sz x.duration) (by omega)
      have rp5 := cat_run (S ++ ({ data := #[112, 97, 114, 116, 105, 116, 105, 111, 110, 32] } : ByteArray) ++ x.name ++ ({ data := #[32, 123, 10, 32, 32, 112, 101, 114, 105, 111, 100, 32] } : ByteArray) ++ ba (decF x.period) ++ ({ data := #[59, 10, 32, 32, 100, 117, 114, 97, 116, 105, 111, 110, 32] } : ByteArray)) (ba (decF x.duration)) zp5
      have sp5 : (S ++ ({ data := #[112, 97, 114, 116, 105, 116, 105, 111, 110, 32] } : ByteArray) ++ x.name ++ ({ data := #[32, 123, 10, 32, 32, 112, 101, 114, 105, 111, 100, 32] } : ByteArray) ++ ba (decF x.period) ++ ({ data := #[59, 10, 32, 32, 100, 117, 114, 97, 116, 105, 111, 110, 32] } : ByteArray) ++ ba (decF x.duration)).size ≤ 100 + 300 * k + 10 + 16 + 12 + 3 + 13 + 3 := cat_le sp4 (dec_sz x.duration)
      have np5 : ¬ 9223372036854775807 < S.size + 10 + x.name.size + 12 + (ba (decF x.period)).size + 13 + (ba (decF x.duration)).size := by (have upb := hSz; have up1 := hnm; have up3 := (dec_sz x.period); have up5 := (dec_sz x.duration); omega)
      have zp6 : ¬ 9223372036854775807 < (S ++ ({ data := #[112, 97, 114, 116, 105, 116, 105, 111, 110, 32] } : ByteArray) ++ x.name ++ ({ data := #[32, 123, 10, 32, 32, 112, 101, 114, 105, 111, 100, 32] } : ByteArray) ++ ba (decF x.period) ++ ({ data := #[59, 10, 32, 32, 100, 117, 114, 97, 116, 105, 111, 110, 32] } : ByteArray) ++ ba (decF x.duration)).size + (({ data := #[59, 10, 32, 32, 102, 97, 117, 108, 116, 32] } : ByteArray)).size := cat_ok sp5 (show ({ data := #[59, 10, 32, 32, 102, 97, 117, 108, 116, 32] } : ByteArray).size ≤ 10 from Nat.le_refl _) (by omega)
      have rp6 := cat_run (S ++ ({ data := #[112, 97, 114, 116, 105, 116, 105, 111, 110, 32] } : ByteArray) ++ x.name ++ ({ data := #[32, 123, 10, 32, 32, 112, 101, 114, 105, 111, 100, 32] } : ByteArray) ++ ba (decF x.period) ++ ({ data := #[59, 10, 32, 32, 100, 117, 114, 97, 116, 105, 111, 110, 32] } : ByteArray) ++ ba (decF x.duration)) (({ data := #[59, 10, 32, 32, 102, 97, 117, 108, 116, 32] } : ByteArray)) zp6
      have sp6 : (S ++ ({ data := #[112, 97, 114, 116, 105, 116, 105, 111, 110, 32] } : ByteArray) ++ x.name ++ ({ data := #[32, 123, 10, 32, 32, 112, 101, 114, 105, 111, 100, 32] } : ByteArray) ++ ba (decF x.period) ++ ({ data := #[59, 10, 32, 32, 100, 117, 114, 97, 116, 105, 111, 110, 32] } : ByteArray) ++ ba (decF x.duration) ++ ({ data := #[59, 10, 32, 32, 102, 97, 117, 108, 116, 32] } : ByteArray)).size ≤ 100 + 300 * k + 10 + 16 + 12 + 3 + 13 + 3 + 10 := cat_le sp5 (show ({ data := #[59, 10, 32, 32, 102, 97, 117, 108, 116, 32] } : ByteArray).size ≤ 10 from Nat.le_refl _)
      have np6 : ¬ 9223372036854775807 < S.size + 10 + x.name.size + 12 + (ba (decF x.period)).size + 13 + (ba (decF x.duration)).size + 10 := by (have upb := hSz; have up1 := hnm; have up3 := (dec_sz x.period); have up5 := (dec_sz x.duration); omega)
      have zp7 : ¬ 9223372036854775807 < (S ++ ({ data := #[112, 97, 114, 116, 105, 116, 105, 111, 110, 32] } : ByteArray) ++ x.name ++ ({ data := #[32, 123, 10, 32, 32, 112, 101, 114, 105, 111, 100, 32] } : ByteArray) ++ ba (decF x.period) ++ ({ data := #[59, 10, 32, 32, 100, 117, 114, 97, 116, 105, 111, 110, 32] } : ByteArray) ++ ba (decF x.duration) ++ ({ data := #[59, 10, 32, 32, 102, 97, 117, 108, 116, 32] } : ByteArray)).size + (ba (actW a)).size := cat_ok sp6 (actW_len a) (by omega)
      have rp7 := cat_run (S ++ ({ data := #[112, 97, 114, 116, 105, 116, 105, 111, 110, 32] } : ByteArray) ++ x.name ++ ({ data := #[32, 123, 10, 32, 32, 112, 101, 114, 105, 111, 100, 32] } : ByteArray) ++ ba (decF x.period) ++ ({ data := #[59, 10, 32, 32, 100, 117, 114, 97, 116, 105, 111, 110, 32] } : ByteArray) ++ ba (decF x.duration) ++ ({ data := #[59, 10, 32, 32, 102, 97, 117, 108, 116, 32] } : ByteArray)) (ba (actW a)) zp7
      have sp7 : (S ++ ({ data := #[112, 97, 114, 116, 105, 116, 105, 111, 110, 32] } : ByteArray) ++ x.name ++ ({ data := #[32, 123, 10, 32, 32, 112, 101, 114, 105, 111, 100, 32] } : ByteArray) ++ ba (decF x.period) ++ ({ data := #[59, 10, 32, 32, 100, 117, 114, 97, 116, 105, 111, 110, 32] } : ByteArray) ++ ba (decF x.duration) ++ ({ data := #[59, 10, 32, 32, 102, 97, 117, 108, 116, 32] } : ByteArray) ++ ba (actW a)).size ≤ 100 + 300 * k + 10 + 16 + 12 + 3 + 13 + 3 + 10 + 7 := cat_le sp6 (actW_len a)
      have np7 : ¬ 9223372036854775807 < S.size + 10 + x.name.size + 12 + (ba (decF x.period)).size + 13 + (ba (decF x.duration)).size + 10 + (ba (actW a)).size := by (have upb := hSz; have up1 := hnm; have up3 := (dec_sz x.period); have up5 := (dec_sz x.duration); have up7 := (actW_len a); omega)
      have zp8 : ¬ 9223372036854775807 < (S ++ ({ data := #[112, 97, 114, 116, 105, 116, 105, 111, 110, 32] } : ByteArray) ++ x.name ++ ({ data := #[32, 123, 10, 32, 32, 112, 101, 114, 105, 111, 100, 32] } : ByteArray) ++ ba (decF x.period) ++ ({ data := #[59, 10, 32, 32, 100, 117, 114, 97, 116, 105, 111, 110, 32] } : ByteArray) ++ ba (decF x.duration) ++ ({ data := #[59, 10, 32, 32, 102, 97, 117, 108, 116, 32] } : ByteArray) ++ ba (actW a)).size + (({ data := #[59, 10] } : ByteArray)).size := cat_ok sp7 (show ({ data := #[59, 10] } : ByteArray).size ≤ 2 from Nat.le_refl _) (by omega)
      have rp8 := cat_run (S ++ ({ data := #[112, 97, 114, 116, 105, 116, 105, 111, 110, 32] } : ByteArray) ++ x.name ++ ({ data := #[32, 123, 10, 32, 32, 112, 101, 114, 105, 111, 100, 32] } : ByteArray) ++ ba (decF x.period) ++ ({ data := #[59, 10, 32, 32, 100, 117, 114, 97, 116, 105, 111, 110, 32] } : ByteArray) ++ ba (decF x.duration) ++ ({ data := #[59, 10, 32, 32, 102, 97, 117, 108, 116, 32] } : ByteArray) ++ ba (actW a)) (({ data := #[59, 10] } : ByteArray)) zp8
      have sp8 : (S ++ ({ data := #[112, 97, 114, 116, 105, 116, 105, 111, 110, 32] } : ByteArray) ++ x.name ++ ({ data := #[32, 123, 10, 32, 32, 112, 101, 114, 105, 111, 100, 32] } : ByteArray) ++ ba (decF x.period) ++ ({ data := #[59, 10, 32, 32, 100, 117, 114, 97, 116, 105, 111, 110, 32] } : ByteArray) ++ ba (decF x.duration) ++ ({ data := #[59, 10, 32, 32, 102, 97, 117, 108, 116, 32] } : ByteArray) ++ ba (actW a) ++ ({ data := #[59, 10] } : ByteArray)).size ≤ 100 + 300 * k + 10 + 16 + 12 + 3 + 13 + 3 + 10 + 7 + 2 := cat_le sp7 (show ({ data := #[59, 10] } : ByteArray).size ≤ 2 from Nat.le_refl _)
      have np8 : ¬ 9223372036854775807 < S.size + 10 + x.name.size + 12 + (ba (decF x.period)).size + 13 + (ba (decF x.duration)).size + 10 + (ba (actW a)).size + 2 := by (have upb := hSz; have up1 := hnm; have up3 := (dec_sz x.period); have up5 := (dec_sz x.duration); have up7 := (actW_len a); omega)
      go_region_held3 (fun w' => w'.cell? ⟨xb, 0, none⟩ = some (.string x.name) ∧ w'.cell? ⟨xb, 1, none⟩ = some (.int .i64 x.period) ∧ w'.cell? ⟨xb, 2, none⟩ = some (.int .i64 x.duration) ∧ w'.cell? ⟨xb, 3, none⟩ = some (.int .i64 a) ∧ w'.cell? ⟨ab, a, none⟩ = some (.string (ba (actW a))) ∧ Below V3.heap.size V3 w') (first | exact ⟨y0, y1, y2, y3, ya, (Below.refl _ _).drew⟩ | exact keep5 (by assumption) hb2 (Nat.le_refl _)) ((first
        | (go_at_call 13; refine (dec_any _ _ ⟨by omega, by omega⟩).mono ?_; rintro e w2 ⟨rfl, hb2⟩)))
      have hS4 := ‹World.cell? _ ⟨xb, 0, none⟩ = some (.string x.name) ∧ _ ∧ _ ∧ _ ∧ _ ∧ Below V3.heap.size V3 _›
      have bS4 := hS4.2.2.2.2.2
      have hB4 := hB3.below bS4
      have hx4 := (bS4.block _ (lt_of_blk hx3)).trans hx3
      clear hS4 bS4 y0 y1 y2 y3 ya hb2 hx3 hB3
      clear zp0 rp0 np0 zp1 rp1 np1 zp2 rp2 np2 zp3 rp3 np3 zp4 rp4 np4 zp5 rp5 np5 zp6 rp6 np6 zp7 rp7 np7 zp8 rp8 np8 sp0 sp1 sp2 sp3 sp4 sp5 sp6 sp7
      go_wp2_with fail
      have HS1 : Hid ((S ++ ({ data := #[112, 97, 114, 116, 105, 116, 105, 111, 110, 32] } : ByteArray) ++ x.name ++ ({ data := #[32, 123, 10, 32, 32, 112, 101, 114, 105, 111, 100, 32] } : ByteArray) ++ ba (decF x.period) ++ ({ data := #[59, 10, 32, 32, 100, 117, 114, 97, 116, 105, 111, 110, 32] } : ByteArray) ++ ba (decF x.duration) ++ ({ data := #[59, 10, 32, 32, 102, 97, 117, 108, 116, 32] } : ByteArray) ++ ba (actW a) ++ ({ data := #[59, 10] } : ByteArray)).data.toList = S.data.toList ++ ([112, 97, 114, 116, 105, 116, 105, 111, 110, 32] ++ x.name.data.toList ++ [32, 123, 10, 32, 32, 112, 101, 114, 105, 111, 100, 32] ++ decF x.period ++ [59, 10, 32, 32, 100, 117, 114, 97, 116, 105, 111, 110, 32] ++ decF x.duration ++ [59, 10, 32, 32, 102, 97, 117, 108, 116, 32] ++ actW a ++ [59, 10])) := by simp [Hid, ba]
      have hs1 : (S ++ ({ data := #[112, 97, 114, 116, 105, 116, 105, 111, 110, 32] } : ByteArray) ++ x.name ++ ({ data := #[32, 123, 10, 32, 32, 112, 101, 114, 105, 111, 100, 32] } : ByteArray) ++ ba (decF x.period) ++ ({ data := #[59, 10, 32, 32, 100, 117, 114, 97, 116, 105, 111, 110, 32] } : ByteArray) ++ ba (decF x.duration) ++ ({ data := #[59, 10, 32, 32, 102, 97, 117, 108, 116, 32] } : ByteArray) ++ ba (actW a) ++ ({ data := #[59, 10] } : ByteArray)).size ≤ 176 + 300 * k := by have := sp8; omega
      clear sp8
      generalize S ++ ({ data := #[112, 97, 114, 116, 105, 116, 105, 111, 110, 32] } : ByteArray) ++ x.name ++ ({ data := #[32, 123, 10, 32, 32, 112, 101, 114, 105, 111, 100, 32] } : ByteArray) ++ ba (decF x.period) ++ ({ data := #[59, 10, 32, 32, 100, 117, 114, 97, 116, 105, 111, 110, 32] } : ByteArray) ++ ba (decF x.duration) ++ ({ data := #[59, 10, 32, 32, 102, 97, 117, 108, 116, 32] } : ByteArray) ++ ba (actW a) ++ ({ data := #[59, 10] } : ByteArray) = S1 at *
      obtain ⟨ra', rcap', hrr, hrc⟩ := RegsV.below HRV.out hB4.2.2.2.2
      cases hrr
      clear hrc
      generalize w2 = V4 at *
      go_loopw [8, 11] (fun s i wx => ∃ (q : Nat) (T : ByteArray), i = .int .i64 q ∧ s = .string T ∧ q ≤ x.regs.length ∧ Hid (T.data.toList = S1.data.toList ++ (x.regs.take q).flatMap regT) ∧ T.size ≤ 176 + 300 * k + 30 * q ∧ wx.heap[xb]? = some (.cells #[.string x.name, .int .i64 x.period, .int .i64 x.duration, .int .i64 a, .slice ra x.regs.length rcap] 51 (0, 0)) ∧ PrB w f (some ⟨b, off, none⟩) ca ps.length pcap cs.length ccap ab wx) (fun _ i _ => x.regs.length - (intOf i).toNat)
      case atStart => exact ⟨0, S1, rfl, rfl, by omega, by simp [Hid], by omega, hx4, hB4⟩
      case round =>
        obtain ⟨q, T, rfl, rfl, hq, HT, hTz, hx5, hB5⟩ := hrel
        have y4 : wr.cell? ⟨xb, 4, none⟩ = some (.slice ra x.regs.length rcap) := by rw [cell_of_blk hx5]; rfl
        by_cases hql : q < x.regs.length
        · have hql' : (q : Int) < (x.regs.length : Int) := by omega
          have hq0 : (0 : Int) ≤ (q : Int) := by omega
          obtain ⟨ra5, rcap5, hrr5, hrc5⟩ := RegsV.below HRV.out hB5.2.2.2.2
          cases hrr5
          obtain ⟨gb, go, rfl, g0, g1, g2⟩ := hrc5 q hql
          clear hrc5
          have hbd := HRO.out.1 x.regs[q] (List.getElem_mem _)
          unfold regB at hbd
          simp only [decide_eq_true_eq] at hbd
          obtain ⟨r1, r2, r3, r4, r5, r6⟩ := hbd
          have HRS : Hid _ := flat_step x.regs regT q hql
          generalize x.regs[q] = r at *
          have hrt : r.rights = ((r.rights.toNat : Nat) : Int) := by omega
          rw [hrt] at g2
          have hrt2 : r.rights.toNat ≤ 2 := by omega
          generalize hRT : r.rights.toNat = rt at *
          have HRT : Hid _ := hRT
          clear hRT hrt r6
          go_wp2_with fail
          have hr6 := heap_new wr (.cells #[.int .i64 r.page, .int .i64 r.pages, .int .i64 rt] 48)
          have hbw := (Below.refl wr.heap.size wr).alloc (Nat.le_refl _) (.cells #[.int .i64 r.page, .int .i64 r.pages, .int .i64 rt] 48)
          have hB6 := hB5.below hbw
          have hx6 := heap_old wr (.cells #[.int .i64 r.page, .int .i64 r.pages, .int .i64 rt] 48) hx5
          clear g0 g1 g2 y4 hB5 hbw hx5
          generalize wr.alloc (.cells #[.int .i64 r.page, .int .i64 r.pages, .int .i64 rt] 48) = V6 at *
          generalize wr.heap.size = nb at *
          have y0 : V6.cell? ⟨nb, 0, none⟩ = some (.int .i64 r.page) := by rw [cell_of_blk hr6]; rfl
          have y1 : V6.cell? ⟨nb, 1, none⟩ = some (.int .i64 r.pages) := by rw [cell_of_blk hr6]; rfl
          have y2 : V6.cell? ⟨nb, 2, none⟩ = some (.int .i64 rt) := by rw [cell_of_blk hr6]; rfl
          have ya := right_cell hB6.2.2.1 rt hrt2
          have ht4 : (rt : Int) < 3 := by omega
          have ht0 : (0 : Int) ≤ (rt : Int) := by omega
          have zr0 : ¬ 9223372036854775807 < (T).size + (({ data := #[32, 32, 109, 101, 109, 111, 114, 121, 32] } : ByteArray)).size := cat_ok hTz (show ({ data := #[32, 32, 109, 101, 109, 111, 114, 121, 32] } : ByteArray).size ≤ 9 from Nat.le_refl _) (by omega)
          have rr0 := cat_run (T) (({ data := #[32, 32, 109, 101, 109, 111, 114, 121, 32] } : ByteArray)) zr0
          have sr0 : (T ++ ({ data := #[32, 32, 109, 101, 109, 111, 114, 121, 32] } : ByteArray)).size ≤ 176 + 300 * k + 30 * q + 9 := cat_le hTz (show ({ data := #[32, 32, 109, 101, 109, 111, 114, 121, 32] } : ByteArray).size ≤ 9 from Nat.le_refl _)
          have nr0 : ¬ 9223372036854775807 < T.size + 9 := by (have urb := hTz; omega)
          have zr1 : ¬ 9223372036854775807 < (T ++ ({ data := #[32, 32, 109, 101, 109, 111, 114, 121, 32] } : ByteArray)).size + (ba (decF r.page)).size := cat_ok sr0 (dec_sz r.page) (by omega)
          have rr1 := cat_run (T ++ ({ data := #[32, 32, 109, 101, 109, 111, 114, 121, 32] } : ByteArray)) (ba (decF r.page)) zr1
          have sr1 : (T ++ ({ data := #[32, 32, 109, 101, 109, 111, 114, 121, 32] } : ByteArray) ++ ba (decF r.page)).size ≤ 176 + 300 * k + 30 * q + 9 + 3 := cat_le sr0 (dec_sz r.page)
          have nr1 : ¬ 9223372036854775807 < T.size + 9 + (ba (decF r.page)).size := by (have urb := hTz; have ur1 := (dec_sz r.page); omega)
          have zr2 : ¬ 9223372036854775807 < (T ++ ({ data := #[32, 32, 109, 101, 109, 111, 114, 121, 32] } : ByteArray) ++ ba (decF r.page)).size + (({ data := #[32] } : ByteArray)).size := cat_ok sr1 (show ({ data := #[32] } : ByteArray).size ≤ 1 from Nat.le_refl _) (by omega)
          have rr2 := cat_run (T ++ ({ data := #[32, 32, 109, 101, 109, 111, 114, 121, 32] } : ByteArray) ++ ba (decF r.page)) (({ data := #[32] } : ByteArray)) zr2
          have sr2 : (T ++ ({ data := #[32, 32, 109, 101, 109, 111, 114, 121, 32] } : ByteArray) ++ ba (decF r.page) ++ ({ data := #[32] } : ByteArray)).size ≤ 176 + 300 * k + 30 * q + 9 + 3 + 1 := cat_le sr1 (show ({ data := #[32] } : ByteArray).size ≤ 1 from Nat.le_refl _)
          have nr2 : ¬ 9223372036854775807 < T.size + 9 + (ba (decF r.page)).size + 1 := by (have urb := hTz; have ur1 := (dec_sz r.page); omega)
          have zr3 : ¬ 9223372036854775807 < (T ++ ({ data := #[32, 32, 109, 101, 109, 111, 114, 121, 32] } : ByteArray) ++ ba (decF r.page) ++ ({ data := #[32] } : ByteArray)).size + (ba (decF r.pages)).size := cat_ok sr2 (dec_sz r.pages) (by omega)
          have rr3 := cat_run (T ++ ({ data := #[32, 32, 109, 101, 109, 111, 114, 121, 32] } : ByteArray) ++ ba (decF r.page) ++ ({ data := #[32] } : ByteArray)) (ba (decF r.pages)) zr3
          have sr3 : (T ++ ({ data := #[32, 32, 109, 101, 109, 111, 114, 121, 32] } : ByteArray) ++ ba (decF r.page) ++ ({ data := #[32] } : ByteArray) ++ ba (decF r.pages)).size ≤ 176 + 300 * k + 30 * q + 9 + 3 + 1 + 3 := cat_le sr2 (dec_sz r.pages)
          have nr3 : ¬ 9223372036854775807 < T.size + 9 + (ba (decF r.page)).size + 1 + (ba (decF r.pages)).size := by (have urb := hTz; have ur1 := (dec_sz r.page); have ur3 := (dec_sz r.pages); omega)
          have zr4 : ¬ 9223372036854775807 < (T ++ ({ data := #[32, 32, 109, 101, 109, 111, 114, 121, 32] } : ByteArray) ++ ba (decF r.page) ++ ({ data := #[32] } : ByteArray) ++ ba (decF r.pages)).size + (({ data := #[32] } : ByteArray)).size := cat_ok sr3 (show ({ data := #[32] } : ByteArray).size ≤ 1 from Nat.le_refl _) (by omega)
          have rr4 := cat_run (T ++ ({ data := #[32, 32, 109, 101, 109, 111, 114, 121, 32] } : ByteArray) ++ ba (decF r.page) ++ ({ data := #[32] } : ByteArray) ++ ba (decF r.pages)) (({ data := #[32] } : ByteArray)) zr4
          have sr4 : (T ++ ({ data := #[32, 32, 109, 101, 109, 111, 114, 121, 32] } : ByteArray) ++ ba (decF r.page) ++ ({ data := #[32] } : ByteArray) ++ ba (decF r.pages) ++ ({ data := #[32] } : ByteArray)).size ≤ 176 + 300 * k + 30 * q + 9 + 3 + 1 + 3 + 1 := cat_le sr3 (show ({ data := #[32] } : ByteArray).size ≤ 1 from Nat.le_refl _)
          have nr4 : ¬ 9223372036854775807 < T.size + 9 + (ba (decF r.page)).size + 1 + (ba (decF r.pages)).size + 1 := by (have urb := hTz; have ur1 := (dec_sz r.page); have ur3 := (dec_sz r.pages); omega)
          have zr5 : ¬ 9223372036854775807 < (T ++ ({ data := #[32, 32, 109, 101, 109, 111, 114, 121, 32] } : ByteArray) ++ ba (decF r.page) ++ ({ data := #[32] } : ByteArray) ++ ba (decF r.pages) ++ ({ data := #[32] } : ByteArray)).size + (ba (rightW rt)).size := cat_ok sr4 (rightW_len rt) (by omega)
          have rr5 := cat_run (T ++ ({ data := #[32, 32, 109, 101, 109, 111, 114, 121, 32] } : ByteArray) ++ ba (decF r.page) ++ ({ data := #[32] } : ByteArray) ++ ba (decF r.pages) ++ ({ data := #[32] } : ByteArray)) (ba (rightW rt)) zr5
          have sr5 : (T ++ ({ data := #[32, 32, 109, 101, 109, 111, 114, 121, 32] } : ByteArray) ++ ba (decF r.page) ++ ({ data := #[32] } : ByteArray) ++ ba (decF r.pages) ++ ({ data := #[32] } : ByteArray) ++ ba (rightW rt)).size ≤ 176 + 300 * k + 30 * q + 9 + 3 + 1 + 3 + 1 + 7 := cat_le sr4 (rightW_len rt)
          have nr5 : ¬ 9223372036854775807 < T.size + 9 + (ba (decF r.page)).size + 1 + (ba (decF r.pages)).size + 1 + (ba (rightW rt)).size := by (have urb := hTz; have ur1 := (dec_sz r.page); have ur3 := (dec_sz r.pages); have ur5 := (rightW_len rt); omega)
          have zr6 : ¬ 9223372036854775807 < (T ++ ({ data := #[32, 32, 109, 101, 109, 111, 114, 121, 32] } : ByteArray) ++ ba (decF r.page) ++ ({ data := #[32] } : ByteArray) ++ ba (decF r.pages) ++ ({ data := #[32] } : ByteArray) ++ ba (rightW rt)).size + (({ data := #[59, 10] } : ByteArray)).size := cat_ok sr5 (show ({ data := #[59, 10] } : ByteArray).size ≤ 2 from Nat.le_refl _) (by omega)
          have rr6 := cat_run (T ++ ({ data := #[32, 32, 109, 101, 109, 111, 114, 121, 32] } : ByteArray) ++ ba (decF r.page) ++ ({ data := #[32] } : ByteArray) ++ ba (decF r.pages) ++ ({ data := #[32] } : ByteArray) ++ ba (rightW rt)) (({ data := #[59, 10] } : ByteArray)) zr6
          have sr6 : (T ++ ({ data := #[32, 32, 109, 101, 109, 111, 114, 121, 32] } : ByteArray) ++ ba (decF r.page) ++ ({ data := #[32] } : ByteArray) ++ ba (decF r.pages) ++ ({ data := #[32] } : ByteArray) ++ ba (rightW rt) ++ ({ data := #[59, 10] } : ByteArray)).size ≤ 176 + 300 * k + 30 * q + 9 + 3 + 1 + 3 + 1 + 7 + 2 := cat_le sr5 (show ({ data := #[59, 10] } : ByteArray).size ≤ 2 from Nat.le_refl _)
          have nr6 : ¬ 9223372036854775807 < T.size + 9 + (ba (decF r.page)).size + 1 + (ba (decF r.pages)).size + 1 + (ba (rightW rt)).size + 2 := by (have urb := hTz; have ur1 := (dec_sz r.page); have ur3 := (dec_sz r.pages); have ur5 := (rightW_len rt); omega)
          go_region_held3 (fun w' => w'.cell? ⟨nb, 0, none⟩ = some (.int .i64 r.page) ∧ w'.cell? ⟨nb, 1, none⟩ = some (.int .i64 r.pages) ∧ w'.cell? ⟨nb, 2, none⟩ = some (.int .i64 rt) ∧ w'.cell? ⟨ab + 1, rt, none⟩ = some (.string (ba (rightW rt))) ∧ Below V6.heap.size V6 w') (first | exact ⟨y0, y1, y2, ya, (Below.refl _ _).drew⟩ | exact keep4 (by assumption) hb2 (Nat.le_refl _)) ((first
            | (go_at_call 13; refine (dec_any _ _ ⟨by omega, by omega⟩).mono ?_; rintro e w2 ⟨rfl, hb2⟩)))
          have hS7 := ‹World.cell? _ ⟨nb, 0, none⟩ = some (.int .i64 r.page) ∧ _ ∧ _ ∧ _ ∧ Below V6.heap.size V6 _›
          have bS7 := hS7.2.2.2.2
          have hB7 := hB6.below bS7
          have hx7 := (bS7.block _ (lt_of_blk hx6)).trans hx6
          clear hS7 bS7 y0 y1 y2 ya hb2 hr6 hB6 hx6
          clear zr0 rr0 nr0 zr1 rr1 nr1 zr2 rr2 nr2 zr3 rr3 nr3 zr4 rr4 nr4 zr5 rr5 nr5 zr6 rr6 nr6 sr0 sr1 sr2 sr3 sr4 sr5
          go_wp2_with fail
          have HS2 : Hid ((T ++ ({ data := #[32, 32, 109, 101, 109, 111, 114, 121, 32] } : ByteArray) ++ ba (decF r.page) ++ ({ data := #[32] } : ByteArray) ++ ba (decF r.pages) ++ ({ data := #[32] } : ByteArray) ++ ba (rightW rt) ++ ({ data := #[59, 10] } : ByteArray)).data.toList = T.data.toList ++ regT r) := by simp [Hid, ba, regT, HRT.out]
          have hs2 : (T ++ ({ data := #[32, 32, 109, 101, 109, 111, 114, 121, 32] } : ByteArray) ++ ba (decF r.page) ++ ({ data := #[32] } : ByteArray) ++ ba (decF r.pages) ++ ({ data := #[32] } : ByteArray) ++ ba (rightW rt) ++ ({ data := #[59, 10] } : ByteArray)).size ≤ 176 + 300 * k + 30 * (q + 1) := by have := sr6; omega
          go_roundw
          case rel => exact ⟨q + 1, _, by go_num, rfl, by omega, by show _ = _; rw [HS2.out, HT.out, HRS.out, List.append_assoc], hs2, hx7, hB7⟩
          case measure => simp [intOf]; omega
        · have hql' : ¬ (q : Int) < (x.regs.length : Int) := by omega
          have hqe : q = x.regs.length := by omega
          have HT2 : Hid (T.data.toList = S1.data.toList ++ x.regs.flatMap regT) := by have := HT.out; rw [hqe, List.take_length] at this; exact this
          have hr8 : x.regs.length ≤ 4 := by omega
          have ze0 : ¬ 9223372036854775807 < (T).size + (({ data := #[125, 10] } : ByteArray)).size := cat_ok hTz (show ({ data := #[125, 10] } : ByteArray).size ≤ 2 from Nat.le_refl _) (by omega)
          have re0 := cat_run (T) (({ data := #[125, 10] } : ByteArray)) ze0
          have se0 : (T ++ ({ data := #[125, 10] } : ByteArray)).size ≤ 176 + 300 * k + 30 * q + 2 := cat_le hTz (show ({ data := #[125, 10] } : ByteArray).size ≤ 2 from Nat.le_refl _)
          have ne0 : ¬ 9223372036854775807 < T.size + 2 := by (have ueb := hTz; omega)
          go_wp2_with fail
          have hB8 := hB5
          go_roundw
          case rel => exact ⟨k + 1, _, by go_num, rfl, by omega, by show (T ++ ({ data := #[125, 10] } : ByteArray)).data.toList = _; rw [HFS.out, ← List.append_assoc, ← HS.out]; simp [HT2.out, HS1.out, partT, HA.out], by have := se0; show (T ++ ({ data := #[125, 10] } : ByteArray)).size ≤ _; omega, hB8⟩
          case measure => simp [intOf]; omega
    · have hlt' : ¬ (k : Int) < (ps.length : Int) := by omega
      have hke : k = ps.length := by omega
      have HS2 : Hid (S.data.toList = headT f ++ ps.flatMap partT) := by have := HS.out; rw [hke, List.take_length] at this; exact this
      have hSz2 : S.size ≤ 2500 := by omega
      clear HS hSz
      go_wp2_with fail
      clear x1 x2 hke hk hlt
      generalize wr = W5 at *
      go_loopw [8, 13] (fun s i wr => ∃ (q : Nat) (T : ByteArray), i = .int .i64 q ∧ s = .string T ∧ q ≤ cs.length ∧ Hid (T.data.toList = S.data.toList ++ (cs.take q).flatMap (chanT ps)) ∧ T.size ≤ 2500 + 200 * q ∧ PrB w f pa ca ps.length pcap cs.length ccap ab wr) (fun _ i _ => cs.length - (intOf i).toNat)
      case atStart => exact ⟨0, S, rfl, rfl, by omega, by simp [Hid], by omega, hB⟩
      case round =>
        obtain ⟨q, T, rfl, rfl, hq, HT, hTz, hB5⟩ := hrel
        have x1 : wr.cell? ⟨w.heap.size, 1, none⟩ = some (.slice pa ps.length pcap) := by rw [cell_of_blk hB5.1]; rfl
        have x2 : wr.cell? ⟨w.heap.size, 2, none⟩ = some (.slice ca cs.length ccap) := by rw [cell_of_blk hB5.1]; rfl
        by_cases hql : q < cs.length
        · have hql' : (q : Int) < (cs.length : Int) := by omega
          have hq0 : (0 : Int) ≤ (q : Int) := by omega
          obtain ⟨gb, go, rfl, g0, g1, g2, g3, g4, g5⟩ := HCC.out q hql
          have hce := HO6.out q hql
          obtain ⟨k1, k2, k3, k4, k5, k6, k7, k8, k9, k10, k11⟩ := chanErr_ok hce ⟨by omega, o2⟩
          have HCS : Hid _ := flat_step cs (chanT ps) q hql
          have d0 := keepW g0 hB5.2.2.2.2
          have d1 := keepW g1 hB5.2.2.2.2
          have d2 := keepW g2 hB5.2.2.2.2
          have d3 := keepW g3 hB5.2.2.2.2
          have d4 := keepW g4 hB5.2.2.2.2
          have d5 := keepW g5 hB5.2.2.2.2
          clear g0 g1 g2 g3 g4 g5 hce
          generalize cs[q] = c at *
          have hsc : c.source = ((c.source.toNat : Nat) : Int) := by omega
          have htg : c.target = ((c.target.toNat : Nat) : Int) := by omega
          have hkt : c.kind = ((c.kind.toNat : Nat) : Int) := by omega
          rw [hsc] at d1
          rw [htg] at d2
          rw [hkt] at d3
          have hsc2 : c.source.toNat < ps.length := by omega
          have htg2 : c.target.toNat < ps.length := by omega
          have hkt2 : c.kind.toNat ≤ 2 := by omega
          have HNS : Hid (nameAt ps c.source = ps[c.source.toNat].name.data.toList) := by
            show _ = _
            unfold nameAt; rw [List.getElem?_eq_getElem hsc2]; rfl
          have HNT : Hid (nameAt ps c.target = ps[c.target.toNat].name.data.toList) := by
            show _ = _
            unfold nameAt; rw [List.getElem?_eq_getElem htg2]; rfl
          obtain ⟨b, off, _, rfl, e0, _⟩ := HPC.out c.source.toNat hsc2
          obtain ⟨b', off', _, hbb, e1, _⟩ := HPC.out c.target.toNat htg2
          cases hbb
          have n0 := partErr_name (HO5.out c.source.toNat hsc2).2
          have n1 := partErr_name (HO5.out c.target.toNat htg2).2
          have l0 := keepW e0 hB5.2.2.2.2
          have l1 := keepW e1 hB5.2.2.2.2
          clear e0 e1
          generalize ps[c.source.toNat].name = ns at *
          generalize ps[c.target.toNat].name = nt at *
          generalize hKT : c.kind.toNat = kt at *
          have HKT : Hid _ := hKT
          generalize c.source.toNat = sc at *
          generalize c.target.toNat = tg at *
          clear hKT hsc htg hkt
          go_wp2_with fail
          have hr6 := heap_new wr (.cells #[.string c.name, .int .i64 sc, .int .i64 tg, .int .i64 kt, .int .i64 c.size, .int .i64 c.depth] 53)
          have hbw := (Below.refl wr.heap.size wr).alloc (Nat.le_refl _) (.cells #[.string c.name, .int .i64 sc, .int .i64 tg, .int .i64 kt, .int .i64 c.size, .int .i64 c.depth] 53)
          have hB6 := hB5.below hbw
          have m0 := keepC l0 hbw
          have m1 := keepC l1 hbw
          clear d0 d1 d2 d3 d4 d5 x1 x2 hB5 hbw l0 l1
          generalize wr.alloc (.cells #[.string c.name, .int .i64 sc, .int .i64 tg, .int .i64 kt, .int .i64 c.size, .int .i64 c.depth] 53) = V6 at *
          generalize wr.heap.size = nb at *
          have y0 : V6.cell? ⟨nb, 0, none⟩ = some (.string c.name) := by rw [cell_of_blk hr6]; rfl
          have y1 : V6.cell? ⟨nb, 1, none⟩ = some (.int .i64 sc) := by rw [cell_of_blk hr6]; rfl
          have y2 : V6.cell? ⟨nb, 2, none⟩ = some (.int .i64 tg) := by rw [cell_of_blk hr6]; rfl
          have y3 : V6.cell? ⟨nb, 3, none⟩ = some (.int .i64 kt) := by rw [cell_of_blk hr6]; rfl
          have y4 : V6.cell? ⟨nb, 4, none⟩ = some (.int .i64 c.size) := by rw [cell_of_blk hr6]; rfl
          have y5 : V6.cell? ⟨nb, 5, none⟩ = some (.int .i64 c.depth) := by rw [cell_of_blk hr6]; rfl
          have y6 : V6.cell? ⟨w.heap.size, 1, none⟩ = some (.slice (some ⟨b, off, none⟩) ps.length pcap) := by rw [cell_of_blk hB6.1]; rfl
          have ya := kind_cell hB6.2.2.2.1 kt hkt2
          have ht4 : (kt : Int) < 3 := by omega
          have ht0 : (0 : Int) ≤ (kt : Int) := by omega
          have hs4 : (sc : Int) < (ps.length : Int) := by omega
          have hs0 : (0 : Int) ≤ (sc : Int) := by omega
          have hg4 : (tg : Int) < (ps.length : Int) := by omega
          have hg0 : (0 : Int) ≤ (tg : Int) := by omega
          have zc0 : ¬ 9223372036854775807 < (T).size + (({ data := #[99, 104, 97, 110, 110, 101, 108, 32] } : ByteArray)).size := cat_ok hTz (show ({ data := #[99, 104, 97, 110, 110, 101, 108, 32] } : ByteArray).size ≤ 8 from Nat.le_refl _) (by omega)
          have rc0 := cat_run (T) (({ data := #[99, 104, 97, 110, 110, 101, 108, 32] } : ByteArray)) zc0
          have sc0 : (T ++ ({ data := #[99, 104, 97, 110, 110, 101, 108, 32] } : ByteArray)).size ≤ 2500 + 200 * q + 8 := cat_le hTz (show ({ data := #[99, 104, 97, 110, 110, 101, 108, 32] } : ByteArray).size ≤ 8 from Nat.le_refl _)
          have nc0 : ¬ 9223372036854775807 < T.size + 8 := by (have ucb := hTz; omega)
          have zc1 : ¬ 9223372036854775807 < (T ++ ({ data := #[99, 104, 97, 110, 110, 101, 108, 32] } : ByteArray)).size + (c.name).size := cat_ok sc0 k1 (by omega)
          have rc1 := cat_run (T ++ ({ data := #[99, 104, 97, 110, 110, 101, 108, 32] } : ByteArray)) (c.name) zc1
          have sc1 : (T ++ ({ data := #[99, 104, 97, 110, 110, 101, 108, 32] } : ByteArray) ++ c.name).size ≤ 2500 + 200 * q + 8 + 16 := cat_le sc0 k1
          have nc1 : ¬ 9223372036854775807 < T.size + 8 + c.name.size := by (have ucb := hTz; have uc1 := k1; omega)
          have zc2 : ¬ 9223372036854775807 < (T ++ ({ data := #[99, 104, 97, 110, 110, 101, 108, 32] } : ByteArray) ++ c.name).size + (({ data := #[32] } : ByteArray)).size := cat_ok sc1 (show ({ data := #[32] } : ByteArray).size ≤ 1 from Nat.le_refl _) (by omega)
          have rc2 := cat_run (T ++ ({ data := #[99, 104, 97, 110, 110, 101, 108, 32] } : ByteArray) ++ c.name) (({ data := #[32] } : ByteArray)) zc2
          have sc2 : (T ++ ({ data := #[99, 104, 97, 110, 110, 101, 108, 32] } : ByteArray) ++ c.name ++ ({ data := #[32] } : ByteArray)).size ≤ 2500 + 200 * q + 8 + 16 + 1 := cat_le sc1 (show ({ data := #[32] } : ByteArray).size ≤ 1 from Nat.le_refl _)
          have nc2 : ¬ 9223372036854775807 < T.size + 8 + c.name.size + 1 := by (have ucb := hTz; have uc1 := k1; omega)
          have zc3 : ¬ 9223372036854775807 < (T ++ ({ data := #[99, 104, 97, 110, 110, 101, 108, 32] } : ByteArray) ++ c.name ++ ({ data := #[32] } : ByteArray)).size + (ns).size := cat_ok sc2 n0 (by omega)
          have rc3 := cat_run (T ++ ({ data := #[99, 104, 97, 110, 110, 101, 108, 32] } : ByteArray) ++ c.name ++ ({ data := #[32] } : ByteArray)) (ns) zc3
          have sc3 : (T ++ ({ data := #[99, 104, 97, 110, 110, 101, 108, 32] } : ByteArray) ++ c.name ++ ({ data := #[32] } : ByteArray) ++ ns).size ≤ 2500 + 200 * q + 8 + 16 + 1 + 16 := cat_le sc2 n0
          have nc3 : ¬ 9223372036854775807 < T.size + 8 + c.name.size + 1 + ns.size := by (have ucb := hTz; have uc1 := k1; have uc3 := n0; omega)
          have zc4 : ¬ 9223372036854775807 < (T ++ ({ data := #[99, 104, 97, 110, 110, 101, 108, 32] } : ByteArray) ++ c.name ++ ({ data := #[32] } : ByteArray) ++ ns).size + (({ data := #[32, 45, 62, 32] } : ByteArray)).size := cat_ok sc3 (show ({ data := #[32, 45, 62, 32] } : ByteArray).size ≤ 4 from Nat.le_refl _) (by omega)
          have rc4 := cat_run (T ++ ({ data := #[99, 104, 97, 110, 110, 101, 108, 32] } : ByteArray) ++ c.name ++ ({ data := #[32] } : ByteArray) ++ ns) (({ data := #[32, 45, 62, 32] } : ByteArray)) zc4
          have sc4 : (T ++ ({ data := #[99, 104, 97, 110, 110, 101, 108, 32] } : ByteArray) ++ c.name ++ ({ data := #[32] } : ByteArray) ++ ns ++ ({ data := #[32, 45, 62, 32] } : ByteArray)).size ≤ 2500 + 200 * q + 8 + 16 + 1 + 16 + 4 := cat_le sc3 (show ({ data := #[32, 45, 62, 32] } : ByteArray).size ≤ 4 from Nat.le_refl _)
          have nc4 : ¬ 9223372036854775807 < T.size + 8 + c.name.size + 1 + ns.size + 4 := by (have ucb := hTz; have uc1 := k1; have uc3 := n0; omega)
          have zc5 : ¬ 9223372036854775807 < (T ++ ({ data := #[99, 104, 97, 110, 110, 101, 108, 32] } : ByteArray) ++ c.name ++ ({ data := #[32] } : ByteArray) ++ ns ++ ({ data := #[32, 45, 62, 32] } : ByteArray)).size + (nt).size := cat_ok sc4 n1 (by omega)
          have rc5 := cat_run (T ++ ({ data := #[99, 104, 97, 110, 110, 101, 108, 32] } : ByteArray) ++ c.name ++ ({ data := #[32] } : ByteArray) ++ ns ++ ({ data := #[32, 45, 62, 32] } : ByteArray)) (nt) zc5
          have sc5 : (T ++ ({ data := #[99, 104, 97, 110, 110, 101, 108, 32] } : ByteArray) ++ c.name ++ ({ data := #[32] } : ByteArray) ++ ns ++ ({ data := #[32, 45, 62, 32] } : ByteArray) ++ nt).size ≤ 2500 + 200 * q + 8 + 16 + 1 + 16 + 4 + 16 := cat_le sc4 n1
          have nc5 : ¬ 9223372036854775807 < T.size + 8 + c.name.size + 1 + ns.size + 4 + nt.size := by (have ucb := hTz; have uc1 := k1; have uc3 := n0; have uc5 := n1; omega)
          have zc6 : ¬ 9223372036854775807 < (T ++ ({ data := #[99, 104, 97, 110, 110, 101, 108, 32] } : ByteArray) ++ c.name ++ ({ data := #[32] } : ByteArray) ++ ns ++ ({ data := #[32, 45, 62, 32] } : ByteArray) ++ nt).size + (({ data := #[32] } : ByteArray)).size := cat_ok sc5 (show ({ data := #[32] } : ByteArray).size ≤ 1 from Nat.le_refl _) (by omega)
          have rc6 := cat_run (T ++ ({ data := #[99, 104, 97, 110, 110, 101, 108, 32] } : ByteArray) ++ c.name ++ ({ data := #[32] } : ByteArray) ++ ns ++ ({ data := #[32, 45, 62, 32] } : ByteArray) ++ nt) (({ data := #[32] } : ByteArray)) zc6
          have sc6 : (T ++ ({ data := #[99, 104, 97, 110, 110, 101, 108, 32] } : ByteArray) ++ c.name ++ ({ data := #[32] } : ByteArray) ++ ns ++ ({ data := #[32, 45, 62, 32] } : ByteArray) ++ nt ++ ({ data := #[32] } : ByteArray)).size ≤ 2500 + 200 * q + 8 + 16 + 1 + 16 + 4 + 16 + 1 := cat_le sc5 (show ({ data := #[32] } : ByteArray).size ≤ 1 from Nat.le_refl _)
          have nc6 : ¬ 9223372036854775807 < T.size + 8 + c.name.size + 1 + ns.size + 4 + nt.size + 1 := by (have ucb := hTz; have uc1 := k1; have uc3 := n0; have uc5 := n1; omega)
          have zc7 : ¬ 9223372036854775807 < (T ++ ({ data := #[99, 104, 97, 110, 110, 101, 108, 32] } : ByteArray) ++ c.name ++ ({ data := #[32] } : ByteArray) ++ ns ++ ({ data := #[32, 45, 62, 32] } : ByteArray) ++ nt ++ ({ data := #[32] } : ByteArray)).size + (ba (kindW kt)).size := cat_ok sc6 (kindW_len kt) (by omega)
          have rc7 := cat_run (T ++ ({ data := #[99, 104, 97, 110, 110, 101, 108, 32] } : ByteArray) ++ c.name ++ ({ data := #[32] } : ByteArray) ++ ns ++ ({ data := #[32, 45, 62, 32] } : ByteArray) ++ nt ++ ({ data := #[32] } : ByteArray)) (ba (kindW kt)) zc7
          have sc7 : (T ++ ({ data := #[99, 104, 97, 110, 110, 101, 108, 32] } : ByteArray) ++ c.name ++ ({ data := #[32] } : ByteArray) ++ ns ++ ({ data := #[32, 45, 62, 32] } : ByteArray) ++ nt ++ ({ data := #[32] } : ByteArray) ++ ba (kindW kt)).size ≤ 2500 + 200 * q + 8 + 16 + 1 + 16 + 4 + 16 + 1 + 7 := cat_le sc6 (kindW_len kt)
          have nc7 : ¬ 9223372036854775807 < T.size + 8 + c.name.size + 1 + ns.size + 4 + nt.size + 1 + (ba (kindW kt)).size := by (have ucb := hTz; have uc1 := k1; have uc3 := n0; have uc5 := n1; have uc7 := (kindW_len kt); omega)
          have zc8 : ¬ 9223372036854775807 < (T ++ ({ data := #[99, 104, 97, 110, 110, 101, 108, 32] } : ByteArray) ++ c.name ++ ({ data := #[32] } : ByteArray) ++ ns ++ ({ data := #[32, 45, 62, 32] } : ByteArray) ++ nt ++ ({ data := #[32] } : ByteArray) ++ ba (kindW kt)).size + (({ data := #[32] } : ByteArray)).size := cat_ok sc7 (show ({ data := #[32] } : ByteArray).size ≤ 1 from Nat.le_refl _) (by omega)
          have rc8 := cat_run (T ++ ({ data := #[99, 104, 97, 110, 110, 101, 108, 32] } : ByteArray) ++ c.name ++ ({ data := #[32] } : ByteArray) ++ ns ++ ({ data := #[32, 45, 62, 32] } : ByteArray) ++ nt ++ ({ data := #[32] } : ByteArray) ++ ba (kindW kt)) (({ data := #[32] } : ByteArray)) zc8
          have sc8 : (T ++ ({ data := #[99, 104, 97, 110, 110, 101, 108, 32] } : ByteArray) ++ c.name ++ ({ data := #[32] } : ByteArray) ++ ns ++ ({ data := #[32, 45, 62, 32] } : ByteArray) ++ nt ++ ({ data := #[32] } : ByteArray) ++ ba (kindW kt) ++ ({ data := #[32] } : ByteArray)).size ≤ 2500 + 200 * q + 8 + 16 + 1 + 16 + 4 + 16 + 1 + 7 + 1 := cat_le sc7 (show ({ data := #[32] } : ByteArray).size ≤ 1 from Nat.le_refl _)
          have nc8 : ¬ 9223372036854775807 < T.size + 8 + c.name.size + 1 + ns.size + 4 + nt.size + 1 + (ba (kindW kt)).size + 1 := by (have ucb := hTz; have uc1 := k1; have uc3 := n0; have uc5 := n1; have uc7 := (kindW_len kt); omega)
          have zc9 : ¬ 9223372036854775807 < (T ++ ({ data := #[99, 104, 97, 110, 110, 101, 108, 32] } : ByteArray) ++ c.name ++ ({ data := #[32] } : ByteArray) ++ ns ++ ({ data := #[32, 45, 62, 32] } : ByteArray) ++ nt ++ ({ data := #[32] } : ByteArray) ++ ba (kindW kt) ++ ({ data := #[32] } : ByteArray)).size + (ba (decF c.size)).size := cat_ok sc8 (dec_sz c.size) (by omega)
          have rc9 := cat_run (T ++ ({ data := #[99, 104, 97, 110, 110, 101, 108, 32] } : ByteArray) ++ c.name ++ ({ data := #[32] } : ByteArray) ++ ns ++ ({ data := #[32, 45, 62, 32] } : ByteArray) ++ nt ++ ({ data := #[32] } : ByteArray) ++ ba (kindW kt) ++ ({ data := #[32] } : ByteArray)) (ba (decF c.size)) zc9
          have sc9 : (T ++ ({ data := #[99, 104, 97, 110, 110, 101, 108, 32] } : ByteArray) ++ c.name ++ ({ data := #[32] } : ByteArray) ++ ns ++ ({ data := #[32, 45, 62, 32] } : ByteArray) ++ nt ++ ({ data := #[32] } : ByteArray) ++ ba (kindW kt) ++ ({ data := #[32] } : ByteArray) ++ ba (decF c.size)).size ≤ 2500 + 200 * q + 8 + 16 + 1 + 16 + 4 + 16 + 1 + 7 + 1 + 3 := cat_le sc8 (dec_sz c.size)
          have nc9 : ¬ 9223372036854775807 < T.size + 8 + c.name.size + 1 + ns.size + 4 + nt.size + 1 + (ba (kindW kt)).size + 1 + (ba (decF c.size)).size := by (have ucb := hTz; have uc1 := k1; have uc3 := n0; have uc5 := n1; have uc7 := (kindW_len kt); have uc9 := (dec_sz c.size); omega)
          have zc10 : ¬ 9223372036854775807 < (T ++ ({ data := #[99, 104, 97, 110, 110, 101, 108, 32] } : ByteArray) ++ c.name ++ ({ data := #[32] } : ByteArray) ++ ns ++ ({ data := #[32, 45, 62, 32] } : ByteArray) ++ nt ++ ({ data := #[32] } : ByteArray) ++ ba (kindW kt) ++ ({ data := #[32] } : ByteArray) ++ ba (decF c.size)).size + (({ data := #[32] } : ByteArray)).size := cat_ok sc9 (show ({ data := #[32] } : ByteArray).size ≤ 1 from Nat.le_refl _) (by omega)
          have rc10 := cat_run (T ++ ({ data := #[99, 104, 97, 110, 110, 101, 108, 32] } : ByteArray) ++ c.name ++ ({ data := #[32] } : ByteArray) ++ ns ++ ({ data := #[32, 45, 62, 32] } : ByteArray) ++ nt ++ ({ data := #[32] } : ByteArray) ++ ba (kindW kt) ++ ({ data := #[32] } : ByteArray) ++ ba (decF c.size)) (({ data := #[32] } : ByteArray)) zc10
          have sc10 : (T ++ ({ data := #[99, 104, 97, 110, 110, 101, 108, 32] } : ByteArray) ++ c.name ++ ({ data := #[32] } : ByteArray) ++ ns ++ ({ data := #[32, 45, 62, 32] } : ByteArray) ++ nt ++ ({ data := #[32] } : ByteArray) ++ ba (kindW kt) ++ ({ data := #[32] } : ByteArray) ++ ba (decF c.size) ++ ({ data := #[32] } : ByteArray)).size ≤ 2500 + 200 * q + 8 + 16 + 1 + 16 + 4 + 16 + 1 + 7 + 1 + 3 + 1 := cat_le sc9 (show ({ data := #[32] } : ByteArray).size ≤ 1 from Nat.le_refl _)
          have nc10 : ¬ 9223372036854775807 < T.size + 8 + c.name.size + 1 + ns.size + 4 + nt.size + 1 + (ba (kindW kt)).size + 1 + (ba (decF c.size)).size + 1 := by (have ucb := hTz; have uc1 := k1; have uc3 := n0; have uc5 := n1; have uc7 := (kindW_len kt); have uc9 := (dec_sz c.size); omega)
          have zc11 : ¬ 9223372036854775807 < (T ++ ({ data := #[99, 104, 97, 110, 110, 101, 108, 32] } : ByteArray) ++ c.name ++ ({ data := #[32] } : ByteArray) ++ ns ++ ({ data := #[32, 45, 62, 32] } : ByteArray) ++ nt ++ ({ data := #[32] } : ByteArray) ++ ba (kindW kt) ++ ({ data := #[32] } : ByteArray) ++ ba (decF c.size) ++ ({ data := #[32] } : ByteArray)).size + (ba (decF c.depth)).size := cat_ok sc10 (dec_sz c.depth) (by omega)
          have rc11 := cat_run (T ++ ({ data := #[99, 104, 97, 110, 110, 101, 108, 32] } : ByteArray) ++ c.name ++ ({ data := #[32] } : ByteArray) ++ ns ++ ({ data := #[32, 45, 62, 32] } : ByteArray) ++ nt ++ ({ data := #[32] } : ByteArray) ++ ba (kindW kt) ++ ({ data := #[32] } : ByteArray) ++ ba (decF c.size) ++ ({ data := #[32] } : ByteArray)) (ba (decF c.depth)) zc11
          have sc11 : (T ++ ({ data := #[99, 104, 97, 110, 110, 101, 108, 32] } : ByteArray) ++ c.name ++ ({ data := #[32] } : ByteArray) ++ ns ++ ({ data := #[32, 45, 62, 32] } : ByteArray) ++ nt ++ ({ data := #[32] } : ByteArray) ++ ba (kindW kt) ++ ({ data := #[32] } : ByteArray) ++ ba (decF c.size) ++ ({ data := #[32] } : ByteArray) ++ ba (decF c.depth)).size ≤ 2500 + 200 * q + 8 + 16 + 1 + 16 + 4 + 16 + 1 + 7 + 1 + 3 + 1 + 3 := cat_le sc10 (dec_sz c.depth)
          have nc11 : ¬ 9223372036854775807 < T.size + 8 + c.name.size + 1 + ns.size + 4 + nt.size + 1 + (ba (kindW kt)).size + 1 + (ba (decF c.size)).size + 1 + (ba (decF c.depth)).size := by (have ucb := hTz; have uc1 := k1; have uc3 := n0; have uc5 := n1; have uc7 := (kindW_len kt); have uc9 := (dec_sz c.size); have uc11 := (dec_sz c.depth); omega)
          have zc12 : ¬ 9223372036854775807 < (T ++ ({ data := #[99, 104, 97, 110, 110, 101, 108, 32] } : ByteArray) ++ c.name ++ ({ data := #[32] } : ByteArray) ++ ns ++ ({ data := #[32, 45, 62, 32] } : ByteArray) ++ nt ++ ({ data := #[32] } : ByteArray) ++ ba (kindW kt) ++ ({ data := #[32] } : ByteArray) ++ ba (decF c.size) ++ ({ data := #[32] } : ByteArray) ++ ba (decF c.depth)).size + (({ data := #[59, 10] } : ByteArray)).size := cat_ok sc11 (show ({ data := #[59, 10] } : ByteArray).size ≤ 2 from Nat.le_refl _) (by omega)
          have rc12 := cat_run (T ++ ({ data := #[99, 104, 97, 110, 110, 101, 108, 32] } : ByteArray) ++ c.name ++ ({ data := #[32] } : ByteArray) ++ ns ++ ({ data := #[32, 45, 62, 32] } : ByteArray) ++ nt ++ ({ data := #[32] } : ByteArray) ++ ba (kindW kt) ++ ({ data := #[32] } : ByteArray) ++ ba (decF c.size) ++ ({ data := #[32] } : ByteArray) ++ ba (decF c.depth)) (({ data := #[59, 10] } : ByteArray)) zc12
          have sc12 : (T ++ ({ data := #[99, 104, 97, 110, 110, 101, 108, 32] } : ByteArray) ++ c.name ++ ({ data := #[32] } : ByteArray) ++ ns ++ ({ data := #[32, 45, 62, 32] } : ByteArray) ++ nt ++ ({ data := #[32] } : ByteArray) ++ ba (kindW kt) ++ ({ data := #[32] } : ByteArray) ++ ba (decF c.size) ++ ({ data := #[32] } : ByteArray) ++ ba (decF c.depth) ++ ({ data := #[59, 10] } : ByteArray)).size ≤ 2500 + 200 * q + 8 + 16 + 1 + 16 + 4 + 16 + 1 + 7 + 1 + 3 + 1 + 3 + 2 := cat_le sc11 (show ({ data := #[59, 10] } : ByteArray).size ≤ 2 from Nat.le_refl _)
          have nc12 : ¬ 9223372036854775807 < T.size + 8 + c.name.size + 1 + ns.size + 4 + nt.size + 1 + (ba (kindW kt)).size + 1 + (ba (decF c.size)).size + 1 + (ba (decF c.depth)).size + 2 := by (have ucb := hTz; have uc1 := k1; have uc3 := n0; have uc5 := n1; have uc7 := (kindW_len kt); have uc9 := (dec_sz c.size); have uc11 := (dec_sz c.depth); omega)
          go_region_held3 (fun w' => w'.cell? ⟨nb, 0, none⟩ = some (.string c.name) ∧ w'.cell? ⟨nb, 1, none⟩ = some (.int .i64 sc) ∧ w'.cell? ⟨nb, 2, none⟩ = some (.int .i64 tg) ∧ w'.cell? ⟨nb, 3, none⟩ = some (.int .i64 kt) ∧ w'.cell? ⟨nb, 4, none⟩ = some (.int .i64 c.size) ∧ w'.cell? ⟨nb, 5, none⟩ = some (.int .i64 c.depth) ∧ w'.cell? ⟨w.heap.size, 1, none⟩ = some (.slice (some ⟨b, off, none⟩) ps.length pcap) ∧ w'.cell? ⟨b, off + sc * 5, none⟩ = some (.string ns) ∧ w'.cell? ⟨b, off + tg * 5, none⟩ = some (.string nt) ∧ w'.cell? ⟨ab + 1 + 1, kt, none⟩ = some (.string (ba (kindW kt))) ∧ Below V6.heap.size V6 w') (first | exact ⟨y0, y1, y2, y3, y4, y5, y6, m0, m1, ya, (Below.refl _ _).drew⟩ | exact keep10 (by assumption) hb2 (Nat.le_refl _)) ((first
            | (go_at_call 13; refine (dec_any _ _ ⟨by omega, by omega⟩).mono ?_; rintro e w2 ⟨rfl, hb2⟩)))
          have hS7 := ‹World.cell? _ ⟨nb, 0, none⟩ = some (.string c.name) ∧ _ ∧ _ ∧ _ ∧ _ ∧ _ ∧ _ ∧ _ ∧ _ ∧ _ ∧ Below V6.heap.size V6 _›
          have bS7 := hS7.2.2.2.2.2.2.2.2.2.2
          have hB7 := hB6.below bS7
          clear hS7 bS7 y0 y1 y2 y3 y4 y5 y6 ya hb2 hr6 hB6 m0 m1
          clear zc0 rc0 nc0 zc1 rc1 nc1 zc2 rc2 nc2 zc3 rc3 nc3 zc4 rc4 nc4 zc5 rc5 nc5 zc6 rc6 nc6 zc7 rc7 nc7 zc8 rc8 nc8 zc9 rc9 nc9 zc10 rc10 nc10 zc11 rc11 nc11 zc12 rc12 nc12 sc0 sc1 sc2 sc3 sc4 sc5 sc6 sc7 sc8 sc9 sc10 sc11
          go_wp2_with fail
          have HS3 : Hid ((T ++ ({ data := #[99, 104, 97, 110, 110, 101, 108, 32] } : ByteArray) ++ c.name ++ ({ data := #[32] } : ByteArray) ++ ns ++ ({ data := #[32, 45, 62, 32] } : ByteArray) ++ nt ++ ({ data := #[32] } : ByteArray) ++ ba (kindW kt) ++ ({ data := #[32] } : ByteArray) ++ ba (decF c.size) ++ ({ data := #[32] } : ByteArray) ++ ba (decF c.depth) ++ ({ data := #[59, 10] } : ByteArray)).data.toList = T.data.toList ++ chanT ps c) := by simp [Hid, ba, chanT, HKT.out, HNS.out, HNT.out]
          have hs3 : (T ++ ({ data := #[99, 104, 97, 110, 110, 101, 108, 32] } : ByteArray) ++ c.name ++ ({ data := #[32] } : ByteArray) ++ ns ++ ({ data := #[32, 45, 62, 32] } : ByteArray) ++ nt ++ ({ data := #[32] } : ByteArray) ++ ba (kindW kt) ++ ({ data := #[32] } : ByteArray) ++ ba (decF c.size) ++ ({ data := #[32] } : ByteArray) ++ ba (decF c.depth) ++ ({ data := #[59, 10] } : ByteArray)).size ≤ 2500 + 200 * (q + 1) := by have := sc12; omega
          go_roundw
          case rel => exact ⟨q + 1, _, by go_num, rfl, by omega, by show _ = _; rw [HS3.out, HT.out, HCS.out, List.append_assoc], hs3, hB7⟩
          case measure => simp [intOf]; omega
        · have hql' : ¬ (q : Int) < (cs.length : Int) := by omega
          have hqe : q = cs.length := by omega
          have HT2 : Hid (T.data.toList = S.data.toList ++ cs.flatMap (chanT ps)) := by have := HT.out; rw [hqe, List.take_length] at this; exact this
          go_wp2_with fail
          go_ret2
          refine ⟨.inr ⟨HZ0.out, ?_⟩, hB5.2.2.2.2⟩
          have : T = ba (printL ⟨f, ps, cs⟩) := ba_of (by rw [HT2.out, HS2.out]; simp [printL])
          rw [this]; rfl
end Go.Proofs.YteioennfpkoagaaDoor.C
