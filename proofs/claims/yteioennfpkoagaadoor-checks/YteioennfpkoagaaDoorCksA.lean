import Derived.Test.YteioennfpkoagaaDoorKptB
import Derived.Test.YteioennfpkoagaaDoorPrtI
import Derived.Test.YteioennfpkoagaaDoorChkI
import Derived.Test.YteioennfpkoagaaDoorChkW
import Derived.Test.YteioennfpkoagaaDoorChkX
namespace Go.Proofs.YteioennfpkoagaaDoor.C
open Go.RowKit
attribute [local go_sem ↓] Go.wp_at_zero Go.wp_at_succ

theorem ex_small : ∀ k (h : k < exPs.length), exPs[k].regs.length ≤ 4611686018427387903 := by
  intro k h
  have : k = 0 ∨ k = 1 := by have : k < 2 := h; omega
  rcases this with rfl | rfl
  · show 1 ≤ 4611686018427387903; omega
  · show 0 ≤ 4611686018427387903; omega
set_option maxRecDepth 100000 in
set_option maxHeartbeats 4000000 in
theorem checks_true (f : Int) (ps : List PartD) (cs : List ChanD) (pv cv : Value) (w : World) (ht : TB w) (hp : PartsV w pv ps) (hc : ChansV w cv cs) (hn : ps.length ≤ 2199023255552) (hm : cs.length ≤ 2513169434844) (hr : ∀ i (hi : i < ps.length), ps[i].regs.length ≤ 5864062014635) :
    Calls Tryd.prog 3 #[.agg #[.int .i64 f, pv, cv]] w fun e w' => e = .returned (.bool true) ∧ Below w.heap.size w w' := by
  have HP : Hid (PartsV w pv ps) := hp
  have HCV : Hid (ChansV w cv cs) := hc
  have HR : Hid _ := hr
  clear hr
  obtain ⟨va, cap, rfl, hx⟩ := hp
  clear hx
  obtain ⟨ca, ck, rfl, hx⟩ := hc
  clear hx
  have b0 := below_new w (.cells #[.int .i64 f, .slice va ps.length cap, .slice ca cs.length ck] 25)
  have h0 := heap_new w (.cells #[.int .i64 f, .slice va ps.length cap, .slice ca cs.length ck] 25)
  go_enter Tryd.func3, Tryd.ntmps3
  go_wp2_with fail
  generalize w.alloc (.cells #[.int .i64 f, .slice va ps.length cap, .slice ca cs.length ck] 25) = W0 at *
  refine (example_any _).mono ?_
  rintro e w1 ⟨pv1, cv1, rfl, hp1, hc1, ⟨hpc1, hcc1⟩, hb1⟩
  have b1 := b0.trans (hb1.mono b0.size)
  have h1 := keepL h0 hb1
  clear b0 h0 hb1
  go_wp2_with fail
  refine (manPrint_any 6 exPs exCs pv1 cv1 w1 (ht.below b1) hp1 hpc1 hc1 hcc1 (by decide) ex_small (by decide)).mono ?_
  rintro e w2 ⟨hor, hb2⟩
  rcases hor with ⟨hne, _⟩ | ⟨_, rfl⟩
  · exact absurd ex_ok hne
  have b2 := b1.trans (hb2.mono b1.size)
  have h2 := keepL h1 hb2
  clear b1 h1 hb2 hp1 hc1 hpc1 hcc1
  go_wp2_with fail
  refine (example_any _).mono ?_
  rintro e w3 ⟨pv3, cv3, rfl, hp3, hc3, _, hb3⟩
  have b3 := b2.trans (hb3.mono b2.size)
  have h3 := keepL h2 hb3
  clear b2 h2 hb3
  go_wp2_with fail
  refine (print_any 6 exPs exCs pv3 cv3 w3 hp3 hc3 (by decide)).mono ?_
  rintro e w4 ⟨hor, hb4⟩
  rcases hor with ⟨hne, _⟩ | ⟨_, rfl⟩
  · exact absurd ex_ok hne
  have b4 := b3.trans (hb4.mono b3.size)
  have h4 := keepL h3 hb4
  clear b3 h3 hb4 hp3 hc3
  generalize ba (printL ⟨6, exPs, exCs⟩) = ex at *
  have bl := below_new w4 (.cells #[.slice none 0 0, .slice none 0 0, .slice none 0 0, .slice none 0 0, .int .i64 0, .slice none 0 0, .slice none 0 0] 34)
  have hl := heap_new w4 (.cells #[.slice none 0 0, .slice none 0 0, .slice none 0 0, .slice none 0 0, .int .i64 0, .slice none 0 0, .slice none 0 0] 34)
  have hlm := keepL h4 bl
  have y0 : (w4.alloc (.cells #[.slice none 0 0, .slice none 0 0, .slice none 0 0, .slice none 0 0, .int .i64 0, .slice none 0 0, .slice none 0 0] 34)).cell? ⟨w.heap.size, 0, none⟩ = some (.int .i64 f) := by rw [cell_of_blk hlm]; rfl
  have y1 : (w4.alloc (.cells #[.slice none 0 0, .slice none 0 0, .slice none 0 0, .slice none 0 0, .int .i64 0, .slice none 0 0, .slice none 0 0] 34)).cell? ⟨w.heap.size, 1, none⟩ = some (.slice va ps.length cap) := by rw [cell_of_blk hlm]; rfl
  have y2 : (w4.alloc (.cells #[.slice none 0 0, .slice none 0 0, .slice none 0 0, .slice none 0 0, .int .i64 0, .slice none 0 0, .slice none 0 0] 34)).cell? ⟨w.heap.size, 2, none⟩ = some (.slice ca cs.length ck) := by rw [cell_of_blk hlm]; rfl
  go_wp2_with fail
  clear y0 y1 y2 hlm
  refine (lent_any w4 _ w4.heap.size f _ _ ps cs bl (PartsV.below HP.out b4) (ChansV.below HCV.out b4) (Nat.le_refl _) hl hn hm HR.out).mono ?_
  rintro e w5 ⟨pv5, cv5, rfl, hp5, hc5, ⟨hpc5, hcc5⟩, pb, hb, rgv, ctv, G, hL⟩
  clear bl hl
  have b5 := hL.low
  have m5 := keepL h4 b5
  have HP5 : Hid (PartsV w5 pv5 ps) := hp5
  have HC5 : Hid (ChansV w5 cv5 cs) := hc5
  have HPC5 : Hid (PartsC w5 pv5 ps.length) := hpc5
  have HCC5 : Hid (capV cv5) := hcc5
  have HL : Hid _ := hL
  obtain ⟨va5, cap5, rfl, hx⟩ := hp5
  clear hx
  obtain ⟨ca5, ck5, rfl, hx⟩ := hc5
  clear hx hpc5 hcc5 hL
  have b6 := below_new w5 (.cells #[.int .i64 f, .slice va5 ps.length cap5, .slice ca5 cs.length ck5] 25)
  have o6 := heap_new w5 (.cells #[.int .i64 f, .slice va5 ps.length cap5, .slice ca5 cs.length ck5] 25)
  have c6 := b5.trans (b6.mono b5.size)
  go_wp2_with fail
  generalize w5.alloc (.cells #[.int .i64 f, .slice va5 ps.length cap5, .slice ca5 cs.length ck5] 25) = w6 at *
  refine (manCheck_any f ps cs _ _ w6 (PartsV.below HP5.out b6) (PartsC.below HP5.out HPC5.out b6) (ChansV.below HC5.out b6) HCC5.out (by omega) (fun k hk => by have := HR.out k hk; omega) (by omega)).mono ?_
  rintro e w7 ⟨rfl, hb7⟩
  have b7 := b6.trans (hb7.mono b6.size)
  have o7 := keepL o6 hb7
  clear b6 o6 hb7 c6
  go_wp2_with fail
  refine (kept_any w4 w7 w4.heap.size pb hb f _ _ ps cs rgv ctv G (HL.out.below b7) (PartsV.below HP.out b4) (ChansV.below HCV.out b4) hn hm HR.out).mono ?_
  rintro e w8 ⟨rfl, hb8⟩
  have b8 := b7.trans (hb8.mono b7.size)
  have o8 := keepL o7 hb8
  clear b7 o7 hb8
  have z0 : w8.cell? ⟨w5.heap.size, 0, none⟩ = some (.int .i64 f) := by rw [cell_of_blk o8]; rfl
  have z1 : w8.cell? ⟨w5.heap.size, 1, none⟩ = some (.slice va5 ps.length cap5) := by rw [cell_of_blk o8]; rfl
  have z2 : w8.cell? ⟨w5.heap.size, 2, none⟩ = some (.slice ca5 cs.length ck5) := by rw [cell_of_blk o8]; rfl
  have b48 := b5.trans (b8.mono b5.size)
  have bw8 := b4.trans (b48.mono b4.size)
  go_wp2_with fail
  clear z0 z1 z2
  refine (manPrint_any f ps cs _ _ w8 (ht.below bw8) (PartsV.below HP5.out b8) (PartsC.below HP5.out HPC5.out b8) (ChansV.below HC5.out b8) HCC5.out (by omega) (fun k hk => by have := HR.out k hk; omega) (by omega)).mono ?_
  rintro e w9 ⟨hor, hb9⟩
  have b9 := b8.trans (hb9.mono b8.size)
  clear hb9 b8 o8 b48 bw8
  have HOR : Hid _ := hor
  clear hor
  obtain ⟨s, d, HSD, rfl⟩ : ∃ s d, Hid ((¬ checkF ⟨f, ps, cs⟩ = 0 ∧ s = ⟨#[]⟩ ∧ d = checkF ⟨f, ps, cs⟩) ∨ (checkF ⟨f, ps, cs⟩ = 0 ∧ s = ba (printL ⟨f, ps, cs⟩) ∧ d = 0)) ∧ e = .returned (.tuple #[.string s, .int .i64 d]) := by
    rcases HOR.out with ⟨h1, rfl⟩ | ⟨h1, rfl⟩
    · exact ⟨_, _, .inl ⟨h1, rfl, rfl⟩, rfl⟩
    · exact ⟨_, _, .inr ⟨h1, rfl, rfl⟩, rfl⟩
  clear HOR
  go_wp2_with fail
  refine (kept_any w4 w9 w4.heap.size pb hb f _ _ ps cs rgv ctv G (HL.out.below b9) (PartsV.below HP.out b4) (ChansV.below HCV.out b4) hn hm HR.out).mono ?_
  rintro e w10 ⟨rfl, hb10⟩
  have b10 := b9.trans (hb10.mono b9.size)
  have b410 := b5.trans (b10.mono b5.size)
  have bw10 := b4.trans (b410.mono b4.size)
  have m10 := keepL h4 b410
  clear hb10 b9
  have z0 : w10.cell? ⟨w.heap.size, 0, none⟩ = some (.int .i64 f) := by rw [cell_of_blk m10]; rfl
  have z1 : w10.cell? ⟨w.heap.size, 1, none⟩ = some (.slice va ps.length cap) := by rw [cell_of_blk m10]; rfl
  have z2 : w10.cell? ⟨w.heap.size, 2, none⟩ = some (.slice ca cs.length ck) := by rw [cell_of_blk m10]; rfl
  go_wp2_with fail
  clear z0 z1 z2
  refine (print_any f ps cs _ _ w10 (PartsV.below HP.out bw10) (ChansV.below HCV.out bw10) (by omega)).mono ?_
  rintro e w11 ⟨hor, hb11⟩
  have b11 := bw10.trans (hb11.mono bw10.size)
  have HX : Hid (checkF ⟨f, ps, cs⟩ = d ∧ e = .returned (.tuple #[.string s, .int .i64 d])) := by
    rcases HSD.out with ⟨h1, rfl, rfl⟩ | ⟨h1, rfl, rfl⟩
    · rcases hor with ⟨_, rfl⟩ | ⟨h2, _⟩
      · exact ⟨rfl, rfl⟩
      · exact absurd h2 h1
    · rcases hor with ⟨h2, _⟩ | ⟨_, rfl⟩
      · exact absurd h1 h2
      · exact ⟨h1, rfl⟩
  clear hor HSD
  obtain ⟨hd, rfl⟩ := HX.out
  rw [hd]
  clear hd HX
  go_wp2_with fail
  go_ret
  exact ⟨by simp, b11⟩
end Go.Proofs.YteioennfpkoagaaDoor.C
