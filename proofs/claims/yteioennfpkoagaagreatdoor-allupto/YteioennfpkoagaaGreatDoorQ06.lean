import Derived.Test.YteioennfpkoagaaGreatDoorN12
import Derived.Test.YteioennfpkoagaaGreatDoorQ05
namespace Go.Proofs.YteioennfpkoagaaGreatDoor.C
open Go.RowKit K
attribute [local go_sem ↓] Go.wp_at_zero Go.wp_at_succ

theorem lawC_true (I : KerI) : LawC I where
  boot htb h hg hk c hc := booted_any htb h hg hk c hc
  step htb h hg hk1 hk2 hn o ho := step_any htb h hg hk1 hk2 hn o ho
  ask h hg hk hn := asked_any h hg hk hn
theorem OpsV.below {w w' : World} {v : Value} {os : List OpD} (h : OpsV w v os) (hb : Below w.heap.size w w') : OpsV w' v os := by
  obtain ⟨h1, va, cap, e, h2⟩ := h
  refine ⟨h1, va, cap, e, fun i hi => ?_⟩
  obtain ⟨b, off, e1, y0, y1, y2, y3, y4, y5, y6⟩ := h2 i hi
  have hlt : b < w.heap.size := World.block_lt_of_cell? w _ y0
  have hs : ∀ j, w'.cell? ⟨b, j, none⟩ = w.cell? ⟨b, j, none⟩ := fun j => hb.cell (by exact hlt)
  exact ⟨b, off, e1, (hs _).trans y0, (hs _).trans y1, (hs _).trans y2, (hs _).trans y3, (hs _).trans y4, (hs _).trans y5, (hs _).trans y6⟩
set_option maxRecDepth 100000 in
set_option maxHeartbeats 4000000 in
theorem all_law (I : KerI) (w : World) (htb : TB w) (f0 : Int) (ps0 : List PartD) (cs0 : List ChanD) (pv0 cv0 : Value) (f1 : Int) (ps1 : List PartD) (cs1 : List ChanD) (pv1 cv1 : Value) (u : Value) (os : List OpD)
    (hp0 : PartsV w pv0 ps0) (hc0 : ChansV w cv0 cs0) (hn0 : ps0.length ≤ 1048576) (hm0 : cs0.length ≤ 1048576) (hr0 : ∀ i (hi : i < ps0.length), ps0[i].regs.length ≤ 1048576)
    (hp1 : PartsV w pv1 ps1) (hc1 : ChansV w cv1 cs1) (hn1 : ps1.length ≤ 1048576) (hm1 : cs1.length ≤ 1048576) (hr1 : ∀ i (hi : i < ps1.length), ps1[i].regs.length ≤ 1048576) (ho : OpsV w u os) (hn : os.length ≤ 1048576) :
    Calls Tryz.prog 4 #[.agg #[.int .i64 f0, pv0, cv0], .agg #[.int .i64 f1, pv1, cv1], u] w fun e w' => e = .returned (.bool true) ∧ Below w.heap.size w w' := by
  have HUP : Hid (∀ V, Below w.heap.size w V → Calls Tryz.prog 15 #[.agg #[.int .i64 f0, pv0, cv0], .agg #[.int .i64 f1, pv1, cv1], u] V fun e w' => e = .returned (.int .i64 (-1)) ∧ Below V.heap.size V w') := fun V hV =>
    upto_any I (lawC_true I) V (htb.below hV) ⟨f0, ps0, cs0⟩ ⟨f1, ps1, cs1⟩ pv0 cv0 pv1 cv1 u os ⟨hp0.below hV, hc0.below hV, hn0, hm0, hr0⟩ ⟨hp1.below hV, hc1.below hV, hn1, hm1, hr1⟩ (ho.below hV) hn
  clear hp0 hc0 hr0 hp1 hc1 hr1 ho htb
  go_enter Tryz.func4, Tryz.ntmps4
  have n1 := newB w (.cells #[.int .i64 f0, pv0, cv0] 34)
  have n2 := n1.trans ((newB (w.alloc (.cells #[.int .i64 f0, pv0, cv0] 34)) (.cells #[.int .i64 f1, pv1, cv1] 34)).mono n1.size)
  have HN : Hid (Below w.heap.size w ((w.alloc (.cells #[.int .i64 f0, pv0, cv0] 34)).alloc (.cells #[.int .i64 f1, pv1, cv1] 34))) := n2
  clear n1 n2
  go_wp2_with fail
  refine Calls.mono (HUP.out _ HN.out) ?_
  rintro e w1 ⟨rfl, hb0⟩
  have hb := HN.out.trans (hb0.mono HN.out.size)
  clear hb0
  go_wp2_with fail
  go_ret
  exact ⟨rfl, hb⟩
end Go.Proofs.YteioennfpkoagaaGreatDoor.C
