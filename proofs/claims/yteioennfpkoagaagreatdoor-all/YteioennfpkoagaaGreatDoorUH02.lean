import Derived.Test.YteioennfpkoagaaGreatDoorT11
import Derived.Test.YteioennfpkoagaaGreatDoorUH01
import Derived.Test.YteioennfpkoagaaGreatDoorB08
namespace Go.Proofs.YteioennfpkoagaaGreatDoor.C
open Go.RowKit K
attribute [local go_sem ↓] Go.wp_at_zero Go.wp_at_succ

theorem empty_list : (⟨#[]⟩ : ByteArray).toList.isEmpty = true := by
  unfold ByteArray.toList ByteArray.toList.loop
  rw [if_neg (by decide)]
  rfl
/- the law's world while the images are made -/
def upC (M : MnS) (im0 im1 : ByteArray) : Array Value := #[.int .i64 (M.D 0).frame, M.pv 0, M.cv 0, .int .i64 (M.D 1).frame, M.pv 1, M.cv 1, .string im0, .string im1, .slice none 0 0]
structure ManG (w : World) (pv cv : Value) (D : ManD) : Prop where
  p : PartsV w pv D.parts
  c : ChansV w cv D.chans
  n : D.parts.length ≤ 2199023255552
  m : D.chans.length ≤ 2513169434844
  r : ∀ i (hi : i < D.parts.length), D.parts[i].regs.length ≤ 5864062014635
structure UP (w0 : World) (wb i : Nat) (M : MnS) (im0 im1 : ByteArray) (w : World) : Prop where
  b0 : Below w0.heap.size w0 w
  lo : w0.heap.size ≤ wb
  blk : w.heap[wb]? = some (.cells (upC M im0 im1) 110)
  m0 : ManG w (M.pv 0) (M.cv 0) (M.D 0)
  m1 : ManG w (M.pv 1) (M.cv 1) (M.D 1)
  c0 : 0 < i → checkF (M.D 0) = 0 ∧ im0 = ba (imgF (M.D 0))
  c1 : 1 < i → checkF (M.D 1) = 0 ∧ im1 = ba (imgF (M.D 1))
theorem ManG.below {w w' : World} {pv cv : Value} {D : ManD} (h : ManG w pv cv D) (hb : Below w.heap.size w w') : ManG w' pv cv D := ⟨h.p.below hb, h.c.below hb, h.n, h.m, h.r⟩
theorem ManG.far {w w' : World} {pv cv : Value} {D : ManD} {z : Nat} (h : ManG w pv cv D) (hn : NoII w z) (hk : ∀ b, b ≠ z → b < w.heap.size → w'.heap[b]? = w.heap[b]?) : ManG w' pv cv D := ⟨h.p.far hn hk, h.c.far hn hk, h.n, h.m, h.r⟩
section
variable {w0 w w' : World} {wb i i' : Nat} {M M' : MnS} {im0 im1 im0' im1' : ByteArray}
theorem UP.below (h : UP w0 wb i M im0 im1 w) (hb : Below w.heap.size w w') : UP w0 wb i M im0 im1 w' :=
  ⟨h.b0.trans (hb.mono h.b0.size), h.lo, keepN h.blk hb, h.m0.below hb, h.m1.below hb, h.c0, h.c1⟩
theorem UP.noII (h : UP w0 wb i M im0 im1 w) : NoII w wb := by
  obtain ⟨a0, b0, e0, _⟩ := h.m0.p
  obtain ⟨a1, b1, e1, _⟩ := h.m0.c
  obtain ⟨a2, b2, e2, _⟩ := h.m1.p
  obtain ⟨a3, b3, e3, _⟩ := h.m1.c
  have hb := h.blk
  unfold upC at hb
  refine noII_of hb ?_ ?_ ?_ ?_ ?_
  · rw [e0]; intro x hx; cases hx
  · rw [e1]; intro x hx; cases hx
  · rw [e2]; intro x hx; cases hx
  · rw [e3]; intro x hx; cases hx
  · intro x hx; cases hx
theorem UP.turn (h : UP w0 wb i M im0 im1 w) (hos : w'.os = w.os) (ht : w'.tape = w.tape) (hou : w'.output = w.output) (hsz : w'.heap.size = w.heap.size) (hk : ∀ b, b ≠ wb → w'.heap[b]? = w.heap[b]?)
    (hb : w'.heap[wb]? = some (.cells (upC M' im0' im1') 110)) (h0 : ManG w (M'.pv 0) (M'.cv 0) (M'.D 0)) (h1 : ManG w (M'.pv 1) (M'.cv 1) (M'.D 1))
    (hc0 : 0 < i' → checkF (M'.D 0) = 0 ∧ im0' = ba (imgF (M'.D 0))) (hc1 : 1 < i' → checkF (M'.D 1) = 0 ∧ im1' = ba (imgF (M'.D 1))) : UP w0 wb i' M' im0' im1' w' := by
  have hn := h.noII
  refine ⟨⟨hos.trans h.b0.os, ht.trans h.b0.tape, hou.trans h.b0.output, by rw [hsz]; exact h.b0.size, fun k hk' => (hk k (by have := h.lo; omega)).trans (h.b0.block k hk')⟩, h.lo, hb, h0.far hn fun b hb _ => hk b hb, h1.far hn fun b hb _ => hk b hb, hc0, hc1⟩
def setM (M : MnS) (j : Nat) (pv cv : Value) (D : ManD) : MnS := ⟨fun q => if q = j then pv else M.pv q, fun q => if q = j then cv else M.cv q, fun q => if q = j then D else M.D q⟩
theorem exM {w : World} {pv cv : Value} (hp : PartsV w pv exPs) (hc : ChansV w cv exCs) : ManG w pv cv ⟨6, exPs, exCs⟩ := by
  refine ⟨hp, hc, by decide, by decide, fun i hi => ?_⟩
  have : i = 0 ∨ i = 1 := by have : i < 2 := hi; omega
  rcases this with rfl | rfl
  · show 1 ≤ 5864062014635; omega
  · show 0 ≤ 5864062014635; omega
theorem UP.img0 (h : UP w0 wb 0 M im0 im1 w) (hz : checkF (M.D 0) = 0) : UP w0 wb 1 M (ba (imgF (M.D 0))) im1 (w.setCell ⟨wb, 6, none⟩ (.string (ba (imgF (M.D 0))))) :=
  h.turn rfl rfl rfl (by simp) (fun b hb => blk_far _ _ hb) (by rw [blk_set _ _ h.blk]; rfl) h.m0 h.m1 (fun _ => ⟨hz, rfl⟩) (fun h => by omega)
theorem UP.img1 (h : UP w0 wb 1 M im0 im1 w) (hz : checkF (M.D 1) = 0) : UP w0 wb 2 M im0 (ba (imgF (M.D 1))) (w.setCell ⟨wb, 7, none⟩ (.string (ba (imgF (M.D 1))))) :=
  h.turn rfl rfl rfl (by simp) (fun b hb => blk_far _ _ hb) (by rw [blk_set _ _ h.blk]; rfl) h.m0 h.m1 (fun _ => h.c0 (by omega)) (fun _ => ⟨hz, rfl⟩)
theorem UP.ex0 (h : UP w0 wb 0 M im0 im1 w) {pv cv : Value} (hp : PartsV w pv exPs) (hc : ChansV w cv exCs) :
    UP w0 wb 0 (setM M 0 pv cv ⟨6, exPs, exCs⟩) im0 im1 (((w.setCell ⟨wb, 0, none⟩ (.int .i64 6)).setCell ⟨wb, 1, none⟩ pv).setCell ⟨wb, 2, none⟩ cv) :=
  h.turn rfl rfl rfl (by simp) (fun b hb => by rw [blk_far _ _ hb, blk_far _ _ hb, blk_far _ _ hb]) (by rw [blk_set _ _ (blk_set _ _ (blk_set _ _ h.blk))]; rfl) (exM hp hc) h.m1 (fun h => by omega) (fun h => by omega)
theorem UP.ex1 (h : UP w0 wb 1 M im0 im1 w) {pv cv : Value} (hp : PartsV w pv exPs) (hc : ChansV w cv exCs) :
    UP w0 wb 1 (setM M 1 pv cv ⟨6, exPs, exCs⟩) im0 im1 (((w.setCell ⟨wb, 3, none⟩ (.int .i64 6)).setCell ⟨wb, 4, none⟩ pv).setCell ⟨wb, 5, none⟩ cv) :=
  h.turn rfl rfl rfl (by simp) (fun b hb => by rw [blk_far _ _ hb, blk_far _ _ hb, blk_far _ _ hb]) (by rw [blk_set _ _ (blk_set _ _ (blk_set _ _ h.blk))]; rfl) h.m0 (exM hp hc) (fun _ => h.c0 (by omega)) (fun h => by omega)
theorem UP.wp (I : KerI) (h : UP w0 wb 2 M im0 im1 w) (n q : Nat) (f : Nat → PRc) : WP I M w0 wb n q 0 f [] w := by
  obtain ⟨z0, e0⟩ := h.c0 (by omega)
  obtain ⟨z1, e1⟩ := h.c1 (by omega)
  refine ⟨⟨w, fun _ => 0, .slice none 0 0, fun _ _ => False, fun _ _ => False, h.b0, h.lo, Below.refl _ _, fun j hj => ?_, ?_, World.ownsRow_nil _ _ _ _, fun _ _ => rfl, fun i hi => absurd hi (by omega), fun c hc => by cases hc⟩⟩
  · rcases (show j = 0 ∨ j = 1 by omega) with rfl | rfl
    · exact ⟨h.m0.p, h.m0.c, z0⟩
    · exact ⟨h.m1.p, h.m1.c, z1⟩
  · rw [h.blk, e0, e1]; rfl
end
end Go.Proofs.YteioennfpkoagaaGreatDoor.C
namespace Go.Proofs.YteioennfpkoagaaGreatDoor.C
open Go.RowKit K
attribute [local go_sem ↓] Go.wp_at_zero Go.wp_at_succ

/- what the law's calls do -/
structure LawC (I : KerI) : Prop where
  boot : ∀ {M : MnS} {w0 w : World} {wb n q k : Nat} {f : Nat → PRc}, TB w0 → WP I M w0 wb n q k f [] w → AllG k f → k ≤ 4398046511000 → ∀ c : Int, inR c →
    Calls Tryz.prog 48 #[ptrV wb, .int .i64 c] w fun e w' => e = .returned (.bool true) ∧ ∃ f', WP I M w0 wb n q (k + 1) f' [] w' ∧ AllG (k + 1) f'
  step : ∀ {M : MnS} {w0 w : World} {wb n q k : Nat} {f : Nat → PRc}, TB w0 → WP I M w0 wb n q k f [] w → AllG k f → 1 ≤ k → k ≤ 4398046511000 → n ≤ 3999999999999999900 → q ≤ 4398046510990 → ∀ o : OpD, OpR o →
    Calls Tryz.prog 49 #[ptrV wb, .agg (opC o)] w fun e w' => e = .returned (.bool true) ∧ ∃ k' f', WP I M w0 wb (n + 20) (q + 1) k' f' [] w' ∧ AllG k' f' ∧ k ≤ k' ∧ k' ≤ k + 1
  ask : ∀ {M : MnS} {w0 w : World} {wb n q k : Nat} {f : Nat → PRc}, WP I M w0 wb n q k f [] w → AllG k f → k ≤ 4398046511000 → n ≤ 3999999999999999900 → q ≤ 4398046511000 →
    Calls Tryz.prog 50 #[ptrV wb] w fun e w' => e = .returned (.bool true) ∧ WP I M w0 wb n q k f [] w'
set_option maxRecDepth 100000 in
set_option maxHeartbeats 8000000 in
theorem upto_any (I : KerI) (hC : LawC I) (w : World) (htb : TB w) (D0 D1 : ManD) (pv0 cv0 pv1 cv1 : Value) (u : Value) (os : List OpD) (h0 : ManG w pv0 cv0 D0) (h1 : ManG w pv1 cv1 D1) (ho : OpsV w u os) (hn : os.length ≤ 2199023255552) :
    Calls Tryz.prog 15 #[.agg #[.int .i64 D0.frame, pv0, cv0], .agg #[.int .i64 D1.frame, pv1, cv1], u] w fun e w' => e = .returned (.int .i64 (-1)) ∧ Below w.heap.size w w' := by
  obtain ⟨a0, b0, e0, z0⟩ := h0.p
  obtain ⟨a1, b1, e1, z1⟩ := h0.c
  obtain ⟨a2, b2, e2, z2⟩ := h1.p
  obtain ⟨a3, b3, e3, z3⟩ := h1.c
  clear z0 z1 z2 z3
  have H0 : Hid (ManG w pv0 cv0 D0) := h0
  have H1 : Hid (ManG w pv1 cv1 D1) := h1
  subst e0 e1 e2 e3
  have HO : Hid (OpsV w u os) := ho
  obtain ⟨hor, va, cap, rfl, hoc⟩ := ho
  have HC : Hid (LawC I) := hC
  have HTB : Hid (TB w) := htb
  clear h0 h1 hor hoc hC htb
  go_enter Tryz.func15, Tryz.ntmps15
  have hb3 : Below w.heap.size w (((w.alloc (.cells #[.int .i64 D0.frame, .slice a0 D0.parts.length b0, .slice a1 D0.chans.length b1] 34)).alloc (.cells #[.int .i64 D1.frame, .slice a2 D1.parts.length b2, .slice a3 D1.chans.length b3] 34)).alloc (.cells #[.int .i64 D0.frame, .slice a0 D0.parts.length b0, .slice a1 D0.chans.length b1, .int .i64 D1.frame, .slice a2 D1.parts.length b2, .slice a3 D1.chans.length b3, .string ⟨#[]⟩, .string ⟨#[]⟩, .slice none 0 0] 110)) := by
    have n1 := newB w (.cells #[.int .i64 D0.frame, .slice a0 D0.parts.length b0, .slice a1 D0.chans.length b1] 34)
    have n2 := n1.trans ((newB _ (.cells #[.int .i64 D1.frame, .slice a2 D1.parts.length b2, .slice a3 D1.chans.length b3] 34)).mono n1.size)
    exact n2.trans ((newB _ _).mono n2.size)
  have hbk := heap_new ((w.alloc (.cells #[.int .i64 D0.frame, .slice a0 D0.parts.length b0, .slice a1 D0.chans.length b1] 34)).alloc (.cells #[.int .i64 D1.frame, .slice a2 D1.parts.length b2, .slice a3 D1.chans.length b3] 34)) (.cells #[.int .i64 D0.frame, .slice a0 D0.parts.length b0, .slice a1 D0.chans.length b1, .int .i64 D1.frame, .slice a2 D1.parts.length b2, .slice a3 D1.chans.length b3, .string ⟨#[]⟩, .string ⟨#[]⟩, .slice none 0 0] 110)
  simp only [World.size_alloc] at hbk
  go_wp2_with fail
  generalize ((w.alloc (.cells #[.int .i64 D0.frame, .slice a0 D0.parts.length b0, .slice a1 D0.chans.length b1] 34)).alloc (.cells #[.int .i64 D1.frame, .slice a2 D1.parts.length b2, .slice a3 D1.chans.length b3] 34)).alloc (.cells #[.int .i64 D0.frame, .slice a0 D0.parts.length b0, .slice a1 D0.chans.length b1, .int .i64 D1.frame, .slice a2 D1.parts.length b2, .slice a3 D1.chans.length b3, .string ⟨#[]⟩, .string ⟨#[]⟩, .slice none 0 0] 110) = V0 at *
  have HS0 : Hid (UP w (w.heap.size + 1 + 1) 0 ⟨fun j => if j = 0 then .slice a0 D0.parts.length b0 else .slice a2 D1.parts.length b2, fun j => if j = 0 then .slice a1 D0.chans.length b1 else .slice a3 D1.chans.length b3, fun j => if j = 0 then D0 else D1⟩ ⟨#[]⟩ ⟨#[]⟩ V0) := ⟨hb3, by omega, hbk, H0.out.below hb3, H1.out.below hb3, fun h => by omega, fun h => by omega⟩
  clear hb3 hbk H0 H1
  go_loopw [8] (fun iv wr => ∃ (i : Nat) (M : MnS) (im0 im1 : ByteArray), iv = .int .i64 i ∧ i ≤ 2 ∧ Hid (UP w (w.heap.size + 1 + 1) i M im0 im1 wr)) (fun iv _ => 2 - (intOf iv).toNat)
  case atStart => exact ⟨0, _, _, _, rfl, by omega, HS0⟩
  case round =>
    obtain ⟨i, M, im0, im1, rfl, hi, HU⟩ := hrel
    rcases (show i = 0 ∨ i = 1 ∨ i = 2 by omega) with rfl | rfl | rfl
    · have d0 : wr.cell? ⟨w.heap.size + 1 + 1, 0, none⟩ = some (.int .i64 (M.D 0).frame) := by rw [cell_of_blk HU.out.blk]; rfl
      have d1 : wr.cell? ⟨w.heap.size + 1 + 1, 1, none⟩ = some (M.pv 0) := by rw [cell_of_blk HU.out.blk]; rfl
      have d2 : wr.cell? ⟨w.heap.size + 1 + 1, 2, none⟩ = some (M.cv 0) := by rw [cell_of_blk HU.out.blk]; rfl
      obtain ⟨xa, xb, xe, xz⟩ := HU.out.m0.p
      obtain ⟨ya, yb, ye, yz⟩ := HU.out.m0.c
      have HCO := compiled_any (M.D 0).frame (M.D 0).parts (M.D 0).chans (M.pv 0) (M.cv 0) wr HU.out.m0.p HU.out.m0.c HU.out.m0.n HU.out.m0.m HU.out.m0.r
      have HUB : Hid (∀ V, Below wr.heap.size wr V → UP w (w.heap.size + 1 + 1) 0 M im0 im1 V) := fun V hV => HU.out.below hV
      rw [xe] at d1
      rw [ye] at d2
      rw [xe, ye] at HCO
      clear xe ye xz yz
      by_cases hz : checkF (M.D 0) = 0
      · obtain ⟨s, hs⟩ : ∃ s, s = ba (imgF (M.D 0)) := ⟨_, rfl⟩
        have HS : Hid (s = ba (imgF (M.D 0))) := hs
        have hse : s.toList.isEmpty = false := by
          apply not_empty
          rw [hs]
          simp only [ba, ByteArray.size, List.size_toArray]
          exact (imgF_len hz).2
        have HZ : Hid (checkF (M.D 0) = 0) := hz
        go_wp2_with fail
        refine Calls.mono HCO ?_
        rintro e w1 ⟨hb1, hor⟩
        have he : e = .returned (.tuple #[.string s, .bool true]) := by
          rcases hor with ⟨h, _⟩ | ⟨_, h⟩
          · exact absurd hz h
          · rw [h, hs]
        subst he
        have HU1 : Hid (UP w (w.heap.size + 1 + 1) 0 M im0 im1 w1) := HUB.out w1 hb1
        have c6 : w1.cell? ⟨w.heap.size + 1 + 1, 6, none⟩ = some (.string im0) := by rw [cell_of_blk HU1.out.blk]; rfl
        have f6 : w1.frozen? ⟨w.heap.size + 1 + 1, 6, none⟩ = false := frozen_of_blk HU1.out.blk
        clear hb1 hor hz hs d0 d1 d2 HCO
        go_wp2_with fail
        refine ⟨⟨1, M, s, im1, by go_num, by omega, ?_⟩, by simp [intOf]⟩
        have := HU1.out.img0 HZ.out
        rw [← HS.out] at this
        exact this
      · go_wp2_with fail
        refine Calls.mono HCO ?_
        rintro e w1 ⟨hb1, hor⟩
        have he : e = .returned (.tuple #[.string ⟨#[]⟩, .bool true]) := by
          rcases hor with ⟨_, h⟩ | ⟨h, _⟩
          · exact h
          · exact absurd h hz
        subst he
        have HU1 : Hid (UP w (w.heap.size + 1 + 1) 0 M im0 im1 w1) := HUB.out w1 hb1
        clear hb1 hor hz d0 d1 d2 HCO
        have hemp : (⟨#[]⟩ : ByteArray).toList.isEmpty = true := empty_list
        go_wp2_with fail
        go_region_law (go_simp; go_at_call 47; refine Calls.mono (example_any w1.drew) ?_; rintro e w2 ⟨pv, cv, rfl, hp, hc, _, hb⟩; have HU2 : Hid (UP w (w.heap.size + 1 + 1) 0 M im0 im1 w2) := HU1.out.below (((Below.refl w1.heap.size w1).drew).trans hb); have HPV : Hid (PartsV w2 pv exPs) := hp; have HCV : Hid (ChansV w2 cv exCs) := hc; obtain ⟨za, zb, rfl, zz⟩ := hp; obtain ⟨ua, ub, rfl, uz⟩ := hc; clear zz uz; have q0 : w2.cell? ⟨w.heap.size + 1 + 1, 0, none⟩ = some (.int .i64 (M.D 0).frame) := (by rw [cell_of_blk HU2.out.blk]; rfl); have q1 : w2.cell? ⟨w.heap.size + 1 + 1, 1, none⟩ = some (M.pv 0) := (by rw [cell_of_blk HU2.out.blk]; rfl); have q2 : w2.cell? ⟨w.heap.size + 1 + 1, 2, none⟩ = some (M.cv 0) := (by rw [cell_of_blk HU2.out.blk]; rfl); have g0 : w2.frozen? ⟨w.heap.size + 1 + 1, 0, none⟩ = false := frozen_of_blk HU2.out.blk; have g1 : w2.frozen? ⟨w.heap.size + 1 + 1, 1, none⟩ = false := frozen_of_blk HU2.out.blk; have g2 : w2.frozen? ⟨w.heap.size + 1 + 1, 2, none⟩ = false := frozen_of_blk HU2.out.blk; clear hb)
        all_goals
          have HU3 : Hid (UP w (w.heap.size + 1 + 1) 0 (setM M 0 (.slice za exPs.length zb) (.slice ua exCs.length ub) ⟨6, exPs, exCs⟩) im0 im1 (((w2.setCell ⟨w.heap.size + 1 + 1, 0, none⟩ (.int .i64 6)).setCell ⟨w.heap.size + 1 + 1, 1, none⟩ (.slice za exPs.length zb)).setCell ⟨w.heap.size + 1 + 1, 2, none⟩ (.slice ua exCs.length ub))) := HU2.out.ex0 HPV.out HCV.out
          clear q0 q1 q2 g0 g1 g2 HPV HCV HU2 HU1
          generalize ((w2.setCell ⟨w.heap.size + 1 + 1, 0, none⟩ (.int .i64 6)).setCell ⟨w.heap.size + 1 + 1, 1, none⟩ (.slice za exPs.length zb)).setCell ⟨w.heap.size + 1 + 1, 2, none⟩ (.slice ua exCs.length ub) = w3 at *
          have HCO2 := compiled_any 6 exPs exCs (.slice za exPs.length zb) (.slice ua exCs.length ub) w3 HU3.out.m0.p HU3.out.m0.c HU3.out.m0.n HU3.out.m0.m HU3.out.m0.r
          have p0 : w3.cell? ⟨w.heap.size + 1 + 1, 0, none⟩ = some (.int .i64 6) := by rw [cell_of_blk HU3.out.blk]; rfl
          have p1 : w3.cell? ⟨w.heap.size + 1 + 1, 1, none⟩ = some (.slice za exPs.length zb) := by rw [cell_of_blk HU3.out.blk]; rfl
          have p2 : w3.cell? ⟨w.heap.size + 1 + 1, 2, none⟩ = some (.slice ua exCs.length ub) := by rw [cell_of_blk HU3.out.blk]; rfl
          obtain ⟨s, hs⟩ : ∃ s, s = ba (imgF ⟨6, exPs, exCs⟩) := ⟨_, rfl⟩
          have HS : Hid (s = ba (imgF ⟨6, exPs, exCs⟩)) := hs
          have hse : s.toList.isEmpty = false := by
            apply not_empty
            rw [hs]
            simp only [ba, ByteArray.size, List.size_toArray]
            exact (imgF_len ex_ok).2
          clear hs
          go_wp2_with fail
          refine Calls.mono HCO2 ?_
          rintro e w4 ⟨hb4, hor⟩
          have he : e = .returned (.tuple #[.string s, .bool true]) := by
            rcases hor with ⟨h, _⟩ | ⟨_, h⟩
            · exact absurd ex_ok h
            · rw [h, HS.out]
          subst he
          have HU4 : Hid (UP w (w.heap.size + 1 + 1) 0 (setM M 0 (.slice za exPs.length zb) (.slice ua exCs.length ub) ⟨6, exPs, exCs⟩) im0 im1 w4) := HU3.out.below hb4
          have c6 : w4.cell? ⟨w.heap.size + 1 + 1, 6, none⟩ = some (.string im0) := by rw [cell_of_blk HU4.out.blk]; rfl
          have f6 : w4.frozen? ⟨w.heap.size + 1 + 1, 6, none⟩ = false := frozen_of_blk HU4.out.blk
          clear hb4 hor p0 p1 p2 HCO2 HU3
          go_wp2_with fail
          refine ⟨⟨1, setM M 0 (.slice za exPs.length zb) (.slice ua exCs.length ub) ⟨6, exPs, exCs⟩, s, im1, by go_num, by omega, ?_⟩, by simp [intOf]⟩
          have := HU4.out.img0 ex_ok
          rw [show imgF ((setM M 0 (.slice za exPs.length zb) (.slice ua exCs.length ub) ⟨6, exPs, exCs⟩).D 0) = imgF ⟨6, exPs, exCs⟩ from rfl, ← HS.out] at this
          exact this
    · have d0 : wr.cell? ⟨w.heap.size + 1 + 1, 3, none⟩ = some (.int .i64 (M.D 1).frame) := by rw [cell_of_blk HU.out.blk]; rfl
      have d1 : wr.cell? ⟨w.heap.size + 1 + 1, 4, none⟩ = some (M.pv 1) := by rw [cell_of_blk HU.out.blk]; rfl
      have d2 : wr.cell? ⟨w.heap.size + 1 + 1, 5, none⟩ = some (M.cv 1) := by rw [cell_of_blk HU.out.blk]; rfl
      obtain ⟨xa, xb, xe, xz⟩ := HU.out.m1.p
      obtain ⟨ya, yb, ye, yz⟩ := HU.out.m1.c
      have HCO := compiled_any (M.D 1).frame (M.D 1).parts (M.D 1).chans (M.pv 1) (M.cv 1) wr HU.out.m1.p HU.out.m1.c HU.out.m1.n HU.out.m1.m HU.out.m1.r
      have HUB : Hid (∀ V, Below wr.heap.size wr V → UP w (w.heap.size + 1 + 1) 1 M im0 im1 V) := fun V hV => HU.out.below hV
      rw [xe] at d1
      rw [ye] at d2
      rw [xe, ye] at HCO
      clear xe ye xz yz
      by_cases hz : checkF (M.D 1) = 0
      · obtain ⟨s, hs⟩ : ∃ s, s = ba (imgF (M.D 1)) := ⟨_, rfl⟩
        have HS : Hid (s = ba (imgF (M.D 1))) := hs
        have hse : s.toList.isEmpty = false := by
          apply not_empty
          rw [hs]
          simp only [ba, ByteArray.size, List.size_toArray]
          exact (imgF_len hz).2
        have HZ : Hid (checkF (M.D 1) = 0) := hz
        go_wp2_with fail
        refine Calls.mono HCO ?_
        rintro e w1 ⟨hb1, hor⟩
        have he : e = .returned (.tuple #[.string s, .bool true]) := by
          rcases hor with ⟨h, _⟩ | ⟨_, h⟩
          · exact absurd hz h
          · rw [h, hs]
        subst he
        have HU1 : Hid (UP w (w.heap.size + 1 + 1) 1 M im0 im1 w1) := HUB.out w1 hb1
        have c6 : w1.cell? ⟨w.heap.size + 1 + 1, 7, none⟩ = some (.string im1) := by rw [cell_of_blk HU1.out.blk]; rfl
        have f6 : w1.frozen? ⟨w.heap.size + 1 + 1, 7, none⟩ = false := frozen_of_blk HU1.out.blk
        clear hb1 hor hz hs d0 d1 d2 HCO
        go_wp2_with fail
        refine ⟨⟨2, M, im0, s, by go_num, by omega, ?_⟩, by simp [intOf]⟩
        have := HU1.out.img1 HZ.out
        rw [← HS.out] at this
        exact this
      · go_wp2_with fail
        refine Calls.mono HCO ?_
        rintro e w1 ⟨hb1, hor⟩
        have he : e = .returned (.tuple #[.string ⟨#[]⟩, .bool true]) := by
          rcases hor with ⟨_, h⟩ | ⟨h, _⟩
          · exact h
          · exact absurd h hz
        subst he
        have HU1 : Hid (UP w (w.heap.size + 1 + 1) 1 M im0 im1 w1) := HUB.out w1 hb1
        clear hb1 hor hz d0 d1 d2 HCO
        have hemp : (⟨#[]⟩ : ByteArray).toList.isEmpty = true := empty_list
        go_wp2_with fail
        go_region_law (go_simp; go_at_call 47; refine Calls.mono (example_any w1.drew) ?_; rintro e w2 ⟨pv, cv, rfl, hp, hc, _, hb⟩; have HU2 : Hid (UP w (w.heap.size + 1 + 1) 1 M im0 im1 w2) := HU1.out.below (((Below.refl w1.heap.size w1).drew).trans hb); have HPV : Hid (PartsV w2 pv exPs) := hp; have HCV : Hid (ChansV w2 cv exCs) := hc; obtain ⟨za, zb, rfl, zz⟩ := hp; obtain ⟨ua, ub, rfl, uz⟩ := hc; clear zz uz; have q0 : w2.cell? ⟨w.heap.size + 1 + 1, 3, none⟩ = some (.int .i64 (M.D 1).frame) := (by rw [cell_of_blk HU2.out.blk]; rfl); have q1 : w2.cell? ⟨w.heap.size + 1 + 1, 4, none⟩ = some (M.pv 1) := (by rw [cell_of_blk HU2.out.blk]; rfl); have q2 : w2.cell? ⟨w.heap.size + 1 + 1, 5, none⟩ = some (M.cv 1) := (by rw [cell_of_blk HU2.out.blk]; rfl); have g0 : w2.frozen? ⟨w.heap.size + 1 + 1, 3, none⟩ = false := frozen_of_blk HU2.out.blk; have g1 : w2.frozen? ⟨w.heap.size + 1 + 1, 4, none⟩ = false := frozen_of_blk HU2.out.blk; have g2 : w2.frozen? ⟨w.heap.size + 1 + 1, 5, none⟩ = false := frozen_of_blk HU2.out.blk; clear hb)
        all_goals
          have HU3 : Hid (UP w (w.heap.size + 1 + 1) 1 (setM M 1 (.slice za exPs.length zb) (.slice ua exCs.length ub) ⟨6, exPs, exCs⟩) im0 im1 (((w2.setCell ⟨w.heap.size + 1 + 1, 3, none⟩ (.int .i64 6)).setCell ⟨w.heap.size + 1 + 1, 4, none⟩ (.slice za exPs.length zb)).setCell ⟨w.heap.size + 1 + 1, 5, none⟩ (.slice ua exCs.length ub))) := HU2.out.ex1 HPV.out HCV.out
          clear q0 q1 q2 g0 g1 g2 HPV HCV HU2 HU1
          generalize ((w2.setCell ⟨w.heap.size + 1 + 1, 3, none⟩ (.int .i64 6)).setCell ⟨w.heap.size + 1 + 1, 4, none⟩ (.slice za exPs.length zb)).setCell ⟨w.heap.size + 1 + 1, 5, none⟩ (.slice ua exCs.length ub) = w3 at *
          have HCO2 := compiled_any 6 exPs exCs (.slice za exPs.length zb) (.slice ua exCs.length ub) w3 HU3.out.m1.p HU3.out.m1.c HU3.out.m1.n HU3.out.m1.m HU3.out.m1.r
          have p0 : w3.cell? ⟨w.heap.size + 1 + 1, 3, none⟩ = some (.int .i64 6) := by rw [cell_of_blk HU3.out.blk]; rfl
          have p1 : w3.cell? ⟨w.heap.size + 1 + 1, 4, none⟩ = some (.slice za exPs.length zb) := by rw [cell_of_blk HU3.out.blk]; rfl
          have p2 : w3.cell? ⟨w.heap.size + 1 + 1, 5, none⟩ = some (.slice ua exCs.length ub) := by rw [cell_of_blk HU3.out.blk]; rfl
          obtain ⟨s, hs⟩ : ∃ s, s = ba (imgF ⟨6, exPs, exCs⟩) := ⟨_, rfl⟩
          have HS : Hid (s = ba (imgF ⟨6, exPs, exCs⟩)) := hs
          have hse : s.toList.isEmpty = false := by
            apply not_empty
            rw [hs]
            simp only [ba, ByteArray.size, List.size_toArray]
            exact (imgF_len ex_ok).2
          clear hs
          go_wp2_with fail
          refine Calls.mono HCO2 ?_
          rintro e w4 ⟨hb4, hor⟩
          have he : e = .returned (.tuple #[.string s, .bool true]) := by
            rcases hor with ⟨h, _⟩ | ⟨_, h⟩
            · exact absurd ex_ok h
            · rw [h, HS.out]
          subst he
          have HU4 : Hid (UP w (w.heap.size + 1 + 1) 1 (setM M 1 (.slice za exPs.length zb) (.slice ua exCs.length ub) ⟨6, exPs, exCs⟩) im0 im1 w4) := HU3.out.below hb4
          have c6 : w4.cell? ⟨w.heap.size + 1 + 1, 7, none⟩ = some (.string im1) := by rw [cell_of_blk HU4.out.blk]; rfl
          have f6 : w4.frozen? ⟨w.heap.size + 1 + 1, 7, none⟩ = false := frozen_of_blk HU4.out.blk
          clear hb4 hor p0 p1 p2 HCO2 HU3
          go_wp2_with fail
          refine ⟨⟨2, setM M 1 (.slice za exPs.length zb) (.slice ua exCs.length ub) ⟨6, exPs, exCs⟩, im0, s, by go_num, by omega, ?_⟩, by simp [intOf]⟩
          have := HU4.out.img1 ex_ok
          rw [show imgF ((setM M 1 (.slice za exPs.length zb) (.slice ua exCs.length ub) ⟨6, exPs, exCs⟩).D 1) = imgF ⟨6, exPs, exCs⟩ from rfl, ← HS.out] at this
          exact this
    · have HW := HU.out.wp I 0 0 (fun _ => ⟨0, ⟨0, 0, none⟩, 0, 0, bootK, bootK⟩)
      have HBO : Hid _ := HC.out.boot HTB.out HW (fun q hq => absurd hq (by omega)) (by omega) 0 ⟨by omega, by omega⟩
      clear HU HW
      unfold ptrV at HBO
      go_wp2_with fail
      refine Calls.mono HBO.out ?_
      rintro e w1 ⟨rfl, f1, hw1, hg1⟩
      have HW1 : Hid _ := hw1
      have HG1 : Hid _ := hg1
      clear HBO hw1 hg1
      go_wp2_with fail
      generalize wr = wq at *
      go_loopw [11, 12] (fun ov iv wr => ∃ (q k : Nat) (f' : Nat → PRc), iv = .int .i64 q ∧ ov = .bool true ∧ q ≤ os.length ∧ 1 ≤ k ∧ k ≤ q + 1 ∧ Hid (WP I M w (w.heap.size + 1 + 1) (20 * q) q k f' [] wr) ∧ Hid (AllG k f')) (fun _ iv _ => os.length - (intOf iv).toNat)
      case atStart => exact ⟨0, 1, f1, rfl, rfl, by omega, by omega, by omega, HW1, HG1⟩
      case round =>
        obtain ⟨q, k, f', rfl, rfl, hq, hk1, hk2, HR, HG⟩ := hrel
        have w1' : IntKind.i64.wrap ((q : Int) + 1) = (q : Int) + 1 := wrap_small _ (by omega) (by omega)
        by_cases hlt : q < os.length
        · have hlt' : (q : Int) < (os.length : Int) := by omega
          have hq0 : (0 : Int) ≤ (q : Int) := by omega
          obtain ⟨hor, va2, cap2, hsl, hoc⟩ := HO.out
          obtain ⟨ob, oo, hob, y0, y1, y2, y3, y4, y5, y6⟩ := hoc q hlt
          obtain ⟨rfl, rfl⟩ : va = va2 ∧ cap = cap2 := by cases hsl; exact ⟨rfl, rfl⟩
          subst hob
          have hbw := HR.out.bel
          have d0 := (hbw.cell (by exact World.block_lt_of_cell? w _ y0)).trans y0
          have d1 := (hbw.cell (by exact World.block_lt_of_cell? w _ y1)).trans y1
          have d2 := (hbw.cell (by exact World.block_lt_of_cell? w _ y2)).trans y2
          have d3 := (hbw.cell (by exact World.block_lt_of_cell? w _ y3)).trans y3
          have d4 := (hbw.cell (by exact World.block_lt_of_cell? w _ y4)).trans y4
          have d5 := (hbw.cell (by exact World.block_lt_of_cell? w _ y5)).trans y5
          have d6 := (hbw.cell (by exact World.block_lt_of_cell? w _ y6)).trans y6
          have HST : Hid _ := HC.out.step HTB.out HR.out HG.out hk1 (by omega) (by omega) (by omega) os[q] (hor _ (List.getElem_mem hlt))
          unfold opC ptrV at HST
          clear y0 y1 y2 y3 y4 y5 y6 hbw hor hoc hsl
          generalize os[q] = o at *
          go_wp2_with fail
          refine Calls.mono HST.out ?_
          rintro e w2 ⟨rfl, k', f2, hw2, hg2, hka, hkb⟩
          have HW2 : Hid _ := hw2
          have HG2 : Hid _ := hg2
          clear HST hw2 hg2 d0 d1 d2 d3 d4 d5 d6
          go_wp2_with fail
          exact ⟨⟨q + 1, k', f2, by go_num, rfl, by omega, by omega, by omega, HW2.out.mono (by omega) (by omega), HG2⟩, by simp [intOf]; omega⟩
        · have hlt' : ¬ (q : Int) < (os.length : Int) := by omega
          have HAS : Hid _ := HC.out.ask HR.out HG.out (by omega) (by omega) (by omega)
          unfold ptrV at HAS
          go_wp2_with fail
          refine Calls.mono HAS.out ?_
          rintro e w2 ⟨rfl, hw2⟩
          have HW2 : Hid _ := hw2
          clear HAS hw2
          go_wp2_with fail
          go_ret
          exact ⟨rfl, HW2.out.bel⟩
end Go.Proofs.YteioennfpkoagaaGreatDoor.C
