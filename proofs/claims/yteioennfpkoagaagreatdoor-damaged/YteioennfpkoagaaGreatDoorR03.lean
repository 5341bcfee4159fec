import Derived.Test.YteioennfpkoagaaGreatDoorK14
import Derived.Laws.IdiomStrings
import Derived.Deep.DeepCutAuto
namespace Go.Proofs.YteioennfpkoagaaGreatDoor.C
open Go.RowKit K
attribute [local go_sem ↓] Go.wp_at_zero Go.wp_at_succ

theorem img_ne {D : ManD} (hz : checkF D = 0) : ba (imgF D) ≠ ⟨#[]⟩ := by
  intro h
  have h1 := (imgF_len hz).2
  have h2 : (ba (imgF D)).size = 0 := by rw [h]; rfl
  rw [ba_len] at h2
  omega
/- bytes that one may write -/
def BT (W : World) (b : Nat) (l : List UInt8) : Prop :=
  ∃ C fr, W.heap[b]? = some (.cells C 5 (fr, fr + 1)) ∧ l.length ≤ fr ∧ ∀ j (h : j < l.length), C[j]? = some (.int .u8 l[j].toNat)
theorem BT.cell {W : World} {b : Nat} {l : List UInt8} (h : BT W b l) {j : Nat} (hj : j < l.length) : W.cell? ⟨b, j, none⟩ = some (.int .u8 l[j].toNat) := by
  obtain ⟨C, fr, h1, _, h3⟩ := h
  rw [cell_of_blk h1]
  exact h3 j hj
theorem BT.free {W : World} {b : Nat} {l : List UInt8} (h : BT W b l) {j : Nat} (hj : j < l.length) : W.frozen? ⟨b, j, none⟩ = false := by
  obtain ⟨C, fr, h1, h2, _⟩ := h
  simp [World.frozen?, h1]
  omega
theorem BT.set {W : World} {b : Nat} {l : List UInt8} (h : BT W b l) {j : Nat} (_ : j < l.length) (y : UInt8) : BT (W.setCell ⟨b, j, none⟩ (.int .u8 y.toNat)) b (l.set j y) := by
  obtain ⟨C, fr, h1, h2, h3⟩ := h
  refine ⟨_, fr, blk_set j _ h1, by simpa using h2, fun i hi => ?_⟩
  have hi' : i < l.length := by simpa using hi
  have hc := h3 i hi'
  have hlt : i < C.size := by
    rcases Nat.lt_or_ge i C.size with h | h
    · exact h
    · rw [Array.getElem?_eq_none h] at hc; cases hc
  rw [Array.getElem?_setIfInBounds, List.getElem_set]
  by_cases e : j = i
  · subst e
    simp [hlt]
  · rw [if_neg e, if_neg e]
    exact hc
theorem BT.drew {W : World} {b : Nat} {l : List UInt8} (h : BT W b l) : BT W.drew b l := h
theorem BT.see {W : World} {b : Nat} {l : List UInt8} {cap : Nat} (h : BT W b l) : BytesV W (.slice (some ⟨b, 0, none⟩) l.length cap) l :=
  ⟨_, _, rfl, fun i hi => ⟨b, 0, rfl, by rw [Nat.zero_add]; exact h.cell hi⟩⟩
theorem BT.of {w : World} {s : ByteArray} {l : List UInt8} (hs : ba l = s) (gc : Nat) : BT (w.alloc (.cells (bytesRow s gc) 5 ((bytesRow s gc).size, (bytesRow s gc).size + 1))).drew w.heap.size l := by
  refine ⟨bytesRow s gc, (bytesRow s gc).size, heap_new w _, ?_, fun j hj => ?_⟩
  · subst hs
    simp [bytesRow, ba]
  · subst hs
    have h1 : j < (ba l).data.size := by simpa [ba] using hj
    rw [bytesRow_at _ _ _ h1]
    simp [ba]
theorem xbit (y : UInt8) (k : Nat) : bits .xor .u8 (y.toNat : Int) ((2 : Int) ^ k % 256) = ((y ^^^ bit8 k).toNat : Int) := by
  have h1 : (2 : Int) ^ k % 256 = ((2 ^ k % 256 : Nat) : Int) := by rw [Int.natCast_emod, Int.natCast_pow]; rfl
  rw [h1, u8_xor_nat _ _ y.toNat_lt (Nat.mod_lt _ (by decide)), UInt8.toNat_xor]
  have h2 : (bit8 k).toNat = 2 ^ k % 256 := by
    unfold bit8
    rw [UInt8.toNat_ofNat']
  rw [h2]
theorem ba_cut (l : List UInt8) (k : Nat) : (ba l).extract 0 k = ba (l.take k) := by
  apply ByteArray.ext
  simp [ba]
theorem getD_at (l : List UInt8) (m : Nat) (h : m < l.length) : l.getD m 0 = l[m] := by simp [List.getD, List.getElem?_eq_getElem h]
set_option maxRecDepth 100000 in
set_option maxHeartbeats 8000000 in
theorem damaged_law (I : KerI) (hMade : MadeF) (w : World) (htb : TB w) (u : Value) (L : List Int) (hL : IntsV w u L) (x1 x2 x3 : Int) (hx1 : inI x1) (hx2 : inI x2) (hx3 : inI x3) :
    Calls Tryz.prog 7 #[u, .int .i64 x1, .int .i64 x2, .int .i64 x3] w fun e w' => e = .returned (.bool true) ∧ Below w.heap.size w w' := by
  have HTB : Hid (TB w) := htb
  clear htb
  have HM : Hid _ := hMade w u L hL
  clear hMade hL
  go_enter Tryz.func7, Tryz.ntmps7
  go_wp2_with fail
  refine Calls.mono HM.out ?_
  rintro e w1 ⟨n, ps, cs, pv, cv, rfl, hm⟩
  have HMM : Hid (MadeM w n ps cs pv cv w1) := hm
  obtain ⟨va, cap, rfl, _⟩ := hm.parts
  obtain ⟨ca, ck, rfl, _⟩ := hm.chans
  have hfr := hm.fr
  have hco := check_ok hm.chk
  have hps : ps.length ≤ 8 := hco.2.2.1
  have hcl : cs.length ≤ 8 := hco.2.2.2.1
  have HRL : Hid (∀ k (hk : k < ps.length), ps[k].regs.length ≤ 1048576) := fun k hk => by have := (hco.2.2.2.2.1 k hk).1; simp only [] at this; omega
  clear hm HM hco
  have b0 := newB w1 (.cells #[.int .i64 n, .slice va ps.length cap, .slice ca cs.length ck] 34)
  have h0 := heap_new w1 (.cells #[.int .i64 n, .slice va ps.length cap, .slice ca cs.length ck] 34)
  have HCOM : Hid _ := compile_any n ps cs _ _ (w1.alloc (.cells #[.int .i64 n, .slice va ps.length cap, .slice ca cs.length ck] 34)) (HMM.out.parts.below b0) (PartsC.below HMM.out.parts HMM.out.partsC b0) (HMM.out.chans.below b0) HMM.out.chansC (by omega) (by omega) HRL.out
  have HB0 : Hid _ := b0
  have HH0 : Hid _ := h0
  clear b0 h0
  go_wp2_with fail
  generalize w1.alloc (.cells #[.int .i64 n, .slice va ps.length cap, .slice ca cs.length ck] 34) = W0 at *
  refine Calls.mono HCOM.out ?_
  rintro e w2 hor
  obtain ⟨_, hb2, rfl⟩ : checkF ⟨n, ps, cs⟩ = 0 ∧ Below W0.heap.size W0 w2 ∧ e = .returned (.tuple #[.string (ba (imgF ⟨n, ps, cs⟩)), .int .i64 0]) := by
    rcases hor with ⟨h, _⟩ | h
    · exact absurd HMM.out.chk h
    · exact h
  have HBW : Hid (Below w.heap.size w w2) := (HMM.out.bel.trans (HB0.out.mono HMM.out.bel.size)).trans (hb2.mono (Nat.le_trans HMM.out.bel.size HB0.out.size))
  have hM2 := keepN HH0.out hb2
  have y0 : w2.cell? ⟨w1.heap.size, 0, none⟩ = some (.int .i64 n) := by rw [cell_of_blk hM2]; rfl
  have y1 : w2.cell? ⟨w1.heap.size, 1, none⟩ = some (.slice va ps.length cap) := by rw [cell_of_blk hM2]; rfl
  have y2 : w2.cell? ⟨w1.heap.size, 2, none⟩ = some (.slice ca cs.length ck) := by rw [cell_of_blk hM2]; rfl
  obtain ⟨hil, hil2⟩ := imgF_len HMM.out.chk
  simp only [Int.toNat_natCast] at hil
  have HNE : Hid (ba (imgF ⟨n, ps, cs⟩) ≠ ⟨#[]⟩) := img_ne HMM.out.chk
  have HIMG : Hid (I.acc (ba (imgF ⟨n, ps, cs⟩)) = true) := I.accImg _ HMM.out.chk
  have HCUT : Hid (∀ k, k < (imgF ⟨n, ps, cs⟩).length → I.acc (ba ((imgF ⟨n, ps, cs⟩).take k)) = false) := fun k hk => I.accCut _ k HMM.out.chk hk
  have HSYN : Hid (synL (imgF ⟨n, ps, cs⟩) = 0#32) := synL_seal _
  obtain ⟨l, hl⟩ : ∃ l, imgF ⟨n, ps, cs⟩ = l := ⟨_, rfl⟩
  rw [hl] at hil hil2 HNE HIMG HCUT HSYN ⊢
  have hsz : (ba l).size = l.length := ba_len l
  have HSZ : Hid ((ba l).size = l.length) := hsz
  obtain ⟨s, hs⟩ : ∃ s, ba l = s := ⟨_, rfl⟩
  have HS : Hid (ba l = s) := hs
  rw [hs] at HNE HIMG hsz HSZ ⊢
  have hg1 : ¬ (64 : Int) + n + 64 * ps.length + 64 * cs.length < (s.size : Int) := by omega
  have hne : s.toList.isEmpty = false := by
    rw [← HS.out, ByteArray.toList_eq, ba_data]
    cases l with
    | nil => simp at hil2
    | cons b l => rfl
  have hcv := run_bytes_of_string (P := Tryz.prog) w2 9 63 5 s Tryz.underlying9 Tryz.underlying63 Tryz.underlying5
  clear hor hb2 hM2 hl hs HCOM
  go_wp2_with fail
  obtain ⟨gc, hgc⟩ : ∃ gc, grownCap w2 l.length 0 5 = gc := ⟨_, rfl⟩
  rw [hgc]
  have HBT : Hid (BT (w2.alloc (.cells (bytesRow s gc) 5 ((bytesRow s gc).size, (bytesRow s gc).size + 1))).drew w2.heap.size l) := BT.of HS.out gc
  have HB3 : Hid (Below w2.heap.size w2 (w2.alloc (.cells (bytesRow s gc) 5 ((bytesRow s gc).size, (bytesRow s gc).size + 1))).drew) := below_drewN (newB w2 _) 1
  generalize (w2.alloc (.cells (bytesRow s gc) 5 ((bytesRow s gc).size, (bytesRow s gc).size + 1))).drew = W3 at *
  clear hgc hcv y0 y1 y2
  obtain ⟨i, hi, hi1⟩ : ∃ i : Nat, pickF x1 (8 * l.length) = i ∧ i < 8 * l.length := by
    have := pickF_lt (c := x1) (n := 8 * l.length) (by omega)
    exact ⟨(pickF x1 (8 * l.length)).toNat, by omega, by omega⟩
  obtain ⟨j, hj, hj1⟩ : ∃ j : Nat, pickF x2 (8 * l.length) = j ∧ j < 8 * l.length := by
    have := pickF_lt (c := x2) (n := 8 * l.length) (by omega)
    exact ⟨(pickF x2 (8 * l.length)).toNat, by omega, by omega⟩
  refine Calls.mono (pick_any x1 (8 * l.length) hx1 (by omega) W3) ?_
  rintro e V ⟨rfl, hV⟩
  have hV2 := hV.symm
  clear hV
  subst hV2
  rw [hi]
  clear hi
  go_wp2_with fail
  refine Calls.mono (pick_any x2 (8 * l.length) hx2 (by omega) W3) ?_
  rintro e V ⟨rfl, hV⟩
  have hV2 := hV.symm
  clear hV
  subst hV2
  rw [hj]
  clear hj
  have hm8 : i / 8 < l.length := by omega
  have c0 := HBT.out.cell hm8
  have f0 := HBT.out.free hm8
  have e1 : ((i : Int) / 8).toNat = i / 8 := by omega
  have e2 : (i : Int) / 8 < (l.length : Int) := by omega
  have e3 : (0 : Int) ≤ (i : Int) / 8 := by omega
  go_upto_region 8 with fail
  go_region
  rw [xbit]
  have hbt1 := (HBT.out.set hm8 (l[i / 8] ^^^ bit8 (i % 8))).drew
  have hb4 : Below w2.heap.size w2 (W3.setCell ⟨w2.heap.size, i / 8, none⟩ (.int .u8 ((l[i / 8] ^^^ bit8 (i % 8)).toNat))).drew := below_drewN (HB3.out.setCell (p := ⟨w2.heap.size, i / 8, none⟩) (Nat.le_refl _) _) 1
  have hl1 : (l.set (i / 8) (l[i / 8] ^^^ bit8 (i % 8))).length = l.length := List.length_set
  have hsy1 : synL (l.set (i / 8) (l[i / 8] ^^^ bit8 (i % 8))) ≠ 0#32 := by
    have := syn_one l i (by omega) hm8 HSYN.out
    rwa [getD_at l _ hm8] at this
  have HSY2 : Hid (i ≠ j → synL ((l.set (i / 8) (l[i / 8] ^^^ bit8 (i % 8))).set (j / 8) ((l.set (i / 8) (l[i / 8] ^^^ bit8 (i % 8))).getD (j / 8) 0 ^^^ bit8 (j % 8))) ≠ 0#32) := fun hne => by
    have := syn_two l i j (by omega) (by omega) hm8 (by omega) hne HSYN.out
    rwa [getD_at l _ hm8] at this
  generalize (W3.setCell ⟨w2.heap.size, i / 8, none⟩ (.int .u8 ((l[i / 8] ^^^ bit8 (i % 8)).toNat))).drew = W4 at *
  generalize l.set (i / 8) (l[i / 8] ^^^ bit8 (i % 8)) = l1 at *
  have HBT1 : Hid (BT W4 w2.heap.size l1) := hbt1
  have HB4 : Hid (Below w2.heap.size w2 W4) := hb4
  have HSY1 : Hid (synL l1 ≠ 0#32) := hsy1
  have HL1 : Hid (l1.length = l.length) := hl1
  clear hbt1 hb4 hsy1 hl1 c0 f0 e1 e2 e3
  by_cases hij : i = j
  · subst hij
    have hcv2 : (convert 63 9 (.slice (some ⟨w2.heap.size, 0, none⟩) l.length gc)).run Tryz.prog W4 = .ok (.string (ba l1)) W4 := by
      have := conv_bytes (HBT1.out.see (cap := gc)) (by intro h; have := HL1.out; rw [h] at this; simp at this; omega)
      rwa [HL1.out] at this
    have HAC : Hid (I.acc (ba l1) = false) := I.accSyn l1 (by rw [HL1.out]; omega) HSY1.out
    have HBX : Hid (Below w2.heap.size w2 W4) := HB4
    have hl1l : l1.length ≤ 9223372036854775807 := by rw [HL1.out]; omega
    go_wp2_with fail
    refine Calls.mono (I.boot (s := ba l1) (w := W4) ((HTB.out.below HBW.out).below HBX.out) (by rw [ba_len]; omega)) ?_
    rintro e w5 ⟨hb5, hor5⟩
    obtain rfl : e = .returned (.tuple #[.pointer none, .int .i64 18]) := by
      rcases hor5 with ⟨_, h⟩ | ⟨h, _⟩
      · exact h
      · rw [HAC.out] at h; cases h
    have HB5 : Hid (Below w2.heap.size w2 w5) := HBX.out.trans (hb5.mono HBX.out.size)
    clear hb5 hor5 hcv2
    obtain ⟨c, hc, hc1⟩ : ∃ c : Nat, pickF x3 l.length = c ∧ c < l.length := by
      have := pickF_lt (c := x3) (n := l.length) (by omega)
      exact ⟨(pickF x3 l.length).toNat, by omega, by omega⟩
    have HPK : Hid (pickF x3 l.length = c) := hc
    clear hc
    go_wp2_with fail
    refine Calls.mono (pick_any x3 l.length hx3 (by omega) w5) ?_
    rintro e V ⟨rfl, hV⟩
    have hV2 := hV.symm
    clear hV
    subst hV2
    rw [HPK.out]
    have hc2 : (c : Int) ≤ (l.length : Int) := by omega
    have hc3 : (0 : Int) ≤ (c : Int) := by omega
    have HCT : Hid (I.acc (s.extract 0 c) = false) := by
      show _ = _
      rw [← HS.out, ba_cut]
      exact HCUT.out c hc1
    have hse : (s.extract 0 c).size ≤ 9223372036854775807 := by rw [← HS.out, ba_cut, ba_len, List.length_take]; omega
    go_wp2_with fail
    refine Calls.mono (I.boot (s := s.extract 0 c) (w := w5) ((HTB.out.below HBW.out).below HB5.out) hse) ?_
    rintro e w6 ⟨hb6, hor6⟩
    obtain rfl : e = .returned (.tuple #[.pointer none, .int .i64 18]) := by
      rcases hor6 with ⟨_, h⟩ | ⟨h, _⟩
      · exact h
      · rw [HCT.out] at h; cases h
    have HB6 : Hid (Below w2.heap.size w2 w6) := HB5.out.trans (hb6.mono HB5.out.size)
    clear hb6 hor6
    go_wp2_with fail
    refine Calls.mono (I.boot (s := s) (w := w6) ((HTB.out.below HBW.out).below HB6.out) (by rw [HSZ.out]; omega)) ?_
    rintro e w7 ⟨hb7, hor7⟩
    obtain ⟨a, rfl⟩ : ∃ a, e = .returned (.tuple #[.pointer (some a), .int .i64 0]) := by
      rcases hor7 with ⟨h, _⟩ | ⟨_, a, o, h, _⟩
      · rw [HIMG.out] at h; cases h
      · exact ⟨a, h⟩
    have HB7 : Hid (Below w2.heap.size w2 w7) := HB6.out.trans (hb7.mono HB6.out.size)
    clear hb7 hor7
    go_wp2_with fail
    go_ret
    exact ⟨rfl, HBW.out.trans (HB7.out.mono HBW.out.size)⟩
  · have hij' : ¬ (i : Int) = (j : Int) := by omega
    have hm9 : j / 8 < l1.length := by rw [HL1.out]; omega
    have c0 := HBT1.out.cell hm9
    have f0 := HBT1.out.free hm9
    have e1 : ((j : Int) / 8).toNat = j / 8 := by omega
    have e2 : (j : Int) / 8 < (l.length : Int) := by omega
    have e3 : (0 : Int) ≤ (j : Int) / 8 := by omega
    go_upto_region 10 with fail
    go_region
    rw [xbit]
    have hbt2 := (HBT1.out.set hm9 (l1[j / 8] ^^^ bit8 (j % 8))).drew
    have hb5 : Below w2.heap.size w2 (W4.setCell ⟨w2.heap.size, j / 8, none⟩ (.int .u8 ((l1[j / 8] ^^^ bit8 (j % 8)).toNat))).drew := below_drewN (HB4.out.setCell (p := ⟨w2.heap.size, j / 8, none⟩) (Nat.le_refl _) _) 1
    have hl2 : (l1.set (j / 8) (l1[j / 8] ^^^ bit8 (j % 8))).length = l.length := List.length_set.trans HL1.out
    have hsy2 := HSY2.out hij
    rw [getD_at l1 _ hm9] at hsy2
    generalize (W4.setCell ⟨w2.heap.size, j / 8, none⟩ (.int .u8 ((l1[j / 8] ^^^ bit8 (j % 8)).toNat))).drew = W5 at *
    generalize l1.set (j / 8) (l1[j / 8] ^^^ bit8 (j % 8)) = l2 at *
    have HBX : Hid (Below w2.heap.size w2 W5) := hb5
    have HL2 : Hid (l2.length = l.length) := hl2
    have hcv2 : (convert 63 9 (.slice (some ⟨w2.heap.size, 0, none⟩) l.length gc)).run Tryz.prog W5 = .ok (.string (ba l2)) W5 := by
      have := conv_bytes (hbt2.see (cap := gc)) (by intro h; rw [h] at hl2; simp at hl2; omega)
      rwa [hl2] at this
    have HAC : Hid (I.acc (ba l2) = false) := I.accSyn l2 (by rw [hl2]; omega) hsy2
    have hl1l : l2.length ≤ 9223372036854775807 := by rw [hl2]; omega
    clear hbt2 hb5 hl2 hsy2 c0 f0 e1 e2 e3
    go_wp2_with fail
    refine Calls.mono (I.boot (s := ba l2) (w := W5) ((HTB.out.below HBW.out).below HBX.out) (by rw [ba_len]; omega)) ?_
    rintro e w5 ⟨hb5, hor5⟩
    obtain rfl : e = .returned (.tuple #[.pointer none, .int .i64 18]) := by
      rcases hor5 with ⟨_, h⟩ | ⟨h, _⟩
      · exact h
      · rw [HAC.out] at h; cases h
    have HB5 : Hid (Below w2.heap.size w2 w5) := HBX.out.trans (hb5.mono HBX.out.size)
    clear hb5 hor5 hcv2
    obtain ⟨c, hc, hc1⟩ : ∃ c : Nat, pickF x3 l.length = c ∧ c < l.length := by
      have := pickF_lt (c := x3) (n := l.length) (by omega)
      exact ⟨(pickF x3 l.length).toNat, by omega, by omega⟩
    have HPK : Hid (pickF x3 l.length = c) := hc
    clear hc
    go_wp2_with fail
    refine Calls.mono (pick_any x3 l.length hx3 (by omega) w5) ?_
    rintro e V ⟨rfl, hV⟩
    have hV2 := hV.symm
    clear hV
    subst hV2
    rw [HPK.out]
    have hc2 : (c : Int) ≤ (l.length : Int) := by omega
    have hc3 : (0 : Int) ≤ (c : Int) := by omega
    have HCT : Hid (I.acc (s.extract 0 c) = false) := by
      show _ = _
      rw [← HS.out, ba_cut]
      exact HCUT.out c hc1
    have hse : (s.extract 0 c).size ≤ 9223372036854775807 := by rw [← HS.out, ba_cut, ba_len, List.length_take]; omega
    go_wp2_with fail
    refine Calls.mono (I.boot (s := s.extract 0 c) (w := w5) ((HTB.out.below HBW.out).below HB5.out) hse) ?_
    rintro e w6 ⟨hb6, hor6⟩
    obtain rfl : e = .returned (.tuple #[.pointer none, .int .i64 18]) := by
      rcases hor6 with ⟨_, h⟩ | ⟨h, _⟩
      · exact h
      · rw [HCT.out] at h; cases h
    have HB6 : Hid (Below w2.heap.size w2 w6) := HB5.out.trans (hb6.mono HB5.out.size)
    clear hb6 hor6
    go_wp2_with fail
    refine Calls.mono (I.boot (s := s) (w := w6) ((HTB.out.below HBW.out).below HB6.out) (by rw [HSZ.out]; omega)) ?_
    rintro e w7 ⟨hb7, hor7⟩
    obtain ⟨a, rfl⟩ : ∃ a, e = .returned (.tuple #[.pointer (some a), .int .i64 0]) := by
      rcases hor7 with ⟨h, _⟩ | ⟨_, a, o, h, _⟩
      · rw [HIMG.out] at h; cases h
      · exact ⟨a, h⟩
    have HB7 : Hid (Below w2.heap.size w2 w7) := HB6.out.trans (hb7.mono HB6.out.size)
    clear hb7 hor7
    go_wp2_with fail
    go_ret
    exact ⟨rfl, HBW.out.trans (HB7.out.mono HBW.out.size)⟩
end Go.Proofs.YteioennfpkoagaaGreatDoor.C
