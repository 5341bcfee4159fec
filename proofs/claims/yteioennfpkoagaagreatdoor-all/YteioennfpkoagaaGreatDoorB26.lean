import Derived.Test.YteioennfpkoagaaGreatDoorB18
namespace Go.Proofs.YteioennfpkoagaaGreatDoor.C
open Go.RowKit K
attribute [local go_sem ↓] Go.wp_at_zero Go.wp_at_succ

section
variable {w w' : World} {L : Lay} {D : ManD} {S : KS}
theorem KVi.below (h : KVi w L (planF D) D.parts D.chans S) (hb : Below w.heap.size w w') : KVi w' L (planF D) D.parts D.chans S := h.keep fun b hb' => hb.block b (h.s.low b hb')
theorem regsAt_x {i : Nat} {x : PartD} (hx : D.parts[i]? = some x) : regsAt D i = x.regs := by unfold regsAt; rw [hx]; rfl
set_option maxRecDepth 100000 in
set_option maxHeartbeats 2000000 in
theorem kread_any (hz : checkF D = 0) (h : KVi w L (planF D) D.parts D.chans S) (hs : SmallK bigK S) (p a : Int) (hp : inR p) (ha : inR a) :
    Calls Tryz.prog 29 #[ptrV L.kb, .int .i64 p, .int .i64 a] w fun e w' => e = .returned (.tuple #[.int .i64 (readF D S p a).1, .int .i64 (readF D S p a).2.1]) ∧ KVi w' L (planF D) D.parts D.chans (readF D S p a).2.2 ∧ Fx L w w' := by
  have HACT : Hid _ := acting_any hz h p hp
  have HH : Hid (KVi w L (planF D) D.parts D.chans S) := h
  have HZ : Hid (checkF D = 0) := hz
  have HS : Hid (SmallK bigK S) := hs
  clear h hs hp hz
  unfold ptrV at HACT ⊢
  go_enter Tryz.func29, Tryz.ntmps29
  go_wp2_with fail
  refine Calls.mono HACT.out ?_
  rintro e w1 ⟨hact, hb1⟩
  have HB1 : Hid (Below w.heap.size w w1) := hb1
  have HK1 : Hid (KVi w1 L (planF D) D.parts D.chans S) := HH.out.below hb1
  clear hb1
  rcases hact with ⟨ht, rfl⟩ | ⟨ht, i, rfl, hi, rfl⟩
  · have HR : Hid (readF D S p a = (0, turnF D S p, S)) := by show _ = _; unfold readF; rw [if_pos ht]
    generalize turnF D S p = tn at *
    go_wp2_with fail
    go_ret2
    rw [HR.out]
    exact ⟨rfl, HK1.out, Fx.all HB1.out⟩
  · obtain ⟨x, hx⟩ : ∃ x, D.parts[i]? = some x := ⟨_, List.getElem?_eq_getElem hi⟩
    obtain ⟨_, hok, hrl⟩ := part_regs HZ.out hx
    have HREG : Hid _ := regionOf_any HK1.out.s hx hok hrl a ha
    have HT : Hid (turnF D S i = 0) := ht
    have HRG : Hid (regsAt D i = x.regs) := regsAt_x hx
    have HX : Hid (D.parts[i]? = some x) := hx
    have HOK : Hid (RegsOK x.regs) := hok
    clear ht hx hok
    unfold ptrV at HREG ⊢
    go_wp2_with fail
    refine Calls.mono HREG.out ?_
    rintro e w2 ⟨hreg, hb2⟩
    have HB2 : Hid (Below w.heap.size w w2) := HB1.out.trans (hb2.mono HB1.out.size)
    have HK2 : Hid (KVi w2 L (planF D) D.parts D.chans S) := HK1.out.below hb2
    clear hb2 HK1 HB1 HREG
    rcases hreg with ⟨h0, rfl⟩ | ⟨j, r, hr, hh, hri, rfl⟩
    · have HR : Hid (readF D S i a = (0, 22, failF D S i)) := by
        show _ = _
        unfold readF
        rw [if_neg (by simp [HT.out]), Int.toNat_natCast, HRG.out, if_pos h0]
      have HFL : Hid _ := fail_any HZ.out HK2.out HS.out hi
      unfold ptrV at HFL
      go_wp2_with fail
      refine Calls.mono HFL.out ?_
      rintro e w3 ⟨rfl, hk3, hf3⟩
      go_wp2_with fail
      go_ret2
      rw [HR.out]
      exact ⟨rfl, hk3, (Fx.all HB2.out).trans hf3⟩
    · have hg := regG_of (HOK.out.1 r (List.mem_of_getElem? hr))
      obtain ⟨k, rfl⟩ : ∃ k : Nat, a = 64 * r.page + k := ⟨(a - 64 * r.page).toNat, by unfold hitA at hh; omega⟩
      have hk : (k : Int) < 64 * r.pages := by unfold hitA at hh; omega
      have HR : Hid (readF D S i (64 * r.page + k) = (S.mem i (64 * r.page + k), 0, S)) := by
        show _ = _
        unfold readF
        rw [if_neg (by simp [HT.out]), Int.toNat_natCast, HRG.out, if_neg (by have := hg.rights; omega)]
      obtain ⟨r0, r1, r2⟩ := HK2.out.s.cReg HX.out hr
      obtain ⟨arr, hm1, hm2⟩ := HK2.out.s.mem i x HX.out j r hr
      obtain ⟨hm3, hm4⟩ := hm2 k hk
      have HGT : Hid _ := rget_any (w := w2) (L.rb i j) (L.mb i j) (L.mc i j) k r (S.mem i (64 * r.page + k)) hg r0 r1 hk (by rw [cell_of_blk hm1]; exact hm3) hm4
      clear r0 r1 r2 hm1 hm2 hm3 hm4 hg hh hri hr hk
      unfold ptrV at HGT ⊢
      go_wp2_with fail
      refine Calls.mono HGT.out ?_
      rintro e w3 ⟨rfl, hb3⟩
      go_wp2_with fail
      go_ret2
      rw [HR.out]
      exact ⟨rfl, HK2.out.below hb3, Fx.all (HB2.out.trans (hb3.mono HB2.out.size))⟩
theorem KVi.written (_hz : checkF D = 0) (h : KVi w L (planF D) D.parts D.chans S) {i j k : Nat} {x : PartD} {r : RegD} (hx : D.parts[i]? = some x) (hr : x.regs[j]? = some r) (hok : RegsOK x.regs) (hk : (k : Int) < 64 * r.pages) (b : Int) (q : Nat) :
    KVi ((w.setCell ⟨L.mb i j, k, none⟩ (.int .u8 (b % 256))).drewN q) L (planF D) D.parts D.chans (setMem S i (64 * r.page + k) (b % 256)) ∧ Fx L w ((w.setCell ⟨L.mb i j, k, none⟩ (.int .u8 (b % 256))).drewN q) := by
  have hro := (h.s.reg i x hx j r hr).2.2.1
  obtain ⟨arr, hm1, hm2⟩ := h.s.mem i x hx j r hr
  refine ⟨?_, ((Fx.refl _ _).set hro (by simp) _ _).drew q⟩
  have hb : ((w.setCell ⟨L.mb i j, k, none⟩ (.int .u8 (b % 256))).drewN q).heap[L.mb i j]? = some (.cells (arr.setIfInBounds k (.int .u8 (b % 256))) 5) := blk_set k _ hm1
  obtain ⟨hj, hre⟩ := List.getElem?_eq_some_iff.1 hr
  have hgr := regG_of (hok.1 r (List.mem_of_getElem? hr))
  refine h.setBytes hx hr (setMem S i (64 * r.page + k) (b % 256)).mem _ (fun c hc hne => blk_far k _ hne) hb (fun l hl => ?_) (fun q2 y hy l t ht hne m hm => ?_)
  · show (arr.setIfInBounds k _)[l]? = some (.int .u8 (if i = i ∧ 64 * r.page + (l : Int) = 64 * r.page + k then b % 256 else S.mem i _)) ∧ 0 ≤ (if i = i ∧ 64 * r.page + (l : Int) = 64 * r.page + k then b % 256 else S.mem i _) ∧ (if i = i ∧ 64 * r.page + (l : Int) = 64 * r.page + k then b % 256 else S.mem i _) ≤ 255
    obtain ⟨h3, h4⟩ := hm2 l hl
    by_cases e : l = k
    · subst e
      rw [if_pos ⟨rfl, rfl⟩]
      have hlt : l < arr.size := by
        rcases Nat.lt_or_ge l arr.size with h' | h'
        · exact h'
        · rw [Array.getElem?_eq_none h'] at h3; cases h3
      refine ⟨by simp [hlt], by omega, by omega⟩
    · rw [if_neg (by omega)]
      refine ⟨?_, h4⟩
      rw [Array.getElem?_setIfInBounds_ne (by omega)]
      exact h3
  · show (if q2 = i ∧ 64 * t.page + (m : Int) = 64 * r.page + k then b % 256 else S.mem q2 _) = S.mem q2 _
    rw [if_neg]
    rintro ⟨rfl, e⟩
    rw [hx] at hy
    cases hy
    obtain ⟨hl, rfl⟩ := List.getElem?_eq_some_iff.1 ht
    have hlj : l ≠ j := by rcases hne with e | e; exact absurd rfl e; exact e
    have hgt := regG_of (hok.1 _ (List.getElem_mem hl))
    have h1 : hitA x.regs[l] (64 * x.regs[l].page + m) := by unfold hitA; omega
    have h2 := regs_apart hok hl hj hlj h1
    rw [hre] at h2
    exact h2 (by unfold hitA; rw [e]; omega)
set_option maxRecDepth 100000 in
set_option maxHeartbeats 2000000 in
theorem kwrite_any (hz : checkF D = 0) (h : KVi w L (planF D) D.parts D.chans S) (hs : SmallK bigK S) (p a b : Int) (hp : inR p) (ha : inR a) (hb : inR b) :
    Calls Tryz.prog 30 #[ptrV L.kb, .int .i64 p, .int .i64 a, .int .i64 b] w fun e w' => e = .returned (.int .i64 (writeF D S p a b).1) ∧ KVi w' L (planF D) D.parts D.chans (writeF D S p a b).2 ∧ Fx L w w' := by
  have HACT : Hid _ := acting_any hz h p hp
  have HH : Hid (KVi w L (planF D) D.parts D.chans S) := h
  have HZ : Hid (checkF D = 0) := hz
  have HS : Hid (SmallK bigK S) := hs
  clear h hs hp hz
  unfold ptrV at HACT ⊢
  go_enter Tryz.func30, Tryz.ntmps30
  go_wp2_with fail
  refine Calls.mono HACT.out ?_
  rintro e w1 ⟨hact, hb1⟩
  have HB1 : Hid (Below w.heap.size w w1) := hb1
  have HK1 : Hid (KVi w1 L (planF D) D.parts D.chans S) := HH.out.below hb1
  clear hb1
  rcases hact with ⟨ht, rfl⟩ | ⟨ht, i, rfl, hi, rfl⟩
  · have HR : Hid (writeF D S p a b = (turnF D S p, S)) := by show _ = _; unfold writeF; rw [if_pos ht]
    generalize turnF D S p = tn at *
    go_wp2_with fail
    go_ret
    rw [HR.out]
    exact ⟨rfl, HK1.out, Fx.all HB1.out⟩
  · obtain ⟨x, hx⟩ : ∃ x, D.parts[i]? = some x := ⟨_, List.getElem?_eq_getElem hi⟩
    obtain ⟨_, hok, hrl⟩ := part_regs HZ.out hx
    have HREG : Hid _ := regionOf_any HK1.out.s hx hok hrl a ha
    have HT : Hid (turnF D S i = 0) := ht
    have HRG : Hid (regsAt D i = x.regs) := regsAt_x hx
    have HX : Hid (D.parts[i]? = some x) := hx
    have HOK : Hid (RegsOK x.regs) := hok
    clear ht hx hok
    unfold ptrV at HREG ⊢
    go_wp2_with fail
    refine Calls.mono HREG.out ?_
    rintro e w2 ⟨hreg, hb2⟩
    have HB2 : Hid (Below w.heap.size w w2) := HB1.out.trans (hb2.mono HB1.out.size)
    have HK2 : Hid (KVi w2 L (planF D) D.parts D.chans S) := HK1.out.below hb2
    have HFL : Hid _ := fail_any HZ.out HK2.out HS.out hi
    unfold ptrV at HFL
    clear hb2 HK1 HB1 HREG
    rcases hreg with ⟨h0, rfl⟩ | ⟨j, r, hr, hh, hri, rfl⟩
    · have HR : Hid (writeF D S i a b = (22, failF D S i)) := by
        show _ = _
        unfold writeF
        rw [if_neg (by simp [HT.out]), Int.toNat_natCast, HRG.out, if_pos (by rw [h0]; decide)]
      go_wp2_with fail
      refine Calls.mono HFL.out ?_
      rintro e w3 ⟨rfl, hk3, hf3⟩
      go_wp2_with fail
      go_ret
      rw [HR.out]
      exact ⟨rfl, hk3, (Fx.all HB2.out).trans hf3⟩
    · have hg := regG_of (HOK.out.1 r (List.mem_of_getElem? hr))
      obtain ⟨r0, r1, r2⟩ := HK2.out.s.cReg HX.out hr
      by_cases hri2 : r.rights = 2
      · obtain ⟨k, rfl⟩ : ∃ k : Nat, a = 64 * r.page + k := ⟨(a - 64 * r.page).toNat, by unfold hitA at hh; omega⟩
        have hk : (k : Int) < 64 * r.pages := by unfold hitA at hh; omega
        have HR : Hid (writeF D S i (64 * r.page + k) b = (0, setMem S i (64 * r.page + k) (b % 256))) := by
          show _ = _
          unfold writeF
          rw [if_neg (by simp [HT.out]), Int.toNat_natCast, HRG.out, if_neg (by rw [hri, hri2]; simp)]
        obtain ⟨arr, hm1, hm2⟩ := HK2.out.s.mem i x HX.out j r hr
        obtain ⟨hm3, hm4⟩ := hm2 k hk
        have HST : Hid _ := rset_any (w := w2) (L.rb i j) (L.mb i j) (L.mc i j) k r (S.mem i (64 * r.page + k)) b hb hg r0 r1 hk (by rw [cell_of_blk hm1]; exact hm3) (frozen_of_blk hm1)
        have HWR : Hid (∀ q, KVi ((w2.setCell ⟨L.mb i j, k, none⟩ (.int .u8 (b % 256))).drewN q) L (planF D) D.parts D.chans (setMem S i (64 * r.page + k) (b % 256)) ∧ Fx L w2 ((w2.setCell ⟨L.mb i j, k, none⟩ (.int .u8 (b % 256))).drewN q)) := fun q => HK2.out.written HZ.out HX.out hr HOK.out hk b q
        have e2 : decide (r.rights = 2) = true := by simp [hri2]
        rw [e2] at r2
        clear r0 r1 hm1 hm2 hm3 hm4 hg hh hri hr hk e2
        unfold ptrV at HST ⊢
        go_wp2_with fail
        refine Calls.mono HST.out ?_
        rintro e w3 ⟨rfl, q, rfl⟩
        go_wp2_with fail
        go_ret
        rw [HR.out]
        exact ⟨rfl, (HWR.out q).1, (Fx.all HB2.out).trans (HWR.out q).2⟩
      · have HR : Hid (writeF D S i a b = (22, failF D S i)) := by
          show _ = _
          unfold writeF
          rw [if_neg (by simp [HT.out]), Int.toNat_natCast, HRG.out, if_pos (by rw [hri]; exact hri2)]
        have e2 : decide (r.rights = 2) = false := by simp [hri2]
        rw [e2] at r2
        clear r0 r1 hg hh hri hr e2
        unfold ptrV at *
        go_wp2_with fail
        refine Calls.mono HFL.out ?_
        rintro e w3 ⟨rfl, hk3, hf3⟩
        go_wp2_with fail
        go_ret
        rw [HR.out]
        exact ⟨rfl, hk3, (Fx.all HB2.out).trans hf3⟩
end
end Go.Proofs.YteioennfpkoagaaGreatDoor.C
namespace Go.Proofs.YteioennfpkoagaaGreatDoor.C
open Go.RowKit K
attribute [local go_sem ↓] Go.wp_at_zero Go.wp_at_succ

def PortA (L : Lay) (n : Nat) (c : Int) (e : Ending) : Prop := ((c < 0 ∨ (n : Int) ≤ c) ∧ e = .returned (.pointer none)) ∨ ∃ d : Nat, c = d ∧ d < n ∧ e = .returned (ptrV (L.cb d))
def OldR (b : Nat) (dp age : Int) (w w' : World) : Prop := ∃ q, w' = if age ≤ dp then (w.drewN q).setCell ⟨b, 6, none⟩ (.int .i64 (age + 1)) else w.drewN q
section
variable {w w' : World} {L : Lay} {D : ManD} {S : KS} {pl : List Int} {ps : List PartD} {cs : List ChanD} {tm : Nat}
set_option maxRecDepth 100000 in
set_option maxHeartbeats 1000000 in
theorem channelAt_any (h : KVs w L pl ps cs S tm) (c : Int) (hc : inR c) (_hn : cs.length ≤ 255) :
    Calls Tryz.prog 72 #[ptrV L.kb, .int .i64 c] w fun e w' => PortA L cs.length c e ∧ w' = w := by
  obtain ⟨va, cap, c3, hrow⟩ := h.cChans
  have HROW : Hid _ := hrow
  obtain ⟨hc1, hc2⟩ := hc
  clear h hrow
  unfold ptrV at *
  rcases (show c < 0 ∨ (0 ≤ c ∧ (cs.length : Int) ≤ c) ∨ (0 ≤ c ∧ c < (cs.length : Int)) by omega) with h1 | ⟨h1, h2⟩ | ⟨h1, h2⟩
  · go_enter Tryz.func72, Tryz.ntmps72
    go_wp2_with fail
    go_ret
    exact ⟨.inl ⟨.inl h1, rfl⟩, rfl⟩
  · have e1 : ¬ c < 0 := by omega
    go_enter Tryz.func72, Tryz.ntmps72
    go_wp2_with fail
    go_ret
    exact ⟨.inl ⟨.inr h2, rfl⟩, rfl⟩
  · obtain ⟨d, rfl⟩ : ∃ d : Nat, c = d := ⟨c.toNat, by omega⟩
    have e1 : ¬ (d : Int) < 0 := by omega
    have e2 : ¬ (cs.length : Int) ≤ (d : Int) := by omega
    have hd : d < cs.length := by omega
    obtain ⟨g, rfl, hcell⟩ := HROW.out d hd
    go_enter Tryz.func72, Tryz.ntmps72
    go_wp2_with fail
    go_ret
    exact ⟨.inr ⟨d, rfl, hd, rfl⟩, rfl⟩
set_option maxRecDepth 100000 in
set_option maxHeartbeats 1000000 in
theorem isEmpty_any (b n cap : Nat) (va : Option Addr) (c5 : w.cell? ⟨b, 5, none⟩ = some (.slice va n cap)) (hn : n ≤ 9223372036854775807) :
    Calls Tryz.prog 75 #[ptrV b] w fun e w' => e = .returned (.bool (decide (n = 0))) ∧ w' = w := by
  unfold ptrV
  by_cases h : n = 0
  · subst h
    go_enter Tryz.func75, Tryz.ntmps75
    go_wp2_with fail
    go_ret
    exact ⟨rfl, rfl⟩
  · have h2 : ((n : Int) == 0) = false := by simp; omega
    have h3 : ¬ (n : Int) = 0 := by omega
    go_enter Tryz.func75, Tryz.ntmps75
    go_wp2_with fail
    go_ret
    exact ⟨by simp [h], rfl⟩
set_option maxRecDepth 100000 in
set_option maxHeartbeats 1000000 in
theorem isFull_any (b n cap : Nat) (va : Option Addr) (q : Bool) (dp : Int) (c2 : w.cell? ⟨b, 2, none⟩ = some (.bool q)) (c4 : w.cell? ⟨b, 4, none⟩ = some (.int .i64 dp)) (c5 : w.cell? ⟨b, 5, none⟩ = some (.slice va n cap)) :
    Calls Tryz.prog 73 #[ptrV b] w fun e w' => e = .returned (.bool (q && decide ((n : Int) = dp))) ∧ Below w.heap.size w w' := by
  unfold ptrV
  cases q
  · go_enter Tryz.func73, Tryz.ntmps73
    go_wp2_with fail
    go_quiet (fail)
    go_wp2_with fail
    go_ret
    exact ⟨rfl, below_drewN (Below.refl _ _) _⟩
  · by_cases h : (n : Int) = dp
    · subst h
      go_enter Tryz.func73, Tryz.ntmps73
      go_wp2_with fail
      go_quiet (fail)
      go_wp2_with fail
      go_ret
      exact ⟨by simp, below_drewN (Below.refl _ _) _⟩
    · have h2 : ((n : Int) == dp) = false := by simpa using h
      go_enter Tryz.func73, Tryz.ntmps73
      go_wp2_with fail
      go_quiet (fail)
      go_wp2_with fail
      go_ret
      exact ⟨by simp [h], below_drewN (Below.refl _ _) _⟩
set_option maxRecDepth 100000 in
set_option maxHeartbeats 1000000 in
theorem older_any (b : Nat) (dp age : Int) (hd : 0 ≤ age ∧ age ≤ 241) (c4 : w.cell? ⟨b, 4, none⟩ = some (.int .i64 dp)) (c6 : w.cell? ⟨b, 6, none⟩ = some (.int .i64 age)) (f6 : w.frozen? ⟨b, 6, none⟩ = false) :
    Calls Tryz.prog 77 #[ptrV b] w fun e w' => e = .returned (.tuple #[]) ∧ OldR b dp age w w' := by
  unfold ptrV
  by_cases h : age ≤ dp
  · have h1 : decide (age ≤ dp) = true := decide_eq_true h
    have HI : Hid (age ≤ dp) := h
    go_enter Tryz.func77, Tryz.ntmps77
    go_wp2_with fail
    go_quiet (fail)
    go_wp2_with fail
    go_end0
    exact ⟨rfl, _, (if_pos h).symm⟩
  · have h1 : decide (age ≤ dp) = false := decide_eq_false h
    have HI : Hid (¬ age ≤ dp) := h
    go_enter Tryz.func77, Tryz.ntmps77
    go_wp2_with fail
    go_quiet (fail)
    go_wp2_with fail
    go_end0
    exact ⟨rfl, _, (if_neg (by omega)).symm⟩
end
end Go.Proofs.YteioennfpkoagaaGreatDoor.C
namespace Go.Proofs.YteioennfpkoagaaGreatDoor.C
open Go.RowKit K
attribute [local go_sem ↓] Go.wp_at_zero Go.wp_at_succ

section
variable {w w' : World} {L : Lay} {D : ManD} {S : KS} {pl : List Int} {ps : List PartD} {cs : List ChanD} {tm : Nat}
theorem KVs.ticked (h : KVs w L pl ps cs S tm) {tm' : Nat} (hw : ∀ b, L.rl b ≠ none → b ≠ L.kb → w'.heap[b]? = w.heap[b]?) (hb : w'.heap[L.kb]? = some (.cells #[L.pv, .int .i64 ((tm' % pl.length : Nat) : Int), L.ptv, L.chv] 141)) : KVs w' L pl ps cs S tm' := by
  refine h.turn L.kb (.inr ⟨_, hb⟩) (fun e => by unfold Lay.fix at e; rw [h.kro] at e; cases e) hw hb (fun i x hx => ?_) (fun i x hx j r hr => ?_)
  · have hq := h.part i x hx
    exact (hw _ (rl_ne hq.1) (ne_role hq.1 h.kro (by simp))).trans hq.2
  · obtain ⟨arr, h1, h2⟩ := h.mem i x hx j r hr
    have h3 := (h.reg i x hx j r hr).2.2.1
    exact ⟨arr, (hw _ (rl_ne h3) (ne_role h3 h.kro (by simp))).trans h1, h2⟩
/- one channel grows older -/
theorem ChV.older {c : Nat} (h : ChV w L cs S c) {y : ChanD} (hy : cs[c]? = some y) (_hd : 1 ≤ y.depth) : ∃ mv age, w.heap[L.cb c]? = some (.cells (chanB y mv age) 153) ∧ L.rl (L.cb c) = some (.chan c) ∧ (0 ≤ age ∧ age ≤ y.depth + 1) ∧
    ∀ w', OldR (L.cb c) y.depth age w w' → ChV w' L cs (tickK S) c := by
  obtain ⟨mv, age, h1, h2, h3, h4, h5, h6⟩ := h y hy
  obtain ⟨a1, a2, a3⟩ := h4
  refine ⟨mv, age, h2, h1, ⟨a1, a2⟩, ?_⟩
  rintro w' ⟨q, rfl⟩ y2 hy2
  rw [hy] at hy2
  cases hy2
  have hage : AgeOK (tickK S) y c (if age ≤ y.depth then age + 1 else age) := by
    refine ⟨by split <;> omega, by split <;> omega, fun hk => ⟨(a3 hk).1, fun m hm => ?_⟩⟩
    obtain ⟨t1, t2⟩ := (a3 hk).2 m hm
    have e : (tickK S).time = S.time + 1 := rfl
    refine ⟨by rw [e]; omega, ?_⟩
    rw [e]
    split at t2
    · split
      · split <;> omega
      · split <;> omega
    · split
      · split <;> omega
      · split <;> omega
  by_cases hle : age ≤ y.depth
  · rw [if_pos hle] at hage ⊢
    refine ⟨mv, age + 1, h1, ?_, ?_, hage, h5, h6⟩
    · rw [blk_set (w := w.drewN q) 6 _ h2]; rfl
    · exact h3.keep fun b hb => blk_far (w := w.drewN q) 6 _ (ne_role hb h1 (by simp))
  · rw [if_neg hle] at hage ⊢
    exact ⟨mv, age, h1, h2, h3.keep fun b hb => rfl, hage, h5, h6⟩
theorem KVs.farChan (h : KVs w L pl ps cs S tm) {b c : Nat} {o : Obj} (hro : L.rl b = some (.chan c)) (hw : ∀ k, k ≠ b → w'.heap[k]? = w.heap[k]?) (hb : w'.heap[b]? = some o) : KVs w' L pl ps cs S tm := by
  refine h.turn b (.inr ⟨_, hb⟩) (fun e => by unfold Lay.fix at e; rw [hro] at e; cases e) (fun k _ hk => hw k hk) ((hw _ (ne_role h.kro hro (by simp))).trans h.kerB) (fun i x hx => ?_) (fun i x hx j r hr => ?_)
  · have hq := h.part i x hx
    exact (hw _ (ne_role hq.1 hro (by simp))).trans hq.2
  · obtain ⟨arr, h1, h2⟩ := h.mem i x hx j r hr
    have h3 := (h.reg i x hx j r hr).2.2.1
    exact ⟨arr, (hw _ (ne_role h3 hro (by simp))).trans h1, h2⟩
theorem OldR.there {b : Nat} {dp age : Int} (h : OldR b dp age w w') {o : Obj} (hb : w.heap[b]? = some o) : ∃ o', w'.heap[b]? = some o' := by
  obtain ⟨q, rfl⟩ := h
  split
  · cases o with
    | cells cs t fr => exact ⟨_, blk_set (w := w.drewN q) 6 _ hb⟩
    | _ => exact ⟨_, by show ((w.drewN q).setCell ⟨b, 6, none⟩ _).heap[b]? = _; simp [World.setCell, Array.getElem?_modify]; exact ⟨_, hb, rfl⟩⟩
  · exact ⟨o, hb⟩
theorem OldR.far {b : Nat} {dp age : Int} (h : OldR b dp age w w') {k : Nat} (hk : k ≠ b) : w'.heap[k]? = w.heap[k]? := by
  obtain ⟨q, rfl⟩ := h
  split
  · exact blk_far (w := w.drewN q) 6 _ hk
  · rfl
theorem OldR.fx {b : Nat} {dp age : Int} {r : Role} (h : OldR b dp age w w') (hb : L.rl b = some r) (hr : r ≠ .fix) : Fx L w w' := by
  obtain ⟨q, rfl⟩ := h
  split
  · exact ((Fx.refl L w).drew q).set hb hr _ _
  · exact (Fx.refl L w).drew q
set_option maxRecDepth 100000 in
set_option maxHeartbeats 4000000 in
theorem ktick_any (hz : checkF D = 0) (h : KVi w L (planF D) D.parts D.chans S) (_hs : SmallK bigK S) :
    Calls Tryz.prog 34 #[ptrV L.kb] w fun e w' => e = .returned (.tuple #[]) ∧ KVi w' L (planF D) D.parts D.chans (tickK S) ∧ Fx L w w' := by
  have hco := check_ok hz
  have hcl : D.chans.length ≤ 8 := hco.2.2.2.1
  have HCD : Hid (∀ c (y : ChanD), D.chans[c]? = some y → 1 ≤ y.depth ∧ y.depth ≤ 240) := fun c y hy => by
    obtain ⟨hc, rfl⟩ := List.getElem?_eq_some_iff.1 hy
    have := chanErr_ok (hco.2.2.2.2.2 c hc) (by omega)
    omega
  obtain ⟨hl, hl1, hl2, _, hlt⟩ := who_plan (S := S) hz
  obtain ⟨va, cap, _, c0, _⟩ := h.s.cPlan
  have c1 := h.s.cTick
  have f1 : w.frozen? ⟨L.kb, 1, none⟩ = false := frozen_of_blk h.s.kerB
  have HMOD : Hid ((((S.time % (planF D).length : Nat) : Int) + 1) % ((planF D).length : Int) = (((S.time + 1) % (planF D).length : Nat) : Int)) := by
    show _ = _
    have : (S.time + 1) % (planF D).length = (S.time % (planF D).length + 1) % (planF D).length := by rw [Nat.mod_add_mod]
    rw [this]
    norm_cast
  have hb1 : (w.setCell ⟨L.kb, 1, none⟩ (.int .i64 (((S.time + 1) % (planF D).length : Nat) : Int))).heap[L.kb]? = some (.cells #[L.pv, .int .i64 (((S.time + 1) % (planF D).length : Nat) : Int), L.ptv, L.chv] 141) := by rw [blk_set 1 _ h.s.kerB]; rfl
  have HK1 : Hid (KVs (w.setCell ⟨L.kb, 1, none⟩ (.int .i64 (((S.time + 1) % (planF D).length : Nat) : Int))).drew L (planF D) D.parts D.chans S (S.time + 1)) := h.s.ticked (fun b _ hne => blk_far 1 _ hne) hb1
  have HC1 : Hid (∀ c, ChV (w.setCell ⟨L.kb, 1, none⟩ (.int .i64 (((S.time + 1) % (planF D).length : Nat) : Int))).drew L D.chans S c) := fun c => (h.chan c).keep fun b hb => by
    refine blk_far 1 _ ?_
    rcases hb with e | e
    · exact ne_role e h.s.kro (by simp)
    · exact ne_role e h.s.kro (by simp)
  have HF1 : Hid (Fx L w (w.setCell ⟨L.kb, 1, none⟩ (.int .i64 (((S.time + 1) % (planF D).length : Nat) : Int))).drew) := ((Fx.refl L w).set h.s.kro (by simp) _ _).drew 1
  obtain ⟨vb, capb, ech, hrow⟩ := HK1.out.chans
  have c3 : (w.setCell ⟨L.kb, 1, none⟩ (.int .i64 (((S.time + 1) % (planF D).length : Nat) : Int))).drew.cell? ⟨L.kb, 3, none⟩ = some (.slice vb D.chans.length capb) := by rw [cell_of_blk HK1.out.kerB, ← ech]; rfl
  have ECH : Hid (L.chv = .slice vb D.chans.length capb) := ech
  clear ech
  clear h hco hb1 hrow _hs hl
  generalize (S.time + 1) % (planF D).length = tn at *
  generalize S.time % (planF D).length = tk at *
  generalize (planF D).length = plen at *
  have hm0 : ¬ (plen : Int) = 0 := by omega
  unfold ptrV at *
  go_enter Tryz.func34, Tryz.ntmps34
  have hw1 : IntKind.i64.wrap ((tk : Int) + 1) = (tk : Int) + 1 := wrap_small _ (by omega) (by omega)
  have hmod := HMOD.out
  have hmt : Int.tmod ((tk : Int) + 1) (plen : Int) = (tn : Int) := by rw [Int.tmod_eq_emod_of_nonneg (by omega)]; exact HMOD.out
  have htn : (tn : Int) < plen := by rw [← hmod]; exact Int.emod_lt_of_pos _ (by omega)
  have hw2 : IntKind.i64.wrap (tn : Int) = (tn : Int) := wrap_small _ (by omega) (by omega)
  go_upto_region 0 with fail
  go_region
  clear c0 c1 f1 hmod hmt
  generalize (w.setCell ⟨L.kb, 1, none⟩ (.int .i64 (tn : Int))).drew = W1 at *
  go_wp2_with fail
  go_loopw [23] (fun v wr => ∃ (k : Nat), v = .int .i64 k ∧ k ≤ D.chans.length ∧ Hid (KVs wr L (planF D) D.parts D.chans S (S.time + 1)) ∧ Hid (∀ c, ChV wr L D.chans (if c < k then tickK S else S) c) ∧ Hid (Fx L W1 wr)) (fun v _ => D.chans.length - (intOf v).toNat)
  case atStart => exact ⟨0, rfl, by omega, HK1, fun c => by rw [if_neg (by omega)]; exact HC1.out c, Fx.refl _ _⟩
  case round =>
    obtain ⟨k, rfl, hk, HK, HC, HF⟩ := hrel
    by_cases hlt : k < D.chans.length
    · have hlt' : (k : Int) < (D.chans.length : Int) := by omega
      have hk0 : (0 : Int) ≤ (k : Int) := by omega
      obtain ⟨vb2, capb2, e2, hrow2⟩ := HK.out.chans
      rw [ECH.out] at e2
      obtain ⟨rfl, rfl⟩ : vb = vb2 ∧ capb = capb2 := by cases e2; exact ⟨rfl, rfl⟩
      obtain ⟨g, rfl, _, hcell⟩ := hrow2 k hlt
      unfold ptrV at hcell
      have hy : D.chans[k]? = some D.chans[k] := List.getElem?_eq_getElem hlt
      obtain ⟨hd1, hd2⟩ := HCD.out k _ hy
      have hck := HC.out k
      rw [if_neg (Nat.lt_irrefl k)] at hck
      obtain ⟨mv, age, hbk, hro, hag, hold⟩ := hck.older hy hd1
      have c4 : wr.cell? ⟨L.cb k, 4, none⟩ = some (.int .i64 D.chans[k].depth) := by rw [cell_of_blk hbk]; rfl
      have c6 : wr.cell? ⟨L.cb k, 6, none⟩ = some (.int .i64 age) := by rw [cell_of_blk hbk]; rfl
      have HOL : Hid _ := older_any (w := wr) (L.cb k) D.chans[k].depth age (by omega) c4 c6 (frozen_of_blk hbk)
      have HHO : Hid (∀ w', OldR (L.cb k) D.chans[k].depth age wr w' → ChV w' L D.chans (tickK S) k) := hold
      have HBK : Hid (wr.heap[L.cb k]? = some (.cells (chanB D.chans[k] mv age) 153)) := hbk
      have HRO : Hid (L.rl (L.cb k) = some (.chan k)) := hro
      unfold ptrV at HOL
      clear hrow2 hck hold hbk hro c4 c6 hy
      go_wp2_with fail
      refine Calls.mono HOL.out ?_
      rintro e w2 ⟨rfl, hol⟩
      obtain ⟨o', ho'⟩ := hol.there HBK.out
      go_wp2_with fail
      refine ⟨⟨k + 1, by go_num, by omega, HK.out.farChan HRO.out (fun q hq => hol.far hq) ho', fun c => ?_, HF.out.trans (hol.fx HRO.out (by simp))⟩, by simp [intOf]; omega⟩
      by_cases e : c = k
      · subst e
        rw [if_pos (Nat.lt_succ_self c)]
        exact HHO.out w2 hol
      · have := HC.out c
        have e3 : (if c < k + 1 then tickK S else S) = if c < k then tickK S else S := by
          by_cases e2 : c < k
          · rw [if_pos e2, if_pos (by omega)]
          · rw [if_neg e2, if_neg (by omega)]
        rw [e3]
        refine this.keep fun b hb => hol.far ?_
        rcases hb with e2 | e2
        · exact ne_role e2 HRO.out (by simpa using e)
        · exact ne_role e2 HRO.out (by simp)
    · have hlt' : ¬ (k : Int) < (D.chans.length : Int) := by omega
      go_wp2_with fail
      go_end0
      have hs := HK.out
      refine ⟨rfl, ⟨⟨hs.low, hs.kro, hs.kerB, hs.plan, hs.parts, hs.chans, hs.part, hs.regs, hs.reg, hs.mem, hs.react⟩, fun c y hy => ?_⟩, HF1.out.trans HF.out⟩
      have hc : c < D.chans.length := (List.getElem?_eq_some_iff.1 hy).1
      have := HC.out c
      rw [if_pos (by omega)] at this
      exact this y hy
end
end Go.Proofs.YteioennfpkoagaaGreatDoor.C
