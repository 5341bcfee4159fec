import Derived.Test.YteioennfpkoagaaDoorPrtG
namespace Go.Proofs.YteioennfpkoagaaDoor.C
open Go.RowKit
attribute [local go_sem ↓] Go.wp_at_zero Go.wp_at_succ

theorem flat_len {α : Type} (g : α → List UInt8) (m : Nat) (l : List α) (h : ∀ a ∈ l, (g a).length ≤ m) : (l.flatMap g).length ≤ m * l.length := by
  induction l with
  | nil => simp
  | cons a r ih =>
    have h1 := h a (by simp)
    have h2 := ih (fun b hb => h b (by simp [hb]))
    simp only [List.flatMap_cons, List.length_append, List.length_cons]
    rw [Nat.mul_add]
    omega
theorem partT_len (x : PartD) (hn : x.name.size ≤ 16) (hr : x.regs.length ≤ 4) : (partT x).length ≤ 290 := by
  have h1 := decF_len x.period
  have h2 := decF_len x.duration
  have h3 := actW_len x.action.toNat
  rw [ba_size] at h3
  have h4 := flat_len regT 40 x.regs (fun r _ => regT_len r)
  have h5 : x.name.data.toList.length = x.name.size := by simp
  unfold partT
  simp only [List.length_append, List.length_cons, List.length_nil, h5]
  omega
theorem chanT_len (ps : List PartD) (c : ChanD) (hn : c.name.size ≤ 16) (hs : (nameAt ps c.source).length ≤ 16) (ht : (nameAt ps c.target).length ≤ 16) : (chanT ps c).length ≤ 100 := by
  have h1 := decF_len c.size
  have h2 := decF_len c.depth
  have h3 := kindW_len c.kind.toNat
  rw [ba_size] at h3
  have h5 : c.name.data.toList.length = c.name.size := by simp
  unfold chanT
  simp only [List.length_append, List.length_cons, List.length_nil, h5]
  omega
theorem headS_eq (f : Int) : [] ++ joinL [⟨#[109, 111, 100, 117, 108, 101]⟩, ba (decF f)] ++ [59] ++ [10] = headT f := by
  unfold headT
  rw [join_cons, join_one, ba_data]
  simp
theorem headT_len (f : Int) : (headT f).length ≤ 20 := by
  have h1 := decF_len f
  unfold headT
  simp only [List.length_append, List.length_cons, List.length_nil]
  omega
set_option maxHeartbeats 4000000 in
set_option maxRecDepth 100000 in
theorem manifest_any (W0 : World) (pb : Nat) (f : Int) (ps : List PartD) (cs : List ChanD) (pv cv : Value) (w : World) (h : PS W0 pb [] w) (ht : TB W0) (hp : PartsV W0 pv ps) (hc : ChansV W0 cv cs) (hok : checkF ⟨f, ps, cs⟩ = 0) :
    Calls Tryd.prog 10 #[.pointer (some ⟨pb, 0, none⟩), .agg #[.int .i64 f, pv, cv]] w fun e w' => e = .returned (.tuple #[]) ∧ PS W0 pb (printL ⟨f, ps, cs⟩) w' ∧ Oth pb w w' := by
  obtain ⟨hf1, hf2, hp8, hc8, hpo, hco⟩ := check_ok hok
  simp only [] at hf1 hf2 hp8 hc8
  have HPO : Hid (∀ k (hk : k < ps.length), ps[k].regs.length ≤ 4 ∧ partErr f (ps.take k) ps[k] = 0) := hpo
  have HCO : Hid (∀ k (hk : k < cs.length), chanErr f ps.length (cs.take k) cs[k] = 0) := hco
  have HNM : Hid (∀ i (h : i < ps.length), ps[i].name.size ≤ 16) := fun i hi => partErr_name (hpo i hi).2
  clear hpo hco hok
  have HPV : Hid (PartsV W0 pv ps) := hp
  have HCV : Hid (ChansV W0 cv cs) := hc
  obtain ⟨va, cap, rfl, hx⟩ := hp
  clear hx
  obtain ⟨ca, ck, rfl, hx⟩ := hc
  clear hx
  have hb0 := below_new w (.cells #[.int .i64 f, .slice va ps.length cap, .slice ca cs.length ck] 25)
  have h0 := heap_new w (.cells #[.int .i64 f, .slice va ps.length cap, .slice ca cs.length ck] 25)
  have hP0 := h.below hb0
  have hnb : w.heap.size ≠ pb := by have := h.lt; omega
  have o0 : Oth pb w (w.alloc (.cells #[.int .i64 f, .slice va ps.length cap, .slice ca cs.length ck] 25)) := Oth.below hb0
  have dl := dec_sz f
  clear h
  go_enter Tryd.func10, Tryd.ntmps10
  go_wp2_with fail
  generalize w.alloc (.cells #[.int .i64 f, .slice va ps.length cap, .slice ca cs.length ck] 25) = V0 at *
  refine (itoa_any f V0 ⟨by omega, by omega⟩ (ht.below hP0.1)).mono ?_
  rintro e w1 ⟨rfl, hb1⟩
  go_wp2_with fail
  have z1 : (⟨#[109, 111, 100, 117, 108, 101]⟩ : ByteArray).size = 6 := rfl
  refine (stmt2 W0 pb [] [] ⟨#[109, 111, 100, 117, 108, 101]⟩ (ba (decF f)) w1 (hP0.below hb1) (by simp only [List.length_nil]; omega)).mono ?_
  rintro e w2 ⟨rfl, hP2, ho2⟩
  have hP2' := hP2.eq (show [] ++ ([] ++ joinL [⟨#[109, 111, 100, 117, 108, 101]⟩, ba (decF f)] ++ [59] ++ [10]) = headT f by rw [headS_eq]; rfl)
  have o2 : Oth pb w w2 := (o0.trans (Oth.below hb1)).trans ho2
  have h2 : w2.heap[w.heap.size]? = some (.cells #[.int .i64 f, .slice va ps.length cap, .slice ca cs.length ck] 25 (0, 0)) := ho2.blk (keepL h0 hb1) hnb (by decide)
  clear hP2 ho2 o0 h0 hb1 hP0 hb0 z1 dl
  have y1 : w2.cell? ⟨w.heap.size, 1, none⟩ = some (.slice va ps.length cap) := by rw [cell_of_blk h2]; rfl
  go_wp2_with fail
  clear y1
  have hd := headT_len f
  go_loopw [17] (fun i wr => ∃ (k : Nat), i = .int .i64 k ∧ k ≤ ps.length ∧ PS W0 pb (headT f ++ (ps.take k).flatMap partT) wr ∧ (headT f ++ (ps.take k).flatMap partT).length ≤ 20 + 290 * k ∧ wr.heap[w.heap.size]? = some (.cells #[.int .i64 f, .slice va ps.length cap, .slice ca cs.length ck] 25 (0, 0)) ∧ Oth pb w wr) (fun i _ => ps.length - (intOf i).toNat)
  case atStart => exact ⟨0, rfl, by omega, by simpa using hP2', by simpa using hd, h2, o2⟩
  case round =>
    obtain ⟨k, rfl, hk, hPk, hlk, hm, ok⟩ := hrel
    clear hP2' o2 h2
    by_cases hlt : k < ps.length
    · have hlt' : (k : Int) < (ps.length : Int) := by omega
      have hk0 : (0 : Int) ≤ (k : Int) := by omega
      obtain ⟨va', cap', hvv, hvc⟩ := PartsV.below HPV.out hPk.1
      cases hvv
      obtain ⟨b, off, rv, rfl, d0, d1, d2, d3, d4, _⟩ := hvc k hlt
      clear hvc
      obtain ⟨va2, cap2, hvv, hvc⟩ := HPV.out
      cases hvv
      obtain ⟨b2, off2, rv2, hbb, c0, _, _, _, c4, hrv⟩ := hvc k hlt
      cases hbb
      clear hvc
      have hrvv : rv = rv2 := by
        have e := (hPk.1.cell (by exact World.block_lt_of_cell? W0 _ c4)).trans c4
        rw [d4] at e; exact Option.some.inj e
      subst hrvv
      clear c0 c4
      have HRV : Hid (RegsV W0 rv ps[k].regs) := hrv
      obtain ⟨ra, rcap, rfl, hrx⟩ := hrv
      clear hrx
      have hrg := (HPO.out k hlt).1
      have hpe := partErr_ok (HPO.out k hlt).2
      have hn16 := HNM.out k hlt
      have HFS : Hid _ := flat_step ps partT k hlt
      have HPL : Hid _ := partT_len ps[k] hn16 hrg
      generalize ps[k] = x at *
      obtain ⟨p1, p2, p3, p4, p5, p6, p7⟩ := hpe
      have hb1 := below_new wr (.cells #[.string x.name, .int .i64 x.period, .int .i64 x.duration, .int .i64 x.action, .slice ra x.regs.length rcap] 51)
      have h1 := heap_new wr (.cells #[.string x.name, .int .i64 x.period, .int .i64 x.duration, .int .i64 x.action, .slice ra x.regs.length rcap] 51)
      have m1 := keepL hm hb1
      go_wp2_with fail
      have hP1 := hPk.below hb1
      have o1 : Oth pb w _ := ok.trans (Oth.below hb1)
      clear d0 d1 d2 d3 d4 hPk ok hm hb1
      generalize wr.alloc (.cells #[.string x.name, .int .i64 x.period, .int .i64 x.duration, .int .i64 x.action, .slice ra x.regs.length rcap] 51) = V1 at *
      refine (partition_any W0 pb _ x _ V1 hP1 ht HRV.out ⟨by omega, by omega⟩ ⟨by omega, by omega⟩ ⟨p5, p6⟩ hn16 hrg (fun r hr => p7.1 r hr) (by omega)).mono ?_
      rintro e w4 ⟨rfl, hP4, ho4⟩
      have hm4 := ho4.blk m1 hnb (by decide)
      have o4 := o1.trans ho4
      rw [List.append_assoc, ← HFS.out] at hP4
      have hl4 : (headT f ++ (ps.take (k + 1)).flatMap partT).length ≤ 20 + 290 * (k + 1) := by
        have := HPL.out
        rw [HFS.out]
        simp only [List.length_append] at hlk ⊢
        omega
      clear HFS HPL HRV
      go_wp2_with fail
      go_roundw
      case rel => exact ⟨k + 1, by go_num, by omega, hP4, hl4, hm4, o4⟩
      case measure => simp [intOf]; omega
    · have hlt' : ¬ (k : Int) < (ps.length : Int) := by omega
      have hke : k = ps.length := by omega
      subst hke
      rw [List.take_length] at hPk hlk
      have y2 : wr.cell? ⟨w.heap.size, 2, none⟩ = some (.slice ca cs.length ck) := by rw [cell_of_blk hm]; rfl
      go_wp2_with fail
      clear y2
      generalize wr = wz at *
      have hl0 : (headT f ++ ps.flatMap partT).length ≤ 3000 := by omega
      clear hlk
      go_loopw [28] (fun i wr => ∃ (q : Nat), i = .int .i64 q ∧ q ≤ cs.length ∧ PS W0 pb (headT f ++ ps.flatMap partT ++ (cs.take q).flatMap (chanT ps)) wr ∧ (headT f ++ ps.flatMap partT ++ (cs.take q).flatMap (chanT ps)).length ≤ 3000 + 100 * q ∧ wr.heap[w.heap.size]? = some (.cells #[.int .i64 f, .slice va ps.length cap, .slice ca cs.length ck] 25 (0, 0)) ∧ Oth pb w wr) (fun i _ => cs.length - (intOf i).toNat)
      case atStart => exact ⟨0, rfl, by omega, by simpa using hPk, by simpa using hl0, hm, ok⟩
      case round =>
        obtain ⟨q, rfl, hq, hPq, hlq, hmq, oq⟩ := hrel
        clear hPk ok hm
        by_cases hql : q < cs.length
        · have hql' : (q : Int) < (cs.length : Int) := by omega
          have hq0 : (0 : Int) ≤ (q : Int) := by omega
          obtain ⟨va', cap', hvv, hvc⟩ := ChansV.below HCV.out hPq.1
          cases hvv
          obtain ⟨b, off, rfl, d0, d1, d2, d3, d4, d5⟩ := hvc q hql
          clear hvc
          obtain ⟨k1, k2, k3, k4, k5, k6, k7, k8, k9, k10, k11⟩ := chanErr_ok (HCO.out q hql) ⟨by omega, hf2⟩
          have HFS : Hid _ := flat_step cs (chanT ps) q hql
          have HPL : Hid ((chanT ps cs[q]).length ≤ 100) := chanT_len ps cs[q] k1 (by
            obtain ⟨i, hi⟩ : ∃ i : Nat, cs[q].source = i := ⟨cs[q].source.toNat, by omega⟩
            rw [hi, nameAt_of (by omega)]
            have := HNM.out i (by omega)
            simpa using this) (by
            obtain ⟨i, hi⟩ : ∃ i : Nat, cs[q].target = i := ⟨cs[q].target.toNat, by omega⟩
            rw [hi, nameAt_of (by omega)]
            have := HNM.out i (by omega)
            simpa using this)
          generalize cs[q] = c at *
          have hb1 := below_new wr (.cells #[.string c.name, .int .i64 c.source, .int .i64 c.target, .int .i64 c.kind, .int .i64 c.size, .int .i64 c.depth] 53)
          have h1 := heap_new wr (.cells #[.string c.name, .int .i64 c.source, .int .i64 c.target, .int .i64 c.kind, .int .i64 c.size, .int .i64 c.depth] 53)
          have m1 := keepL hmq hb1
          have x1 : wr.cell? ⟨w.heap.size, 1, none⟩ = some (.slice va ps.length cap) := by rw [cell_of_blk hmq]; rfl
          have x2 : (wr.alloc (.cells #[.string c.name, .int .i64 c.source, .int .i64 c.target, .int .i64 c.kind, .int .i64 c.size, .int .i64 c.depth] 53)).cell? ⟨w.heap.size, 1, none⟩ = some (.slice va ps.length cap) := by rw [cell_of_blk m1]; rfl
          go_wp2_with fail
          have hP1 := hPq.below hb1
          have o1 : Oth pb w _ := oq.trans (Oth.below hb1)
          clear d0 d1 d2 d3 d4 d5 hPq oq hmq hb1 x1 x2
          generalize wr.alloc (.cells #[.string c.name, .int .i64 c.source, .int .i64 c.target, .int .i64 c.kind, .int .i64 c.size, .int .i64 c.depth] 53) = V1 at *
          refine (channel_any W0 pb _ c ps _ V1 hP1 ht HPV.out ⟨k2, k3⟩ ⟨k4, k5⟩ ⟨k6, k7⟩ ⟨by omega, by omega⟩ ⟨by omega, by omega⟩ k1 HNM.out (by omega)).mono ?_
          rintro e w4 ⟨rfl, hP4, ho4⟩
          have hm4 := ho4.blk m1 hnb (by decide)
          have o4 := o1.trans ho4
          rw [List.append_assoc (headT f ++ ps.flatMap partT), ← HFS.out] at hP4
          have hl4 : (headT f ++ ps.flatMap partT ++ (cs.take (q + 1)).flatMap (chanT ps)).length ≤ 3000 + 100 * (q + 1) := by
            have := HPL.out
            rw [HFS.out]
            simp only [List.length_append] at hlq ⊢
            omega
          clear HFS HPL
          go_wp2_with fail
          go_roundw
          case rel => exact ⟨q + 1, by go_num, by omega, hP4, hl4, hm4, o4⟩
          case measure => simp [intOf]; omega
        · have hql' : ¬ (q : Int) < (cs.length : Int) := by omega
          have hqe : q = cs.length := by omega
          subst hqe
          rw [List.take_length] at hPq
          go_wp2_with fail
          go_end0
          exact ⟨rfl, hPq, oq⟩
end Go.Proofs.YteioennfpkoagaaDoor.C
