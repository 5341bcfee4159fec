import Derived.Test.YteioennfpkoagaaGreatDoorB24
namespace Go.Proofs.YteioennfpkoagaaGreatDoor.C
open Go.RowKit
attribute [local go_sem ↓] Go.wp_at_zero Go.wp_at_succ

set_option maxRecDepth 100000 in
set_option maxHeartbeats 4000000 in
theorem kept_anyF (wA w : World) (lb pb hb : Nat) (f : Int) (pv cv : Value) (ps : List PartD) (cs : List ChanD) (rgv ctv : Value) (G : List Nat) (h : LO wA w lb pb hb f pv cv ps cs rgv ctv G) (hp : PartsV wA pv ps) (hc : ChansV wA cv cs)
    (hn : ps.length ≤ 2199023255552) (hm : cs.length ≤ 2513169434844) (hr : ∀ i (hi : i < ps.length), ps[i].regs.length ≤ 5864062014635) :
    Calls Tryz.prog 96 #[.pointer (some ⟨lb, 0, none⟩)] w fun e w' => e = .returned (.bool true) ∧ Below w.heap.size w w' := by
  have HL : Hid _ := h
  obtain ⟨ga, gc, rfl, hrg⟩ := h.rg
  obtain ⟨ta, tc, rfl, hct⟩ := h.ct
  have HRG : Hid _ := hrg
  have HCT : Hid _ := hct
  have HR : Hid _ := hr
  have hG := h.gl
  have HG : Hid _ := hG
  clear hrg hct hr hG
  have hpw := PartsV.below hp h.low
  have hcw := ChansV.below hc h.low
  have HPW : Hid (PartsV w pv ps) := hpw
  have HCW : Hid (ChansV w cv cs) := hcw
  obtain ⟨va, cap, rfl, hpx⟩ := hpw
  obtain ⟨ca, ck, rfl, hcx⟩ := hcw
  have HPX : Hid _ := hpx
  have HCX : Hid _ := hcx
  have l0 : w.cell? ⟨lb, 0, none⟩ = some (.slice ga ps.length gc) := by rw [cell_of_blk h.loan]; rfl
  have l1 : w.cell? ⟨lb, 1, none⟩ = some (.slice ta ps.length tc) := by rw [cell_of_blk h.loan]; rfl
  have l2 : w.cell? ⟨lb, 2, none⟩ = some (.slice (some ⟨pb, 0, none⟩) (ps.length + 8) (ps.length + 8)) := by rw [cell_of_blk h.loan]; rfl
  have l3 : w.cell? ⟨lb, 3, none⟩ = some (.slice (some ⟨hb, 0, none⟩) (cs.length + 8) (cs.length + 8)) := by rw [cell_of_blk h.loan]; rfl
  have l5 : w.cell? ⟨lb, 5, none⟩ = some (.slice va ps.length cap) := by rw [cell_of_blk h.loan]; rfl
  have l6 : w.cell? ⟨lb, 6, none⟩ = some (.slice ca cs.length ck) := by rw [cell_of_blk h.loan]; rfl
  have L0 : Hid _ := l0
  have L1 : Hid _ := l1
  have L2 : Hid _ := l2
  have L3 : Hid _ := l3
  have L5 : Hid _ := l5
  have L6 : Hid _ := l6
  clear l0 l1 l2 l3 l5 l6 hpx hcx hp hc h
  go_enter Tryz.func96, Tryz.ntmps96
  go_wp2_with fail
  go_loopw [3] (fun i wr => ∃ (k : Nat), i = .int .i64 k ∧ k ≤ ps.length ∧ Below w.heap.size w wr) (fun i _ => ps.length - (intOf i).toNat)
  case atStart => exact ⟨0, rfl, by omega, Below.refl _ _⟩
  case round =>
    obtain ⟨k, rfl, hk, hbel⟩ := hrel
    have m0 := keepD L0.out hbel
    by_cases hlt : k < ps.length
    · have hlt' : (k : Int) < (ps.length : Int) := by omega
      have hk0 : (0 : Int) ≤ (k : Int) := by omega
      have hgk : k < G.length := by have := HG.out; omega
      obtain ⟨g, rfl, cg⟩ := HRG.out k hlt hgk
      obtain ⟨t, rfl, ctt⟩ := HCT.out k hlt
      obtain ⟨b, off, rv, rfl, _, _, _, _, c4, hrv⟩ := HPX.out k hlt
      have hRk := HR.out k hlt
      have HGR : Hid _ := HL.out.gr k hlt hgk
      have HGB : Hid _ := HL.out.gb k hlt hgk
      obtain ⟨ra, rcap, rfl, hrx⟩ := hrv
      have HRX : Hid _ := hrx
      have CG : Hid _ := cg
      have CT : Hid _ := ctt
      have C4 : Hid _ := c4
      clear hrx cg ctt c4
      generalize G[k] = gk at *
      generalize ps[k].regs = rs at *
      go_wp2_with fail
      clear m0
      generalize wr = wz at *
      go_loopw [4] (fun j wx => ∃ (q : Nat), j = .int .i64 q ∧ q ≤ rs.length + 8 ∧ Below w.heap.size w wx) (fun j _ => rs.length + 8 - (intOf j).toNat)
      case atStart => exact ⟨0, rfl, by omega, hbel⟩
      case round =>
        obtain ⟨q, rfl, hq, hbx⟩ := hrel
        have m0 := keepD L0.out hbx
        have mg := keepD CG.out hbx
        by_cases hql : q < rs.length + 8
        · have hql' : (q : Int) < ((rs.length + 8 : Nat) : Int) := by omega
          have hql2 : (q : Int) < (rs.length : Int) + 8 := by omega
          have hq0 : (0 : Int) ≤ (q : Int) := by omega
          go_wp2_with fail
          refine (badR_0 _).mono ?_
          rintro e w2 ⟨rfl, hb2⟩
          have b2 := hbx.trans (hb2.mono hbx.size)
          clear m0 mg hb2
          have n0 := newC L0.out b2
          have n1 := newC L1.out b2
          have n5 := newC L5.out b2
          have ng := newC CG.out b2
          have nt := newC CT.out b2
          have n4 := newC C4.out b2
          by_cases hqr : q < rs.length
          · have hqr' : (q : Int) < (rs.length : Int) := by omega
            obtain ⟨rb, ro, rfl, r0, r1, r2⟩ := HRX.out q hqr
            have x0 := newC r0 b2
            have x1 := newC r1 b2
            have x2 := newC r2 b2
            have g0 := newC (HGR.out q hqr 0 (by omega)) b2
            have g1 := newC (HGR.out q hqr 1 (by omega)) b2
            have g2 := newC (HGR.out q hqr 2 (by omega)) b2
            simp only [Nat.add_zero] at g0 g1 g2
            clear r0 r1 r2
            generalize rs[q] = r at *
            go_wp2_with fail
            go_quiet (fail)
            go_wp2_with fail
            go_roundw
            case rel => exact ⟨q + 1, by go_num, by omega, below_drewN (b2.alloc b2.size _) _⟩
            case measure => simp [intOf]; omega
          · have hqr' : ¬ (q : Int) < (rs.length : Int) := by omega
            have g0 := newC (HGB.out q hqr hql 0 (by omega)) b2
            have g1 := newC (HGB.out q hqr hql 1 (by omega)) b2
            have g2 := newC (HGB.out q hqr hql 2 (by omega)) b2
            simp only [Nat.add_zero] at g0
            go_wp2_with fail
            go_quiet (fail)
            go_wp2_with fail
            go_roundw
            case rel => exact ⟨q + 1, by go_num, by omega, below_drewN (b2.alloc b2.size _) _⟩
            case measure => simp [intOf]; omega
        · have hql' : ¬ (q : Int) < ((rs.length + 8 : Nat) : Int) := by omega
          have hql2 : ¬ (q : Int) < (rs.length : Int) + 8 := by omega
          go_wp2_with fail
          go_roundw
          case rel => exact ⟨k + 1, by go_num, by omega, hbx⟩
          case measure => simp [intOf]; omega
    · have hlt' : ¬ (k : Int) < (ps.length : Int) := by omega
      have m5 := keepD L5.out hbel
      go_wp2_with fail
      clear m0 m5
      generalize wr = wz at *
      go_loopw [7] (fun i wx => ∃ (k : Nat), i = .int .i64 k ∧ ps.length ≤ k ∧ k ≤ ps.length + 8 ∧ Below w.heap.size w wx) (fun i _ => ps.length + 8 - (intOf i).toNat)
      case atStart => exact ⟨ps.length, rfl, by omega, by omega, hbel⟩
      case round =>
        obtain ⟨i, rfl, hi1, hi2, hbx⟩ := hrel
        have m2 := keepD L2.out hbx
        by_cases hil : i < ps.length + 8
        · have hil' : (i : Int) < ((ps.length + 8 : Nat) : Int) := by omega
          have hil2 : (i : Int) < (ps.length : Int) + 8 := by omega
          have hi0 : (0 : Int) ≤ (i : Int) := by omega
          have g0 := keepD (HL.out.pbad i hi1 hil 0 (by omega)) hbx
          have g1 := keepD (HL.out.pbad i hi1 hil 1 (by omega)) hbx
          have g2 := keepD (HL.out.pbad i hi1 hil 2 (by omega)) hbx
          have g3 := keepD (HL.out.pbad i hi1 hil 3 (by omega)) hbx
          have g4 := keepD (HL.out.pbad i hi1 hil 4 (by omega)) hbx
          simp only [Nat.add_zero] at g0
          go_wp2_with fail
          refine (isBad_0 _).mono ?_
          rintro e w2 ⟨rfl, hb2⟩
          have b2 := hbx.trans (hb2.mono hbx.size)
          clear m2 g0 g1 g2 g3 g4 hb2
          go_wp2_with fail
          go_roundw
          case rel => exact ⟨i + 1, by go_num, by omega, by omega, b2⟩
          case measure => simp [intOf]; omega
        · have hil' : ¬ (i : Int) < ((ps.length + 8 : Nat) : Int) := by omega
          have hil2 : ¬ (i : Int) < (ps.length : Int) + 8 := by omega
          go_wp2_with fail
          clear m2
          generalize wr = wy at *
          go_loopw [9] (fun j wx => ∃ (q : Nat), j = .int .i64 q ∧ q ≤ cs.length + 8 ∧ Below w.heap.size w wx) (fun j _ => cs.length + 8 - (intOf j).toNat)
          case atStart => exact ⟨0, rfl, by omega, hbx⟩
          case round =>
            obtain ⟨q, rfl, hq, hby⟩ := hrel
            have m3 := keepD L3.out hby
            by_cases hql : q < cs.length + 8
            · have hql' : (q : Int) < ((cs.length + 8 : Nat) : Int) := by omega
              have hql2 : (q : Int) < (cs.length : Int) + 8 := by omega
              have hq0 : (0 : Int) ≤ (q : Int) := by omega
              go_wp2_with fail
              refine (badC_0 _).mono ?_
              rintro e w2 ⟨rfl, hb2⟩
              have b2 := hby.trans (hb2.mono hby.size)
              clear m3 hb2
              have n3 := newC L3.out b2
              have n6 := newC L6.out b2
              by_cases hqr : q < cs.length
              · have hqr' : (q : Int) < (cs.length : Int) := by omega
                obtain ⟨rb, ro, rfl, r0, r1, r2, r3, r4, r5⟩ := HCX.out q hqr
                have x0 := newC r0 b2
                have x1 := newC r1 b2
                have x2 := newC r2 b2
                have x3 := newC r3 b2
                have x4 := newC r4 b2
                have x5 := newC r5 b2
                have g0 := newC (HL.out.cr q hqr 0 (by omega)) b2
                have g1 := newC (HL.out.cr q hqr 1 (by omega)) b2
                have g2 := newC (HL.out.cr q hqr 2 (by omega)) b2
                have g3 := newC (HL.out.cr q hqr 3 (by omega)) b2
                have g4 := newC (HL.out.cr q hqr 4 (by omega)) b2
                have g5 := newC (HL.out.cr q hqr 5 (by omega)) b2
                simp only [Nat.add_zero] at g0 g1 g2 g3 g4 g5
                clear r0 r1 r2 r3 r4 r5
                generalize cs[q] = c at *
                go_wp2_with fail
                go_quiet (fail)
                go_wp2_with fail
                go_roundw
                case rel => exact ⟨q + 1, by go_num, by omega, below_drewN (b2.alloc b2.size _) _⟩
                case measure => simp [intOf]; omega
              · have hqr' : ¬ (q : Int) < (cs.length : Int) := by omega
                have g0 := newC (HL.out.cb q hqr hql 0 (by omega)) b2
                have g1 := newC (HL.out.cb q hqr hql 1 (by omega)) b2
                have g2 := newC (HL.out.cb q hqr hql 2 (by omega)) b2
                have g3 := newC (HL.out.cb q hqr hql 3 (by omega)) b2
                have g4 := newC (HL.out.cb q hqr hql 4 (by omega)) b2
                have g5 := newC (HL.out.cb q hqr hql 5 (by omega)) b2
                simp only [Nat.add_zero] at g0
                go_wp2_with fail
                go_quiet (fail)
                go_wp2_with fail
                go_roundw
                case rel => exact ⟨q + 1, by go_num, by omega, below_drewN (b2.alloc b2.size _) _⟩
                case measure => simp [intOf]; omega
            · have hql' : ¬ (q : Int) < ((cs.length + 8 : Nat) : Int) := by omega
              have hql2 : ¬ (q : Int) < (cs.length : Int) + 8 := by omega
              go_wp2_with fail
              clear m3
              have hB : Below w.heap.size w wr.drew := hby.drew
              have hnn : (ps.length : Int) ≤ ((ps.length + 8 : Nat) : Int) := by omega
              have hnn2 : (ps.length : Int) ≤ (ps.length : Int) + 8 := by omega
              have hn0 : (0 : Int) ≤ (ps.length : Int) := by omega
              have HS : ∀ w' : World, Below w.heap.size w w' → (w'.cell? ⟨lb, 2, none⟩ = some (.slice (some ⟨pb, 0, none⟩) (ps.length + 8) (ps.length + 8)) ∧ w'.cell? ⟨lb, 5, none⟩ = some (.slice va ps.length cap) ∧ Below w.heap.size w w') := fun w' hw => ⟨keepD L2.out hw, keepD L5.out hw, hw⟩
              go_region_held3 (fun w' => w'.cell? ⟨lb, 2, none⟩ = some (.slice (some ⟨pb, 0, none⟩) (ps.length + 8) (ps.length + 8)) ∧ w'.cell? ⟨lb, 5, none⟩ = some (.slice va ps.length cap) ∧ Below w.heap.size w w') (first | exact HS _ hB) ((first
                | (go_at_call 85; refine (samePartitions_any ps _ _ _ (PartsV.below HL.out.parts hB) (PartsV.below HPW.out hB) (by omega) (fun k hk => by have := HR.out k hk; omega)).mono ?_; rintro e w2 ⟨rfl, hb2⟩; have hB := hB.trans (hb2.mono hB.size))))
              go_wp2_with fail
              go_ret
              exact ⟨rfl, hB⟩
end Go.Proofs.YteioennfpkoagaaGreatDoor.C
