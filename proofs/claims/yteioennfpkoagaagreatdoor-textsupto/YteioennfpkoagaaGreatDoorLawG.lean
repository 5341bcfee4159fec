import Derived.Test.YteioennfpkoagaaGreatDoorLawD
import Derived.Deep.RegionHeld3
namespace Go.Proofs.YteioennfpkoagaaGreatDoor
open Go.RowKit
attribute [local go_sem ↓] Go.wp_at_zero Go.wp_at_succ

theorem row_at {w : World} {B e g n c : Nat} {xs : List Value} (h : w.ownsRow B e 1 (.slice (some ⟨g, 0, none⟩) n c) n xs) (i : Nat) (hi : i < xs.length) : w.cell? ⟨g, i, none⟩ = some xs[i] := by
  rw [own_cells h i (by have := h.1; omega), List.getElem?_eq_getElem hi]
set_option maxRecDepth 100000 in
set_option maxHeartbeats 4000000 in
theorem whole_true (w : World) (B bb : Nat) (rv pv cv : Value) (R P C : List Value) (hb : BookOK w B bb rv pv cv R P C) (hRl : R.length ≤ 900000000000) (hPl : P.length ≤ 900000000000) (hCl : C.length ≤ 900000000000) :
    Calls Tryz.prog 14 #[.pointer (some ⟨bb, 0, none⟩)] w fun e w' => e = .returned (.bool true) ∧ Below w.heap.size w w' := by
  obtain ⟨ra, rc, rfl⟩ := own_shape hb.rR
  obtain ⟨pa, pc, rfl⟩ := own_shape hb.rP
  obtain ⟨ca, cc, rfl⟩ := own_shape hb.rC
  go_enter Tryz.func14, Tryz.ntmps14
  go_wp2_with fail
  go_loopw [3] (fun i wr => ∃ (k : Nat), i = .int .i64 k ∧ k ≤ R.length ∧ Below w.heap.size w wr) (fun i _ => R.length - (intOf i).toNat)
  case atStart => exact ⟨0, rfl, by omega, Below.refl _ _⟩
  case round =>
    obtain ⟨k, rfl, hk, hbel⟩ := hrel
    have hbk := hb.below hbel
    have c0 : wr.cell? ⟨bb, 0, none⟩ = some (.slice ra R.length rc) := by rw [cell_of_blk hbk.blk]; rfl
    by_cases hlt : k < R.length
    · rcases own_nil_or hbk.rR with ⟨h0, _⟩ | ⟨g, cap, e1⟩
      · omega
      cases e1
      obtain ⟨n, hn, ho⟩ := hbk.kR k hlt
      have d0 := row_at hbk.rR k hlt
      obtain ⟨la, lc, hl⟩ := own_shape ho
      have HL : Hid _ := hl
      rw [hl] at d0 ho
      clear hl
      have hlt' : (k : Int) < (R.length : Int) := by omega
      have hk0 : (0 : Int) ≤ (k : Int) := by omega
      have hq4 := quo4 k
      have hjl : k / 4 ≤ 1000000000000 := by omega
      generalize k / 4 = jj at *
      have HQ4 : Hid _ := hq4
      have HWJ : Hid (IntKind.i64.wrap (jj : Int) = (jj : Int)) := wrap_small _ (by omega) (by omega)
      clear hq4
      generalize wr = w1 at *
      go_wp2_with fail
      go_loopw [4] (fun i wx => ∃ (q : Nat), i = .int .i64 q ∧ q ≤ n ∧ Below w1.heap.size w1 wx) (fun i _ => n - (intOf i).toNat)
      case atStart => exact ⟨0, rfl, by omega, Below.refl _ _⟩
      case round =>
        obtain ⟨q, rfl, hq, hbel2⟩ := hrel
        have hbk2 := hbk.below hbel2
        have ho2 := own_below ho hbel2
        have c2 : wr.cell? ⟨bb, 0, none⟩ = some (.slice (some ⟨g, 0, none⟩) R.length rc) := by rw [cell_of_blk hbk2.blk]; rfl
        have d2 : wr.cell? ⟨g, k, none⟩ = some (.slice la n lc) := by rw [row_at hbk2.rR k hlt, HL.out]
        clear c0 d0
        by_cases hqlt : q < n
        · rcases own_nil_or ho2 with ⟨h0, _⟩ | ⟨gl, capl, e1⟩
          · omega
          cases e1
          have e0 : wr.cell? ⟨gl, q * 3, none⟩ = some (.int .i64 (-1000 - (jj : Int))) := by rw [own_cells ho2 _ (by omega)]; exact rep_at (badR jj) n q 0 hqlt (by simp [badR])
          have e1 : wr.cell? ⟨gl, q * 3 + 1, none⟩ = some (.int .i64 3) := by rw [own_cells ho2 _ (by omega)]; exact rep_at (badR jj) n q 1 hqlt (by simp [badR])
          have e2 : wr.cell? ⟨gl, q * 3 + 2, none⟩ = some (.int .i64 9) := by rw [own_cells ho2 _ (by omega)]; exact rep_at (badR jj) n q 2 hqlt (by simp [badR])
          have hqlt' : (q : Int) < (n : Int) := by omega
          have hq0 : (0 : Int) ≤ (q : Int) := by omega
          have bl1 := lt_of_blk hbk2.blk
          have bl2 := World.block_lt_of_cell? wr _ d2
          have bl3 := World.block_lt_of_cell? wr _ e0
          simp only [] at bl2 bl3
          go_wp2_with fail
          go_region_held3 (fun w' => w'.cell? ⟨bb, 0, none⟩ = some (.slice (some ⟨g, 0, none⟩) R.length rc) ∧ w'.cell? ⟨g, k, none⟩ = some (.slice (some ⟨gl, 0, none⟩) n lc) ∧ w'.cell? ⟨gl, q * 3, none⟩ = some (.int .i64 (-1000 - (jj : Int))) ∧ w'.cell? ⟨gl, q * 3 + 1, none⟩ = some (.int .i64 3) ∧ w'.cell? ⟨gl, q * 3 + 2, none⟩ = some (.int .i64 9)) (first | go_keep | (exact ⟨(hb2.cell (by exact bl1)).trans c2, (hb2.cell (by exact bl2)).trans d2, (hb2.cell (by exact bl3)).trans e0, (hb2.cell (by exact bl3)).trans e1, (hb2.cell (by exact bl3)).trans e2⟩)) ((first
            | (go_at_call 42; (first | rw [HQ4.out, HWJ.out] | rw [HQ4.out]); refine (badRegion_any jj _ hjl).mono ?_; rintro e w2 ⟨rfl, hb2⟩)))
          have hb3 := below_drew hb2
          clear c2 d2 e0 e1 e2
          go_wp2_with fail
          go_roundw
          case rel => exact ⟨q + 1, by go_num, by omega, hbel2.trans (hb3.mono hbel2.size)⟩
          case measure => simp [intOf]; omega
        · have hqn : q = n := by omega
          subst hqn
          go_wp2_with fail
          go_roundw
          case rel => exact ⟨k + 1, by go_num, by omega, hbel.trans (hbel2.mono hbel.size)⟩
          case measure => simp [intOf]; omega
    · have hkn : k = R.length := by omega
      subst hkn
      clear hlt hk
      have hst := hbel
      clear hbel hbk
      generalize wr = wa at *
      go_wp2_with fail
      clear c0
      go_loopw [5] (fun i wr => ∃ (k : Nat), i = .int .i64 k ∧ k ≤ P.length ∧ Below w.heap.size w wr) (fun i _ => P.length - (intOf i).toNat)
      case atStart => exact ⟨0, rfl, by omega, hst⟩
      case round =>
        obtain ⟨k, rfl, hk, hbel⟩ := hrel
        have hbk := hb.below hbel
        have c0 : wr.cell? ⟨bb, 1, none⟩ = some (.slice pa P.length pc) := by rw [cell_of_blk hbk.blk]; rfl
        by_cases hlt : k < P.length
        · rcases own_nil_or hbk.rP with ⟨h0, _⟩ | ⟨g, cap, e1⟩
          · omega
          cases e1
          obtain ⟨n, hn, ho⟩ := hbk.kP k hlt
          have d0 := row_at hbk.rP k hlt
          obtain ⟨la, lc, hl⟩ := own_shape ho
          have HL : Hid _ := hl
          rw [hl] at d0 ho
          clear hl
          have hlt' : (k : Int) < (P.length : Int) := by omega
          have hk0 : (0 : Int) ≤ (k : Int) := by omega
          have hq4 := quo4 k
          have hjl : k / 4 ≤ 1000000000000 := by omega
          generalize k / 4 = jj at *
          have HQ4 : Hid _ := hq4
          have HWJ : Hid (IntKind.i64.wrap (jj : Int) = (jj : Int)) := wrap_small _ (by omega) (by omega)
          clear hq4
          generalize wr = w1 at *
          go_wp2_with fail
          go_loopw [6] (fun i wx => ∃ (q : Nat), i = .int .i64 q ∧ q ≤ n ∧ Below w1.heap.size w1 wx) (fun i _ => n - (intOf i).toNat)
          case atStart => exact ⟨0, rfl, by omega, Below.refl _ _⟩
          case round =>
            obtain ⟨q, rfl, hq, hbel2⟩ := hrel
            have hbk2 := hbk.below hbel2
            have ho2 := own_below ho hbel2
            have c2 : wr.cell? ⟨bb, 1, none⟩ = some (.slice (some ⟨g, 0, none⟩) P.length pc) := by rw [cell_of_blk hbk2.blk]; rfl
            have d2 : wr.cell? ⟨g, k, none⟩ = some (.slice la n lc) := by rw [row_at hbk2.rP k hlt, HL.out]
            clear c0 d0
            by_cases hqlt : q < n
            · rcases own_nil_or ho2 with ⟨h0, _⟩ | ⟨gl, capl, e1⟩
              · omega
              cases e1
              have e0 : wr.cell? ⟨gl, q * 5, none⟩ = some (.string ⟨#[63, 63]⟩) := by rw [own_cells ho2 _ (by omega)]; exact rep_at (badP' jj) n q 0 hqlt (by simp [badP'])
              have e1 : wr.cell? ⟨gl, q * 5 + 1, none⟩ = some (.int .i64 (-1000 - (jj : Int))) := by rw [own_cells ho2 _ (by omega)]; exact rep_at (badP' jj) n q 1 hqlt (by simp [badP'])
              have e2 : wr.cell? ⟨gl, q * 5 + 2, none⟩ = some (.int .i64 0) := by rw [own_cells ho2 _ (by omega)]; exact rep_at (badP' jj) n q 2 hqlt (by simp [badP'])
              have e3 : wr.cell? ⟨gl, q * 5 + 3, none⟩ = some (.int .i64 0) := by rw [own_cells ho2 _ (by omega)]; exact rep_at (badP' jj) n q 3 hqlt (by simp [badP'])
              have e4 : wr.cell? ⟨gl, q * 5 + 4, none⟩ = some (.slice none 0 0) := by rw [own_cells ho2 _ (by omega)]; exact rep_at (badP' jj) n q 4 hqlt (by simp [badP'])
              have hqlt' : (q : Int) < (n : Int) := by omega
              have hq0 : (0 : Int) ≤ (q : Int) := by omega
              have bl1 := lt_of_blk hbk2.blk
              have bl2 := World.block_lt_of_cell? wr _ d2
              have bl3 := World.block_lt_of_cell? wr _ e0
              simp only [] at bl2 bl3
              go_wp2_with fail
              first | rw [HQ4.out, HWJ.out] | rw [HQ4.out]
              refine (isBad_true jj _ hjl).mono ?_
              rintro e w2 ⟨rfl, hb3⟩
              clear c2 d2 e0 e1 e2 e3 e4
              go_wp2_with fail
              go_roundw
              case rel => exact ⟨q + 1, by go_num, by omega, hbel2.trans (hb3.mono hbel2.size)⟩
              case measure => simp [intOf]; omega
            · have hqn : q = n := by omega
              subst hqn
              go_wp2_with fail
              go_roundw
              case rel => exact ⟨k + 1, by go_num, by omega, hbel.trans (hbel2.mono hbel.size)⟩
              case measure => simp [intOf]; omega
        · have hkn : k = P.length := by omega
          subst hkn
          clear hlt hk
          clear hst
          have hst := hbel
          clear hbel hbk
          generalize wr = wb at *
          go_wp2_with fail
          clear c0
          go_loopw [8] (fun i wr => ∃ (k : Nat), i = .int .i64 k ∧ k ≤ C.length ∧ Below w.heap.size w wr) (fun i _ => C.length - (intOf i).toNat)
          case atStart => exact ⟨0, rfl, by omega, hst⟩
          case round =>
            obtain ⟨k, rfl, hk, hbel⟩ := hrel
            have hbk := hb.below hbel
            have c0 : wr.cell? ⟨bb, 2, none⟩ = some (.slice ca C.length cc) := by rw [cell_of_blk hbk.blk]; rfl
            by_cases hlt : k < C.length
            · rcases own_nil_or hbk.rC with ⟨h0, _⟩ | ⟨g, cap, e1⟩
              · omega
              cases e1
              obtain ⟨n, hn, ho⟩ := hbk.kC k hlt
              have d0 := row_at hbk.rC k hlt
              obtain ⟨la, lc, hl⟩ := own_shape ho
              have HL : Hid _ := hl
              rw [hl] at d0 ho
              clear hl
              have hlt' : (k : Int) < (C.length : Int) := by omega
              have hk0 : (0 : Int) ≤ (k : Int) := by omega
              have hq4 := quo4 k
              have hjl : k / 4 ≤ 1000000000000 := by omega
              generalize k / 4 = jj at *
              have HQ4 : Hid _ := hq4
              have HWJ : Hid (IntKind.i64.wrap (jj : Int) = (jj : Int)) := wrap_small _ (by omega) (by omega)
              clear hq4
              generalize wr = w1 at *
              go_wp2_with fail
              go_loopw [9] (fun i wx => ∃ (q : Nat), i = .int .i64 q ∧ q ≤ n ∧ Below w1.heap.size w1 wx) (fun i _ => n - (intOf i).toNat)
              case atStart => exact ⟨0, rfl, by omega, Below.refl _ _⟩
              case round =>
                obtain ⟨q, rfl, hq, hbel2⟩ := hrel
                have hbk2 := hbk.below hbel2
                have ho2 := own_below ho hbel2
                have c2 : wr.cell? ⟨bb, 2, none⟩ = some (.slice (some ⟨g, 0, none⟩) C.length cc) := by rw [cell_of_blk hbk2.blk]; rfl
                have d2 : wr.cell? ⟨g, k, none⟩ = some (.slice la n lc) := by rw [row_at hbk2.rC k hlt, HL.out]
                clear c0 d0
                by_cases hqlt : q < n
                · rcases own_nil_or ho2 with ⟨h0, _⟩ | ⟨gl, capl, e1⟩
                  · omega
                  cases e1
                  have e0 : wr.cell? ⟨gl, q * 6, none⟩ = some (.string ⟨#[63, 63]⟩) := by rw [own_cells ho2 _ (by omega)]; exact rep_at (badC jj) n q 0 hqlt (by simp [badC])
                  have e1 : wr.cell? ⟨gl, q * 6 + 1, none⟩ = some (.int .i64 (-1000 - (jj : Int))) := by rw [own_cells ho2 _ (by omega)]; exact rep_at (badC jj) n q 1 hqlt (by simp [badC])
                  have e2 : wr.cell? ⟨gl, q * 6 + 2, none⟩ = some (.int .i64 0) := by rw [own_cells ho2 _ (by omega)]; exact rep_at (badC jj) n q 2 hqlt (by simp [badC])
                  have e3 : wr.cell? ⟨gl, q * 6 + 3, none⟩ = some (.int .i64 0) := by rw [own_cells ho2 _ (by omega)]; exact rep_at (badC jj) n q 3 hqlt (by simp [badC])
                  have e4 : wr.cell? ⟨gl, q * 6 + 4, none⟩ = some (.int .i64 0) := by rw [own_cells ho2 _ (by omega)]; exact rep_at (badC jj) n q 4 hqlt (by simp [badC])
                  have e5 : wr.cell? ⟨gl, q * 6 + 5, none⟩ = some (.int .i64 0) := by rw [own_cells ho2 _ (by omega)]; exact rep_at (badC jj) n q 5 hqlt (by simp [badC])
                  have hqlt' : (q : Int) < (n : Int) := by omega
                  have hq0 : (0 : Int) ≤ (q : Int) := by omega
                  have bl1 := lt_of_blk hbk2.blk
                  have bl2 := World.block_lt_of_cell? wr _ d2
                  have bl3 := World.block_lt_of_cell? wr _ e0
                  simp only [] at bl2 bl3
                  go_wp2_with fail
                  go_region_held3 (fun w' => w'.cell? ⟨bb, 2, none⟩ = some (.slice (some ⟨g, 0, none⟩) C.length cc) ∧ w'.cell? ⟨g, k, none⟩ = some (.slice (some ⟨gl, 0, none⟩) n lc) ∧ w'.cell? ⟨gl, q * 6, none⟩ = some (.string ⟨#[63, 63]⟩) ∧ w'.cell? ⟨gl, q * 6 + 1, none⟩ = some (.int .i64 (-1000 - (jj : Int))) ∧ w'.cell? ⟨gl, q * 6 + 2, none⟩ = some (.int .i64 0) ∧ w'.cell? ⟨gl, q * 6 + 3, none⟩ = some (.int .i64 0) ∧ w'.cell? ⟨gl, q * 6 + 4, none⟩ = some (.int .i64 0) ∧ w'.cell? ⟨gl, q * 6 + 5, none⟩ = some (.int .i64 0)) (first | go_keep | (exact ⟨(hb2.cell (by exact bl1)).trans c2, (hb2.cell (by exact bl2)).trans d2, (hb2.cell (by exact bl3)).trans e0, (hb2.cell (by exact bl3)).trans e1, (hb2.cell (by exact bl3)).trans e2, (hb2.cell (by exact bl3)).trans e3, (hb2.cell (by exact bl3)).trans e4, (hb2.cell (by exact bl3)).trans e5⟩)) ((first
                    | (go_at_call 44; (first | rw [HQ4.out, HWJ.out] | rw [HQ4.out]); refine (badChannel_any jj _ hjl).mono ?_; rintro e w2 ⟨rfl, hb2⟩)))
                  have hb3 := below_drew hb2
                  clear c2 d2 e0 e1 e2 e3 e4 e5
                  go_wp2_with fail
                  go_roundw
                  case rel => exact ⟨q + 1, by go_num, by omega, hbel2.trans (hb3.mono hbel2.size)⟩
                  case measure => simp [intOf]; omega
                · have hqn : q = n := by omega
                  subst hqn
                  go_wp2_with fail
                  go_roundw
                  case rel => exact ⟨k + 1, by go_num, by omega, hbel.trans (hbel2.mono hbel.size)⟩
                  case measure => simp [intOf]; omega
            · have hkn : k = C.length := by omega
              subst hkn
              clear hlt hk
              have c3 : wr.cell? ⟨bb, 3, none⟩ = some (.slice none 0 0) := by rw [cell_of_blk hbk.blk]; rfl
              go_wp2_with fail
              go_rounds 1
              go_ret
              exact ⟨rfl, hbel⟩
end Go.Proofs.YteioennfpkoagaaGreatDoor
