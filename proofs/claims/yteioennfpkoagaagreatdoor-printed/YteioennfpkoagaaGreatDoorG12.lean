import Derived.Test.YteioennfpkoagaaGreatDoorG11
namespace Go.Proofs.YteioennfpkoagaaGreatDoor
open Go.RowKit
attribute [local go_sem ↓] Go.wp_at_zero Go.wp_at_succ

/- the cells of a row, out of its block -/
theorem own_cells {w : World} {base e size n g cap : Nat} {xs : List Value} (h : w.ownsRow base e size (.slice (some ⟨g, 0, none⟩) n cap) n xs) (j : Nat) (hj : j < n * size) : w.cell? ⟨g, j, none⟩ = xs[j]? := h.cellAt j hj
theorem regRows_at (gs : List Reg) (k : Nat) (hk : k < gs.length) : (regRows gs)[k * 3]? = some (.int .i64 gs[k].page) ∧ (regRows gs)[k * 3 + 1]? = some (.int .i64 gs[k].pages) ∧ (regRows gs)[k * 3 + 2]? = some (.int .i64 gs[k].rights) := by
  induction gs generalizing k with
  | nil => simp at hk
  | cons a gs ih =>
    cases k with
    | zero => simp [regRows, regCells]
    | succ k =>
      have := ih k (by simpa using hk)
      have e : regRows (a :: gs) = regCells a ++ regRows gs := by simp [regRows]
      have e0 : (k + 1) * 3 = 3 + k * 3 := by omega
      rw [e, e0]
      have key : ∀ j, (regCells a ++ regRows gs)[3 + k * 3 + j]? = (regRows gs)[k * 3 + j]? := fun j => by
        rw [List.getElem?_append_right (by simp [regCells]; omega)]
        congr 1; simp [regCells]; omega
      have k0 := key 0
      have k1 := key 1
      have k2 := key 2
      simp only [Nat.add_zero] at k0
      rw [k0, k1, k2]
      simpa using this
/- slices that read alike -/
theorem own_nil_or {w : World} {base e size n : Nat} {v : Value} {xs : List Value} (h : w.ownsRow base e size v n xs) : (n = 0 ∧ v = .slice none 0 0) ∨ ∃ g cap, v = .slice (some ⟨g, 0, none⟩) n cap := by
  rcases h.2 with ⟨rfl, rfl⟩ | ⟨g, cap, cur, rfl, _⟩
  · exact .inl ⟨rfl, rfl⟩
  · exact .inr ⟨g, cap, rfl⟩

set_option maxRecDepth 100000 in
set_option maxHeartbeats 1000000 in
theorem sameRegions_true (w : World) (base base' : Nat) (u v : Value) (gs : List Reg) (hm : gs.length ≤ 10000) (hu : w.ownsRow base 90 3 u gs.length (regRows gs)) (hv : w.ownsRow base' 90 3 v gs.length (regRows gs)) :
    Calls Tryz.prog 136 #[u, v] w fun e w' => e = .returned (.bool true) ∧ ∃ q, w' = w.drewN q := by
  obtain ⟨ua, uc, rfl⟩ := own_shape hu
  obtain ⟨va, vc, rfl⟩ := own_shape hv
  go_enter Tryz.func136, Tryz.ntmps136
  go_wp2_with fail
  go_loopw [5] (fun i wr => ∃ (k q : Nat), i = .int .i64 k ∧ k ≤ gs.length ∧ wr = w.drewN q) (fun i _ => gs.length - (intOf i).toNat)
  case atStart => exact ⟨0, 0, rfl, by omega, rfl⟩
  case round =>
    obtain ⟨k, q, rfl, hk, rfl⟩ := hrel
    by_cases hlt : k < gs.length
    · rcases own_nil_or hu with ⟨h0, _⟩ | ⟨g1, c1, e1⟩
      · omega
      rcases own_nil_or hv with ⟨h0, _⟩ | ⟨g2, c2, e2⟩
      · omega
      cases e1
      cases e2
      have r := regRows_at gs k hlt
      have a0 : w.cell? ⟨g1, k * 3, none⟩ = some (.int .i64 gs[k].page) := by rw [own_cells hu _ (by omega)]; exact r.1
      have a1 : w.cell? ⟨g1, k * 3 + 1, none⟩ = some (.int .i64 gs[k].pages) := by rw [own_cells hu _ (by omega)]; exact r.2.1
      have a2 : w.cell? ⟨g1, k * 3 + 2, none⟩ = some (.int .i64 gs[k].rights) := by rw [own_cells hu _ (by omega)]; exact r.2.2
      have b0 : w.cell? ⟨g2, k * 3, none⟩ = some (.int .i64 gs[k].page) := by rw [own_cells hv _ (by omega)]; exact r.1
      have b1 : w.cell? ⟨g2, k * 3 + 1, none⟩ = some (.int .i64 gs[k].pages) := by rw [own_cells hv _ (by omega)]; exact r.2.1
      have b2 : w.cell? ⟨g2, k * 3 + 2, none⟩ = some (.int .i64 gs[k].rights) := by rw [own_cells hv _ (by omega)]; exact r.2.2
      clear r
      generalize gs[k] = gk at *
      have hlt' : (k : Int) < (gs.length : Int) := by omega
      have hk0 : (0 : Int) ≤ (k : Int) := by omega
      go_wp2_with fail
      go_quiet (fail)
      go_wp2_with fail
      go_roundw
      case rel => exact ⟨k + 1, q + nq, by go_num, by omega, by simp⟩
      case measure => simp [intOf]; omega
    · go_wp2_with fail
      go_ret
      exact ⟨rfl, q, rfl⟩
end Go.Proofs.YteioennfpkoagaaGreatDoor
namespace Go.Proofs.YteioennfpkoagaaGreatDoor
open Go.RowKit
attribute [local go_sem ↓] Go.wp_at_zero Go.wp_at_succ

theorem chanRows_at (cs : List Chan) (k : Nat) (hk : k < cs.length) (j : Nat) (hj : j < 6) : (chanRows cs)[k * 6 + j]? = (chanCells cs[k])[j]? := by
  induction cs generalizing k with
  | nil => simp at hk
  | cons a cs ih =>
    have e : chanRows (a :: cs) = chanCells a ++ chanRows cs := by simp [chanRows]
    rw [e]
    cases k with
    | zero =>
      rw [List.getElem?_append_left (by simp [chanCells]; omega)]
      simp
    | succ k =>
      rw [List.getElem?_append_right (by simp [chanCells]; omega)]
      have := ih k (by simpa using hk)
      have e0 : (k + 1) * 6 + j - (chanCells a).length = k * 6 + j := by simp [chanCells]; omega
      rw [e0]; simpa using this

set_option maxRecDepth 100000 in
set_option maxHeartbeats 1000000 in
theorem sameChannels_true (w : World) (base base' : Nat) (u v : Value) (cs : List Chan) (hm : cs.length ≤ 10000) (hu : w.ownsRow base 92 6 u cs.length (chanRows cs)) (hv : w.ownsRow base' 92 6 v cs.length (chanRows cs)) :
    Calls Tryz.prog 86 #[u, v] w fun e w' => e = .returned (.bool true) ∧ ∃ q, w' = w.drewN q := by
  obtain ⟨ua, uc, rfl⟩ := own_shape hu
  obtain ⟨va, vc, rfl⟩ := own_shape hv
  go_enter Tryz.func86, Tryz.ntmps86
  go_wp2_with fail
  go_loopw [5] (fun i wr => ∃ (k q : Nat), i = .int .i64 k ∧ k ≤ cs.length ∧ wr = w.drewN q) (fun i _ => cs.length - (intOf i).toNat)
  case atStart => exact ⟨0, 0, rfl, by omega, rfl⟩
  case round =>
    obtain ⟨k, q, rfl, hk, rfl⟩ := hrel
    by_cases hlt : k < cs.length
    · rcases own_nil_or hu with ⟨h0, _⟩ | ⟨g1, c1, e1⟩
      · omega
      rcases own_nil_or hv with ⟨h0, _⟩ | ⟨g2, c2, e2⟩
      · omega
      cases e1
      cases e2
      have r := chanRows_at cs k hlt
      have A : ∀ j, j < 6 → w.cell? ⟨g1, k * 6 + j, none⟩ = (chanCells cs[k])[j]? := fun j hj => by rw [own_cells hu _ (by omega)]; exact r j hj
      have Bv : ∀ j, j < 6 → w.cell? ⟨g2, k * 6 + j, none⟩ = (chanCells cs[k])[j]? := fun j hj => by rw [own_cells hv _ (by omega)]; exact r j hj
      have a0 := A 0 (by omega)
      have a1 := A 1 (by omega)
      have a2 := A 2 (by omega)
      have a3 := A 3 (by omega)
      have a4 := A 4 (by omega)
      have a5 := A 5 (by omega)
      have b0 := Bv 0 (by omega)
      have b1 := Bv 1 (by omega)
      have b2 := Bv 2 (by omega)
      have b3 := Bv 3 (by omega)
      have b4 := Bv 4 (by omega)
      have b5 := Bv 5 (by omega)
      clear r A Bv
      generalize cs[k] = ck at *
      simp [chanCells] at a0 a1 a2 a3 a4 a5 b0 b1 b2 b3 b4 b5
      have hlt' : (k : Int) < (cs.length : Int) := by omega
      have hk0 : (0 : Int) ≤ (k : Int) := by omega
      go_wp2_with fail
      go_quiet (fail)
      go_wp2_with fail
      go_roundw
      case rel => exact ⟨k + 1, q + nq, by go_num, by omega, by simp⟩
      case measure => simp [intOf]; omega
    · go_wp2_with fail
      go_ret
      exact ⟨rfl, q, rfl⟩

theorem partRows_at (ps : List Part) (vs : List Value) (h : ps.length = vs.length) (k : Nat) (hk : k < ps.length) (j : Nat) (hj : j < 5) : (partRows ps vs)[k * 5 + j]? = (partCells ps[k] (vs[k]'(by omega)))[j]? := by
  induction ps generalizing vs k with
  | nil => simp at hk
  | cons a ps ih =>
    cases vs with
    | nil => simp at h
    | cons u vs =>
      simp at h
      simp only [partRows]
      cases k with
      | zero =>
        rw [List.getElem?_append_left (by simp [partCells]; omega)]
        simp
      | succ k =>
        rw [List.getElem?_append_right (by simp [partCells]; omega)]
        have := ih vs h k (by simpa using hk)
        have e0 : (k + 1) * 5 + j - (partCells a u).length = k * 5 + j := by simp [partCells]; omega
        rw [e0]; simpa using this

set_option maxRecDepth 100000 in
set_option maxHeartbeats 1000000 in
theorem samePartitions_true (w : World) (base base' : Nat) (u v : Value) (ps : List Part) (us vs : List Value) (hm : ps.length ≤ 10000) (hr : ∀ p ∈ ps, p.regs.length ≤ 10000) (hu : PartsAt w base u ps us) (hv : PartsAt w base' v ps vs) :
    Calls Tryz.prog 85 #[u, v] w fun e w' => e = .returned (.bool true) ∧ ∃ q, w' = w.drewN q := by
  obtain ⟨lu, ou, ru⟩ := hu
  obtain ⟨lv, ov, rv⟩ := hv
  obtain ⟨ua, uc, rfl⟩ := own_shape ou
  obtain ⟨va, vc, rfl⟩ := own_shape ov
  have HRU : Hid _ := ru
  have HRV : Hid _ := rv
  have HR : Hid _ := hr
  clear ru rv hr
  go_enter Tryz.func85, Tryz.ntmps85
  go_wp2_with fail
  go_loopw [5] (fun i wr => ∃ (k : Nat), i = .int .i64 k ∧ k ≤ ps.length ∧ Hid (∃ q, wr = w.drewN q)) (fun i _ => ps.length - (intOf i).toNat)
  case atStart => exact ⟨0, rfl, by omega, 0, rfl⟩
  case round =>
    obtain ⟨k, rfl, hk, HW⟩ := hrel
    have gW : w.grownBy wr none := by obtain ⟨q, hq⟩ := HW.out; rw [hq]; exact grown_drewN w q none
    have ou' := own_kept ou gW (by simp)
    have ov' := own_kept ov gW (by simp)
    by_cases hlt : k < ps.length
    · rcases own_nil_or ou with ⟨h0, _⟩ | ⟨g1, c1, e1⟩
      · omega
      rcases own_nil_or ov with ⟨h0, _⟩ | ⟨g2, c2, e2⟩
      · omega
      cases e1
      cases e2
      have A : ∀ j, j < 5 → wr.cell? ⟨g1, k * 5 + j, none⟩ = (partCells ps[k] (us[k]'(by omega)))[j]? := fun j hj => by rw [own_cells ou' _ (by omega)]; exact partRows_at ps us lu k hlt j hj
      have Bv : ∀ j, j < 5 → wr.cell? ⟨g2, k * 5 + j, none⟩ = (partCells ps[k] (vs[k]'(by omega)))[j]? := fun j hj => by rw [own_cells ov' _ (by omega)]; exact partRows_at ps vs lv k hlt j hj
      have a0 := A 0 (by omega)
      have a1 := A 1 (by omega)
      have a2 := A 2 (by omega)
      have a3 := A 3 (by omega)
      have a4 := A 4 (by omega)
      have b0 := Bv 0 (by omega)
      have b1 := Bv 1 (by omega)
      have b2 := Bv 2 (by omega)
      have b3 := Bv 3 (by omega)
      have b4 := Bv 4 (by omega)
      have hreg : Hid (ps[k].regs.length ≤ 10000) := HR.out _ (List.getElem_mem hlt)
      have HO1 : Hid _ := own_kept (HRU.out k hlt (by omega)) gW (by simp)
      have HO2 : Hid _ := own_kept (HRV.out k hlt (by omega)) gW (by simp)
      clear A Bv gW ou' ov'
      generalize us[k] = x1 at *
      generalize vs[k] = x2 at *
      generalize ps[k] = pk at *
      clear lu lv
      simp [partCells] at a0 a1 a2 a3 a4 b0 b1 b2 b3 b4
      have hlt' : (k : Int) < (ps.length : Int) := by omega
      have hk0 : (0 : Int) ≤ (k : Int) := by omega
      have HC : Hid (∀ n, Calls Tryz.prog 136 #[x1, x2] (wr.drewN n) fun e w' => e = .returned (.bool true) ∧ ∃ m, w' = (wr.drewN n).drewN m) := fun n => sameRegions_true (wr.drewN n) base base' x1 x2 pk.regs hreg.out (own_kept HO1.out (grown_drewN _ n none) (by simp)) (own_kept HO2.out (grown_drewN _ n none) (by simp))
      go_wp2_with fail
      go_quiet ((go_at_call 136; exact Calls.quiet_of (HC.out _)))
      go_wp2_with fail
      go_quiet (fail)
      go_wp2_with fail
      go_roundw
      case rel => exact ⟨k + 1, by go_num, by omega, by obtain ⟨q, hq⟩ := HW.out; exact ⟨_, by rw [hq, World.drewN_drewN]⟩⟩
      case measure => simp [intOf]; omega
    · go_wp2_with fail
      go_ret
      exact ⟨rfl, HW.out⟩

set_option maxRecDepth 100000 in
set_option maxHeartbeats 1000000 in
theorem same_true (w : World) (base base' : Nat) (f : Int) (u v cu cv : Value) (ps : List Part) (us vs : List Value) (cs : List Chan) (hm : ps.length ≤ 10000) (hr : ∀ p ∈ ps, p.regs.length ≤ 10000) (hc : cs.length ≤ 10000) (hu : PartsAt w base u ps us) (hv : PartsAt w base' v ps vs)
    (hcu : w.ownsRow base 92 6 cu cs.length (chanRows cs)) (hcv : w.ownsRow base' 92 6 cv cs.length (chanRows cs)) :
    Calls Tryz.prog 37 #[.agg #[.int .i64 f, u, cu], .agg #[.int .i64 f, v, cv]] w fun e w' => e = .returned (.bool true) ∧ Below w.heap.size w w' := by
  have hb : Below w.heap.size w ((w.alloc (.cells #[.int .i64 f, u, cu] 34)).alloc (.cells #[.int .i64 f, v, cv] 34)) := ((Below.refl _ _).alloc (Nat.le_refl _) _).alloc (by simp) _
  have hg : w.grownBy ((w.alloc (.cells #[.int .i64 f, u, cu] 34)).alloc (.cells #[.int .i64 f, v, cv] 34)) none := grown_below hb none
  have H1 := fun q => samePartitions_true (((w.alloc (.cells #[.int .i64 f, u, cu] 34)).alloc (.cells #[.int .i64 f, v, cv] 34)).drewN q) base base' u v ps us vs hm hr ((hu.kept hg (by simp)).kept (grown_drewN _ q none) (by simp)) ((hv.kept hg (by simp)).kept (grown_drewN _ q none) (by simp))
  have H2 := fun q => sameChannels_true (((w.alloc (.cells #[.int .i64 f, u, cu] 34)).alloc (.cells #[.int .i64 f, v, cv] 34)).drewN q) base base' cu cv cs hc (own_kept (own_kept hcu hg (by simp)) (grown_drewN _ q none) (by simp)) (own_kept (own_kept hcv hg (by simp)) (grown_drewN _ q none) (by simp))
  have HH1 : Hid _ := H1
  have HH2 : Hid _ := H2
  have HBB : Hid _ := hb
  obtain ⟨u1, u2, rfl⟩ := own_shape hu.2.1
  obtain ⟨v1, v2, rfl⟩ := own_shape hv.2.1
  obtain ⟨u3, u4, rfl⟩ := own_shape hcu
  obtain ⟨v3, v4, rfl⟩ := own_shape hcv
  clear H1 H2 hb hg hu hv hcu hcv hr
  go_enter Tryz.func37, Tryz.ntmps37
  go_wp2_with fail
  refine (HH1.out 0).mono ?_
  rintro e w2 ⟨rfl, q, rfl⟩
  go_wp2_with fail
  refine (HH2.out q).mono ?_
  rintro e w2 ⟨rfl, q2, rfl⟩
  go_wp2_with fail
  go_ret
  exact ⟨by simp, HBB.out.trans ⟨rfl, rfl, rfl, Nat.le_refl _, fun _ _ => rfl⟩⟩
end Go.Proofs.YteioennfpkoagaaGreatDoor
