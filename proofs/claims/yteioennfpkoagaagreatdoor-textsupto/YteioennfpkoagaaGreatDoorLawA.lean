import Derived.Test.YteioennfpkoagaaGreatDoorRefK
namespace Go.Proofs.YteioennfpkoagaaGreatDoor
open Go.RowKit
attribute [local go_sem ↓] Go.wp_at_zero Go.wp_at_succ

/- the cells of a row, out of its block -/
theorem own_cells {w : World} {base e size n g cap : Nat} {xs : List Value} (h : w.ownsRow base e size (.slice (some ⟨g, 0, none⟩) n cap) n xs) (j : Nat) (hj : j < n * size) : w.cell? ⟨g, j, none⟩ = xs[j]? := h.cellAt j hj
theorem regRows_at (gs : List Reg) (k : Nat) (hk : k < gs.length) : (regRows gs)[k * 3]? = some (.int .i64 gs[k].page) ∧ (regRows gs)[k * 3 + 1]? = some (.int .i64 gs[k].pages) ∧ (regRows gs)[k * 3 + 2]? = some (.int .i64 gs[k].rights) := by
  induction gs generalizing k with
  | nil => simp at hk
  | cons a gs ih =>
    cases k with
    | zero => simp [regRows, regCells]
    | succ k =>
      have := ih k (by simpa using hk)
      have e : regRows (a :: gs) = regCells a ++ regRows gs := by simp [regRows]
      have e0 : (k + 1) * 3 = 3 + k * 3 := by omega
      rw [e, e0]
      have key : ∀ j, (regCells a ++ regRows gs)[3 + k * 3 + j]? = (regRows gs)[k * 3 + j]? := fun j => by
        rw [List.getElem?_append_right (by simp [regCells]; omega)]
        congr 1; simp [regCells]; omega
      have k0 := key 0
      have k1 := key 1
      have k2 := key 2
      simp only [Nat.add_zero] at k0
      rw [k0, k1, k2]
      simpa using this
/- slices that read alike -/
theorem own_nil_or {w : World} {base e size n : Nat} {v : Value} {xs : List Value} (h : w.ownsRow base e size v n xs) : (n = 0 ∧ v = .slice none 0 0) ∨ ∃ g cap, v = .slice (some ⟨g, 0, none⟩) n cap := by
  rcases h.2 with ⟨rfl, rfl⟩ | ⟨g, cap, cur, rfl, _⟩
  · exact .inl ⟨rfl, rfl⟩
  · exact .inr ⟨g, cap, rfl⟩

set_option maxRecDepth 100000 in
set_option maxHeartbeats 1000000 in
theorem sameRegions_true (w : World) (base base' : Nat) (u v : Value) (gs : List Reg) (hm : gs.length ≤ 10000) (hu : w.ownsRow base 90 3 u gs.length (regRows gs)) (hv : w.ownsRow base' 90 3 v gs.length (regRows gs)) :
    Calls Tryz.prog 136 #[u, v] w fun e w' => e = .returned (.bool true) ∧ ∃ q, w' = w.drewN q := by
  obtain ⟨ua, uc, rfl⟩ := own_shape hu
  obtain ⟨va, vc, rfl⟩ := own_shape hv
  go_enter Tryz.func136, Tryz.ntmps136
  go_wp2_with fail
  go_loopw [5] (fun i wr => ∃ (k q : Nat), i = .int .i64 k ∧ k ≤ gs.length ∧ wr = w.drewN q) (fun i _ => gs.length - (intOf i).toNat)
  case atStart => exact ⟨0, 0, rfl, by omega, rfl⟩
  case round =>
    obtain ⟨k, q, rfl, hk, rfl⟩ := hrel
    by_cases hlt : k < gs.length
    · rcases own_nil_or hu with ⟨h0, _⟩ | ⟨g1, c1, e1⟩
      · omega
      rcases own_nil_or hv with ⟨h0, _⟩ | ⟨g2, c2, e2⟩
      · omega
      cases e1
      cases e2
      have r := regRows_at gs k hlt
      have a0 : w.cell? ⟨g1, k * 3, none⟩ = some (.int .i64 gs[k].page) := by rw [own_cells hu _ (by omega)]; exact r.1
      have a1 : w.cell? ⟨g1, k * 3 + 1, none⟩ = some (.int .i64 gs[k].pages) := by rw [own_cells hu _ (by omega)]; exact r.2.1
      have a2 : w.cell? ⟨g1, k * 3 + 2, none⟩ = some (.int .i64 gs[k].rights) := by rw [own_cells hu _ (by omega)]; exact r.2.2
      have b0 : w.cell? ⟨g2, k * 3, none⟩ = some (.int .i64 gs[k].page) := by rw [own_cells hv _ (by omega)]; exact r.1
      have b1 : w.cell? ⟨g2, k * 3 + 1, none⟩ = some (.int .i64 gs[k].pages) := by rw [own_cells hv _ (by omega)]; exact r.2.1
      have b2 : w.cell? ⟨g2, k * 3 + 2, none⟩ = some (.int .i64 gs[k].rights) := by rw [own_cells hv _ (by omega)]; exact r.2.2
      clear r
      generalize gs[k] = gk at *
      have hlt' : (k : Int) < (gs.length : Int) := by omega
      have hk0 : (0 : Int) ≤ (k : Int) := by omega
      go_wp2_with fail
      go_quiet (fail)
      go_wp2_with fail
      go_roundw
      case rel => exact ⟨k + 1, q + nq, by go_num, by omega, by simp⟩
      case measure => simp [intOf]; omega
    · go_wp2_with fail
      go_ret
      exact ⟨rfl, q, rfl⟩
end Go.Proofs.YteioennfpkoagaaGreatDoor
