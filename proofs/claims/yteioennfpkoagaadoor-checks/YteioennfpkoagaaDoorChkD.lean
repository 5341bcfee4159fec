import Derived.Test.YteioennfpkoagaaDoorCdfD
import Derived.Test.YteioennfpkoagaaDoorChkC
namespace Go.Proofs.YteioennfpkoagaaDoor.C
open Go.RowKit
attribute [local go_sem ↓] Go.wp_at_zero Go.wp_at_succ

set_option maxRecDepth 100000 in
set_option maxHeartbeats 4000000 in
theorem chanWrong_any (f : Int) (cs : List ChanD) (i n pcap : Nat) (pa : Option Addr) (cv : Value) (w : World) (hp : ChansV w cv cs) (hi : i < cs.length) (hl : cs.length ≤ 4611686018427387903) :
    Calls Tryd.prog 30 #[.agg #[.int .i64 f, .slice pa n pcap, cv], .int .i64 i] w fun e w' => e = .returned (.int .i64 (chanErr f n (cs.take i) cs[i])) ∧ Below w.heap.size w w' := by
  obtain ⟨va, cap, rfl, hc⟩ := hp
  obtain ⟨b, off, rfl, c0, c1, c2, c3, c4, c5⟩ := hc i hi
  have HC : Hid _ := hc
  clear hc
  have hbl := World.block_lt_of_cell? w _ c0
  have hb0 : Below w.heap.size w (w.alloc (.cells #[.int .i64 f, .slice pa n pcap, .slice (some ⟨b, off, none⟩) cs.length cap] 25)) := (Below.refl _ _).alloc (Nat.le_refl _) _
  have d0 := (hb0.cell (by exact hbl)).trans c0
  have d1 := (hb0.cell (by exact hbl)).trans c1
  have d2 := (hb0.cell (by exact hbl)).trans c2
  have d3 := (hb0.cell (by exact hbl)).trans c3
  have d4 := (hb0.cell (by exact hbl)).trans c4
  have d5 := (hb0.cell (by exact hbl)).trans c5
  have hi' : (i : Int) < (cs.length : Int) := by omega
  have hi0 : (0 : Int) ≤ (i : Int) := by omega
  generalize hx : cs[i] = c at *
  have HXE : Hid _ := hx
  clear hx
  go_enter Tryd.func30, Tryd.ntmps30
  go_wp2_with fail
  refine (nameOK_any _ _).mono ?_
  rintro e w1 ⟨rfl, rfl⟩
  have hm2 := heap_old _ (.cells #[.string c.name, .int .i64 c.source, .int .i64 c.target, .int .i64 c.kind, .int .i64 c.size, .int .i64 c.depth] 53) (heap_new w (.cells #[.int .i64 f, .slice pa n pcap, .slice (some ⟨b, off, none⟩) cs.length cap] 25))
  have hx2 := heap_new (w.alloc (.cells #[.int .i64 f, .slice pa n pcap, .slice (some ⟨b, off, none⟩) cs.length cap] 25)) (.cells #[.string c.name, .int .i64 c.source, .int .i64 c.target, .int .i64 c.kind, .int .i64 c.size, .int .i64 c.depth] 53)
  have hb2 := hb0.alloc (o := .cells #[.string c.name, .int .i64 c.source, .int .i64 c.target, .int .i64 c.kind, .int .i64 c.size, .int .i64 c.depth] 53) (by simp)
  simp only [World.size_alloc] at hx2
  clear hb0 d0 d1 d2 d3 d4 d5 c0 c1 c2 c3 c4 c5
  generalize hnm : nameF c.name.data.toList = nm at *
  have HNM : Hid _ := hnm
  clear hnm
  generalize (w.alloc (.cells #[.int .i64 f, .slice pa n pcap, .slice (some ⟨b, off, none⟩) cs.length cap] 25)).alloc (.cells #[.string c.name, .int .i64 c.source, .int .i64 c.target, .int .i64 c.kind, .int .i64 c.size, .int .i64 c.depth] 53) = W2 at *
  go_wp2_with fail
  go_loopw [7, 8] (fun ok j wr => ∃ (k : Nat) (o : Bool), j = .int .i64 k ∧ ok = .bool o ∧ k ≤ i ∧ Hid (o = (nm && freshC (cs.take k) c)) ∧ Below W2.heap.size W2 wr) (fun _ j _ => i - (intOf j).toNat)
  case atStart => exact ⟨0, nm, rfl, rfl, by omega, by simp [Hid, freshC], Below.refl _ _⟩
  case round =>
    obtain ⟨k, o, rfl, rfl, hk, HCC, hbel⟩ := hrel
    have hm3 := (hbel.block _ (lt_of_blk hm2)).trans hm2
    have hx3 := (hbel.block _ (lt_of_blk hx2)).trans hx2
    by_cases hlt : k < i
    · have hlt' : (k : Int) < (i : Int) := by omega
      have hk0 : (0 : Int) ≤ (k : Int) := by omega
      obtain ⟨b', off', hab, c0, _⟩ := HC.out k (by omega)
      cases hab
      have hkl : (k : Int) < (cs.length : Int) := by omega
      have e0 := (hbel.cell (by exact (Nat.lt_of_lt_of_le (World.block_lt_of_cell? w _ c0) hb2.size))).trans ((hb2.cell (by exact World.block_lt_of_cell? w _ c0)).trans c0)
      have e1 : wr.cell? ⟨w.heap.size, 2, none⟩ = some (.slice (some ⟨b, off, none⟩) cs.length cap) := by rw [cell_of_blk hm3]; rfl
      have e2 : wr.cell? ⟨w.heap.size + 1, 0, none⟩ = some (.string c.name) := by rw [cell_of_blk hx3]; rfl
      generalize hy : cs[k].name = y at *
      have HY : Hid _ := hy
      clear hy
      cases o
      · go_wp2_with fail
        go_quiet (fail)
        go_wp2_with fail
        go_roundw
        case rel => exact ⟨k + 1, false, by go_num, rfl, by omega, by show _ = _; rw [freshC_step (by omega) c, ← Bool.and_assoc, ← HCC.out]; rfl, below_drewN hbel _⟩
        case measure => simp [intOf]; omega
      · go_wp2_with fail
        go_quiet (fail)
        go_wp2_with fail
        go_roundw
        case rel => exact ⟨k + 1, (y.toList != c.name.toList), by go_num, rfl, by omega, by show _ = _; rw [freshC_step (by omega) c, ← Bool.and_assoc, ← HCC.out, HY.out]; simp, below_drewN hbel _⟩
        case measure => simp [intOf]; omega
    · have hke : k = i := by omega
      subst hke
      have b4 : Below w.heap.size w wr := hb2.trans (hbel.mono hb2.size)
      have f0 : wr.cell? ⟨w.heap.size, 0, none⟩ = some (.int .i64 f) := by rw [cell_of_blk hm3]; rfl
      have g1 : wr.cell? ⟨w.heap.size + 1, 1, none⟩ = some (.int .i64 c.source) := by rw [cell_of_blk hx3]; rfl
      have g2 : wr.cell? ⟨w.heap.size + 1, 2, none⟩ = some (.int .i64 c.target) := by rw [cell_of_blk hx3]; rfl
      have g3 : wr.cell? ⟨w.heap.size + 1, 3, none⟩ = some (.int .i64 c.kind) := by rw [cell_of_blk hx3]; rfl
      have g4 : wr.cell? ⟨w.heap.size + 1, 4, none⟩ = some (.int .i64 c.size) := by rw [cell_of_blk hx3]; rfl
      have g5 : wr.cell? ⟨w.heap.size + 1, 5, none⟩ = some (.int .i64 c.depth) := by rw [cell_of_blk hx3]; rfl
      clear hm2 hm3 hx2 hx3 hbel hb2
      have hpe : chanErr f n (cs.take k) c = chanErr f n (cs.take k) c := rfl
      conv at hpe => rhs; unfold chanErr; rw [HNM.out, ← HCC.out]
      have HPE : Hid _ := hpe
      clear hpe HC HXE HCC HNM
      cases o
      · have HE : Hid (chanErr f n (cs.take k) c = 7) := by show _ = _; rw [HPE.out]; rfl
        clear HPE
        rcases (show (c.kind == 1) = true ∨ (c.kind == 1) = false by cases (c.kind == 1) <;> simp) with q1 | q1
        all_goals go_wp2_with fail
        all_goals go_ret
        all_goals exact ⟨by rw [HE.out]; rfl, b4⟩
      have hcase : ((c.kind == 1) = true ∧ (c.kind != 1) = false ∧ decide (c.source < 0) = true ∧ Hid (chanErr f n (cs.take k) c = 12)) ∨ ((c.kind == 1) = true ∧ (c.kind != 1) = false ∧ decide (c.source < 0) = false ∧ decide ((n : Int) ≤ c.source) = true ∧ Hid (chanErr f n (cs.take k) c = 12)) ∨ ((c.kind == 1) = true ∧ (c.kind != 1) = false ∧ decide (c.source < 0) = false ∧ decide ((n : Int) ≤ c.source) = false ∧ decide (c.target < 0) = true ∧ Hid (chanErr f n (cs.take k) c = 12)) ∨ ((c.kind == 1) = true ∧ (c.kind != 1) = false ∧ decide (c.source < 0) = false ∧ decide ((n : Int) ≤ c.source) = false ∧ decide (c.target < 0) = false ∧ decide ((n : Int) ≤ c.target) = true ∧ Hid (chanErr f n (cs.take k) c = 12)) ∨ ((c.kind == 1) = true ∧ (c.kind != 1) = false ∧ decide (c.source < 0) = false ∧ decide ((n : Int) ≤ c.source) = false ∧ decide (c.target < 0) = false ∧ decide ((n : Int) ≤ c.target) = false ∧ (c.source == c.target) = true ∧ Hid (chanErr f n (cs.take k) c = 12)) ∨ ((c.kind == 1) = true ∧ (c.kind != 1) = false ∧ decide (c.source < 0) = false ∧ decide ((n : Int) ≤ c.source) = false ∧ decide (c.target < 0) = false ∧ decide ((n : Int) ≤ c.target) = false ∧ (c.source == c.target) = false ∧ decide (c.size < 1) = true ∧ Hid (chanErr f n (cs.take k) c = 14)) ∨ ((c.kind == 1) = true ∧ (c.kind != 1) = false ∧ decide (c.source < 0) = false ∧ decide ((n : Int) ≤ c.source) = false ∧ decide (c.target < 0) = false ∧ decide ((n : Int) ≤ c.target) = false ∧ (c.source == c.target) = false ∧ decide (c.size < 1) = false ∧ decide (32 < c.size) = true ∧ Hid (chanErr f n (cs.take k) c = 14)) ∨ ((c.kind == 1) = true ∧ (c.kind != 1) = false ∧ decide (c.source < 0) = false ∧ decide ((n : Int) ≤ c.source) = false ∧ decide (c.target < 0) = false ∧ decide ((n : Int) ≤ c.target) = false ∧ (c.source == c.target) = false ∧ decide (c.size < 1) = false ∧ decide (32 < c.size) = false ∧ decide (c.depth < 1) = true ∧ Hid (chanErr f n (cs.take k) c = 15)) ∨ ((c.kind == 1) = true ∧ (c.kind != 1) = false ∧ decide (c.source < 0) = false ∧ decide ((n : Int) ≤ c.source) = false ∧ decide (c.target < 0) = false ∧ decide ((n : Int) ≤ c.target) = false ∧ (c.source == c.target) = false ∧ decide (c.size < 1) = false ∧ decide (32 < c.size) = false ∧ decide (c.depth < 1) = false ∧ decide (8 < c.depth) = true ∧ Hid (chanErr f n (cs.take k) c = 15)) ∨ ((c.kind == 1) = true ∧ (c.kind != 1) = false ∧ decide (c.source < 0) = false ∧ decide ((n : Int) ≤ c.source) = false ∧ decide (c.target < 0) = false ∧ decide ((n : Int) ≤ c.target) = false ∧ (c.source == c.target) = false ∧ decide (c.size < 1) = false ∧ decide (32 < c.size) = false ∧ decide (c.depth < 1) = false ∧ decide (8 < c.depth) = false ∧ Hid (chanErr f n (cs.take k) c = 0)) ∨ ((c.kind == 1) = false ∧ (c.kind != 1) = true ∧ (c.kind != 2) = false ∧ decide (c.source < 0) = true ∧ Hid (chanErr f n (cs.take k) c = 12)) ∨ ((c.kind == 1) = false ∧ (c.kind != 1) = true ∧ (c.kind != 2) = false ∧ decide (c.source < 0) = false ∧ decide ((n : Int) ≤ c.source) = true ∧ Hid (chanErr f n (cs.take k) c = 12)) ∨ ((c.kind == 1) = false ∧ (c.kind != 1) = true ∧ (c.kind != 2) = false ∧ decide (c.source < 0) = false ∧ decide ((n : Int) ≤ c.source) = false ∧ decide (c.target < 0) = true ∧ Hid (chanErr f n (cs.take k) c = 12)) ∨ ((c.kind == 1) = false ∧ (c.kind != 1) = true ∧ (c.kind != 2) = false ∧ decide (c.source < 0) = false ∧ decide ((n : Int) ≤ c.source) = false ∧ decide (c.target < 0) = false ∧ decide ((n : Int) ≤ c.target) = true ∧ Hid (chanErr f n (cs.take k) c = 12)) ∨ ((c.kind == 1) = false ∧ (c.kind != 1) = true ∧ (c.kind != 2) = false ∧ decide (c.source < 0) = false ∧ decide ((n : Int) ≤ c.source) = false ∧ decide (c.target < 0) = false ∧ decide ((n : Int) ≤ c.target) = false ∧ (c.source == c.target) = true ∧ Hid (chanErr f n (cs.take k) c = 12)) ∨ ((c.kind == 1) = false ∧ (c.kind != 1) = true ∧ (c.kind != 2) = false ∧ decide (c.source < 0) = false ∧ decide ((n : Int) ≤ c.source) = false ∧ decide (c.target < 0) = false ∧ decide ((n : Int) ≤ c.target) = false ∧ (c.source == c.target) = false ∧ decide (c.size < 1) = true ∧ Hid (chanErr f n (cs.take k) c = 14)) ∨ ((c.kind == 1) = false ∧ (c.kind != 1) = true ∧ (c.kind != 2) = false ∧ decide (c.source < 0) = false ∧ decide ((n : Int) ≤ c.source) = false ∧ decide (c.target < 0) = false ∧ decide ((n : Int) ≤ c.target) = false ∧ (c.source == c.target) = false ∧ decide (c.size < 1) = false ∧ decide (32 < c.size) = true ∧ Hid (chanErr f n (cs.take k) c = 14)) ∨ ((c.kind == 1) = false ∧ (c.kind != 1) = true ∧ (c.kind != 2) = false ∧ decide (c.source < 0) = false ∧ decide ((n : Int) ≤ c.source) = false ∧ decide (c.target < 0) = false ∧ decide ((n : Int) ≤ c.target) = false ∧ (c.source == c.target) = false ∧ decide (c.size < 1) = false ∧ decide (32 < c.size) = false ∧ decide (c.depth < 1) = true ∧ Hid (chanErr f n (cs.take k) c = 15)) ∨ ((c.kind == 1) = false ∧ (c.kind != 1) = true ∧ (c.kind != 2) = false ∧ decide (c.source < 0) = false ∧ decide ((n : Int) ≤ c.source) = false ∧ decide (c.target < 0) = false ∧ decide ((n : Int) ≤ c.target) = false ∧ (c.source == c.target) = false ∧ decide (c.size < 1) = false ∧ decide (32 < c.size) = false ∧ decide (c.depth < 1) = false ∧ decide (f < c.depth) = true ∧ Hid (chanErr f n (cs.take k) c = 15)) ∨ ((c.kind == 1) = false ∧ (c.kind != 1) = true ∧ (c.kind != 2) = false ∧ decide (c.source < 0) = false ∧ decide ((n : Int) ≤ c.source) = false ∧ decide (c.target < 0) = false ∧ decide ((n : Int) ≤ c.target) = false ∧ (c.source == c.target) = false ∧ decide (c.size < 1) = false ∧ decide (32 < c.size) = false ∧ decide (c.depth < 1) = false ∧ decide (f < c.depth) = false ∧ Hid (chanErr f n (cs.take k) c = 0)) ∨ ((c.kind == 1) = false ∧ (c.kind != 1) = true ∧ (c.kind != 2) = true ∧ decide (c.source < 0) = true ∧ Hid (chanErr f n (cs.take k) c = 12)) ∨ ((c.kind == 1) = false ∧ (c.kind != 1) = true ∧ (c.kind != 2) = true ∧ decide (c.source < 0) = false ∧ decide ((n : Int) ≤ c.source) = true ∧ Hid (chanErr f n (cs.take k) c = 12)) ∨ ((c.kind == 1) = false ∧ (c.kind != 1) = true ∧ (c.kind != 2) = true ∧ decide (c.source < 0) = false ∧ decide ((n : Int) ≤ c.source) = false ∧ decide (c.target < 0) = true ∧ Hid (chanErr f n (cs.take k) c = 12)) ∨ ((c.kind == 1) = false ∧ (c.kind != 1) = true ∧ (c.kind != 2) = true ∧ decide (c.source < 0) = false ∧ decide ((n : Int) ≤ c.source) = false ∧ decide (c.target < 0) = false ∧ decide ((n : Int) ≤ c.target) = true ∧ Hid (chanErr f n (cs.take k) c = 12)) ∨ ((c.kind == 1) = false ∧ (c.kind != 1) = true ∧ (c.kind != 2) = true ∧ decide (c.source < 0) = false ∧ decide ((n : Int) ≤ c.source) = false ∧ decide (c.target < 0) = false ∧ decide ((n : Int) ≤ c.target) = false ∧ (c.source == c.target) = true ∧ Hid (chanErr f n (cs.take k) c = 12)) ∨ ((c.kind == 1) = false ∧ (c.kind != 1) = true ∧ (c.kind != 2) = true ∧ decide (c.source < 0) = false ∧ decide ((n : Int) ≤ c.source) = false ∧ decide (c.target < 0) = false ∧ decide ((n : Int) ≤ c.target) = false ∧ (c.source == c.target) = false ∧ Hid (chanErr f n (cs.take k) c = 13)) := by
        by_cases q0 : c.kind = 1
        · skip
          by_cases q1 : c.source < 0
          · skip
            exact .inl ⟨by simp [q0], by simp [q0], by simp [q1], by show _ = _; rw [HPE.out]; simp [q1]⟩
          by_cases q2 : (n : Int) ≤ c.source
          · skip
            exact .inr (.inl ⟨by simp [q0], by simp [q0], by simp [q1], by simp [q2], by show _ = _; rw [HPE.out]; simp [q1, q2]⟩)
          by_cases q3 : c.target < 0
          · skip
            exact .inr (.inr (.inl ⟨by simp [q0], by simp [q0], by simp [q1], by simp [q2], by simp [q3], by show _ = _; rw [HPE.out]; simp [q1, q2, q3]⟩))
          by_cases q4 : (n : Int) ≤ c.target
          · skip
            exact .inr (.inr (.inr (.inl ⟨by simp [q0], by simp [q0], by simp [q1], by simp [q2], by simp [q3], by simp [q4], by show _ = _; rw [HPE.out]; simp [q1, q2, q3, q4]⟩)))
          by_cases q5 : c.source = c.target
          · skip
            exact .inr (.inr (.inr (.inr (.inl ⟨by simp [q0], by simp [q0], by simp [q3, q5], by simp [q4, q5], by simp [q3], by simp [q4], by simp [q5], by show _ = _; rw [HPE.out]; simp [q3, q4, q5]⟩))))
          by_cases q6 : c.size < 1
          · skip
            exact .inr (.inr (.inr (.inr (.inr (.inl ⟨by simp [q0], by simp [q0], by simp [q1], by simp [q2], by simp [q3], by simp [q4], by simp [q5], by simp [q6], by show _ = _; rw [HPE.out]; simp [q0, q1, q2, q3, q4, q5, q6]⟩)))))
          by_cases q7 : 32 < c.size
          · skip
            exact .inr (.inr (.inr (.inr (.inr (.inr (.inl ⟨by simp [q0], by simp [q0], by simp [q1], by simp [q2], by simp [q3], by simp [q4], by simp [q5], by simp [q6], by simp [q7], by show _ = _; rw [HPE.out]; simp [q0, q1, q2, q3, q4, q5, q6, q7]⟩))))))
          by_cases q8 : c.depth < 1
          · skip
            exact .inr (.inr (.inr (.inr (.inr (.inr (.inr (.inl ⟨by simp [q0], by simp [q0], by simp [q1], by simp [q2], by simp [q3], by simp [q4], by simp [q5], by simp [q6], by simp [q7], by simp [q8], by show _ = _; rw [HPE.out]; simp [q0, q1, q2, q3, q4, q5, q6, q7, q8]⟩)))))))
          by_cases q9 : 8 < c.depth
          · skip
            exact .inr (.inr (.inr (.inr (.inr (.inr (.inr (.inr (.inl ⟨by simp [q0], by simp [q0], by simp [q1], by simp [q2], by simp [q3], by simp [q4], by simp [q5], by simp [q6], by simp [q7], by simp [q8], by simp [q9], by show _ = _; rw [HPE.out]; simp [q0, q1, q2, q3, q4, q5, q6, q7, q8, q9]⟩))))))))
          exact .inr (.inr (.inr (.inr (.inr (.inr (.inr (.inr (.inr (.inl ⟨by simp [q0], by simp [q0], by simp [q1], by simp [q2], by simp [q3], by simp [q4], by simp [q5], by simp [q6], by simp [q7], by simp [q8], by simp [q9], by show _ = _; rw [HPE.out]; simp [q0, q1, q2, q3, q4, q5, q6, q7, q8, q9]⟩)))))))))
        by_cases q1 : c.kind = 2
        · skip
          by_cases q2 : c.source < 0
          · skip
            exact .inr (.inr (.inr (.inr (.inr (.inr (.inr (.inr (.inr (.inr (.inl ⟨by simp [*], by simp [*], by simp [*], by simp [*], by show _ = _; rw [HPE.out]; simp [*]⟩))))))))))
          by_cases q3 : (n : Int) ≤ c.source
          · skip
            exact .inr (.inr (.inr (.inr (.inr (.inr (.inr (.inr (.inr (.inr (.inr (.inl ⟨by simp [*], by simp [*], by simp [*], by simp [*], by simp [*], by show _ = _; rw [HPE.out]; simp [*]⟩)))))))))))
          by_cases q4 : c.target < 0
          · skip
            exact .inr (.inr (.inr (.inr (.inr (.inr (.inr (.inr (.inr (.inr (.inr (.inr (.inl ⟨by simp [*], by simp [*], by simp [*], by simp [*], by simp [*], by simp [*], by show _ = _; rw [HPE.out]; simp [*]⟩))))))))))))
          by_cases q5 : (n : Int) ≤ c.target
          · skip
            exact .inr (.inr (.inr (.inr (.inr (.inr (.inr (.inr (.inr (.inr (.inr (.inr (.inr (.inl ⟨by simp [*], by simp [*], by simp [*], by simp [*], by simp [*], by simp [*], by simp [*], by show _ = _; rw [HPE.out]; simp [*]⟩)))))))))))))
          by_cases q6 : c.source = c.target
          · skip
            exact .inr (.inr (.inr (.inr (.inr (.inr (.inr (.inr (.inr (.inr (.inr (.inr (.inr (.inr (.inl ⟨by simp [*], by simp [*], by simp [*], by simp [*], by simp [*], by simp [*], by simp [*], by simp [*], by show _ = _; rw [HPE.out]; simp [*]⟩))))))))))))))
          by_cases q7 : c.size < 1
          · skip
            exact .inr (.inr (.inr (.inr (.inr (.inr (.inr (.inr (.inr (.inr (.inr (.inr (.inr (.inr (.inr (.inl ⟨by simp [*], by simp [*], by simp [*], by simp [*], by simp [*], by simp [*], by simp [*], by simp [*], by simp [*], by show _ = _; rw [HPE.out]; simp [*]⟩)))))))))))))))
          by_cases q8 : 32 < c.size
          · skip
            exact .inr (.inr (.inr (.inr (.inr (.inr (.inr (.inr (.inr (.inr (.inr (.inr (.inr (.inr (.inr (.inr (.inl ⟨by simp [*], by simp [*], by simp [*], by simp [*], by simp [*], by simp [*], by simp [*], by simp [*], by simp [*], by simp [*], by show _ = _; rw [HPE.out]; simp [*]⟩))))))))))))))))
          by_cases q9 : c.depth < 1
          · skip
            exact .inr (.inr (.inr (.inr (.inr (.inr (.inr (.inr (.inr (.inr (.inr (.inr (.inr (.inr (.inr (.inr (.inr (.inl ⟨by simp [*], by simp [*], by simp [*], by simp [*], by simp [*], by simp [*], by simp [*], by simp [*], by simp [*], by simp [*], by simp [*], by show _ = _; rw [HPE.out]; simp [*]⟩)))))))))))))))))
          by_cases q10 : f < c.depth
          · skip
            exact .inr (.inr (.inr (.inr (.inr (.inr (.inr (.inr (.inr (.inr (.inr (.inr (.inr (.inr (.inr (.inr (.inr (.inr (.inl ⟨by simp [*], by simp [*], by simp [*], by simp [*], by simp [*], by simp [*], by simp [*], by simp [*], by simp [*], by simp [*], by simp [*], by simp [*], by show _ = _; rw [HPE.out]; simp [*]⟩))))))))))))))))))
          exact .inr (.inr (.inr (.inr (.inr (.inr (.inr (.inr (.inr (.inr (.inr (.inr (.inr (.inr (.inr (.inr (.inr (.inr (.inr (.inl ⟨by simp [*], by simp [*], by simp [*], by simp [*], by simp [*], by simp [*], by simp [*], by simp [*], by simp [*], by simp [*], by simp [*], by simp [*], by show _ = _; rw [HPE.out]; simp [*]⟩)))))))))))))))))))
        by_cases q2 : c.source < 0
        · skip
          exact .inr (.inr (.inr (.inr (.inr (.inr (.inr (.inr (.inr (.inr (.inr (.inr (.inr (.inr (.inr (.inr (.inr (.inr (.inr (.inr (.inl ⟨by simp [*], by simp [*], by simp [*], by simp [*], by show _ = _; rw [HPE.out]; simp [*]⟩))))))))))))))))))))
        by_cases q3 : (n : Int) ≤ c.source
        · skip
          exact .inr (.inr (.inr (.inr (.inr (.inr (.inr (.inr (.inr (.inr (.inr (.inr (.inr (.inr (.inr (.inr (.inr (.inr (.inr (.inr (.inr (.inl ⟨by simp [*], by simp [*], by simp [*], by simp [*], by simp [*], by show _ = _; rw [HPE.out]; simp [*]⟩)))))))))))))))))))))
        by_cases q4 : c.target < 0
        · skip
          exact .inr (.inr (.inr (.inr (.inr (.inr (.inr (.inr (.inr (.inr (.inr (.inr (.inr (.inr (.inr (.inr (.inr (.inr (.inr (.inr (.inr (.inr (.inl ⟨by simp [*], by simp [*], by simp [*], by simp [*], by simp [*], by simp [*], by show _ = _; rw [HPE.out]; simp [*]⟩))))))))))))))))))))))
        by_cases q5 : (n : Int) ≤ c.target
        · skip
          exact .inr (.inr (.inr (.inr (.inr (.inr (.inr (.inr (.inr (.inr (.inr (.inr (.inr (.inr (.inr (.inr (.inr (.inr (.inr (.inr (.inr (.inr (.inr (.inl ⟨by simp [*], by simp [*], by simp [*], by simp [*], by simp [*], by simp [*], by simp [*], by show _ = _; rw [HPE.out]; simp [*]⟩)))))))))))))))))))))))
        by_cases q6 : c.source = c.target
        · skip
          exact .inr (.inr (.inr (.inr (.inr (.inr (.inr (.inr (.inr (.inr (.inr (.inr (.inr (.inr (.inr (.inr (.inr (.inr (.inr (.inr (.inr (.inr (.inr (.inr (.inl ⟨by simp [*], by simp [*], by simp [*], by simp [*], by simp [*], by simp [*], by simp [*], by simp [*], by show _ = _; rw [HPE.out]; simp [*]⟩))))))))))))))))))))))))
        exact .inr (.inr (.inr (.inr (.inr (.inr (.inr (.inr (.inr (.inr (.inr (.inr (.inr (.inr (.inr (.inr (.inr (.inr (.inr (.inr (.inr (.inr (.inr (.inr (.inr (⟨by simp [*], by simp [*], by simp [*], by simp [*], by simp [*], by simp [*], by simp [*], by simp [*], by show _ = _; rw [HPE.out]; simp [*]⟩)))))))))))))))))))))))))
      rcases hcase with ⟨f0, f1, f2, HE⟩ | ⟨f0, f1, f2, f3, HE⟩ | ⟨f0, f1, f2, f3, f4, HE⟩ | ⟨f0, f1, f2, f3, f4, f5, HE⟩ | ⟨f0, f1, f2, f3, f4, f5, f6, HE⟩ | ⟨f0, f1, f2, f3, f4, f5, f6, f7, HE⟩ | ⟨f0, f1, f2, f3, f4, f5, f6, f7, f8, HE⟩ | ⟨f0, f1, f2, f3, f4, f5, f6, f7, f8, f9, HE⟩ | ⟨f0, f1, f2, f3, f4, f5, f6, f7, f8, f9, f10, HE⟩ | ⟨f0, f1, f2, f3, f4, f5, f6, f7, f8, f9, f10, HE⟩ | ⟨f0, f1, f2, f3, HE⟩ | ⟨f0, f1, f2, f3, f4, HE⟩ | ⟨f0, f1, f2, f3, f4, f5, HE⟩ | ⟨f0, f1, f2, f3, f4, f5, f6, HE⟩ | ⟨f0, f1, f2, f3, f4, f5, f6, f7, HE⟩ | ⟨f0, f1, f2, f3, f4, f5, f6, f7, f8, HE⟩ | ⟨f0, f1, f2, f3, f4, f5, f6, f7, f8, f9, HE⟩ | ⟨f0, f1, f2, f3, f4, f5, f6, f7, f8, f9, f10, HE⟩ | ⟨f0, f1, f2, f3, f4, f5, f6, f7, f8, f9, f10, f11, HE⟩ | ⟨f0, f1, f2, f3, f4, f5, f6, f7, f8, f9, f10, f11, HE⟩ | ⟨f0, f1, f2, f3, HE⟩ | ⟨f0, f1, f2, f3, f4, HE⟩ | ⟨f0, f1, f2, f3, f4, f5, HE⟩ | ⟨f0, f1, f2, f3, f4, f5, f6, HE⟩ | ⟨f0, f1, f2, f3, f4, f5, f6, f7, HE⟩ | ⟨f0, f1, f2, f3, f4, f5, f6, f7, HE⟩
      all_goals clear HPE
      all_goals go_wp2_with fail
      all_goals go_ret
      all_goals exact ⟨by rw [HE.out]; rfl, b4⟩
end Go.Proofs.YteioennfpkoagaaDoor.C
