import Derived.Test.YtpjkmfhabbclhaaDoorChkA
namespace Go.Proofs.YtpjkmfhabbclhaaDoor.C
open Go.RowKit
attribute [local go_sem ↓] Go.wp_at_zero Go.wp_at_succ

/- a partition's regions: each in itself, and no page twice -/
def regB (r : RegD) : Bool := decide (0 ≤ r.page ∧ r.page ≤ 63 ∧ 1 ≤ r.pages ∧ r.pages ≤ 64 ∧ r.page + r.pages ≤ 64 ∧ (r.rights = 1 ∨ r.rights = 2))
def apartB (a b : RegD) : Bool := decide (a.page + a.pages ≤ b.page ∨ b.page + b.pages ≤ a.page)
def hit (r : RegD) (k : Int) : Prop := r.page ≤ k ∧ k < r.page + r.pages
def RegsOK (rs : List RegD) : Prop := (∀ r ∈ rs, regB r = true) ∧ rs.Pairwise (fun a b => apartB a b = true)
def regsF (rs : List RegD) : Bool := rs.all regB && decide (rs.Pairwise (fun a b => apartB a b = true))
theorem regsF_iff (rs : List RegD) : regsF rs = true ↔ RegsOK rs := by simp [regsF, RegsOK]
theorem regsF_not {rs : List RegD} (h : ¬ RegsOK rs) : regsF rs = false := by rw [← regsF_iff] at h; simpa using h
theorem RegsOK.take {rs : List RegD} (h : RegsOK rs) (k : Nat) : RegsOK (rs.take k) :=
  ⟨fun r hr => h.1 r (List.mem_of_mem_take hr), h.2.sublist (List.take_sublist _ _)⟩
theorem RegsOK.snoc {rs : List RegD} {r : RegD} : RegsOK (rs ++ [r]) ↔ RegsOK rs ∧ regB r = true ∧ ∀ a ∈ rs, apartB a r = true := by
  unfold RegsOK
  rw [List.pairwise_append]
  constructor
  · rintro ⟨h1, h2, _, h4⟩
    exact ⟨⟨fun a ha => h1 a (by simp [ha]), h2⟩, h1 r (by simp), fun a ha => h4 a ha r (by simp)⟩
  · rintro ⟨⟨h1, h2⟩, h3, h4⟩
    refine ⟨fun a ha => ?_, h2, by simp, fun a ha b hb => ?_⟩
    · rcases List.mem_append.1 ha with h | h
      · exact h1 a h
      · rw [List.mem_singleton.1 h]; exact h3
    · rw [List.mem_singleton.1 hb]; exact h4 a ha
theorem take_snocD {α : Type} (l : List α) (k : Nat) (h : k < l.length) : l.take (k + 1) = l.take k ++ [l[k]] := by
  rw [List.take_succ_eq_append_getElem h]
/- the used pages, as the array has them -/
def usedV (u : Nat → Bool) : Array Value := ((List.range 64).map fun j => Value.bool (u j)).toArray
theorem usedV_at (u : Nat → Bool) (j : Nat) (h : j < 64) : (usedV u)[j]? = some (.bool (u j)) := by
  simp [usedV, h]
theorem usedV_set (u : Nat → Bool) (j : Nat) : (usedV u).setIfInBounds j (.bool true) = usedV (fun k => if k = j then true else u k) := by
  apply Array.ext_getElem?
  intro i
  rw [Array.getElem?_setIfInBounds]
  by_cases h : i < 64
  · rw [usedV_at u i h, usedV_at _ i h]
    by_cases e : j = i
    · subst e; simp [usedV, h]
    · rw [if_neg e, if_neg (fun x => e x.symm)]
  · have h1 : (usedV u)[i]? = none := by rw [Array.getElem?_eq_none]; simp [usedV]; omega
    have h2 : (usedV fun k => if k = j then true else u k)[i]? = none := by rw [Array.getElem?_eq_none]; simp [usedV]; omega
    rw [h1, h2]
    split
    · simp [usedV]; omega
    · rfl
theorem used_lit : usedV (fun _ => false) = #[.bool false, .bool false, .bool false, .bool false, .bool false, .bool false, .bool false, .bool false, .bool false, .bool false, .bool false, .bool false, .bool false, .bool false, .bool false, .bool false, .bool false, .bool false, .bool false, .bool false, .bool false, .bool false, .bool false, .bool false, .bool false, .bool false, .bool false, .bool false, .bool false, .bool false, .bool false, .bool false, .bool false, .bool false, .bool false, .bool false, .bool false, .bool false, .bool false, .bool false, .bool false, .bool false, .bool false, .bool false, .bool false, .bool false, .bool false, .bool false, .bool false, .bool false, .bool false, .bool false, .bool false, .bool false, .bool false, .bool false, .bool false, .bool false, .bool false, .bool false, .bool false, .bool false, .bool false, .bool false] := by kernel_rfl

theorem regs_bad {rs : List RegD} {k : Nat} (hk : k < rs.length) (h : regB rs[k] = false) : regsF rs = false := by
  apply regsF_not
  intro ho
  have := ho.1 rs[k] (List.getElem_mem _)
  rw [h] at this; cases this
theorem regs_hit {rs : List RegD} {k : Nat} {q : Int} (hk : k < rs.length) (h1 : hit rs[k] q) (h2 : ∃ a ∈ rs.take k, hit a q) : regsF rs = false := by
  apply regsF_not
  intro ho
  have := ho.take (k + 1)
  rw [take_snocD rs k hk, RegsOK.snoc] at this
  obtain ⟨a, ha, hq⟩ := h2
  have := this.2.2 a ha
  unfold apartB at this
  unfold hit at h1 hq
  simp at this
  omega
theorem regs_step {rs : List RegD} {k : Nat} (hk : k < rs.length) (h0 : RegsOK (rs.take k)) (hb : regB rs[k] = true) (h : ∀ q : Nat, q < 64 → hit rs[k] q → ¬ ∃ a ∈ rs.take k, hit a q) : RegsOK (rs.take (k + 1)) := by
  rw [take_snocD rs k hk, RegsOK.snoc]
  refine ⟨h0, hb, fun a ha => ?_⟩
  have ha' := h0.1 a ha
  unfold regB at hb ha'
  unfold apartB
  simp only [decide_eq_true_eq] at *
  rcases Int.lt_or_le a.page rs[k].page with hlt | hle
  · rcases Int.lt_or_le rs[k].page (a.page + a.pages) with h1 | h1
    · exfalso
      refine h rs[k].page.toNat (by omega) ?_ ⟨a, ha, ?_⟩ <;> unfold hit <;> omega
    · omega
  · rcases Int.lt_or_le a.page (rs[k].page + rs[k].pages) with h1 | h1
    · exfalso
      refine h a.page.toNat (by omega) ?_ ⟨a, ha, ?_⟩ <;> unfold hit <;> omega
    · omega
theorem hit_step {rs : List RegD} {k : Nat} (hk : k < rs.length) (q : Nat) : (∃ a ∈ rs.take (k + 1), hit a q) ↔ (∃ a ∈ rs.take k, hit a q) ∨ hit rs[k] q := by
  rw [take_snocD rs k hk]
  constructor
  · rintro ⟨a, ha, h⟩
    rcases List.mem_append.1 ha with h1 | h1
    · exact .inl ⟨a, h1, h⟩
    · rw [List.mem_singleton.1 h1] at h; exact .inr h
  · rintro (⟨a, ha, h⟩ | h)
    · exact ⟨a, List.mem_append.2 (.inl ha), h⟩
    · exact ⟨rs[k], List.mem_append.2 (.inr (List.mem_singleton.2 rfl)), h⟩
theorem wrap_small (n : Int) (h1 : -4611686018427387904 ≤ n) (h2 : n ≤ 4611686018427387904) : IntKind.i64.wrap n = n := by
  simp [IntKind.wrap, IntKind.bits, IntKind.signed]
  omega

set_option maxRecDepth 100000 in
set_option maxHeartbeats 4000000 in
theorem regionsOK_any (rs : List RegD) (v : Value) (w : World) (hv : RegsV w v rs) (hl : rs.length ≤ 4611686018427387903) :
    Calls Tryd.prog 48 #[v] w fun e w' => e = .returned (.bool (regsF rs)) ∧ Below w.heap.size w w' := by
  obtain ⟨va, cap, rfl, hc⟩ := hv
  have HC : Hid _ := hc
  clear hc
  go_enter Tryd.func48, Tryd.ntmps48
  go_wp2_with fail
  have hu0 : (w.alloc (.cells #[.bool false, .bool false, .bool false, .bool false, .bool false, .bool false, .bool false, .bool false, .bool false, .bool false, .bool false, .bool false, .bool false, .bool false, .bool false, .bool false, .bool false, .bool false, .bool false, .bool false, .bool false, .bool false, .bool false, .bool false, .bool false, .bool false, .bool false, .bool false, .bool false, .bool false, .bool false, .bool false, .bool false, .bool false, .bool false, .bool false, .bool false, .bool false, .bool false, .bool false, .bool false, .bool false, .bool false, .bool false, .bool false, .bool false, .bool false, .bool false, .bool false, .bool false, .bool false, .bool false, .bool false, .bool false, .bool false, .bool false, .bool false, .bool false, .bool false, .bool false, .bool false, .bool false, .bool false, .bool false] 98)).heap[w.heap.size]? = some (.cells (usedV fun _ => false) 98 (0, 0)) := by rw [used_lit]; exact heap_new _ _
  have hb0 : Below w.heap.size w (w.alloc (.cells #[.bool false, .bool false, .bool false, .bool false, .bool false, .bool false, .bool false, .bool false, .bool false, .bool false, .bool false, .bool false, .bool false, .bool false, .bool false, .bool false, .bool false, .bool false, .bool false, .bool false, .bool false, .bool false, .bool false, .bool false, .bool false, .bool false, .bool false, .bool false, .bool false, .bool false, .bool false, .bool false, .bool false, .bool false, .bool false, .bool false, .bool false, .bool false, .bool false, .bool false, .bool false, .bool false, .bool false, .bool false, .bool false, .bool false, .bool false, .bool false, .bool false, .bool false, .bool false, .bool false, .bool false, .bool false, .bool false, .bool false, .bool false, .bool false, .bool false, .bool false, .bool false, .bool false, .bool false, .bool false] 98)) := (Below.refl _ _).alloc (Nat.le_refl _) _
  generalize w.alloc (.cells #[.bool false, .bool false, .bool false, .bool false, .bool false, .bool false, .bool false, .bool false, .bool false, .bool false, .bool false, .bool false, .bool false, .bool false, .bool false, .bool false, .bool false, .bool false, .bool false, .bool false, .bool false, .bool false, .bool false, .bool false, .bool false, .bool false, .bool false, .bool false, .bool false, .bool false, .bool false, .bool false, .bool false, .bool false, .bool false, .bool false, .bool false, .bool false, .bool false, .bool false, .bool false, .bool false, .bool false, .bool false, .bool false, .bool false, .bool false, .bool false, .bool false, .bool false, .bool false, .bool false, .bool false, .bool false, .bool false, .bool false, .bool false, .bool false, .bool false, .bool false, .bool false, .bool false, .bool false, .bool false] 98) = W0 at *
  go_loopw [4] (fun i wr => ∃ (k : Nat) (u : Nat → Bool), i = .int .i64 k ∧ k ≤ rs.length ∧ wr.heap[w.heap.size]? = some (.cells (usedV u) 98 (0, 0)) ∧ Below w.heap.size w wr ∧ Hid (RegsOK (rs.take k)) ∧ Hid (∀ q : Nat, q < 64 → (u q = true ↔ ∃ a ∈ rs.take k, hit a q))) (fun i _ => rs.length - (intOf i).toNat)
  case atStart => exact ⟨0, _, rfl, by omega, hu0, hb0, by simp [Hid, RegsOK], by simp [Hid]⟩
  case round =>
    obtain ⟨k, u, rfl, hk, hu, hbel, HO, HU⟩ := hrel
    by_cases hlt : k < rs.length
    · obtain ⟨b, off, rfl, c0, c1, c2⟩ := HC.out k hlt
      have hbl := World.block_lt_of_cell? w _ c0
      have d0 := (hbel.cell (by exact hbl)).trans c0
      have d1 := (hbel.cell (by exact hbl)).trans c1
      have d2 := (hbel.cell (by exact hbl)).trans c2
      have hlt' : (k : Int) < (rs.length : Int) := by omega
      have hk0 : (0 : Int) ≤ (k : Int) := by omega
      have hub := lt_of_blk hu
      by_cases hbad : regB rs[k] = false
      · have hF := regs_bad hlt hbad
        have hwr : 0 ≤ rs[k].page → rs[k].page ≤ 63 → 1 ≤ rs[k].pages → rs[k].pages ≤ 64 → IntKind.i64.wrap (rs[k].page + rs[k].pages) = rs[k].page + rs[k].pages := fun _ _ _ _ => wrap_small _ (by omega) (by omega)
        have HF : Hid _ := hF
        clear hF
        generalize rs[k] = r at *
        unfold regB at hbad
        simp only [decide_eq_false_iff_not] at hbad
        have hcase : r.page < 0 ∨ (¬ r.page < 0 ∧ 63 < r.page) ∨ (¬ r.page < 0 ∧ ¬ 63 < r.page ∧ r.pages < 1) ∨ (¬ r.page < 0 ∧ ¬ 63 < r.page ∧ ¬ r.pages < 1 ∧ 64 < r.pages) ∨ (¬ r.page < 0 ∧ ¬ 63 < r.page ∧ ¬ r.pages < 1 ∧ ¬ 64 < r.pages ∧ 64 < r.page + r.pages) ∨ (¬ r.page < 0 ∧ ¬ 63 < r.page ∧ ¬ r.pages < 1 ∧ ¬ 64 < r.pages ∧ ¬ 64 < r.page + r.pages ∧ ¬ r.rights = 1 ∧ ¬ r.rights = 2) := by omega
        clear hbad
        rcases hcase with h1 | ⟨h1, h2⟩ | ⟨h1, h2, h3⟩ | ⟨h1, h2, h3, h4⟩ | ⟨h1, h2, h3, h4, h5⟩ | ⟨h1, h2, h3, h4, h5, h6, h7⟩
        all_goals (try have hw := hwr (by omega) (by omega) (by omega) (by omega))
        all_goals clear hwr
        all_goals (try have hr1 : (r.rights != 1 && r.rights != 2) = true := by simp; omega)
        all_goals (try (have h6' : (r.rights != 1) = true := by simp; omega))
        all_goals (try (have h7' : (r.rights != 2) = true := by simp; omega))
        all_goals go_wp2_with fail
        all_goals go_ret
        all_goals exact ⟨by rw [HF.out]; rfl, hbel.alloc hbel.size _⟩
      · have hgood : regB rs[k] = true := by simpa using hbad
        clear hbad
        have HG : Hid _ := hgood
        have hpg : 0 ≤ rs[k].page ∧ rs[k].page ≤ 63 ∧ 1 ≤ rs[k].pages ∧ rs[k].pages ≤ 64 ∧ rs[k].page + rs[k].pages ≤ 64 ∧ (rs[k].rights = 1 ∨ rs[k].rights = 2) := by unfold regB at hgood; simpa using hgood
        clear hgood
        generalize hrk : rs[k] = r at *
        have HRK : Hid _ := hrk
        clear hrk
        generalize wr = wz at *
        obtain ⟨h1, h2, h3, h4, h5, h6⟩ := hpg
        have hr : (r.rights != 1) = false ∨ ((r.rights != 1) = true ∧ (r.rights != 2) = false) := by
          rcases h6 with h | h
          · left; rw [h]; rfl
          · right; rw [h]; exact ⟨rfl, rfl⟩
        clear h6
        have hw : IntKind.i64.wrap (r.page + r.pages) = r.page + r.pages := wrap_small _ (by omega) (by omega)
        have n1 : ¬ r.page < 0 := by omega
        have n2 : ¬ 63 < r.page := by omega
        have n3 : ¬ r.pages < 1 := by omega
        have n4 : ¬ 64 < r.pages := by omega
        have n5 : ¬ 64 < r.page + r.pages := by omega
        rcases hr with q1 | ⟨q1, q2⟩
        all_goals (
          go_wp2_with fail
          have hb1 := hbel.alloc hbel.size (.cells #[.int .i64 r.page, .int .i64 r.pages, .int .i64 r.rights] 48)
          have hu1 := heap_old wz (.cells #[.int .i64 r.page, .int .i64 r.pages, .int .i64 r.rights] 48) hu
          have hr1 := heap_new wz (.cells #[.int .i64 r.page, .int .i64 r.pages, .int .i64 r.rights] 48)
          have hne : wz.heap.size ≠ w.heap.size := by omega
          have hsz := hbel.size
          clear hbel hu hub d0 d1 d2 n1 n2 n3 n4 n5 hu0 hb0
          generalize wz.alloc (.cells #[.int .i64 r.page, .int .i64 r.pages, .int .i64 r.rights] 48) = W1 at *
          generalize wz.heap.size = rb at *
          go_loopw [6] (fun i wx => ∃ (q : Nat) (u' : Nat → Bool), i = .int .i64 q ∧ r.page ≤ q ∧ q ≤ r.page + r.pages ∧ wx.heap[w.heap.size]? = some (.cells (usedV u') 98 (0, 0)) ∧ wx.heap[rb]? = some (.cells #[.int .i64 r.page, .int .i64 r.pages, .int .i64 r.rights] 48 (0, 0)) ∧ Below w.heap.size w wx ∧ Hid (∀ j : Nat, j < 64 → (u' j = true ↔ u j = true ∨ (r.page ≤ j ∧ j < q))) ∧ Hid (∀ j : Nat, r.page ≤ j → j < q → u j = false)) (fun i _ => (r.page + r.pages).toNat - (intOf i).toNat)
          case atStart => exact ⟨r.page.toNat, u, by congr; omega, by omega, by omega, hu1, hr1, hb1, by intro j hj; constructor; exact fun h => .inl h; rintro (h | h); exact h; omega, by intro j h7 h8; omega⟩
          case round =>
            obtain ⟨q, u', rfl, hq1, hq2, hux, hrx, hbx, HU', HN⟩ := hrel
            have x0 : wr.cell? ⟨rb, 0, none⟩ = some (.int .i64 r.page) := by rw [cell_of_blk hrx]; rfl
            have x1 : wr.cell? ⟨rb, 1, none⟩ = some (.int .i64 r.pages) := by rw [cell_of_blk hrx]; rfl
            by_cases hqlt : (q : Int) < r.page + r.pages
            · have hq64 : q < 64 := by omega
              have hq64' : (q : Int) < 64 := by omega
              have hq0 : (0 : Int) ≤ (q : Int) := by omega
              have y0 : wr.cell? ⟨w.heap.size, q, none⟩ = some (.bool (u' q)) := by rw [cell_of_blk hux, usedV_at u' q hq64]
              have z0 := frozen_of_blk (i := q) hux
              cases hcu : u' q
              · rw [hcu] at y0
                go_wp2_with fail
                go_roundw
                case rel =>
                  refine ⟨q + 1, fun j => if j = q then true else u' j, by go_num, by omega, by omega, ?_, ?_, hbx.setCell (Nat.le_refl _) _, ?_, ?_⟩
                  · rw [blk_set q _ hux, usedV_set]
                  · rw [blk_far _ _ hne]; exact hrx
                  · intro j hj
                    by_cases e : j = q
                    · subst e; simp; omega
                    · simp only [if_neg e]; rw [HU'.out j hj]; constructor
                      · rintro (h | h)
                        · exact .inl h
                        · exact .inr (by omega)
                      · rintro (h | h)
                        · exact .inl h
                        · exact .inr (by omega)
                  · intro j h7 h8
                    by_cases e : j = q
                    · subst e
                      have := HU'.out j hq64
                      rw [hcu] at this
                      cases hu : u j
                      · rfl
                      · rw [hu] at this; simp at this
                    · exact HN.out j h7 (by omega)
                case measure => simp [intOf]; omega
              · rw [hcu] at y0
                go_wp2_with fail
                go_ret
                have hF : regsF rs = false := by
                  refine regs_hit (q := q) hlt (by rw [HRK.out]; exact ⟨hq1, hqlt⟩) ?_
                  rw [← HU.out q hq64]
                  have := (HU'.out q hq64).1 hcu
                  rcases this with h | h
                  · exact h
                  · omega
                exact ⟨by rw [hF]; rfl, hbx⟩
            · have hqe : (q : Int) = r.page + r.pages := by omega
              go_wp2_with fail
              go_roundw
              case rel =>
                refine ⟨k + 1, u', by go_num, by omega, hux, hbx, ?_, ?_⟩
                · refine regs_step hlt HO.out (by rw [HRK.out]; exact HG.out) ?_
                  rw [HRK.out]
                  intro j hj h7
                  rw [← HU.out j hj, HN.out j h7.1 (by have := h7.2; omega)]
                  simp
                · intro j hj
                  rw [HU'.out j hj, HU.out j hj, hit_step hlt, HRK.out]
                  unfold hit
                  constructor
                  · rintro (h | h)
                    · exact .inl h
                    · exact .inr (by omega)
                  · rintro (h | h)
                    · exact .inl h
                    · exact .inr (by omega)
              case measure => simp [intOf]; omega)
    · have hkn : k = rs.length := by omega
      subst hkn
      go_wp2_with fail
      go_ret
      exact ⟨by rw [(regsF_iff rs).2 (by have := HO.out; rwa [List.take_length] at this)]; rfl, hbel⟩
end Go.Proofs.YtpjkmfhabbclhaaDoor.C
