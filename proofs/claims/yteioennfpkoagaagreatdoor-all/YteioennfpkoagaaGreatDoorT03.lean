import Derived.Test.YteioennfpkoagaaGreatDoorT02
import Derived.Test.YteioennfpkoagaaGreatDoorB18
import Derived.Test.YteioennfpkoagaaGreatDoorB12
namespace Go.Proofs.YteioennfpkoagaaGreatDoor.C
open Go.RowKit K
attribute [local go_sem ↓] Go.wp_at_zero Go.wp_at_succ

section
variable {W w w' : World} {kb : Nat} {pv cv qv sv lv mv : Value} {D : ManD} {S : KS} {ss : List StD} {ls : List CellD} {ms : List MsgR}
set_option maxRecDepth 100000 in
set_option maxHeartbeats 2000000 in
theorem rstate_any (hz : checkF D = 0) (h : RKv W w kb pv cv qv sv lv mv D S ss ls ms) (p : Int) (hp : inR p) :
    Calls Tryz.prog 160 #[ptrV kb, .int .i64 p] w fun e w' => e = .returned (.tuple #[stV (stateF D S p).1, .int .i64 (stateF D S p).2]) ∧ Below w.heap.size w w' := by
  have hn : D.parts.length ≤ 8 := (check_ok hz).2.2.1
  have b0 := newB w (.cells #[.bool false, .int .i64 0, .int .i64 0] 76)
  have h := h.below b0
  obtain ⟨va, cap, rfl, hst⟩ := h.state
  have c5 : (w.alloc (.cells #[.bool false, .int .i64 0, .int .i64 0] 76)).cell? ⟨kb, 5, none⟩ = some (.slice va D.parts.length cap) := by rw [cell_of_blk h.ker]; rfl
  have HPT : Hid _ := hst
  obtain ⟨hp1, hp2⟩ := hp
  clear hst h hz b0
  unfold ptrV at *
  by_cases h0 : p < 0
  · have HT : Hid (stateF D S p = (⟨false, 0, 0⟩, 19)) := by show _ = _; unfold stateF; rw [if_pos (.inl h0)]
    go_enter Tryz.func160, Tryz.ntmps160
    go_wp2_with fail
    have hh := heap_new w (.cells #[.bool false, .int .i64 0, .int .i64 0] 76)
    have n0 : (w.alloc (.cells #[.bool false, .int .i64 0, .int .i64 0] 76)).cell? ⟨w.heap.size, 0, none⟩ = some (.bool false) := by rw [cell_of_blk hh]; rfl
    have n1 : (w.alloc (.cells #[.bool false, .int .i64 0, .int .i64 0] 76)).cell? ⟨w.heap.size, 1, none⟩ = some (.int .i64 0) := by rw [cell_of_blk hh]; rfl
    have n2 : (w.alloc (.cells #[.bool false, .int .i64 0, .int .i64 0] 76)).cell? ⟨w.heap.size, 2, none⟩ = some (.int .i64 0) := by rw [cell_of_blk hh]; rfl
    exact bodyPost_ret (v := .tuple #[.agg #[.bool false, .int .i64 0, .int .i64 0], .int .i64 19]) (by simp [results, Tryz.results160, go_sem, n0, n1, n2]) rfl ⟨by rw [HT.out]; rfl, newB w _⟩
  · by_cases h1 : (D.parts.length : Int) ≤ p
    · have HT : Hid (stateF D S p = (⟨false, 0, 0⟩, 19)) := by show _ = _; unfold stateF; rw [if_pos (.inr h1)]
      go_enter Tryz.func160, Tryz.ntmps160
      go_wp2_with fail
      have hh := heap_new w (.cells #[.bool false, .int .i64 0, .int .i64 0] 76)
      have n0 : (w.alloc (.cells #[.bool false, .int .i64 0, .int .i64 0] 76)).cell? ⟨w.heap.size, 0, none⟩ = some (.bool false) := by rw [cell_of_blk hh]; rfl
      have n1 : (w.alloc (.cells #[.bool false, .int .i64 0, .int .i64 0] 76)).cell? ⟨w.heap.size, 1, none⟩ = some (.int .i64 0) := by rw [cell_of_blk hh]; rfl
      have n2 : (w.alloc (.cells #[.bool false, .int .i64 0, .int .i64 0] 76)).cell? ⟨w.heap.size, 2, none⟩ = some (.int .i64 0) := by rw [cell_of_blk hh]; rfl
      exact bodyPost_ret (v := .tuple #[.agg #[.bool false, .int .i64 0, .int .i64 0], .int .i64 19]) (by simp [results, Tryz.results160, go_sem, n0, n1, n2]) rfl ⟨by rw [HT.out]; rfl, newB w _⟩
    · obtain ⟨i, rfl⟩ : ∃ i : Nat, p = i := ⟨p.toNat, by omega⟩
      have hi : i < D.parts.length := by omega
      have hi1 : (i : Int) < (D.parts.length : Int) := by omega
      have hi0 : (0 : Int) ≤ (i : Int) := by omega
      obtain ⟨gb, rfl, s0, s1, s2⟩ := HPT.out i hi
      have HT : Hid (stateF D S i = (S.sts i, 0)) := by
        show _ = _
        unfold stateF
        rw [if_neg (by omega), Int.toNat_natCast]
      clear HPT
      go_enter Tryz.func160, Tryz.ntmps160
      go_wp2_with fail
      have hh := heap_new w (.cells #[.bool (S.sts i).stopped, .int .i64 (S.sts i).faults, .int .i64 (S.sts i).restarts] 76)
      have n0 : (w.alloc (.cells #[.bool (S.sts i).stopped, .int .i64 (S.sts i).faults, .int .i64 (S.sts i).restarts] 76)).cell? ⟨w.heap.size, 0, none⟩ = some (.bool (S.sts i).stopped) := by rw [cell_of_blk hh]; rfl
      have n1 : (w.alloc (.cells #[.bool (S.sts i).stopped, .int .i64 (S.sts i).faults, .int .i64 (S.sts i).restarts] 76)).cell? ⟨w.heap.size, 1, none⟩ = some (.int .i64 (S.sts i).faults) := by rw [cell_of_blk hh]; rfl
      have n2 : (w.alloc (.cells #[.bool (S.sts i).stopped, .int .i64 (S.sts i).faults, .int .i64 (S.sts i).restarts] 76)).cell? ⟨w.heap.size, 2, none⟩ = some (.int .i64 (S.sts i).restarts) := by rw [cell_of_blk hh]; rfl
      exact bodyPost_ret (v := .tuple #[.agg #[.bool (S.sts i).stopped, .int .i64 (S.sts i).faults, .int .i64 (S.sts i).restarts], .int .i64 0]) (by simp [results, Tryz.results160, go_sem, n0, n1, n2]) rfl ⟨by rw [HT.out]; rfl, newB w _⟩
end
end Go.Proofs.YteioennfpkoagaaGreatDoor.C
namespace Go.Proofs.YteioennfpkoagaaGreatDoor.C
open Go.RowKit K
attribute [local go_sem ↓] Go.wp_at_zero Go.wp_at_succ

theorem flat_set3 {α β : Type} (f : α → List β) (hf : ∀ x, (f x).length = 3) : ∀ (l : List α) (i j : Nat) (u : β) (y : α), (hi : i < l.length) → j < 3 → f y = (f l[i]).set j u → (l.flatMap f).set (i * 3 + j) u = (l.set i y).flatMap f
  | [], _, _, _, _, hi, _, _ => absurd hi (by simp)
  | x :: l, 0, j, u, y, _, hj, e => by
    have e' : f y = (f x).set j u := e
    rw [List.flatMap_cons, List.set_cons_zero, List.flatMap_cons, e', Nat.zero_mul, Nat.zero_add, List.set_append_left _ _ (by rw [hf]; exact hj)]
  | x :: l, i + 1, j, u, y, hi, hj, e => by
    have hi' : i < l.length := by simpa using hi
    have e' : f y = (f l[i]).set j u := e
    rw [List.flatMap_cons, List.set_cons_succ, List.flatMap_cons, List.set_append_right _ _ (by rw [hf]; omega), hf]
    have e2 : (i + 1) * 3 + j - 3 = i * 3 + j := by omega
    rw [e2, flat_set3 f hf l i j u y hi' hj e']
section
variable {W w w' : World} {kb : Nat} {pv cv qv lv mv : Value} {D : ManD} {S T : KS} {ss : List StD} {ls : List CellD} {ms : List MsgR} {g cap : Nat}
theorem RKv.row (h : RKv W w kb pv cv qv (.slice (some ⟨g, 0, none⟩) D.parts.length cap) lv mv D S ss ls ms) : ∃ cs, w.heap[g]? = some (.cells cs 76 (0, 0)) ∧ W.heap.size ≤ g := by
  rcases h.sts.2 with ⟨hv, _⟩ | ⟨g', cap', cur, hv, _, hg, hlo, _⟩
  · cases hv
  · cases hv
    exact ⟨_, hg, (h.sts.lt g rfl).1⟩
/- a partition's state, one cell of it -/
theorem RKv.setSt (h : RKv W w kb pv cv qv (.slice (some ⟨g, 0, none⟩) D.parts.length cap) lv mv D S ss ls ms) {i j : Nat} (hi : i < D.parts.length) (hj : j < 3) (u : Value) (s' : StD) (hs : stC s' = (stC (S.sts i)).set j u)
    (hT : T = { S with sts := fun q => if q = i then s' else S.sts q }) : RKv W (w.setCell ⟨g, i * 3 + j, none⟩ u) kb pv cv qv (.slice (some ⟨g, 0, none⟩) D.parts.length cap) lv mv D T (ss.set i s') ls ms := by
  obtain ⟨cs, hg, hlo⟩ := h.row
  have hl := h.slen
  have hi2 : i < ss.length := by omega
  have hne : kb ≠ g := fun e => by
    have h1 := h.ker
    rw [e, hg] at h1
    injection h1 with h1
    injection h1 with _ h2 _
    exact absurd h2 (by decide)
  have far : ∀ {B e s n : Nat} {v : Value} {xs : List Value}, w.ownsRow B e s v n xs → 76 ≠ e → (w.setCell ⟨g, i * 3 + j, none⟩ u).ownsRow B e s v n xs := fun ho ht =>
    owns_keep ho fun b hb => blk_far _ _ (fun e => own_not_blk ho hg ht (e ▸ hb.symm))
  subst hT
  refine ⟨h.base.setCell (p := ⟨g, i * 3 + j, none⟩) hlo _, h.parts, h.chans, h.lo, by rw [blk_far _ _ hne]; exact h.ker, far h.pln (by decide), ?_, far h.cel (by decide), far h.msg (by decide), by rw [List.length_set]; exact hl, fun q hq => ?_, h.mem, h.chs, h.mr⟩
  · rw [← flat_set3 stC (fun _ => rfl) ss i j u s' hi2 hj (by rw [h.sst i hi2]; exact hs)]
    exact own_set h.sts (by omega) u
  · rw [List.getElem_set]
    have hq2 : q < ss.length := by simpa using hq
    by_cases e : i = q
    · rw [if_pos e]
      show s' = if q = i then s' else S.sts q
      rw [if_pos e.symm]
    · rw [if_neg e]
      show _ = if q = i then s' else S.sts q
      rw [if_neg (fun x => e x.symm)]
      exact h.sst q hq2
end
end Go.Proofs.YteioennfpkoagaaGreatDoor.C
namespace Go.Proofs.YteioennfpkoagaaGreatDoor.C
open Go.RowKit K
attribute [local go_sem ↓] Go.wp_at_zero Go.wp_at_succ

/- the blocks of the reference's kernel -/
def RKo (kb : Nat) (qv sv lv mv : Value) (b : Nat) : Prop := b = kb ∨ some b = qv.ownBlock ∨ some b = sv.ownBlock ∨ some b = lv.ownBlock ∨ some b = mv.ownBlock
section
variable {W w w' : World} {kb : Nat} {pv cv qv sv lv mv : Value} {D : ManD} {S T : KS} {ss : List StD} {ls : List CellD} {ms : List MsgR}
set_option maxRecDepth 100000 in
set_option maxHeartbeats 2000000 in
theorem rfails_one (hz : checkF D = 0) (h : RKv W w kb pv cv qv sv lv mv D S ss ls ms) (hs : SmallK bigK S) (i : Nat) (hi : i < D.parts.length) (hact : D.parts[i].action = 1) :
    Calls Tryz.prog 159 #[ptrV kb, .int .i64 i] w fun e w' => e = .returned (.tuple #[]) ∧ (∃ ss', RKv W w' kb pv cv qv sv lv mv D (failF D S i) ss' ls ms) ∧ Frm (RKo kb qv sv lv mv) w w' := by
  have hn : D.parts.length ≤ 8 := (check_ok hz).2.2.1
  obtain ⟨va, cap, rfl, hst⟩ := h.state
  obtain ⟨g, rfl, s0, s1, s2⟩ := hst i hi
  obtain ⟨pa, pcap, rfl, hps⟩ := h.seenP
  obtain ⟨b, off, rv, rfl, x0, x1, x2, x3, x4, xr⟩ := hps i hi
  have c1 : w.cell? ⟨kb, 1, none⟩ = some (.slice (some ⟨b, off, none⟩) D.parts.length pcap) := by rw [cell_of_blk h.ker]; rfl
  have c5 : w.cell? ⟨kb, 5, none⟩ = some (.slice (some ⟨g, 0, none⟩) D.parts.length cap) := by rw [cell_of_blk h.ker]; rfl
  obtain ⟨rc, hg, hlo⟩ := h.row
  have hf : (S.sts i).faults ≤ 4611686018427387904 := (hs.flt i).2
  have hf0 := (hs.flt i).1
  have w1 : IntKind.i64.wrap ((S.sts i).faults + 1) = (S.sts i).faults + 1 := by
    generalize (S.sts i).faults = z at *
    simp [IntKind.wrap, IntKind.bits, IntKind.signed]
    omega
  have f1 : w.frozen? ⟨g, i * 3 + 1, none⟩ = false := frozen_of_blk hg
  have HF : Hid (failF D S i = { S with sts := fun q => if q = i then ⟨(S.sts i).stopped, (S.sts i).faults + 1, (S.sts i).restarts⟩ else S.sts q }) := by
    show _ = _
    have ha : actF D i = 1 := by simp [actF, List.getElem?_eq_getElem hi, hact]
    unfold failF
    rw [ha]
    congr 1
    · funext q
      by_cases e : q = i
      · subst e; simp [failSt]
      · simp [e]
    all_goals (funext q; simp)
  have hk := h.setSt (T := failF D S i) hi (j := 1) (by omega) (.int .i64 ((S.sts i).faults + 1)) ⟨(S.sts i).stopped, (S.sts i).faults + 1, (S.sts i).restarts⟩ rfl HF.out
  have HKV : Hid _ := hk
  have hr : Frm (RKo kb qv (.slice (some ⟨g, 0, none⟩) D.parts.length cap) lv mv) w (w.setCell ⟨g, i * 3 + 1, none⟩ (.int .i64 ((S.sts i).faults + 1))) := (Frm.refl _ _).set (.inl (.inr (.inr (.inl rfl)))) _ _
  have HFR : Hid _ := hr
  have hbn : b < W.heap.size := by
    obtain ⟨pa2, pc2, e2, hps2⟩ := h.parts
    cases e2
    obtain ⟨b2, off2, rv2, e3, y0, _⟩ := hps2 i hi
    cases e3
    exact World.block_lt_of_cell? W _ y0
  have d3 : (w.setCell ⟨g, i * 3 + 1, none⟩ (.int .i64 ((S.sts i).faults + 1))).cell? ⟨b, off + i * 5 + 3, none⟩ = some (.int .i64 1) := by
    have hne : b ≠ g := by omega
    rw [cell_same (blk_far _ _ hne), x3, hact]
  have d1 : (w.setCell ⟨g, i * 3 + 1, none⟩ (.int .i64 ((S.sts i).faults + 1))).cell? ⟨kb, 1, none⟩ = some (.slice (some ⟨b, off, none⟩) D.parts.length pcap) := by
    rw [cell_of_blk HKV.out.ker]; rfl
  clear hk hr h hst hps x0 x1 x2 x3 x4 xr hg hlo hs hz hact hbn s0 s2
  have hi0 : (0 : Int) ≤ (i : Int) := by omega
  have hi1 : (i : Int) < (D.parts.length : Int) := by omega
  unfold ptrV
  go_enter Tryz.func159, Tryz.ntmps159
  go_wp2_with fail
  go_end0
  exact ⟨rfl, ⟨_, HKV.out⟩, HFR.out⟩
end
end Go.Proofs.YteioennfpkoagaaGreatDoor.C
namespace Go.Proofs.YteioennfpkoagaaGreatDoor.C
open Go.RowKit K
attribute [local go_sem ↓] Go.wp_at_zero Go.wp_at_succ

section
variable {W w w' : World} {kb : Nat} {pv cv qv sv lv mv : Value} {D : ManD} {S T : KS} {ss : List StD} {ls : List CellD} {ms : List MsgR}
set_option maxRecDepth 100000 in
set_option maxHeartbeats 2000000 in
theorem rfails_two (hz : checkF D = 0) (h : RKv W w kb pv cv qv sv lv mv D S ss ls ms) (hs : SmallK bigK S) (i : Nat) (hi : i < D.parts.length) (hact : D.parts[i].action = 2) :
    Calls Tryz.prog 159 #[ptrV kb, .int .i64 i] w fun e w' => e = .returned (.tuple #[]) ∧ (∃ ss', RKv W w' kb pv cv qv sv lv mv D (failF D S i) ss' ls ms) ∧ Frm (RKo kb qv sv lv mv) w w' := by
  have hn : D.parts.length ≤ 8 := (check_ok hz).2.2.1
  obtain ⟨va, cap, rfl, hst⟩ := h.state
  obtain ⟨g, rfl, s0, s1, s2⟩ := hst i hi
  obtain ⟨pa, pcap, rfl, hps⟩ := h.seenP
  obtain ⟨b, off, rv, rfl, x0, x1, x2, x3, x4, xr⟩ := hps i hi
  have c1 : w.cell? ⟨kb, 1, none⟩ = some (.slice (some ⟨b, off, none⟩) D.parts.length pcap) := by rw [cell_of_blk h.ker]; rfl
  have c5 : w.cell? ⟨kb, 5, none⟩ = some (.slice (some ⟨g, 0, none⟩) D.parts.length cap) := by rw [cell_of_blk h.ker]; rfl
  obtain ⟨rc, hg, hlo⟩ := h.row
  have hf : (S.sts i).faults ≤ 4611686018427387904 := (hs.flt i).2
  have hf0 := (hs.flt i).1
  have w1 : IntKind.i64.wrap ((S.sts i).faults + 1) = (S.sts i).faults + 1 := by
    generalize (S.sts i).faults = z at *
    simp [IntKind.wrap, IntKind.bits, IntKind.signed]
    omega
  have f1 : w.frozen? ⟨g, i * 3 + 1, none⟩ = false := frozen_of_blk hg
  obtain ⟨S1, hS1⟩ : ∃ S1 : KS, S1 = { S with sts := fun q => if q = i then ⟨(S.sts i).stopped, (S.sts i).faults + 1, (S.sts i).restarts⟩ else S.sts q } := ⟨_, rfl⟩
  have hS1i : S1.sts i = ⟨(S.sts i).stopped, (S.sts i).faults + 1, (S.sts i).restarts⟩ := by rw [hS1]; simp
  have HF : Hid (failF D S i = { S1 with sts := fun q => if q = i then ⟨true, (S.sts i).faults + 1, (S.sts i).restarts⟩ else S1.sts q }) := by
    show _ = _
    have ha : actF D i = 2 := by simp [actF, List.getElem?_eq_getElem hi, hact]
    rw [hS1]
    unfold failF
    rw [ha]
    congr 1
    · funext q
      by_cases e : q = i
      · subst e; simp [failSt]
      · simp [e]
    all_goals (funext q; simp)
  have hk1 := h.setSt (T := S1) hi (j := 1) (by omega) (.int .i64 ((S.sts i).faults + 1)) ⟨(S.sts i).stopped, (S.sts i).faults + 1, (S.sts i).restarts⟩ rfl hS1
  have hk := hk1.setSt (T := failF D S i) hi (j := 0) (by omega) (.bool true) ⟨true, (S.sts i).faults + 1, (S.sts i).restarts⟩ (by rw [hS1i]; rfl) HF.out
  obtain ⟨rc1, hg1, _⟩ := hk1.row
  have t0 : (w.setCell ⟨g, i * 3 + 1, none⟩ (.int .i64 ((S.sts i).faults + 1))).cell? ⟨g, i * 3, none⟩ = some (.bool (S.sts i).stopped) := by
    obtain ⟨va2, cap2, e2, hst2⟩ := hk1.state
    cases e2
    obtain ⟨g2, e3, y0, _⟩ := hst2 i hi
    cases e3
    rw [y0, hS1i]
  have t1 : (w.setCell ⟨g, i * 3 + 1, none⟩ (.int .i64 ((S.sts i).faults + 1))).frozen? ⟨g, i * 3, none⟩ = false := frozen_of_blk hg1
  have t5 : (w.setCell ⟨g, i * 3 + 1, none⟩ (.int .i64 ((S.sts i).faults + 1))).cell? ⟨kb, 5, none⟩ = some (.slice (some ⟨g, 0, none⟩) D.parts.length cap) := by rw [cell_of_blk hk1.ker]; rfl
  have HKV : Hid _ := hk
  have hr : Frm (RKo kb qv (.slice (some ⟨g, 0, none⟩) D.parts.length cap) lv mv) w ((w.setCell ⟨g, i * 3 + 1, none⟩ (.int .i64 ((S.sts i).faults + 1))).setCell ⟨g, i * 3, none⟩ (.bool true)) := ((Frm.refl _ _).set (.inl (.inr (.inr (.inl rfl)))) _ _).set (.inl (.inr (.inr (.inl rfl)))) _ _
  have HFR : Hid _ := hr
  have hbn : b < W.heap.size := by
    obtain ⟨pa2, pc2, e2, hps2⟩ := h.parts
    cases e2
    obtain ⟨b2, off2, rv2, e3, y0, _⟩ := hps2 i hi
    cases e3
    exact World.block_lt_of_cell? W _ y0
  have d3 : (w.setCell ⟨g, i * 3 + 1, none⟩ (.int .i64 ((S.sts i).faults + 1))).cell? ⟨b, off + i * 5 + 3, none⟩ = some (.int .i64 2) := by
    have hne : b ≠ g := by omega
    rw [cell_same (blk_far _ _ hne), x3, hact]
  have d1 : (w.setCell ⟨g, i * 3 + 1, none⟩ (.int .i64 ((S.sts i).faults + 1))).cell? ⟨kb, 1, none⟩ = some (.slice (some ⟨b, off, none⟩) D.parts.length pcap) := by
    rw [cell_of_blk hk1.ker]; rfl
  clear hk hk1 hg1 hS1i hS1 hr h hst hps x0 x1 x2 x3 x4 xr hg hlo hs hz hact hbn s0 s2
  have hi0 : (0 : Int) ≤ (i : Int) := by omega
  have hi1 : (i : Int) < (D.parts.length : Int) := by omega
  unfold ptrV
  go_enter Tryz.func159, Tryz.ntmps159
  go_wp2_with fail
  go_end0
  exact ⟨rfl, ⟨_, HKV.out⟩, HFR.out⟩
end
end Go.Proofs.YteioennfpkoagaaGreatDoor.C
namespace Go.Proofs.YteioennfpkoagaaGreatDoor.C
open Go.RowKit K
attribute [local go_sem ↓] Go.wp_at_zero Go.wp_at_succ

/- the place of a channel's first message from k on, and how many it has there -/
def frsF (l : List MsgR) (c : Int) : Nat → Nat → Int × Int
  | 0, _ => (-1, 0)
  | n + 1, k => if (l[k]?.map MsgR.c) = some c then ((k : Int), (frsF l c n (k + 1)).2 + 1) else frsF l c n (k + 1)
section
variable {W w w' : World} {kb : Nat} {pv cv qv sv lv mv : Value} {D : ManD} {S T : KS} {ss : List StD} {ls : List CellD} {ms : List MsgR}
theorem RKv.msgs (h : RKv W w kb pv cv qv sv lv mv D S ss ls ms) : ∃ va cap, mv = .slice va ms.length cap ∧ ∀ i (hi : i < ms.length), ∃ g, va = some ⟨g, 0, none⟩ ∧ w.cell? ⟨g, i * 3, none⟩ = some (.int .i64 ms[i].c) ∧ w.cell? ⟨g, i * 3 + 1, none⟩ = some (.string ms[i].text) ∧ w.cell? ⟨g, i * 3 + 2, none⟩ = some (.int .i64 (ms[i].time : Int)) := by
  rcases own_form h.msg with ⟨h0, rfl⟩ | ⟨g, cap, rfl, _⟩
  · exact ⟨none, 0, by rw [h0], fun i hi => absurd hi (by omega)⟩
  · refine ⟨some ⟨g, 0, none⟩, cap, rfl, fun i hi => ⟨g, rfl, ?_⟩⟩
    have hc : ∀ j, j < 3 → w.cell? ⟨g, i * 3 + j, none⟩ = (mgC ms[i])[j]? := fun j hj => by
      rw [World.ownsRow.cellAt h.msg (i * 3 + j) (by omega), flat3 mgC (fun _ => rfl) ms i j hj, List.getElem?_eq_getElem hi]
      rfl
    exact ⟨hc 0 (by omega), hc 1 (by omega), hc 2 (by omega)⟩
theorem RKv.cells (h : RKv W w kb pv cv qv sv lv mv D S ss ls ms) : ∃ va cap, lv = .slice va ls.length cap ∧ ∀ i (hi : i < ls.length), ∃ g, va = some ⟨g, 0, none⟩ ∧ w.cell? ⟨g, i * 3, none⟩ = some (.int .i64 ls[i].p) ∧ w.cell? ⟨g, i * 3 + 1, none⟩ = some (.int .i64 ls[i].a) ∧ w.cell? ⟨g, i * 3 + 2, none⟩ = some (.int .i64 ls[i].b) := by
  rcases own_form h.cel with ⟨h0, rfl⟩ | ⟨g, cap, rfl, _⟩
  · exact ⟨none, 0, by rw [h0], fun i hi => absurd hi (by omega)⟩
  · refine ⟨some ⟨g, 0, none⟩, cap, rfl, fun i hi => ⟨g, rfl, ?_⟩⟩
    have hc : ∀ j, j < 3 → w.cell? ⟨g, i * 3 + j, none⟩ = (clC ls[i])[j]? := fun j hj => by
      rw [World.ownsRow.cellAt h.cel (i * 3 + j) (by omega), flat3 clC (fun _ => rfl) ls i j hj, List.getElem?_eq_getElem hi]
      rfl
    exact ⟨hc 0 (by omega), hc 1 (by omega), hc 2 (by omega)⟩
end
end Go.Proofs.YteioennfpkoagaaGreatDoor.C
namespace Go.Proofs.YteioennfpkoagaaGreatDoor.C
open Go.RowKit K
attribute [local go_sem ↓] Go.wp_at_zero Go.wp_at_succ

theorem frs_le (l : List MsgR) (c : Int) : ∀ n k, 0 ≤ (frsF l c n k).2 ∧ (frsF l c n k).2 ≤ n
  | 0, _ => by simp [frsF]
  | n + 1, k => by
    have h := frs_le l c n (k + 1)
    unfold frsF
    split
    · simp only []; omega
    · omega
theorem frs_in (l : List MsgR) (c : Int) : ∀ n k, -1 ≤ (frsF l c n k).1 ∧ (frsF l c n k).1 ≤ k + n
  | 0, k => by simp [frsF]
  | n + 1, k => by
    have h := frs_in l c n (k + 1)
    unfold frsF
    split
    · simp only []; omega
    · omega
theorem frs_step {l : List MsgR} {c : Int} {k : Nat} (hk : k < l.length) : frsF l c (l.length - k) k = if l[k].c = c then ((k : Int), (frsF l c (l.length - (k + 1)) (k + 1)).2 + 1) else frsF l c (l.length - (k + 1)) (k + 1) := by
  have e : l.length - k = (l.length - (k + 1)) + 1 := by omega
  rw [e, frsF, List.getElem?_eq_getElem hk]
  simp
section
variable {W w w' : World} {kb : Nat} {pv cv qv sv lv mv : Value} {D : ManD} {S T : KS} {ss : List StD} {ls : List CellD} {ms : List MsgR}
set_option maxRecDepth 100000 in
set_option maxHeartbeats 2000000 in
theorem rfirst_any (h : RKv W w kb pv cv qv sv lv mv D S ss ls ms) (hm : ms.length ≤ 4398046511000) (c : Int) :
    Calls Tryz.prog 212 #[ptrV kb, .int .i64 c] w fun e w' => e = .returned (.tuple #[.int .i64 (frsF ms c ms.length 0).1, .int .i64 (frsF ms c ms.length 0).2]) ∧ Below w.heap.size w w' := by
  obtain ⟨va, cap, rfl, hst⟩ := h.msgs
  have c7 : w.cell? ⟨kb, 7, none⟩ = some (.slice va ms.length cap) := by rw [cell_of_blk h.ker]; rfl
  have HST : Hid _ := hst
  clear hst h
  unfold ptrV
  have w1 : IntKind.i64.wrap ((ms.length : Int) - 1) = (ms.length : Int) - 1 := wrap_small _ (by omega) (by omega)
  go_enter Tryz.func212, Tryz.ntmps212
  go_wp2_with fail
  go_loopw [6, 7, 8] (fun av nv iv wr => ∃ k : Nat, iv = .int .i64 ((k : Int) - 1) ∧ k ≤ ms.length ∧ av = .int .i64 (frsF ms c (ms.length - k) k).1 ∧ nv = .int .i64 (frsF ms c (ms.length - k) k).2 ∧ Below w.heap.size w wr) (fun _ _ iv _ => (intOf iv + 1).toNat)
  case atStart => exact ⟨ms.length, by go_num, by omega, by simp [frsF], by simp [frsF], Below.refl _ _⟩
  case round =>
    obtain ⟨k, rfl, hk, rfl, rfl, hbel⟩ := hrel
    by_cases hlt : 0 < k
    · obtain ⟨j, rfl⟩ : ∃ j, k = j + 1 := ⟨k - 1, by omega⟩
      have hj : j < ms.length := by omega
      obtain ⟨g, rfl, m0, _, _⟩ := HST.out j hj
      have d0 := (hbel.cell (by exact World.block_lt_of_cell? w _ m0)).trans m0
      have d7 := (hbel.cell (by exact World.block_lt_of_cell? w _ c7)).trans c7
      have HS : Hid _ := frs_step (c := c) hj
      have hb := frs_le ms c (ms.length - (j + 1)) (j + 1)
      have ei : ((j + 1 : Nat) : Int) - 1 = (j : Int) := by omega
      rw [ei]
      have hj0 : (0 : Int) ≤ (j : Int) := by omega
      have hj1 : (j : Int) < (ms.length : Int) := by omega
      have w2 : IntKind.i64.wrap ((j : Int) - 1) = (j : Int) - 1 := wrap_small _ (by omega) (by omega)
      have w3 : IntKind.i64.wrap ((frsF ms c (ms.length - (j + 1)) (j + 1)).2 + 1) = (frsF ms c (ms.length - (j + 1)) (j + 1)).2 + 1 := wrap_small _ (by omega) (by omega)
      have HBE : Hid (Below w.heap.size w wr) := hbel
      clear m0 hbel c7
      generalize ms[j].c = z at *
      by_cases hc : z = c
      · subst hc
        rw [if_pos rfl] at HS
        go_wp2_with fail
        exact ⟨⟨j, by go_num, by omega, by rw [HS.out], by rw [HS.out], HBE.out⟩, by simp [intOf]⟩
      · rw [if_neg hc] at HS
        have hcb : decide (z = c) = false := decide_eq_false hc
        go_wp2_with fail
        exact ⟨⟨j, by go_num, by omega, by rw [HS.out], by rw [HS.out], HBE.out⟩, by simp [intOf]⟩
    · have hk0 : k = 0 := by omega
      subst hk0
      go_wp2_with fail
      go_ret2
      exact ⟨by simp, hbel⟩
end
end Go.Proofs.YteioennfpkoagaaGreatDoor.C
namespace Go.Proofs.YteioennfpkoagaaGreatDoor.C
open Go.RowKit K
attribute [local go_sem ↓] Go.wp_at_zero Go.wp_at_succ

theorem memOf_take {l : List CellD} {p : Nat} {a : Int} {j : Nat} (hj : j < l.length) : memOf (l.take (j + 1)) p a = if l[j].p = (p : Int) ∧ l[j].a = a then l[j].b else memOf (l.take j) p a := by
  rw [List.take_add_one, List.getElem?_eq_getElem hj]
  exact memOf_snoc _ _ _ _
section
variable {W w w' : World} {kb : Nat} {pv cv qv sv lv mv : Value} {D : ManD} {S T : KS} {ss : List StD} {ls : List CellD} {ms : List MsgR}
set_option maxRecDepth 100000 in
set_option maxHeartbeats 4000000 in
theorem rread_ok (hz : checkF D = 0) (h : RKv W w kb pv cv qv sv lv mv D S ss ls ms) (hs : SmallK bigK S) (hm : ls.length ≤ 4398046511000) (i : Nat) (hi : i < D.parts.length) (a : Int) (ha : inR a) (ht : turnF D S i = 0) (hr : ¬ rightsF (regsAt D i) a = 0) :
    Calls Tryz.prog 161 #[ptrV kb, .int .i64 i, .int .i64 a] w fun e w' => e = .returned (.tuple #[.int .i64 (S.mem i a), .int .i64 0]) ∧ Below w.heap.size w w' := by
  have HTU : Hid _ := rturn_any hz h hs (i : Int) (by unfold inR; have := (check_ok hz).2.2.1; omega)
  have HRI : Hid (∀ w1, Below w.heap.size w w1 → Calls Tryz.prog 211 #[ptrV kb, .int .i64 i, .int .i64 a] w1 fun e w' => e = .returned (.int .i64 (rightsF (regsAt D i) a)) ∧ Below w1.heap.size w1 w') := fun w1 hb => rrights_any hz (h.below hb) i hi a ha
  have HME : Hid (S.mem i a = memOf ls i a) := h.mem i a hi
  obtain ⟨va, cap, rfl, hst⟩ := h.cells
  have c6 : w.cell? ⟨kb, 6, none⟩ = some (.slice va ls.length cap) := by rw [cell_of_blk h.ker]; rfl
  have HST : Hid _ := hst
  have hn : D.parts.length ≤ 8 := (check_ok hz).2.2.1
  clear hst h hs hz
  rw [ht] at HTU
  generalize rightsF (regsAt D i) a = rt at *
  have hrb : (rt == 0) = false := by simpa using hr
  unfold ptrV at *
  go_enter Tryz.func161, Tryz.ntmps161
  go_wp2_with fail
  refine Calls.mono HTU.out ?_
  rintro e w1 ⟨rfl, hb1⟩
  go_wp2_with fail
  refine Calls.mono (HRI.out w1 hb1) ?_
  rintro e w2 ⟨rfl, hb2⟩
  clear hr
  have hb12 := hb1.trans (hb2.mono hb1.size)
  have d6 := (hb12.cell (by exact World.block_lt_of_cell? w _ c6)).trans c6
  have w1' : IntKind.i64.wrap ((ls.length : Int) - 1) = (ls.length : Int) - 1 := wrap_small _ (by omega) (by omega)
  have HB : Hid (Below w.heap.size w w2) := hb12
  clear hb1 hb2 hb12 HTU HRI c6
  go_wp2_with fail
  go_loopw [10] (fun iv wr => ∃ k : Nat, iv = .int .i64 ((k : Int) - 1) ∧ k ≤ ls.length ∧ Hid (memOf ls i a = memOf (ls.take k) i a) ∧ Below w2.heap.size w2 wr) (fun iv _ => (intOf iv + 1).toNat)
  case atStart => exact ⟨ls.length, by go_num, by omega, by rw [List.take_length]; exact rfl, Below.refl _ _⟩
  case round =>
    obtain ⟨k, rfl, hk, HK, hbel⟩ := hrel
    by_cases hlt : 0 < k
    · obtain ⟨j, rfl⟩ : ∃ j, k = j + 1 := ⟨k - 1, by omega⟩
      have hj : j < ls.length := by omega
      obtain ⟨g, rfl, m0, m1, m2⟩ := HST.out j hj
      have hbw := HB.out.trans (hbel.mono HB.out.size)
      have d0 := (hbw.cell (by exact World.block_lt_of_cell? w _ m0)).trans m0
      have d1 := (hbw.cell (by exact World.block_lt_of_cell? w _ m1)).trans m1
      have d2 := (hbw.cell (by exact World.block_lt_of_cell? w _ m2)).trans m2
      have d7 := (hbel.cell (by exact World.block_lt_of_cell? w2 _ d6)).trans d6
      have HS : Hid _ := memOf_take (p := i) (a := a) hj
      have ei : ((j + 1 : Nat) : Int) - 1 = (j : Int) := by omega
      rw [ei]
      have hj0 : (0 : Int) ≤ (j : Int) := by omega
      have hj1 : (j : Int) < (ls.length : Int) := by omega
      have w2' : IntKind.i64.wrap ((j : Int) - 1) = (j : Int) - 1 := wrap_small _ (by omega) (by omega)
      have HBE : Hid (Below w2.heap.size w2 wr) := hbel
      clear m0 m1 m2 hbel hbw d6
      generalize ls[j] = x at *
      by_cases hp : x.p = (i : Int)
      · have g1 : decide (x.p = (i : Int)) = true := decide_eq_true hp
        by_cases hq : x.a = a
        · have g2 : decide (x.a = a) = true := decide_eq_true hq
          have HX : Hid (S.mem i a = x.b) := by show _ = _; rw [HME.out, HK.out, HS.out, if_pos ⟨hp, hq⟩]
          clear HS HK HME
          go_wp2_with fail
          go_ret2
          exact ⟨by rw [HX.out]; rfl, HB.out.trans (HBE.out.mono HB.out.size)⟩
        · have g2 : decide (x.a = a) = false := decide_eq_false hq
          have HX : Hid (memOf ls i a = memOf (ls.take j) i a) := by show _ = _; rw [HK.out, HS.out, if_neg (fun e => hq e.2)]
          clear HS HK HME
          go_wp2_with fail
          exact ⟨⟨j, by go_num, by omega, HX, HBE.out⟩, by simp [intOf]⟩
      · have g1 : decide (x.p = (i : Int)) = false := decide_eq_false hp
        have HX : Hid (memOf ls i a = memOf (ls.take j) i a) := by show _ = _; rw [HK.out, HS.out, if_neg (fun e => hp e.1)]
        clear HS HK HME
        go_wp2_with fail
        exact ⟨⟨j, by go_num, by omega, HX, HBE.out⟩, by simp [intOf]⟩
    · have hk0 : k = 0 := by omega
      subst hk0
      have HX : Hid (S.mem i a = 0) := by show _ = _; rw [HME.out, HK.out]; rfl
      go_wp2_with fail
      go_ret2
      exact ⟨by rw [HX.out]; rfl, HB.out.trans (hbel.mono HB.out.size)⟩
end
end Go.Proofs.YteioennfpkoagaaGreatDoor.C
namespace Go.Proofs.YteioennfpkoagaaGreatDoor.C
open Go.RowKit K
attribute [local go_sem ↓] Go.wp_at_zero Go.wp_at_succ

section
variable {W w w' : World} {kb : Nat} {pv cv qv sv lv mv : Value} {D : ManD} {S T : KS} {ss : List StD} {ls : List CellD} {ms : List MsgR}
set_option maxRecDepth 100000 in
set_option maxHeartbeats 4000000 in
theorem rread_off (hz : checkF D = 0) (h : RKv W w kb pv cv qv sv lv mv D S ss ls ms) (hs : SmallK bigK S) (p a : Int) (hp : inR p) (ht : ¬ turnF D S p = 0) :
    Calls Tryz.prog 161 #[ptrV kb, .int .i64 p, .int .i64 a] w fun e w' => e = .returned (.tuple #[.int .i64 0, .int .i64 (turnF D S p)]) ∧ Below w.heap.size w w' := by
  have HTU : Hid _ := rturn_any hz h hs p hp
  clear h hs hz hp
  generalize turnF D S p = e0 at *
  have hb0 : (e0 == 0) = false := by simpa using ht
  unfold ptrV at *
  go_enter Tryz.func161, Tryz.ntmps161
  go_wp2_with fail
  refine Calls.mono HTU.out ?_
  rintro e w1 ⟨rfl, hb1⟩
  go_wp2_with fail
  go_ret2
  exact ⟨rfl, hb1⟩
set_option maxRecDepth 100000 in
set_option maxHeartbeats 4000000 in
theorem rwrite_off (hz : checkF D = 0) (h : RKv W w kb pv cv qv sv lv mv D S ss ls ms) (hs : SmallK bigK S) (p a b : Int) (hp : inR p) (ht : ¬ turnF D S p = 0) :
    Calls Tryz.prog 162 #[ptrV kb, .int .i64 p, .int .i64 a, .int .i64 b] w fun e w' => e = .returned (.int .i64 (turnF D S p)) ∧ Below w.heap.size w w' := by
  have HTU : Hid _ := rturn_any hz h hs p hp
  clear h hs hz hp
  generalize turnF D S p = e0 at *
  have hb0 : (e0 == 0) = false := by simpa using ht
  unfold ptrV at *
  go_enter Tryz.func162, Tryz.ntmps162
  go_wp2_with fail
  refine Calls.mono HTU.out ?_
  rintro e w1 ⟨rfl, hb1⟩
  go_wp2_with fail
  go_ret
  exact ⟨rfl, hb1⟩
set_option maxRecDepth 100000 in
set_option maxHeartbeats 4000000 in
theorem rraise_off (hz : checkF D = 0) (h : RKv W w kb pv cv qv sv lv mv D S ss ls ms) (hs : SmallK bigK S) (p : Int) (hp : inR p) (ht : ¬ turnF D S p = 0) :
    Calls Tryz.prog 100 #[ptrV kb, .int .i64 p] w fun e w' => e = .returned (.int .i64 (turnF D S p)) ∧ Below w.heap.size w w' := by
  have HTU : Hid _ := rturn_any hz h hs p hp
  clear h hs hz hp
  generalize turnF D S p = e0 at *
  have hb0 : (e0 == 0) = false := by simpa using ht
  unfold ptrV at *
  go_enter Tryz.func100, Tryz.ntmps100
  go_wp2_with fail
  refine Calls.mono HTU.out ?_
  rintro e w1 ⟨rfl, hb1⟩
  go_wp2_with fail
  go_ret
  exact ⟨rfl, hb1⟩
end
end Go.Proofs.YteioennfpkoagaaGreatDoor.C
