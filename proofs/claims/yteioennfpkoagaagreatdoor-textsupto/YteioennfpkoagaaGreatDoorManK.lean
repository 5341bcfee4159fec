import Derived.Test.YteioennfpkoagaaGreatDoorManJ
namespace Go.Proofs.YteioennfpkoagaaGreatDoor
open Go.RowKit
attribute [local go_sem ↓] Go.wp_at_zero Go.wp_at_succ

theorem KP.wide {pb c : Nat} {w w' : World} (h : KP c c w w') : KP pb c w w' := ⟨h.os, h.tape, h.output, h.size, fun k hk _ h2 h3 => h.block k hk h2 h2 h3⟩
/- a misfit's block is no parser's -/
theorem mis_ne {w : World} {mb : Nat} {eb : Addr} {pb : Nat} {ln cl : Int} {o : Array Value} (h : MisAt w mb eb ln cl) (h1 : w.heap[pb]? = some (.cells o 177 (0, 0))) : mb ≠ pb := by
  intro e; subst e; unfold MisAt at h; rw [h1] at h; simp at h
theorem lk_sel (l : List UInt8) (k : Nat) (ew en eu es : Addr) (hne : ew ≠ en ∧ ew ≠ eu ∧ ew ≠ es ∧ en ≠ eu ∧ en ≠ es ∧ eu ≠ es) (h : lk l k ≠ 0) : (errB ew en (lk l k) = ew ∨ errB ew en (lk l k) = en ∨ errB ew en (lk l k) = eu ∨ errB ew en (lk l k) = es) ∧ noOf ew en eu (errB ew en (lk l k)) = lk l k := by
  rcases lk_cases l k with e | e | e
  · exact absurd e h
  · rw [e]; refine ⟨.inr (.inl rfl), ?_⟩
    show noOf ew en eu en = 2
    unfold noOf; rw [if_neg (fun e => hne.1 e.symm), if_pos rfl]
  · rw [e]; refine ⟨.inl rfl, ?_⟩
    show noOf ew en eu ew = 3
    unfold noOf; rw [if_pos rfl]

set_option maxRecDepth 100000 in
set_option maxHeartbeats 1000000 in
theorem advance_gen (w : World) (pb c B : Nat) (ew en eu es ex : Addr) (i j : Nat) (l : List UInt8) (pv : Value) (k0 : Int) (tt0 : ByteArray) (v0 a0 b0 : Int) (hgl : GL w B ew en eu es ex) (hBc : B ≤ c) (hBp : B ≤ pb) (hord : c + 1 + 1 < pb) (hlen : l.length ≤ 8192) (hshape : ∃ x y z, pv = .slice x y z) (hrv : RVi w c l i) (hblk : w.heap[pb]? = some (.cells (prCells c k0 tt0 v0 a0 b0 .nilIface pv) 177 (0, 0))) (hpos : i + gapF false (l.drop i) = pos l j) :
    Calls Tryz.prog 90 #[.pointer (some ⟨pb, 0, none⟩)] w fun e w' => e = .returned (.tuple #[]) ∧ PR w' pb c B ew en eu es ex l (normP l j) pv ∧ KP pb c w w' := by
  have hpb := lt_of_blk hblk
  have c0 : w.cell? ⟨pb, 0, none⟩ = some (nextV c) := by rw [cell_of_blk hblk]; rfl
  have c6 : w.cell? ⟨pb, 6, none⟩ = some .nilIface := by rw [cell_of_blk hblk]; rfl
  unfold nextV at c0
  have hnx := next_tok c l i w hgl hBc hrv hlen
  have HTK : Hid (tokAt l (i + gapF false (l.drop i)) = tk l j) := by show _ = _; rw [hpos]; rfl
  have HEP : Hid (i + gapF false (l.drop i) + (tokF (l.drop (i + gapF false (l.drop i)))).1 = endp l j) := by show _ = _; rw [hpos]; rfl
  rw [HTK.out, HEP.out] at hnx
  have hn : normP l j = if lk l j = 0 then .inl j else .inr (lk l j, (tk l j).line, (tk l j).col) := rfl
  have HN : Hid _ := hn
  clear hn
  generalize normP l j = st2 at *
  go_enter Tryz.func90, Tryz.ntmps90
  go_wp2_with fail
  refine hnx.mono ?_
  rintro e w2 ⟨k2, tt, v, a, b, ev, rfl, htn, hrv2, hkp⟩
  have hblk2 : w2.heap[pb]? = some (.cells (prCells c k0 tt0 v0 a0 b0 .nilIface pv) 177 (0, 0)) := KP.kp hblk hkp (by omega) (by omega) (by omega)
  have hgl2 := hgl.below (hkp.toBelow hgl.size hBc hBc)
  have d1 : w2.cell? ⟨pb, 1, none⟩ = some (.int .i64 k0) := by rw [cell_of_blk hblk2]; rfl
  have d2 : w2.cell? ⟨pb, 2, none⟩ = some (.string tt0) := by rw [cell_of_blk hblk2]; rfl
  have d3 : ∃ x, w2.cell? ⟨pb, 3, none⟩ = some (.int .i64 x) := ⟨_, by rw [cell_of_blk hblk2]; rfl⟩
  obtain ⟨x3, d3⟩ := d3
  have d4 : w2.cell? ⟨pb, 4, none⟩ = some (.int .i64 a0) := by rw [cell_of_blk hblk2]; rfl
  have d5 : w2.cell? ⟨pb, 5, none⟩ = some (.int .i64 b0) := by rw [cell_of_blk hblk2]; rfl
  have d6 : w2.cell? ⟨pb, 6, none⟩ = some .nilIface := by rw [cell_of_blk hblk2]; rfl
  have f1 : w2.frozen? ⟨pb, 1, none⟩ = false := frozen_of_blk hblk2
  have f2 : w2.frozen? ⟨pb, 2, none⟩ = false := frozen_of_blk hblk2
  have f3 : w2.frozen? ⟨pb, 3, none⟩ = false := frozen_of_blk hblk2
  have f4 : w2.frozen? ⟨pb, 4, none⟩ = false := frozen_of_blk hblk2
  have f5 : w2.frozen? ⟨pb, 5, none⟩ = false := frozen_of_blk hblk2
  have f6 : w2.frozen? ⟨pb, 6, none⟩ = false := frozen_of_blk hblk2
  have HB2 : Hid _ := hblk2
  have HBL : Hid _ := hblk
  clear hblk hblk2 hnx c0 c6
  rcases htn with ⟨g1, rfl, rfl, hv, rfl, rfl, rfl⟩ | ⟨g1, rfl, rfl, rfl, rfl, rfl, mb, rfl, hmb, hmis⟩
  · have HV : Hid _ := hv
    clear hv
    have HG1 : Hid (lk l j = 0) := g1
    clear g1
    go_wp2_with fail
    go_returns
    have hk := (((((((KP.wide (pb := pb) hkp).trans (KP.set w2 pb 1 (.int .i64 (kindT (tk l j))) (.inl rfl))).trans (KP.set _ pb 2 (.string (ba (tk l j).text)) (.inl rfl))).trans (KP.set _ pb 3 (.int .i64 v) (.inl rfl))).trans (KP.set _ pb 4 (.int .i64 (tk l j).line) (.inl rfl))).trans (KP.set _ pb 5 (.int .i64 (tk l j).col) (.inl rfl))).trans (KP.set _ pb 6 (.nilIface) (.inl rfl)))
    have hst : st2 = (.inl j : St) := HN.out.trans (if_pos HG1.out)
    clear HN
    subst hst
    refine ⟨rfl, ⟨hgl.below (hk.toBelow hgl.size hBp hBc), hBc, hBp, hord, hlen, hshape, ?_⟩, hk⟩
    refine ⟨HG1.out, (((((hrv2.far pb 1 _ hord).far pb 2 _ hord).far pb 3 _ hord).far pb 4 _ hord).far pb 5 _ hord).far pb 6 _ hord, ?_⟩
    rw [blk_set 6 _ (blk_set 5 _ (blk_set 4 _ (blk_set 3 _ (blk_set 2 _ (blk_set 1 _ HB2.out)))))]
    rw [← HV.out]
    rfl
  · have HG1 : Hid (lk l j ≠ 0) := g1
    clear g1
    unfold misV
    go_wp2_with fail
    go_returns
    have hk := (((((((KP.wide (pb := pb) hkp).trans (KP.set w2 pb 1 (.int .i64 0) (.inl rfl))).trans (KP.set _ pb 2 (.string ⟨#[]⟩) (.inl rfl))).trans (KP.set _ pb 3 (.int .i64 0) (.inl rfl))).trans (KP.set _ pb 4 (.int .i64 0) (.inl rfl))).trans (KP.set _ pb 5 (.int .i64 0) (.inl rfl))).trans (KP.set _ pb 6 (.iface 178 (.pointer (some ⟨mb, 0, none⟩))) (.inl rfl)))
    have hmp := mis_ne hmis HB2.out
    have hsel := lk_sel l j ew en eu es hgl.ne HG1.out
    have hst : st2 = (.inr (lk l j, (tk l j).line, (tk l j).col) : St) := HN.out.trans (if_neg HG1.out)
    clear HN
    subst hst
    refine ⟨rfl, ⟨hgl.below (hk.toBelow hgl.size hBp hBc), hBc, hBp, hord, hlen, hshape, ?_⟩, hk⟩
    refine ⟨0, ⟨#[]⟩, 0, 0, 0, mb, errB ew en (lk l j), ?_, ?_, hsel.1, hsel.2, by simp [ByteArray.size]⟩
    · rw [blk_set 6 _ (blk_set 5 _ (blk_set 4 _ (blk_set 3 _ (blk_set 2 _ (blk_set 1 _ HB2.out)))))]
      rfl
    · unfold MisAt at *
      rw [blk_far _ _ hmp, blk_far _ _ hmp, blk_far _ _ hmp, blk_far _ _ hmp, blk_far _ _ hmp, blk_far _ _ hmp]
      exact hmis
theorem advance_live (w : World) (pb c B : Nat) (ew en eu es ex : Addr) (k : Nat) (l : List UInt8) (pv : Value) (h : PR w pb c B ew en eu es ex l (.inl k) pv) :
    Calls Tryz.prog 90 #[.pointer (some ⟨pb, 0, none⟩)] w fun e w' => e = .returned (.tuple #[]) ∧ PR w' pb c B ew en eu es ex l (normP l (k + 1)) pv ∧ KP pb c w w' := by
  obtain ⟨hlk, hrv, hblk⟩ := h.at'
  exact advance_gen w pb c B ew en eu es ex (endp l k) (k + 1) l pv _ _ _ _ _ h.gl h.hBc h.hBp h.ord h.len h.shape hrv hblk rfl
end Go.Proofs.YteioennfpkoagaaGreatDoor
