import Derived.Test.YteioennfpkoagaaGreatDoorG08
import Derived.Test.YteioennfpkoagaaGreatDoorG27
namespace Go.Proofs.YteioennfpkoagaaGreatDoor.C
open Go.RowKit

/- what Parse gives, as views -/
theorem ba_list (s : ByteArray) : (⟨s.data.toList.toArray⟩ : ByteArray) = s := by cases s; simp
theorem regs_view {w : World} {base : Nat} {v : Value} {rs : List RegD} (hb : ∀ r ∈ rs, regB r = true) (h : w.ownsRow base 90 3 v (rs.map regA).length (regRows (rs.map regA))) : RegsV w v rs := by
  have hlen : (rs.map regA).length = rs.length := by simp
  rcases Go.Proofs.YteioennfpkoagaaGreatDoor.own_nil_or h with ⟨h0, rfl⟩ | ⟨g, cap, rfl⟩
  · have : rs = [] := List.eq_nil_of_length_eq_zero (by omega)
    subst this
    exact ⟨_, _, rfl, fun i hi => absurd hi (by simp)⟩
  · refine ⟨some ⟨g, 0, none⟩, cap, by rw [hlen], fun i hi => ⟨g, 0, rfl, ?_⟩⟩
    have hk : i < (rs.map regA).length := by omega
    obtain ⟨r1, r2, r3⟩ := regRows_at _ i hk
    have hbi := hb _ (List.getElem_mem hi)
    unfold regB at hbi
    simp only [decide_eq_true_eq] at hbi
    have e3 : (((rs[i].rights.toNat : Nat) : Int)) = rs[i].rights := by omega
    simp only [Nat.zero_add]
    rw [Go.Proofs.YteioennfpkoagaaGreatDoor.own_cells h _ (by omega), Go.Proofs.YteioennfpkoagaaGreatDoor.own_cells h _ (by omega), Go.Proofs.YteioennfpkoagaaGreatDoor.own_cells h _ (by omega), r1, r2, r3]
    simp only [List.getElem_map, regA]
    rw [e3]
    exact ⟨trivial, trivial, rfl⟩
theorem parts_view {w : World} {base : Nat} {v : Value} {ps : List PartD} {vs : List Value} (hp : ∀ x ∈ ps, PartOK x) (h : PartsAt w base v (ps.map partA) vs) : PartsV w v ps := by
  obtain ⟨h1, h2, h3⟩ := h
  have hlen : (ps.map partA).length = ps.length := by simp
  rcases Go.Proofs.YteioennfpkoagaaGreatDoor.own_nil_or h2 with ⟨h0, rfl⟩ | ⟨g, cap, rfl⟩
  · have : ps = [] := List.eq_nil_of_length_eq_zero (by omega)
    subst this
    exact ⟨_, _, rfl, fun i hi => absurd hi (by simp)⟩
  · refine ⟨some ⟨g, 0, none⟩, cap, by rw [hlen], fun i hi => ⟨g, 0, vs[i]'(by omega), rfl, ?_⟩⟩
    have hk : i < (ps.map partA).length := by omega
    have hr : ∀ j, j < 5 → w.cell? ⟨g, 0 + i * 5 + j, none⟩ = (partCells (ps.map partA)[i] (vs[i]'(by omega)))[j]? := fun j hj => by
      rw [Go.Proofs.YteioennfpkoagaaGreatDoor.own_cells h2 _ (by omega), Nat.zero_add]
      exact partRows_at _ _ h1 i hk j hj
    have hx := hp _ (List.getElem_mem hi)
    have e3 : ((ps[i].action.toNat : Nat) : Int) = ps[i].action := by have := hx.2.2.2.1; omega
    have r0 := hr 0 (by omega)
    have r1 := hr 1 (by omega)
    have r2 := hr 2 (by omega)
    have r3 := hr 3 (by omega)
    have r4 := hr 4 (by omega)
    simp only [partCells, List.getElem_map, partA, ba_list, e3] at r0 r1 r2 r3 r4
    refine ⟨r0, r1, r2, r3, r4, ?_⟩
    have h5 := h3 i hk (by omega)
    simp only [List.getElem_map, partA] at h5
    exact regs_view hx.2.2.2.2 h5
theorem chans_view {w : World} {base : Nat} {v : Value} {ps : List PartD} {cs : List ChanD} (hp : ∀ c ∈ cs, ChanOK ps c) (h : w.ownsRow base 92 6 v (cs.map chanA).length (chanRows (cs.map chanA))) : ChansV w v cs := by
  have hlen : (cs.map chanA).length = cs.length := by simp
  rcases Go.Proofs.YteioennfpkoagaaGreatDoor.own_nil_or h with ⟨h0, rfl⟩ | ⟨g, cap, rfl⟩
  · have : cs = [] := List.eq_nil_of_length_eq_zero (by omega)
    subst this
    exact ⟨_, _, rfl, fun i hi => absurd hi (by simp)⟩
  · refine ⟨some ⟨g, 0, none⟩, cap, by rw [hlen], fun i hi => ⟨g, 0, rfl, ?_⟩⟩
    have hk : i < (cs.map chanA).length := by omega
    have hr : ∀ j, j < 6 → w.cell? ⟨g, 0 + i * 6 + j, none⟩ = (chanCells (cs.map chanA)[i])[j]? := fun j hj => by
      rw [Go.Proofs.YteioennfpkoagaaGreatDoor.own_cells h _ (by omega), Nat.zero_add]
      exact chanRows_at _ i hk j hj
    obtain ⟨_, x2, x3, x4, _, _⟩ := hp _ (List.getElem_mem hi)
    have e1 : ((cs[i].source.toNat : Nat) : Int) = cs[i].source := by omega
    have e2 : ((cs[i].target.toNat : Nat) : Int) = cs[i].target := by omega
    have e3 : ((cs[i].kind.toNat : Nat) : Int) = cs[i].kind := by omega
    have r0 := hr 0 (by omega)
    have r1 := hr 1 (by omega)
    have r2 := hr 2 (by omega)
    have r3 := hr 3 (by omega)
    have r4 := hr 4 (by omega)
    have r5 := hr 5 (by omega)
    simp only [chanCells, List.getElem_map, chanA, ba_list, e1, e2, e3] at r0 r1 r2 r3 r4 r5
    exact ⟨r0, r1, r2, r3, r4, r5⟩
/- a text of a manifest's tokens is read back -/
theorem parse_back (w : World) (B : Nat) (ew en eu es ex : Addr) (hg : GL w B ew en eu es ex) (M : ManD) (hM : ManOK M) (l : List UInt8) (hl : l.length ≤ 8192) (ht : Txt l (manK M)) (hn : (manK M).length ≤ 8000) :
    Calls Tryz.prog 13 #[.string (ba l)] w fun e w' => ∃ pv cv, e = .returned (.tuple #[.agg #[.int .i64 M.frame, pv, cv], .agg #[.int .i64 0, .int .i64 0], .int .i64 0]) ∧ PartsV w' pv M.parts ∧ ChansV w' cv M.chans ∧ Below w.heap.size w w' := by
  obtain ⟨h1, h2, h3, h4⟩ := hM
  have hN : TokN (ba l).data.toList ((manK M).length + 1) := by rw [ba_data]; exact ht.tokN
  have ho : outF (ba l) ((manK M).length + 1) = ⟨M.frame, M.parts.map partA, M.chans.map chanA, 0, 0, 0⟩ := by
    unfold outF
    rw [if_neg (by rw [ba_size]; omega), ba_data, parse_on ht h1 h2 h3 h4, if_neg (by simp [S])]
  refine (manParse_out w B ew en eu es ex _ (ba l) hg hN (fun _ => by omega)).mono ?_
  rintro e w' ⟨hb, v, vs, cv, rfl, _, hp, hc⟩
  rw [ho] at hp hc ⊢
  exact ⟨v, cv, rfl, parts_view h2 hp, chans_view h4 hc, hb⟩
theorem parse_cut (w : World) (B : Nat) (ew en eu es ex : Addr) (hg : GL w B ew en eu es ex) (M : ManD) (hM : ManOK M) (hne : M.parts ≠ []) (hl : (printL M).length ≤ 8192) (hn : (manK M).length ≤ 8000) :
    Calls Tryz.prog 13 #[.string (ba (cutL (printL M)))] w fun e w' => ∃ pa pk ca ck, e = .returned (.tuple #[.agg #[.int .i64 0, .slice pa 0 pk, .slice ca 0 ck], .agg #[.int .i64 (placeL (cutL (printL M))).1, .int .i64 (placeL (cutL (printL M))).2], .int .i64 1]) ∧ Below w.heap.size w w' := by
  obtain ⟨c1, c2⟩ := cut_out hM hne
  have hN : TokN (ba (cutL (printL M))).data.toList (manK M).length := by rw [ba_data]; exact c1
  have ho : outF (ba (cutL (printL M))) (manK M).length = ⟨0, [], [], (placeL (cutL (printL M))).1, (placeL (cutL (printL M))).2, 1⟩ := by
    unfold outF
    rw [if_neg (by rw [ba_size]; unfold cutL; simp; omega), ba_data, c2, if_pos (by simp)]
  refine (manParse_out w B ew en eu es ex _ (ba (cutL (printL M))) hg hN (fun _ => by omega)).mono ?_
  rintro e w' ⟨hb, v, vs, cv, rfl, _, hp, hc⟩
  rw [ho] at hp hc ⊢
  obtain ⟨pa, pk, rfl⟩ := Go.Proofs.YteioennfpkoagaaGreatDoor.own_shape hp.2.1
  obtain ⟨ca, ck, rfl⟩ := Go.Proofs.YteioennfpkoagaaGreatDoor.own_shape hc
  exact ⟨pa, pk, ca, ck, rfl, hb⟩
end Go.Proofs.YteioennfpkoagaaGreatDoor.C
