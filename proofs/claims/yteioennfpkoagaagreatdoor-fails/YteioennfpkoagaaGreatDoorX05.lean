import Derived.Test.YteioennfpkoagaaGreatDoorM06
import Derived.Test.YteioennfpkoagaaGreatDoorB28
import Derived.Test.YteioennfpkoagaaGreatDoorM09
import Derived.Test.YteioennfpkoagaaGreatDoorX02
import Derived.Test.YteioennfpkoagaaGreatDoorCards
import Derived.Test.YteioennfpkoagaaGreatDoorTie
namespace Go.Proofs.YteioennfpkoagaaGreatDoor.C
open Go.ChangeShapes Go.WideShapes Go.ChangeAt Go.RowKit

theorem laidSameF : Rows.failsRow.laid = Rows.loadedRow.laid := rfl
set_option maxRecDepth 100000 in
theorem contractF (H : Type) (enc : TypeId × Value → H) (W : World) (base : Nat) (args : Array Value) (ds gs : List (DataW H)) (before : List MemPlace)
    (hval : ∀ (j : Nat) t v, Tryz.f10.params[j]? = some t → args[j]? = some v → Value.okWide Tryz.prog W .any base t v)
    (hW : DataW.Whole enc Tryz.prog Tryz.f10.params.toList Rows.failsSpec.vars false W args.toList ds gs before) (hwt : (DataW.weightsEach Tryz.prog (Tryz.f10.params.toList ++ (OpenSpec.ofChange Rows.failsSpec).bare.plain.varTypes Tryz.prog) (ds ++ gs)).all (· ≤ reachBytes) = true) (hL : laidMetH Tryz.prog Rows.failsRow.laid W) :
    Calls Tryz.prog 10 args W fun e W' => ∃ v, e = .returned v ∧ Rows.failsSpec.post enc Tryz.prog Tryz.f10 false true false false W args v W' := by
  rw [laidSameF] at hL
  have ht := tb_of_laidK hL
  have hW' := hW
  obtain ⟨p, q, hA0, hV, rfl, hfz, hnd⟩ := hW
  have hA : DataW.TrodAll enc Tryz.prog W 0 (fun _ => true) true Tryz.f10.params.toList args.toList ds p := hA0
  rw [Tryz.params10] at hA hval hwt
  obtain ⟨v0, vs0, d0, ds0, p0, q0, hargs, rfl, rfl, h0, r0⟩ := trodAll_cons hA
  obtain ⟨v1, vs1, d1, ds1, p1, q1, rfl, rfl, rfl, h1, r1⟩ := trodAll_cons r0
  obtain ⟨rfl, rfl, rfl⟩ := trodAll_nil r1
  obtain rfl : args = #[v0, v1] := by cases args; simp_all
  obtain ⟨rfl, rfl⟩ := trodVars_none hV
  simp only [List.cons_append, List.nil_append, List.append_nil, DataW.weightsEach, List.all_append, Bool.and_eq_true] at hwt
  have h0k := h0
  obtain ⟨fuel0, hf0⟩ := h0
  obtain ⟨va0, n0, cap0, rfl⟩ := okWide_slice Tryz.underlying48 (hval 0 48 v0 rfl rfl)
  obtain ⟨u0, L0, hcs0, hv0⟩ := open_intsV hf0
  obtain rfl : .slice va0 n0 cap0 = u0 := by simpa [Value.cells] using hcs0
  have h1k := h1
  obtain ⟨fuel1, hf1⟩ := h1
  obtain ⟨va1, n1, cap1, rfl⟩ := okWide_slice Tryz.underlying65 (hval 1 65 v1 rfl rfl)
  obtain ⟨u1, L1, hcs1, hv1⟩ := open_stepsF hf1 hwt.2.1
  obtain rfl : .slice va1 n1 cap1 = u1 := by simpa [Value.cells] using hcs1
  refine (fails_law kerI madeF_true W ht _ _ L0 L1 hv0 hv1).mono ?_
  rintro e W' ⟨rfl, hb'⟩
  clear hA0
  simp only [List.append_nil] at hW'
  have hlt : ∀ x ∈ p0 ++ (p1), x.block < W.heap.size := fun x hx => hW'.lt x hx
  exact ⟨_, rfl, post_of_below (pa := p0 ++ (p1)) (pv := []) hW' (fun _ _ _ => trodAll_cons_mk (shut_bool Tryz.underlying4 _) trodAll_mk0)
    (fun sp hs => trodAll_cons_mk (WideElems.Trod_stays laidOutP (by kernel_rfl) (of_decide_eq_true (by kernel_rfl)) h0k (fun x hx => hb'.same (hlt x (List.mem_append_left _ hx))) (fun x hx => hs x (List.mem_append_left _ hx))) (trodAll_mk1 (WideElems.Trod_stays laidOutP (by kernel_rfl) (of_decide_eq_true (by kernel_rfl)) h1k (fun x hx => hb'.same (hlt x (List.mem_append_right _ (hx)))) (fun x hx => hs x (List.mem_append_right _ (hx)))))) (fun _ _ => rfl) (by simp)
    hb' (ok_one (by kernel_rfl) rfl (okWide_bool_mk Tryz.underlying4 _))⟩
theorem laidIsF (os : Os) : laidMetH Tryz.prog Rows.failsRow.laid ((laidK Tryz.prog os).forCall (fun _ _ => 0) ⟨#[], #[.slice none 0 0, .slice none 0 0], []⟩).memory := by
  rw [laidSameF]
  unfold laidMetH
  rw [filtSomeK, filtNoneK]
  exact laidMet_of_run' 8 (by kernel_rfl) (by kernel_rfl)
theorem readsF (os : Os) {H : Type} (enc : TypeId × Value → H) : ∃ places, DataW.whole enc Tryz.prog ((laidK Tryz.prog os).forCall (fun _ _ => 0) ⟨#[], #[.slice none 0 0, .slice none 0 0], []⟩).memory Tryz.f10.params.toList Rows.failsSpec.vars false #[Value.slice none 0 0, Value.slice none 0 0].toList 8 = some ([.nil, .nil], [], places) :=
  ⟨[], by kernel_rfl⟩
set_option maxRecDepth 100000 in
theorem liftedF (os : Os) (started : os.Started) (H : Type) (enc : TypeId × Value → H) :
    ReturnsInHanded {} Tryz.checked os 10 .any ((OpenSpec.ofChange Rows.failsSpec).preRow enc Tryz.prog Tryz.f10 Rows.failsRow.domain false Rows.failsRow.laid) (Rows.failsSpec.post enc Tryz.prog Tryz.f10 false true false false) := by
  obtain ⟨places, hx⟩ := readsF os enc
  refine returnsInHanded_of_row (C := Tryz.checked) (s := OpenSpec.ofChange Rows.failsSpec) (F := default) ownK started (by kernel_rfl) Tryz.func10
    (witness_row_atRef (enc := enc) (C := Tryz.checked) false (laidK Tryz.prog os) #[.slice none 0 0, .slice none 0 0] rfl (by kernel_rfl) (by kernel_rfl) (by kernel_rfl)
      (OpenSpec.preRow_of_cond 8 hx (by kernel_rfl) (fun k hk => by cases hk) (by kernel_rfl) (laidIsF os))) ?_
  intro W base args ds gs before hval hW _ _ hwt hL _ _
  exact contractF H enc W base args ds gs before hval hW hwt hL
set_option maxHeartbeats 8000000 in
theorem closedF : joinedFacts Tryz.pinned.checked.prog 10 Tryz.f10 Rows.failsSpec Rows.failsRow = true := by
  simp only [joinedFacts, Bool.and_eq_true]
  and_intros <;> (as_aux_lemma => kernel_rfl)
theorem saidF : Rows.FailsSaid :=
  OpenClaim.holds_of_wide 10 Tryz.f10 rfl rfl rfl rfl rfl rfl rfl ⟨rfl, rfl, rfl, rfl, rfl⟩ rfl rfl rfl rfl rfl (by kernel_rfl) Tryz.func10 closedF
    (of_decide_eq_true (by kernel_rfl)) (by unfold Func.isWrapper; first | (rw [if_pos (by decide +kernel)]; kernel_rfl) | (rw [if_neg (by decide +kernel)]; exact ⟨rfl, rfl⟩))
    (fun os started H enc _ => by rw [OpenClaim.pre_eq_preRow]; exact liftedF os started H enc)
theorem plainF (f : FuncId) (fn : Func) (hf : Tryz.pinned.checked.prog.funcNamed "bulkhead/bulkheadkeep.Fails" = some f) (hfn : Tryz.pinned.checked.prog.funcs[f]? = some fn) :
    true = Tryz.pinned.checked.prog.looks [] ∧ ∀ (j : Nat) t, fn.params[j]? = some t → Tryz.pinned.checked.prog.wantsStandIn t = false := by
  obtain rfl : f = 10 := Option.some.inj ((show Tryz.prog.funcNamed "bulkhead/bulkheadkeep.Fails" = some 10 by kernel_rfl).symm.trans hf) |>.symm
  obtain rfl : fn = Tryz.f10 := (Option.some.inj (Tryz.func10.symm.trans hfn)).symm
  refine ⟨by kernel_rfl, fun j t ht => ?_⟩
  rw [Tryz.params10] at ht
  have hm := Array.mem_of_getElem? ht
  simp at hm
  rcases hm with rfl | rfl
  · exact (show Tryz.prog.wantsStandIn 48 = false by kernel_rfl)
  · exact (show Tryz.prog.wantsStandIn 65 = false by kernel_rfl)
theorem cardF : Rows.FailsCardSaid :=
  Claim7.holds_tied_plain_at .later [] _ _ _ _ saidF (fun _ h => by cases h) (by kernel_rfl) (fun _ h => by cases h) fails_row_tie rfl ⟨rfl, rfl⟩ (by kernel_rfl) rfl plainF (by kernel_rfl)
end Go.Proofs.YteioennfpkoagaaGreatDoor.C
namespace Go.Proofs.YteioennfpkoagaaGreatDoor
theorem failsCard : Rows.FailsCardSaid := C.cardF
end Go.Proofs.YteioennfpkoagaaGreatDoor
