import Derived.Test.YteioennfpkoagaaGreatDoorG38
import Derived.Test.YteioennfpkoagaaGreatDoorG39
import Derived.Test.YteioennfpkoagaaGreatDoorG41
import Derived.Test.YteioennfpkoagaaGreatDoorG44
import Derived.Lib.LaidTab
namespace Go.Proofs.YteioennfpkoagaaGreatDoor.C
open Go.ChangeShapes Go.WideShapes Go.ChangeAt Go.RowKit

theorem madeC_of (h : MadeK) : MadeC := fun w v L hL =>
  Calls.mono (h w v L hL) fun _ _ ⟨F, ps, cs, pv, cv, e1, e2, e3, e4, e5, e6, ⟨_, _, e7, e8⟩, e9, e10, e11, e12⟩ =>
    ⟨⟨F, ps, cs⟩, pv, cv, e1, e2, e3, e4, e5, made_ok e6 e7 e8 e9 e10 e11, e12⟩
theorem laid_same : Rows.printedRow.laid = Rows.textsUptoRow.laid := rfl
theorem tb_of_laidP {W : World} (h : laidMetH Tryz.prog Rows.textsUptoRow.laid W) : TB W := by
  have h3 := (Go.Proofs.YteioennfpkoagaaGreatDoor.laid_parts h).1.tail.tail
  exact Lib.tabIs_of_head (g := 6) (t := 340) (e := 327) (n := 20) (by kernel_rfl) (by kernel_rfl) Tryz.underlying340 Tryz.underlying327 (by kernel_rfl) (by kernel_rfl) h3
set_option maxRecDepth 100000 in
theorem contractR (hMade : MadeC) (H : Type) (enc : TypeId × Value → H) (W : World) (base : Nat) (args : Array Value) (ds gs : List (DataW H)) (before : List MemPlace)
    (hval : ∀ (j : Nat) t v, Tryz.f5.params[j]? = some t → args[j]? = some v → Value.okWide Tryz.prog W .any base t v)
    (hW : DataW.Whole enc Tryz.prog Tryz.f5.params.toList Rows.printedSpec.vars false W args.toList ds gs before) (hL : laidMetH Tryz.prog Rows.printedRow.laid W) (hsh : W.ShapedOpen Tryz.prog) :
    Calls Tryz.prog 5 args W fun e W' => ∃ v, e = .returned v ∧ Rows.printedSpec.post enc Tryz.prog Tryz.f5 false true false false W args v W' := by
  rw [laid_same] at hL
  have hW' := hW
  obtain ⟨p, q, hA0, hV, rfl, hfz, hnd⟩ := hW
  have hA : DataW.TrodAll enc Tryz.prog W 0 (fun _ => true) true Tryz.f5.params.toList args.toList ds p := hA0
  rw [Tryz.params5] at hA hval
  obtain ⟨v0, vs0, d0, ds0, p0, q0, hargs, rfl, rfl, h0, r0⟩ := trodAll_cons hA
  obtain ⟨v1, vs1, d1, ds1, p1, q1, rfl, rfl, rfl, h1, r1⟩ := trodAll_cons r0
  obtain ⟨rfl, rfl, rfl⟩ := trodAll_nil r1
  obtain rfl : args = #[v0, v1] := by cases args; simp_all
  obtain ⟨rfl, rfl⟩ := trodVars_none hV
  obtain ⟨va, n0, cap0, rfl⟩ := okWide_slice Tryz.underlying48 (hval 0 48 v0 rfl rfl)
  obtain ⟨ub, m0, cap1, rfl⟩ := okWide_slice Tryz.underlying48 (hval 1 48 v1 rfl rfl)
  obtain ⟨ew, en, eu, es, ex, hg⟩ := Go.Proofs.YteioennfpkoagaaGreatDoor.gl_of_laid hL (Go.Proofs.YteioennfpkoagaaGreatDoor.size_of_shaped hsh)
  have ht := tb_of_laidP hL
  have h0k := h0
  have h1k := h1
  obtain ⟨fuel, hf⟩ := h0
  obtain ⟨fuel1, hf1⟩ := h1
  obtain ⟨v, L, hcs, hv⟩ := open_intsV hf
  obtain rfl : .slice va n0 cap0 = v := by simpa [Value.cells] using hcs
  obtain ⟨v', G, hcs', hv'⟩ := open_intsV hf1
  obtain rfl : .slice ub m0 cap1 = v' := by simpa [Value.cells] using hcs'
  refine (printed_true hMade W W.heap.size ew en eu es ex hg ht _ _ L G hv hv').mono ?_
  rintro e W' ⟨rfl, hb⟩
  clear hA0
  simp only [List.append_nil] at hW'
  have hlt : ∀ x ∈ p0 ++ p1, x.block < W.heap.size := fun x hx => hW'.lt x hx
  exact ⟨_, rfl, post_of_below (pa := p0 ++ p1) (pv := []) hW' (fun _ _ _ => trodAll_cons_mk (shut_bool Tryz.underlying4 _) trodAll_mk0)
    (fun sp hs => trodAll_cons_mk (WideElems.Trod_stays laidOutP (by kernel_rfl) (of_decide_eq_true (by kernel_rfl)) h0k (fun x hx => hb.same (hlt x (List.mem_append_left _ hx))) (fun x hx => hs x (List.mem_append_left _ hx))) (trodAll_mk1 (WideElems.Trod_stays laidOutP (by kernel_rfl) (of_decide_eq_true (by kernel_rfl)) h1k (fun x hx => hb.same (hlt x (List.mem_append_right _ hx))) (fun x hx => hs x (List.mem_append_right _ hx))))) (fun _ _ => rfl) (by simp)
    hb (ok_one (by kernel_rfl) rfl (okWide_bool_mk Tryz.underlying4 _))⟩
theorem laid_metP (os : Os) : laidMetH Tryz.prog Rows.printedRow.laid ((Go.Proofs.YteioennfpkoagaaGreatDoor.laidWorld Tryz.prog os).forCall (fun _ _ => 0) ⟨#[], #[.slice none 0 0, .slice none 0 0], []⟩).memory := by
  rw [laid_same]
  exact laidMetH_of_parts (by rw [Go.Proofs.YteioennfpkoagaaGreatDoor.filtNone]; exact laidMet_of_run' 8 (by kernel_rfl) (by kernel_rfl)) (by kernel_rfl)
theorem readsP (os : Os) {H : Type} (enc : TypeId × Value → H) : ∃ places, DataW.whole enc Tryz.prog ((Go.Proofs.YteioennfpkoagaaGreatDoor.laidWorld Tryz.prog os).forCall (fun _ _ => 0) ⟨#[], #[.slice none 0 0, .slice none 0 0], []⟩).memory Tryz.f5.params.toList Rows.printedSpec.vars false #[Value.slice none 0 0, Value.slice none 0 0].toList 8 = some ([.nil, .nil], [], places) :=
  ⟨[], by kernel_rfl⟩
set_option maxRecDepth 100000 in
theorem liftedR (hMade : MadeC) (os : Os) (started : os.Started) (H : Type) (enc : TypeId × Value → H) :
    ReturnsInHanded {} Tryz.checked os 5 .any ((OpenSpec.ofChange Rows.printedSpec).preRow enc Tryz.prog Tryz.f5 Rows.printedRow.domain false Rows.printedRow.laid) (Rows.printedSpec.post enc Tryz.prog Tryz.f5 false true false false) := by
  obtain ⟨places, hx⟩ := readsP os enc
  refine returnsInHanded_of_row (C := Tryz.checked) (s := OpenSpec.ofChange Rows.printedSpec) (F := default) ownK started (by kernel_rfl) Tryz.func5
    (witness_row_atRef (enc := enc) (C := Tryz.checked) false (Go.Proofs.YteioennfpkoagaaGreatDoor.laidWorld Tryz.prog os) #[.slice none 0 0, .slice none 0 0] rfl (by kernel_rfl) (by kernel_rfl) (by kernel_rfl)
      (OpenSpec.preRow_of_cond 8 hx (by kernel_rfl) (fun k hk => by cases hk) (by kernel_rfl) (laid_metP os))) ?_
  intro W base args ds gs before hval hW _ _ _ hL hsh _
  exact contractR hMade H enc W base args ds gs before hval hW hL hsh
set_option maxHeartbeats 8000000 in
theorem closedR : joinedFacts Tryz.pinned.checked.prog 5 Tryz.f5 Rows.printedSpec Rows.printedRow = true := by
  simp only [joinedFacts, Bool.and_eq_true]
  and_intros <;> (as_aux_lemma => kernel_rfl)
theorem saidR (hMade : MadeC) : Rows.PrintedSaid :=
  OpenClaim.holds_of_wide 5 Tryz.f5 rfl rfl rfl rfl rfl rfl rfl ⟨rfl, rfl, rfl, rfl, rfl⟩ rfl rfl rfl rfl rfl (by kernel_rfl) Tryz.func5 closedR
    (of_decide_eq_true (by kernel_rfl)) (by unfold Func.isWrapper; first | (rw [if_pos (by decide +kernel)]; kernel_rfl) | (rw [if_neg (by decide +kernel)]; exact ⟨rfl, rfl⟩))
    (fun os started H enc _ => by rw [OpenClaim.pre_eq_preRow]; exact liftedR hMade os started H enc)
theorem plainR (f : FuncId) (fn : Func) (hf : Tryz.pinned.checked.prog.funcNamed "bulkhead/bulkheadkeep.Printed" = some f) (hfn : Tryz.pinned.checked.prog.funcs[f]? = some fn) :
    true = Tryz.pinned.checked.prog.looks [] ∧ ∀ (j : Nat) t, fn.params[j]? = some t → Tryz.pinned.checked.prog.wantsStandIn t = false := by
  obtain rfl : f = 5 := Option.some.inj ((show Tryz.prog.funcNamed "bulkhead/bulkheadkeep.Printed" = some 5 by kernel_rfl).symm.trans hf) |>.symm
  obtain rfl : fn = Tryz.f5 := (Option.some.inj (Tryz.func5.symm.trans hfn)).symm
  refine ⟨by kernel_rfl, fun j t ht => ?_⟩
  rw [Tryz.params5] at ht
  obtain rfl : t = 48 := by simpa using Array.mem_of_getElem? ht
  exact (show Tryz.prog.wantsStandIn 48 = false by kernel_rfl)
theorem printedCard_of (hMade : MadeK) : Rows.PrintedCardSaid :=
  Claim7.holds_tied_plain_at .later [] _ _ _ _ (saidR (madeC_of hMade)) (fun _ h => by cases h) (by kernel_rfl) (fun _ h => by cases h) printed_row_tie rfl ⟨rfl, rfl⟩ (by kernel_rfl) rfl plainR (by kernel_rfl)
end Go.Proofs.YteioennfpkoagaaGreatDoor.C
