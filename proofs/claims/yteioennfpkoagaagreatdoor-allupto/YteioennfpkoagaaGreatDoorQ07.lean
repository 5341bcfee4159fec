import Derived.Test.YteioennfpkoagaaGreatDoorQ06
import Derived.Test.YteioennfpkoagaaGreatDoorB28
import Derived.Test.YteioennfpkoagaaGreatDoorN16
import Derived.Test.YteioennfpkoagaaGreatDoorCards
import Derived.Test.YteioennfpkoagaaGreatDoorTie
namespace Go.Proofs.YteioennfpkoagaaGreatDoor.C
open Go.ChangeShapes Go.WideShapes Go.ChangeAt Go.RowKit

theorem laidSameG : Rows.allUptoRow.laid = Rows.allUptoRow.laid := rfl
set_option maxRecDepth 100000 in
theorem contractG (H : Type) (enc : TypeId × Value → H) (W : World) (base : Nat) (args : Array Value) (ds gs : List (DataW H)) (before : List MemPlace)
    (hval : ∀ (j : Nat) t v, Tryz.f4.params[j]? = some t → args[j]? = some v → Value.okWide Tryz.prog W .any base t v)
    (hW : DataW.Whole enc Tryz.prog Tryz.f4.params.toList Rows.allSpec.vars false W args.toList ds gs before) (hk : Rows.uptoSmall H (ds ++ gs) = true) (hL : laidMetH Tryz.prog Rows.allUptoRow.laid W) :
    Calls Tryz.prog 4 args W fun e W' => ∃ v, e = .returned v ∧ Rows.allSpec.post enc Tryz.prog Tryz.f4 false true false false W args v W' := by
  rw [laidSameG] at hL
  have ht := tb_of_laidK hL
  have hW' := hW
  obtain ⟨p, q, hA0, hV, rfl, hfz, hnd⟩ := hW
  have hA : DataW.TrodAll enc Tryz.prog W 0 (fun _ => true) true Tryz.f4.params.toList args.toList ds p := hA0
  rw [Tryz.params4] at hA hval
  obtain ⟨v0, vs0, d0, ds0, p0, q0, hargs, rfl, rfl, h0, r0⟩ := trodAll_cons hA
  obtain ⟨v1, vs1, d1, ds1, p1, q1, rfl, rfl, rfl, h1, r1⟩ := trodAll_cons r0
  obtain ⟨v2, vs2, d2, ds2, p2, q2, rfl, rfl, rfl, h2, r2⟩ := trodAll_cons r1
  obtain ⟨rfl, rfl, rfl⟩ := trodAll_nil r2
  obtain rfl : args = #[v0, v1, v2] := by cases args; simp_all
  obtain ⟨rfl, rfl⟩ := trodVars_none hV
  have h0k := h0
  obtain ⟨fuel0, hf0⟩ := h0
  obtain ⟨cs0, rfl, _⟩ := okWide_struct Tryz.underlying34 (hval 0 34 v0 rfl rfl)
  obtain ⟨x0, pv0, cv0, ps0, ks0, hcs0, hp0, hc0, hl0, hm0, hr0⟩ := open_man hf0
  obtain rfl : cs0 = #[.int .i64 x0, pv0, cv0] := by
    cases cs0
    simpa [Value.cells] using hcs0
  have h1k := h1
  obtain ⟨fuel1, hf1⟩ := h1
  obtain ⟨cs1, rfl, _⟩ := okWide_struct Tryz.underlying34 (hval 1 34 v1 rfl rfl)
  obtain ⟨x1, pv1, cv1, ps1, ks1, hcs1, hp1, hc1, hl1, hm1, hr1⟩ := open_man hf1
  obtain rfl : cs1 = #[.int .i64 x1, pv1, cv1] := by
    cases cs1
    simpa [Value.cells] using hcs1
  have h2k := h2
  obtain ⟨fuel2, hf2⟩ := h2
  obtain ⟨va2, n2, cap2, rfl⟩ := okWide_slice Tryz.underlying45 (hval 2 45 v2 rfl rfl)
  obtain ⟨u2, L2, hcs2, hb2, hv2⟩ := open_ops hf2
  obtain rfl : .slice va2 n2 cap2 = u2 := by simpa [Value.cells] using hcs2
  have hb : Rows.uptoBulkAll (H := H) ([d0, d1, d2] ++ []) ≤ 1048576 := by simpa [Rows.uptoSmall] using hk
  simp only [List.append_nil, Rows.uptoBulkAll] at hb
  simp only [] at hl0 hm0 hr0
  simp only [] at hl1 hm1 hr1
  simp only [] at hb2
  refine (all_law kerI W ht x0 ps0 ks0 pv0 cv0 x1 ps1 ks1 pv1 cv1 _ L2 hp0 hc0 (by omega) (by omega) (fun i hi => by have := hr0 i hi; omega) hp1 hc1 (by omega) (by omega) (fun i hi => by have := hr1 i hi; omega) hv2 (by omega)).mono ?_
  rintro e W' ⟨rfl, hb'⟩
  clear hA0
  simp only [List.append_nil] at hW'
  have hlt : ∀ x ∈ p0 ++ (p1 ++ (p2)), x.block < W.heap.size := fun x hx => hW'.lt x hx
  exact ⟨_, rfl, post_of_below (pa := p0 ++ (p1 ++ (p2))) (pv := []) hW' (fun _ _ _ => trodAll_cons_mk (shut_bool Tryz.underlying4 _) trodAll_mk0)
    (fun sp hs => trodAll_cons_mk (WideElems.Trod_stays laidOutP (by kernel_rfl) (of_decide_eq_true (by kernel_rfl)) h0k (fun x hx => hb'.same (hlt x (List.mem_append_left _ hx))) (fun x hx => hs x (List.mem_append_left _ hx))) (trodAll_cons_mk (WideElems.Trod_stays laidOutP (by kernel_rfl) (of_decide_eq_true (by kernel_rfl)) h1k (fun x hx => hb'.same (hlt x (List.mem_append_right _ (List.mem_append_left _ hx)))) (fun x hx => hs x (List.mem_append_right _ (List.mem_append_left _ hx)))) (trodAll_mk1 (WideElems.Trod_stays laidOutP (by kernel_rfl) (of_decide_eq_true (by kernel_rfl)) h2k (fun x hx => hb'.same (hlt x (List.mem_append_right _ (List.mem_append_right _ (hx))))) (fun x hx => hs x (List.mem_append_right _ (List.mem_append_right _ (hx)))))))) (fun _ _ => rfl) (by simp)
    hb' (ok_one (by kernel_rfl) rfl (okWide_bool_mk Tryz.underlying4 _))⟩
theorem laidIsG (os : Os) : laidMetH Tryz.prog Rows.allUptoRow.laid ((laidK Tryz.prog os).forCall (fun _ _ => 0) ⟨#[], #[.agg #[.int .i64 0, .slice none 0 0, .slice none 0 0], .agg #[.int .i64 0, .slice none 0 0, .slice none 0 0], .slice none 0 0], []⟩).memory := by
  rw [laidSameG]
  unfold laidMetH
  rw [filtSomeK, filtNoneK]
  exact laidMet_of_run' 8 (by kernel_rfl) (by kernel_rfl)
theorem readsG (os : Os) {H : Type} (enc : TypeId × Value → H) : ∃ places, DataW.whole enc Tryz.prog ((laidK Tryz.prog os).forCall (fun _ _ => 0) ⟨#[], #[.agg #[.int .i64 0, .slice none 0 0, .slice none 0 0], .agg #[.int .i64 0, .slice none 0 0, .slice none 0 0], .slice none 0 0], []⟩).memory Tryz.f4.params.toList Rows.allSpec.vars false #[Value.agg #[.int .i64 0, .slice none 0 0, .slice none 0 0], Value.agg #[.int .i64 0, .slice none 0 0, .slice none 0 0], Value.slice none 0 0].toList 8 = some ([.agg [.lit (.int .i64 0), .nil, .nil], .agg [.lit (.int .i64 0), .nil, .nil], .nil], [], places) :=
  ⟨[], by kernel_rfl⟩
set_option maxRecDepth 100000 in
theorem liftedG (os : Os) (started : os.Started) (H : Type) (enc : TypeId × Value → H) (F : Stop.Interp) :
    ReturnsInHanded {} Tryz.checked os 4 .any ((Rows.OpenSpec.upto Rows.allSpec).preRow enc Tryz.prog Tryz.f4 Rows.allUptoRow.domain false Rows.allUptoRow.laid) (((Rows.OpenSpec.upto Rows.allSpec).at F).post enc Tryz.prog Tryz.f4 false true false false) := by
  obtain ⟨places, hx⟩ := readsG os enc
  refine returnsInHanded_of_row (C := Tryz.checked) (s := Rows.OpenSpec.upto Rows.allSpec) ownK started (by kernel_rfl) Tryz.func4
    (witness_row_atRef (enc := enc) (C := Tryz.checked) false (laidK Tryz.prog os) #[.agg #[.int .i64 0, .slice none 0 0, .slice none 0 0], .agg #[.int .i64 0, .slice none 0 0, .slice none 0 0], .slice none 0 0] rfl (by kernel_rfl) (by kernel_rfl) (by kernel_rfl)
      (OpenSpec.preRow_of_cond 8 hx (by kernel_rfl) (fun k hk => by cases hk; kernel_rfl) (by kernel_rfl) (laidIsG os))) ?_
  intro W base args ds gs before hval hW _ hcond _ hL _ _
  exact contractG H enc W base args ds gs before hval hW (hcond _ rfl) hL
set_option maxHeartbeats 8000000 in
theorem closedG : joinedFacts Tryz.pinned.checked.prog 4 Tryz.f4 (Rows.OpenSpec.upto Rows.allSpec).bare Rows.allUptoRow = true := by
  simp only [joinedFacts, Bool.and_eq_true]
  and_intros <;> (as_aux_lemma => kernel_rfl)
theorem saidG : Rows.AllUptoSaid :=
  OpenClaim.holds_of_cond 4 Tryz.f4 rfl rfl rfl rfl rfl rfl rfl ⟨rfl, rfl, rfl, rfl, rfl⟩ rfl rfl rfl rfl rfl (by kernel_rfl) Tryz.func4 closedG
    (of_decide_eq_true (by kernel_rfl)) (by unfold Func.isWrapper; first | (rw [if_pos (by decide +kernel)]; kernel_rfl) | (rw [if_neg (by decide +kernel)]; exact ⟨rfl, rfl⟩))
    (fun os started H enc _ F => by rw [OpenClaim.pre_eq_preRow]; exact liftedG os started H enc F)
theorem plainG (f : FuncId) (fn : Func) (hf : Tryz.pinned.checked.prog.funcNamed "bulkhead/bulkheadlaw.All" = some f) (hfn : Tryz.pinned.checked.prog.funcs[f]? = some fn) :
    true = Tryz.pinned.checked.prog.looks [] ∧ ∀ (j : Nat) t, fn.params[j]? = some t → Tryz.pinned.checked.prog.wantsStandIn t = false := by
  obtain rfl : f = 4 := Option.some.inj ((show Tryz.prog.funcNamed "bulkhead/bulkheadlaw.All" = some 4 by kernel_rfl).symm.trans hf) |>.symm
  obtain rfl : fn = Tryz.f4 := (Option.some.inj (Tryz.func4.symm.trans hfn)).symm
  refine ⟨by kernel_rfl, fun j t ht => ?_⟩
  rw [Tryz.params4] at ht
  have hm := Array.mem_of_getElem? ht
  simp at hm
  rcases hm with rfl | rfl
  · exact (show Tryz.prog.wantsStandIn 34 = false by kernel_rfl)
  · exact (show Tryz.prog.wantsStandIn 45 = false by kernel_rfl)
theorem cardG : Rows.AllUptoCardSaid :=
  Claim7.holds_tied_plain_at .later [] _ _ _ _ saidG (fun _ h => by cases h) (by kernel_rfl) (fun _ h => by cases h) allUpto_row_tie rfl ⟨rfl, rfl⟩ (by kernel_rfl) rfl plainG (by kernel_rfl)
end Go.Proofs.YteioennfpkoagaaGreatDoor.C
namespace Go.Proofs.YteioennfpkoagaaGreatDoor
theorem allCardUpto : Rows.AllUptoCardSaid := C.cardG
end Go.Proofs.YteioennfpkoagaaGreatDoor
