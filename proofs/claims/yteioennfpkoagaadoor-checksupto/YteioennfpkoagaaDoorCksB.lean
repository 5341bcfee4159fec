import Derived.Test.YteioennfpkoagaaDoorCksA
import Derived.Test.YteioennfpkoagaaDoorChkR
import Derived.Test.YteioennfpkoagaaDoorRows
import Derived.Test.YteioennfpkoagaaDoorRowP
import Derived.Stop.LaidErr
import Derived.LaidHandle
import Derived.LaidLaws
import Derived.Lib.LaidTab
import Derived.ChangeSame
import Derived.Carry
import Derived.ProofKit
import Derived.OpenShut
import Derived.Deep.DeepHandedRow
import Derived.Deep.DeepWitnessRowRef
namespace Go.Proofs.YteioennfpkoagaaDoor.C
open Go.ChangeShapes Go.WideShapes Go.ChangeAt Go.RowKit

theorem filtNone : (Rows.checksUptoRow.laid.filter fun x => x.2.handleName?.isNone) = Rows.checksUptoRow.laid := by kernel_rfl
theorem filtSome : (Rows.checksUptoRow.laid.filter fun x => x.2.handleName?.isSome) = [] := by kernel_rfl
theorem laid_all {W : World} (h : laidMetH Tryd.prog Rows.checksUptoRow.laid W) : laidMet Tryd.prog Rows.checksUptoRow.laid W := by
  unfold laidMetH at h
  rw [filtSome, filtNone] at h
  exact h
theorem tb_of_laid {W : World} (h : laidMetH Tryd.prog Rows.checksUptoRow.laid W) : TB W := by
  have h3 := (laid_all h).tail.tail
  exact Lib.tabIs_of_head (g := 0) (t := 117) (e := 105) (n := 20) (rest := []) (by kernel_rfl) (by kernel_rfl) Tryd.underlying117 Tryd.underlying105 (by kernel_rfl) (by kernel_rfl) h3

set_option maxRecDepth 100000 in
theorem contract (H : Type) (enc : TypeId × Value → H) (W : World) (base : Nat) (args : Array Value) (ds gs : List (DataW H)) (before : List MemPlace)
    (hval : ∀ (j : Nat) t v, Tryd.f3.params[j]? = some t → args[j]? = some v → Value.okWide Tryd.prog W .any base t v)
    (hW : DataW.Whole enc Tryd.prog Tryd.f3.params.toList Rows.checksSpec.vars false W args.toList ds gs before) (hk : Rows.uptoSmall H (ds ++ gs) = true) (hL : laidMetH Tryd.prog Rows.checksUptoRow.laid W) :
    Calls Tryd.prog 3 args W fun e W' => ∃ v, e = .returned v ∧ Rows.checksSpec.post enc Tryd.prog Tryd.f3 false true false false W args v W' := by
  have hW' := hW
  obtain ⟨p, q, hA0, hV, rfl, hfz, hnd⟩ := hW
  have hA : DataW.TrodAll enc Tryd.prog W 0 (fun _ => true) true Tryd.f3.params.toList args.toList ds p := hA0
  rw [Tryd.params3] at hA hval
  obtain ⟨v0, vs0, d0, ds0, p0, q0, hargs, rfl, rfl, h0, r0⟩ := trodAll_cons hA
  obtain ⟨rfl, rfl, rfl⟩ := trodAll_nil r0
  obtain rfl : args = #[v0] := by cases args; simp_all
  obtain ⟨rfl, rfl⟩ := trodVars_none hV
  obtain ⟨cs, rfl, _⟩ := okWide_struct Tryd.underlying25 (hval 0 25 v0 rfl rfl)
  have ht := tb_of_laid hL
  have h0k := h0
  obtain ⟨fuel, hf⟩ := h0
  obtain ⟨f, pv, cv, ps, ks, hcs, hp, hc, h1, h2, h3⟩ := open_man hf
  obtain rfl : cs = #[.int .i64 f, pv, cv] := by
    cases cs
    simpa [Value.cells] using hcs
  have hb : Rows.uptoBulkAll (H := H) ([d0] ++ []) ≤ 1048576 := by simpa [Rows.uptoSmall] using hk
  simp only [List.append_nil, Rows.uptoBulkAll] at hb
  simp only [] at h1 h2 h3
  refine (checks_true f ps ks pv cv W ht hp hc (by omega) (by omega) (fun i hi => by have := h3 i hi; omega)).mono ?_
  rintro e W' ⟨rfl, hb⟩
  clear hA0
  simp only [List.append_nil] at hW'
  have hlt : ∀ x ∈ p0, x.block < W.heap.size := fun x hx => hW'.lt x hx
  exact ⟨_, rfl, post_of_below (pa := p0) (pv := []) hW' (fun _ _ _ => trodAll_cons_mk (shut_bool Tryd.underlying4 _) trodAll_mk0)
    (fun sp hs => trodAll_mk1 (WideElems.Trod_stays laidOutP (by kernel_rfl) (of_decide_eq_true (by kernel_rfl)) h0k (fun x hx => hb.same (hlt x hx)) (fun x hx => hs x hx))) (fun _ _ => rfl) (by simp)
    hb (ok_one (by kernel_rfl) rfl (okWide_bool_mk Tryd.underlying4 _))⟩
end Go.Proofs.YteioennfpkoagaaDoor.C
