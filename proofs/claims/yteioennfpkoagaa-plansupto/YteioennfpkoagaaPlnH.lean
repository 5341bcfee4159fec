import Derived.Test.YteioennfpkoagaaPlnG
import Derived.Test.YteioennfpkoagaaChkR
import Derived.Test.YteioennfpkoagaaRowP
namespace Go.Proofs.Yteioennfpkoagaa.C
open Go.ChangeShapes Go.WideShapes Go.ChangeAt Go.RowKit

theorem cManP : Try.prog.cellsOf 34 = 3 := by kernel_rfl
theorem open_mans {H : Type} {enc : TypeId × Value → H} {w : World} {base : Nat} {spare : Nat → Bool} {held : Bool} {fuel : Nat} {cs : List Value} {x : DataW H × List MemPlace} (h : DataW.trod enc Try.prog w base spare held fuel 22 cs = some x) (hb : Rows.uptoBulk x.1 ≤ 1048576) :
    ∃ v n, cs = [v] ∧ MansV w v n ∧ n ≤ 1048576 := by
  obtain ⟨va, n, cap, rfl, hbk, hrow⟩ := open_rows Try.underlying22 cManP (by omega) h
  refine ⟨_, n, rfl, ⟨va, cap, rfl, fun i hi => ?_⟩, by omega⟩
  obtain ⟨b, off, row, y, k, e1, e2, e3, e4, e5⟩ := hrow i hi
  obtain ⟨f, pv, cv, ps, ks, rfl, hp, hc, h1, h2, h3⟩ := open_man e4
  exact ⟨b, off, f, pv, cv, ps, ks, e1, e3 0 (by omega), e3 1 (by omega), e3 2 (by omega), hp, hc, by omega, by omega, fun j hj => by have := h3 j hj; omega⟩
set_option maxRecDepth 100000 in
theorem contractP (hPlan : PlanC) (H : Type) (enc : TypeId × Value → H) (W : World) (base : Nat) (args : Array Value) (ds gs : List (DataW H)) (before : List MemPlace)
    (hval : ∀ (j : Nat) t v, Try.f3.params[j]? = some t → args[j]? = some v → Value.okWide Try.prog W .any base t v)
    (hW : DataW.Whole enc Try.prog Try.f3.params.toList Rows.plansSpec.vars false W args.toList ds gs before) (hk : Rows.uptoSmall H (ds ++ gs) = true) :
    Calls Try.prog 3 args W fun e W' => ∃ v, e = .returned v ∧ Rows.plansSpec.post enc Try.prog Try.f3 false true false false W args v W' := by
  have hW' := hW
  obtain ⟨p, q, hA0, hV, rfl, hfz, hnd⟩ := hW
  have hA : DataW.TrodAll enc Try.prog W 0 (fun _ => true) true Try.f3.params.toList args.toList ds p := hA0
  rw [Try.params3] at hA hval
  obtain ⟨v0, vs0, d0, ds0, p0, q0, hargs, rfl, rfl, h0, r0⟩ := trodAll_cons hA
  obtain ⟨rfl, rfl, rfl⟩ := trodAll_nil r0
  obtain rfl : args = #[v0] := by cases args; simp_all
  obtain ⟨rfl, rfl⟩ := trodVars_none hV
  obtain ⟨va, n0, cap0, rfl⟩ := okWide_slice Try.underlying22 (hval 0 22 v0 rfl rfl)
  have h0k := h0
  obtain ⟨fuel, hf⟩ := h0
  have hb : Rows.uptoBulkAll (H := H) ([d0] ++ []) ≤ 1048576 := by simpa [Rows.uptoSmall] using hk
  simp only [List.append_nil, Rows.uptoBulkAll] at hb
  obtain ⟨v, n, hcs, hv, hn⟩ := open_mans hf (by simp only []; omega)
  obtain rfl : .slice va n0 cap0 = v := by simpa [Value.cells] using hcs
  refine (plans_true hPlan W _ n hv hn).mono ?_
  rintro e W' ⟨rfl, hb⟩
  clear hA0
  simp only [List.append_nil] at hW'
  have hlt : ∀ x ∈ p0, x.block < W.heap.size := fun x hx => hW'.lt x hx
  exact ⟨_, rfl, post_of_below (pa := p0) (pv := []) hW' (fun _ _ _ => trodAll_cons_mk (shut_bool Try.underlying4 _) trodAll_mk0)
    (fun sp hs => trodAll_mk1 (WideElems.Trod_stays laidOutP (by kernel_rfl) (of_decide_eq_true (by kernel_rfl)) h0k (fun x hx => hb.same (hlt x hx)) (fun x hx => hs x hx))) (fun _ _ => rfl) (by simp)
    hb (ok_one (by kernel_rfl) rfl (okWide_bool_mk Try.underlying4 _))⟩
end Go.Proofs.Yteioennfpkoagaa.C
