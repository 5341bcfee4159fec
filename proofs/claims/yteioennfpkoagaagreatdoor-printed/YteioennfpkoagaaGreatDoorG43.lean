import Derived.Test.YteioennfpkoagaaGreatDoorG16
import Derived.Test.YteioennfpkoagaaGreatDoorRows
import Derived.Stop.LaidErr
import Derived.LaidHandle
import Derived.LaidLaws
import Derived.Test.YteioennfpkoagaaGreatDoorG42
import Derived.SliceStrings
import Derived.ChangeSame
import Derived.Carry
import Derived.ProofKit
import Derived.OpenShut
import Derived.Deep.DeepHandedRow
import Derived.Deep.DeepWitnessRowRef
namespace Go.Proofs.YteioennfpkoagaaGreatDoor
open Go.ChangeShapes Go.WideShapes Go.RowKit

/- what a listed sentinel gives: its variable's cell, the cell behind it, the block that holds this -/
theorem sentAt {P : Program} {n nm : String} {text : List UInt8} {r : List (String × DataW Unit)} {W : World} {g : Nat} {ti tp te ts : TypeId} {ms : Array (String × TypeId)} {f : Field}
    (h : laidMet P ((n, .iface nm (.ptr (.agg [.lit (.string text)]))) :: r) W)
    (hg : P.globalNamed n = some g) (ht : (P.globals[g]?).map (·.type) = some ti) (hi : P.underlying ti = some (.interface ms)) (hrow : ∀ u, P.typeName? 3 u = some nm → u = tp)
    (hp : P.underlying tp = some (.pointer te)) (he : P.underlying te = some (.struct #[f])) (hft : f.type = ts) (hfo : f.offset = 0) (hs : P.underlying ts = some .string) (hc : P.cellsOf te = 1) (hcs : P.cellsOf ts = 1) :
    ∃ (a : Addr) (s : ByteArray), W.cell? ⟨g, 0, none⟩ = some (.iface tp (.pointer (some a))) ∧ W.cell? a = some (.string s) ∧ s.data.toList = text ∧ ∃ c t, W.heap[a.block]? = some (.cells c t (0, 0)) := by
  obtain ⟨ps, ⟨g0, t0, cs0, f0, p0, q0, hg0, ht0, hv0, hd0, _, e0⟩, _, hrows⟩ := h
  obtain rfl := Option.some.inj (hg.symm.trans hg0)
  obtain rfl := Option.some.inj (ht.symm.trans ht0)
  subst e0
  obtain ⟨l0⟩ := cs0
  have ok0 : ∀ u v, l0 = [.iface u v] → Value.okWide P W .any 0 u v := fun u v e => by
    subst e
    exact (hrows g 0 (by simp [MemPlace.row])).2 u v (by simpa using World.var?_cell hg0 hv0 0)
  obtain ⟨a0, s0, rfl, hc0, hs0, _, hp0⟩ := errorString_of_trod hi hrow hp he hft hfo hs hc hcs hd0 ok0
  exact ⟨a0, s0, by simpa using World.var?_cell hg0 hv0 0, hc0, hs0, (hrows a0.block a0.off (by simp [hp0, MemPlace.row])).1⟩

theorem starE : "*" ++ "errors.errorString" = "*errors.errorString" := by decide
theorem rowE (u : TypeId) (h : Tryz.prog.typeName? 3 u = some "*errors.errorString") : u = 359 :=
  typeName_ptr_named (nm := "errors.errorString") (by rw [starE]; kernel_rfl) (by kernel_rfl) (by decide) u (by rw [starE]; exact h)
theorem cellsES : Tryz.prog.cellsOf 361 = 1 := by kernel_rfl
theorem cellsStr : Tryz.prog.cellsOf 9 = 1 := by kernel_rfl
theorem sent {n : String} {text : List UInt8} {r : List (String × DataW Unit)} {W : World} {g : Nat}
    (h : laidMet Tryz.prog ((n, .iface "*errors.errorString" (.ptr (.agg [.lit (.string text)]))) :: r) W) (hg : Tryz.prog.globalNamed n = some g) (ht : (Tryz.prog.globals[g]?).map (·.type) = some 96) :
    ∃ (a : Addr) (s : ByteArray), W.cell? ⟨g, 0, none⟩ = some (errV a) ∧ W.cell? a = some (.string s) ∧ s.data.toList = text ∧ ∃ c t, W.heap[a.block]? = some (.cells c t (0, 0)) :=
  sentAt h hg ht Tryz.underlying96 rowE Tryz.underlying359 Tryz.underlying361 rfl rfl Tryz.underlying9 cellsES cellsStr

def laidRest : List (String × DataW Unit) := [("math/bits.deBruijn32tab", Rows.laid_math_bits_deBruijn32tab), ("math/bits.deBruijn64tab", Rows.laid_math_bits_deBruijn64tab), ("internal/strconv.uint64pow10", Rows.laid_internal_strconv_uint64pow10), ("strconv.ErrRange", Rows.laid_strconv_ErrRange), ("strconv.ErrSyntax", Rows.laid_strconv_ErrSyntax), ("bulkhead/manifest.errSyntax", Rows.laid_bulkhead_manifest_errSyntax), ("bulkhead/manifest.errNumber", Rows.laid_bulkhead_manifest_errNumber), ("bulkhead/manifest.errWord", Rows.laid_bulkhead_manifest_errWord), ("bulkhead/manifest.errUnknown", Rows.laid_bulkhead_manifest_errUnknown)]
theorem filtSome : (Rows.textsUptoRow.laid.filter fun x => x.2.handleName?.isSome) = [("errors.errorType", Rows.laid_errors_errorType)] := by kernel_rfl
theorem filtNone : (Rows.textsUptoRow.laid.filter fun x => x.2.handleName?.isNone) = laidRest := by kernel_rfl
theorem laid_parts {W : World} (h : laidMetH Tryz.prog Rows.textsUptoRow.laid W) : laidMet Tryz.prog laidRest W ∧ handlesMet Tryz.prog [("errors.errorType", Rows.laid_errors_errorType)] W := by
  unfold laidMetH at h
  rw [filtSome, filtNone] at h
  exact h
theorem etName : Tryz.prog.globalNamed "errors.errorType" = some 3 := by kernel_rfl
theorem rtName : (Tryz.prog.cutTypes.find? (·.1 == "internal/reflectlite.rtype")).map (·.2) = some 287 := by kernel_rfl
theorem oneRow : ((List.range Tryz.prog.types.size).filter fun t => Tryz.prog.rowNamed t [101, 114, 114, 111, 114]) = [96] := by kernel_rfl
theorem handle_at {W : World} (h : handlesMet Tryz.prog [("errors.errorType", Rows.laid_errors_errorType)] W) : W.cell? ⟨3, 0, none⟩ = some (.iface 287 (.agg #[.pointer (some ⟨11, 96, none⟩)])) := by
  obtain ⟨name, u, ty, e1, e2, e3, e4, e5⟩ := h _ (List.mem_singleton.2 rfl)
  have en : name = [101, 114, 114, 111, 114] := (Option.some.inj e1).symm
  subst en
  obtain rfl := Option.some.inj (rtName.symm.trans e2)
  have hm : ty ∈ (List.range Tryz.prog.types.size).filter fun t => Tryz.prog.rowNamed t [101, 114, 114, 111, 114] := List.mem_filter.2 ⟨List.mem_range.2 e3, e4⟩
  rw [oneRow] at hm
  obtain rfl := List.mem_singleton.1 hm
  have hh : typeHandle Tryz.prog 96 = .pointer (some ⟨11, 96, none⟩) := by kernel_rfl
  rw [hh] at e5
  simpa using World.var?_cell etName e5 0
theorem ne_of_text {W : World} {a b : Addr} {s t : ByteArray} {x y : List UInt8} (ha : W.cell? a = some (.string s)) (hb : W.cell? b = some (.string t)) (hs : s.data.toList = x) (ht : t.data.toList = y) (hxy : x ≠ y) : a ≠ b := by
  intro e
  subst e
  have := ha.symm.trans hb
  simp only [Option.some.injEq, Value.string.injEq] at this
  subst this
  exact hxy (hs.symm.trans ht)
theorem gl_of_laid {W : World} (h : laidMetH Tryz.prog Rows.textsUptoRow.laid W) (hsz : 11 ≤ W.heap.size) : ∃ ew en eu es ex, GL W W.heap.size ew en eu es ex := by
  obtain ⟨h1, h2⟩ := laid_parts h
  have h3 := h1.tail.tail.tail.tail
  obtain ⟨ex, _, cx, _, _, _⟩ := sent h3 (g := 7) (by kernel_rfl) (by kernel_rfl)
  obtain ⟨es, ts, cs, ds, xs, qs⟩ := sent h3.tail (g := 4) (by kernel_rfl) (by kernel_rfl)
  obtain ⟨en, tn, cn, dn, xn, qn⟩ := sent h3.tail.tail (g := 1) (by kernel_rfl) (by kernel_rfl)
  obtain ⟨ew, tw, cw, dw, xw, qw⟩ := sent h3.tail.tail.tail (g := 0) (by kernel_rfl) (by kernel_rfl)
  obtain ⟨eu, tu, cu, du, xu, qu⟩ := sent h3.tail.tail.tail.tail (g := 2) (by kernel_rfl) (by kernel_rfl)
  have lt : ∀ {k : Nat}, (∃ c t, W.heap[k]? = some (.cells c t (0, 0))) → k < W.heap.size := by
    rintro k ⟨c, t, e⟩
    exact (Array.getElem?_eq_some_iff.1 e).1
  exact ⟨ew, en, eu, es, ex, Nat.le_refl _, cw, cn, cu, cs, cx, handle_at h2, qw, qn, qu, qs,
    ⟨ne_of_text dw dn xw xn (by decide), ne_of_text dw du xw xu (by decide), ne_of_text dw ds xw xs (by decide), ne_of_text dn du xn xu (by decide), ne_of_text dn ds xn xs (by decide), ne_of_text du ds xu xs (by decide)⟩,
    lt qw, lt qn, lt qu, lt qs, hsz⟩
theorem size_of_shaped {W : World} (h : W.ShapedOpen Tryz.prog) : 11 ≤ W.heap.size := by
  have e : (((begin Tryz.prog (fun _ _ => 0) default).world.heap[10]?).bind Obj.row?).isSome = true := by kernel_rfl
  obtain ⟨⟨zero, t⟩, e⟩ := Option.isSome_iff_exists.1 e
  obtain ⟨cs, hc, _⟩ := h.1 10 zero t (of_decide_eq_true (by kernel_rfl)) e
  have := (Array.getElem?_eq_some_iff.1 hc).1
  omega
end Go.Proofs.YteioennfpkoagaaGreatDoor
namespace Go.Proofs.YteioennfpkoagaaGreatDoor
open Go.ChangeShapes Go.WideShapes Go.ChangeAt Go.RowKit

theorem bulk_one {H : Type} (d : DataW H) : 1 ≤ Rows.uptoBulk d := by
  cases d with
  | lit l => cases l <;> simp [Rows.uptoBulk]
  | nil => simp [Rows.uptoBulk]
  | ptr d => simp [Rows.uptoBulk]
  | slice elems spare => simp [Rows.uptoBulk]
  | agg parts => simp [Rows.uptoBulk]
  | iface t d => simp [Rows.uptoBulk]
  | map entries => simp [Rows.uptoBulk]
  | held h => simp [Rows.uptoBulk]
theorem bulk_len {H : Type} (l : List (DataW H)) : l.length ≤ Rows.uptoBulkAll l := by
  induction l with
  | nil => simp
  | cons x r ih => have := bulk_one x; simp only [Rows.uptoBulkAll, List.length_cons]; omega

/- nothing old has turned: what 'post' asks -/
theorem post_of_below {H : Type} {enc : TypeId × Value → H} {P : Program} {f : Func} {s : ChangeSpec} {apart fresh handsOn again : Bool} {W W' : World} {args : Array Value} {v : Value} {ds gs : List (DataW H)} {before pa pv : List MemPlace}
    (hW : DataW.Whole enc P f.params.toList s.vars apart W args.toList ds gs before)
    (hres : ∀ (b : Nat) (sp : Nat → Bool) (hd : Bool), DataW.TrodAll enc P W' b sp hd f.resultTypes.toList (v.resultList f.resultTypes.size) (s.fn H (ds ++ gs)).results [])
    (hargs : ∀ sp : Nat → Bool, (∀ p ∈ before, sp p.block = true) → DataW.TrodAll enc P W' 0 sp true f.params.toList args.toList (s.fn H (ds ++ gs)).args pa)
    (hvars : ∀ sp : Nat → Bool, (∀ p ∈ before, sp p.block = true) → DataW.TrodVars enc P W' sp s.vars (s.fn H (ds ++ gs)).vars pv)
    (hps : before = pa ++ pv) (hb : Below W.heap.size W W')
    (hok : ∀ (j : Nat) (t : TypeId) (r : Value), f.resultTypes[j]? = some t → (v.resultList f.resultTypes.size)[j]? = some r → Value.okWide P W' .any 0 t r) :
    s.post enc P f apart fresh handsOn again W args v W' := by
  have hlt := hW.lt
  have hold : ∀ p ∈ before, (fun b => decide (b < W.heap.size)) p.block = true := fun p hp => by simpa using hlt p hp
  refine ⟨ds, gs, before, [], pa, pv, hW, hres _ _ _, hargs _ hold, hvars _ hold, World.keptBut_mono (fun p hp => ⟨hp, ?_⟩) (hb.frame (· ∈ before)), fun _ => ?_⟩
  · rw [hps, List.mem_append] at hp
    exact Or.inr hp
  · obtain ⟨_, _, _, _, _, hz, hn⟩ := hW
    refine ⟨hok, _, _, ([] ++ pa) ++ pv, ⟨[] ++ pa, pv, trodAll_append (hargs _ (fun _ _ => rfl)) (hres _ _ _), hvars _ (fun _ _ => rfl), rfl, ?_, ?_⟩, ?_⟩
    · intro b off hp
      have hm : MemPlace.cell b off ∈ before := by rw [hps]; simpa using hp
      rw [hb.frozen (hlt _ hm)]
      exact hz b off hm
    · intro ha
      have := hn ha
      rw [hps] at this
      simpa using this
    · intro p hp _
      rw [hps]
      simpa using hp

theorem ownK : ownKnob Tryz.prog.godebug = none := by kernel_rfl
theorem laidOutP : laidOutB Tryz.prog = true := by kernel_rfl

set_option maxRecDepth 100000 in
theorem contract (H : Type) (enc : TypeId × Value → H) (W : World) (base : Nat) (args : Array Value) (ds gs : List (DataW H)) (before : List MemPlace)
    (hval : ∀ (j : Nat) t v, Tryz.f3.params[j]? = some t → args[j]? = some v → Value.okWide Tryz.prog W .any base t v)
    (hW : DataW.Whole enc Tryz.prog Tryz.f3.params.toList Rows.textsSpec.vars false W args.toList ds gs before) (hk : Rows.uptoSmall H (ds ++ gs) = true) (hL : laidMetH Tryz.prog Rows.textsUptoRow.laid W) (hsh : W.ShapedOpen Tryz.prog) :
    Calls Tryz.prog 3 args W fun e W' => ∃ v, e = .returned v ∧ Rows.textsSpec.post enc Tryz.prog Tryz.f3 false true false false W args v W' := by
  have hW' := hW
  obtain ⟨p, q, hA0, hV, rfl, hfz, hnd⟩ := hW
  have hA : DataW.TrodAll enc Tryz.prog W 0 (fun _ => true) true Tryz.f3.params.toList args.toList ds p := hA0
  rw [Tryz.params3] at hA hval
  obtain ⟨v0, vs0, d0, ds0, p0, q0, hargs, rfl, rfl, h0, r0⟩ := trodAll_cons hA
  obtain ⟨rfl, rfl, rfl⟩ := trodAll_nil r0
  obtain rfl : args = #[v0] := by cases args; simp_all
  obtain ⟨rfl, rfl⟩ := trodVars_none hV
  obtain ⟨va, n, cap, rfl⟩ := okWide_slice Tryz.underlying22 (hval 0 22 v0 rfl rfl)
  obtain ⟨ew, en, eu, es, ex, hg⟩ := gl_of_laid hL (size_of_shaped hsh)
  have h0k := h0
  obtain ⟨fuel, hf⟩ := h0
  have key : n ≤ 1048576 ∧ ∃ ss : Nat → ByteArray, ∀ i, i < n → ∃ a, va = some a ∧ a.block < W.heap.size ∧ W.cell? (a.add i) = some (.string (ss i)) := by
    rcases open_strings Tryz.underlying22 Tryz.underlying9 cellsStr hf with ⟨hcs, hx⟩ | ⟨a, len', cap', ss, hcs, _, hl, _, hz, hx, hcell, _⟩
    · have : va = none ∧ n = 0 ∧ cap = 0 := by simpa [Value.cells] using hcs
      obtain ⟨rfl, rfl, rfl⟩ := this
      exact ⟨by omega, fun _ => ByteArray.empty, fun i h => absurd h (by omega)⟩
    · have : va = some a ∧ n = len' ∧ cap = cap' := by simpa [Value.cells] using hcs
      obtain ⟨rfl, rfl, rfl⟩ := this
      simp only [if_true] at hz
      have hd : d0 = .slice (strs (ss.take n)) (strs (ss.drop n)) := congrArg Prod.fst hx
      subst hd
      have hb : Rows.uptoBulkAll (H := H) ([DataW.slice (strs (ss.take n)) (strs (ss.drop n))] ++ []) ≤ 1048576 := by simpa [Rows.uptoSmall] using hk
      have h1 := bulk_len (H := H) (strs (ss.take n))
      have h2 : (strs (H := H) (ss.take n)).length = n := by simp [strs]; omega
      simp only [List.append_nil, Rows.uptoBulkAll, Rows.uptoBulk] at hb
      refine ⟨by omega, fun i => ss.getD i ByteArray.empty, fun i hi => ⟨a, rfl, ?_, hcell i (by omega)⟩⟩
      have := World.block_lt_of_cell? W _ (hcell i (by omega))
      unfold Addr.add at this
      split at this <;> simpa using this
  obtain ⟨hn, ss, hss⟩ := key
  refine (texts_true W ew en eu es ex va n cap ss hg hn hss).mono ?_
  rintro e W' ⟨rfl, hb⟩
  clear hA0
  simp only [List.append_nil] at hW'
  have hlt : ∀ x ∈ p0, x.block < W.heap.size := fun x hx => hW'.lt x hx
  exact ⟨_, rfl, post_of_below (pa := p0) (pv := []) hW' (fun _ _ _ => trodAll_cons_mk (shut_bool Tryz.underlying4 _) trodAll_mk0)
    (fun sp hs => trodAll_mk1 (WideElems.Trod_stays laidOutP (by kernel_rfl) (of_decide_eq_true (by kernel_rfl)) h0k (fun x hx => hb.same (hlt x hx)) (fun x hx => hs x hx))) (fun _ _ => rfl) (by simp)
    hb (ok_one (by kernel_rfl) rfl (okWide_bool_mk Tryz.underlying4 _))⟩
end Go.Proofs.YteioennfpkoagaaGreatDoor
