import Derived.Test.YtihpidnifgandaaGreatDoorManC
import Derived.Test.YtihpidnifgandaaGreatDoorRows
import Derived.Stop.LaidErr
import Derived.LaidHandle
import Derived.LaidLaws
namespace Go.Proofs.YtihpidnifgandaaGreatDoor
open Go.ChangeShapes Go.WideShapes Go.RowKit

/- what a listed sentinel gives: its variable's cell, the cell behind it, the block that holds this -/
theorem sentAt {P : Program} {n nm : String} {text : List UInt8} {r : List (String × DataW Unit)} {W : World} {g : Nat} {ti tp te ts : TypeId} {ms : Array (String × TypeId)} {f : Field}
    (h : laidMet P ((n, .iface nm (.ptr (.agg [.lit (.string text)]))) :: r) W)
    (hg : P.globalNamed n = some g) (ht : (P.globals[g]?).map (·.type) = some ti) (hi : P.underlying ti = some (.interface ms)) (hrow : ∀ u, P.typeName? 3 u = some nm → u = tp)
    (hp : P.underlying tp = some (.pointer te)) (he : P.underlying te = some (.struct #[f])) (hft : f.type = ts) (hfo : f.offset = 0) (hs : P.underlying ts = some .string) (hc : P.cellsOf te = 1) (hcs : P.cellsOf ts = 1) :
    ∃ (a : Addr) (s : ByteArray), W.cell? ⟨g, 0, none⟩ = some (.iface tp (.pointer (some a))) ∧ W.cell? a = some (.string s) ∧ s.data.toList = text ∧ ∃ c t, W.heap[a.block]? = some (.cells c t (0, 0)) := by
  obtain ⟨ps, ⟨g0, t0, cs0, f0, p0, q0, hg0, ht0, hv0, hd0, _, e0⟩, _, hrows⟩ := h
  obtain rfl := Option.some.inj (hg.symm.trans hg0)
  obtain rfl := Option.some.inj (ht.symm.trans ht0)
  subst e0
  obtain ⟨l0⟩ := cs0
  have ok0 : ∀ u v, l0 = [.iface u v] → Value.okWide P W .any 0 u v := fun u v e => by
    subst e
    exact (hrows g 0 (by simp [MemPlace.row])).2 u v (by simpa using World.var?_cell hg0 hv0 0)
  obtain ⟨a0, s0, rfl, hc0, hs0, _, hp0⟩ := errorString_of_trod hi hrow hp he hft hfo hs hc hcs hd0 ok0
  exact ⟨a0, s0, by simpa using World.var?_cell hg0 hv0 0, hc0, hs0, (hrows a0.block a0.off (by simp [hp0, MemPlace.row])).1⟩

theorem starE : "*" ++ "errors.errorString" = "*errors.errorString" := by decide
theorem rowE (u : TypeId) (h : Tryz.prog.typeName? 3 u = some "*errors.errorString") : u = 174 :=
  typeName_ptr_named (nm := "errors.errorString") (by rw [starE]; kernel_rfl) (by kernel_rfl) (by decide) u (by rw [starE]; exact h)
theorem cellsES : Tryz.prog.cellsOf 176 = 1 := by kernel_rfl
theorem cellsStr : Tryz.prog.cellsOf 9 = 1 := by kernel_rfl
theorem sent {n : String} {text : List UInt8} {r : List (String × DataW Unit)} {W : World} {g : Nat}
    (h : laidMet Tryz.prog ((n, .iface "*errors.errorString" (.ptr (.agg [.lit (.string text)]))) :: r) W) (hg : Tryz.prog.globalNamed n = some g) (ht : (Tryz.prog.globals[g]?).map (·.type) = some 48) :
    ∃ (a : Addr) (s : ByteArray), W.cell? ⟨g, 0, none⟩ = some (errV a) ∧ W.cell? a = some (.string s) ∧ s.data.toList = text ∧ ∃ c t, W.heap[a.block]? = some (.cells c t (0, 0)) :=
  sentAt h hg ht Tryz.underlying48 rowE Tryz.underlying174 Tryz.underlying176 rfl rfl Tryz.underlying9 cellsES cellsStr

def laidRest : List (String × DataW Unit) := [("math/bits.deBruijn32tab", Rows.laid_math_bits_deBruijn32tab), ("math/bits.deBruijn64tab", Rows.laid_math_bits_deBruijn64tab), ("internal/strconv.uint64pow10", Rows.laid_internal_strconv_uint64pow10), ("strconv.ErrRange", Rows.laid_strconv_ErrRange), ("strconv.ErrSyntax", Rows.laid_strconv_ErrSyntax), ("bulkhead/manifest.errSyntax", Rows.laid_bulkhead_manifest_errSyntax), ("bulkhead/manifest.errNumber", Rows.laid_bulkhead_manifest_errNumber), ("bulkhead/manifest.errWord", Rows.laid_bulkhead_manifest_errWord), ("bulkhead/manifest.errUnknown", Rows.laid_bulkhead_manifest_errUnknown)]
theorem filtSome : (Rows.textsUptoRow.laid.filter fun x => x.2.handleName?.isSome) = [("errors.errorType", Rows.laid_errors_errorType)] := by kernel_rfl
theorem filtNone : (Rows.textsUptoRow.laid.filter fun x => x.2.handleName?.isNone) = laidRest := by kernel_rfl
theorem laid_parts {W : World} (h : laidMetH Tryz.prog Rows.textsUptoRow.laid W) : laidMet Tryz.prog laidRest W ∧ handlesMet Tryz.prog [("errors.errorType", Rows.laid_errors_errorType)] W := by
  unfold laidMetH at h
  rw [filtSome, filtNone] at h
  exact h
theorem etName : Tryz.prog.globalNamed "errors.errorType" = some 3 := by kernel_rfl
theorem rtName : (Tryz.prog.cutTypes.find? (·.1 == "internal/reflectlite.rtype")).map (·.2) = some 135 := by kernel_rfl
theorem oneRow : ((List.range Tryz.prog.types.size).filter fun t => Tryz.prog.rowNamed t [101, 114, 114, 111, 114]) = [48] := by kernel_rfl
theorem handle_at {W : World} (h : handlesMet Tryz.prog [("errors.errorType", Rows.laid_errors_errorType)] W) : W.cell? ⟨3, 0, none⟩ = some (.iface 135 (.agg #[.pointer (some ⟨11, 48, none⟩)])) := by
  obtain ⟨name, u, ty, e1, e2, e3, e4, e5⟩ := h _ (List.mem_singleton.2 rfl)
  have en : name = [101, 114, 114, 111, 114] := (Option.some.inj e1).symm
  subst en
  obtain rfl := Option.some.inj (rtName.symm.trans e2)
  have hm : ty ∈ (List.range Tryz.prog.types.size).filter fun t => Tryz.prog.rowNamed t [101, 114, 114, 111, 114] := List.mem_filter.2 ⟨List.mem_range.2 e3, e4⟩
  rw [oneRow] at hm
  obtain rfl := List.mem_singleton.1 hm
  have hh : typeHandle Tryz.prog 48 = .pointer (some ⟨11, 48, none⟩) := by kernel_rfl
  rw [hh] at e5
  simpa using World.var?_cell etName e5 0
theorem ne_of_text {W : World} {a b : Addr} {s t : ByteArray} {x y : List UInt8} (ha : W.cell? a = some (.string s)) (hb : W.cell? b = some (.string t)) (hs : s.data.toList = x) (ht : t.data.toList = y) (hxy : x ≠ y) : a ≠ b := by
  intro e
  subst e
  have := ha.symm.trans hb
  simp only [Option.some.injEq, Value.string.injEq] at this
  subst this
  exact hxy (hs.symm.trans ht)
theorem gl_of_laid {W : World} (h : laidMetH Tryz.prog Rows.textsUptoRow.laid W) (hsz : 11 ≤ W.heap.size) : ∃ ew en eu es ex, GL W W.heap.size ew en eu es ex := by
  obtain ⟨h1, h2⟩ := laid_parts h
  have h3 := h1.tail.tail.tail.tail
  obtain ⟨ex, _, cx, _, _, _⟩ := sent h3 (g := 6) (by kernel_rfl) (by kernel_rfl)
  obtain ⟨es, ts, cs, ds, xs, qs⟩ := sent h3.tail (g := 4) (by kernel_rfl) (by kernel_rfl)
  obtain ⟨en, tn, cn, dn, xn, qn⟩ := sent h3.tail.tail (g := 1) (by kernel_rfl) (by kernel_rfl)
  obtain ⟨ew, tw, cw, dw, xw, qw⟩ := sent h3.tail.tail.tail (g := 0) (by kernel_rfl) (by kernel_rfl)
  obtain ⟨eu, tu, cu, du, xu, qu⟩ := sent h3.tail.tail.tail.tail (g := 2) (by kernel_rfl) (by kernel_rfl)
  have lt : ∀ {k : Nat}, (∃ c t, W.heap[k]? = some (.cells c t (0, 0))) → k < W.heap.size := by
    rintro k ⟨c, t, e⟩
    exact (Array.getElem?_eq_some_iff.1 e).1
  exact ⟨ew, en, eu, es, ex, Nat.le_refl _, cw, cn, cu, cs, cx, handle_at h2, qw, qn, qu, qs,
    ⟨ne_of_text dw dn xw xn (by decide), ne_of_text dw du xw xu (by decide), ne_of_text dw ds xw xs (by decide), ne_of_text dn du xn xu (by decide), ne_of_text dn ds xn xs (by decide), ne_of_text du ds xu xs (by decide)⟩,
    lt qw, lt qn, lt qu, lt qs, hsz⟩
theorem size_of_shaped {W : World} (h : W.ShapedOpen Tryz.prog) : 11 ≤ W.heap.size := by
  have e : (((begin Tryz.prog (fun _ _ => 0) default).world.heap[10]?).bind Obj.row?).isSome = true := by kernel_rfl
  obtain ⟨⟨zero, t⟩, e⟩ := Option.isSome_iff_exists.1 e
  obtain ⟨cs, hc, _⟩ := h.1 10 zero t (of_decide_eq_true (by kernel_rfl)) e
  have := (Array.getElem?_eq_some_iff.1 hc).1
  omega
end Go.Proofs.YtihpidnifgandaaGreatDoor
