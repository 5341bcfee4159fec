import Derived.Test.YteioennfpkoagaaGreatDoorG18
import Derived.LaidEql
import Derived.Stop.Asserts
import Derived.RowKitTokens
import Derived.Handy
import Derived.Test.YteioennfpkoagaaGreatDoorG01
namespace Go.Proofs.YteioennfpkoagaaGreatDoor
open Go.RowKit Go.Extern.Stop Go.Stop Go.Extern
attribute [local go_sem ↓] Go.wp_at_zero Go.wp_at_succ

theorem typeOfE (v : Value) (w : World) : (Extern.ReflectliteType.typeOf #[.iface 359 v]).run Tryz.prog w = .ok (.iface 287 (.agg #[.pointer (some ⟨11, 359, none⟩)])) w := by kernel_rfl
def cmpFn : Array Value → Sem Value := Extern.ReflectliteType.method fun t => do Rtype.noPackHeld "Comparable" t; pure (.bool (← typeInfo t).comparable)
theorem comparableE (w : World) : (cmpFn #[.agg #[.pointer (some ⟨11, 359, none⟩)]]).run Tryz.prog w = .ok (.bool true) w := by kernel_rfl
theorem compE : (Tryz.prog.info? 359).map (·.comparable) = some true := by kernel_rfl
theorem sizeE : (Tryz.prog.info? 361).map (·.size) = some 1 := by kernel_rfl
theorem noIsE (v : Value) (xT : TypeId) (w : World) : (Instr.typeAssert (.iface 359 v) xT 299 true).run Tryz.prog w = .ok (.tuple #[.nilIface, .bool false]) w := run_typeAssert_lacksB Tryz.underlying299 (by kernel_rfl) (by kernel_rfl) v xT w
theorem noUnwrapE (v : Value) (xT : TypeId) (w : World) : (Instr.typeAssert (.iface 359 v) xT 294 true).run Tryz.prog w = .ok (.tuple #[.nilIface, .bool false]) w := run_typeAssert_lacksB Tryz.underlying294 (by kernel_rfl) (by kernel_rfl) v xT w
theorem noUnwrapsE (v : Value) (xT : TypeId) (w : World) : (Instr.typeAssert (.iface 359 v) xT 296 true).run Tryz.prog w = .ok (.tuple #[.nilIface, .bool false]) w := run_typeAssert_lacksB Tryz.underlying296 (by kernel_rfl) (by kernel_rfl) v xT w
theorem noIsM (v : Value) (xT : TypeId) (w : World) : (Instr.typeAssert (.iface 178 v) xT 299 true).run Tryz.prog w = .ok (.tuple #[.nilIface, .bool false]) w := run_typeAssert_lacksB Tryz.underlying299 (by kernel_rfl) (by kernel_rfl) v xT w
theorem hasUnwrapM (v : Value) (xT : TypeId) (w : World) : (Instr.typeAssert (.iface 178 v) xT 294 true).run Tryz.prog w = .ok (.tuple #[.iface 178 v, .bool true]) w := run_typeAssert_hasB Tryz.underlying294 (by kernel_rfl) v xT w

set_option maxRecDepth 100000 in
set_option maxHeartbeats 1000000 in
theorem is_same (mb : Nat) (eb : Addr) (ln cl : Int) (w : World) (h : MisAt w mb eb ln cl) :
    Calls Tryz.prog 93 #[misV mb, errV eb] w fun e w' => e = .returned (.bool true) ∧ w' = w := by
  obtain ⟨i, hi, hcmp⟩ := Option.map_eq_some_iff.1 compE
  obtain ⟨j, hj, hjs⟩ := Option.map_eq_some_iff.1 sizeE
  have hT := @run_callFunc_extern Tryz.prog 152 _ Extern.ReflectliteType.typeOf Tryz.func152 (by kernel_rfl) (by kernel_rfl) (by kernel_rfl) (by kernel_rfl)
  have hC := @run_callFunc_extern Tryz.prog 312 _ cmpFn Tryz.func312 (by kernel_rfl) (by kernel_rfl) (by kernel_rfl) (by kernel_rfl)
  have tT := typeOfE
  have cT := comparableE
  have nM := noIsM
  have uM := hasUnwrapM
  have c0 : w.cell? ⟨mb, 0, none⟩ = some (errV eb) := by rw [cell_of_blk h]; rfl
  unfold errV misV at *
  have heq := run_eql_iface_ptr_same (P := Tryz.prog) w eb Tryz.underlying96 Tryz.underlying359 hi hcmp hj
  have hty := run_eql_iface_types (P := Tryz.prog) 178 359 (.pointer (some ⟨mb, 0, none⟩)) (.pointer (some eb)) Tryz.underlying96 (by decide) w
  go_enter Tryz.func93, Tryz.ntmps93
  go_wp2
  refine wp_loop_rounds 2 ?_
  rw [rounds_succ]
  go_wp2
  rw [rounds_succ]
  go_wp2
  go_ret
  exact ⟨rfl, rfl⟩
set_option maxRecDepth 100000 in
set_option maxHeartbeats 1000000 in
theorem is_other (mb : Nat) (eb tb : Addr) (ln cl : Int) (w : World) (h : MisAt w mb eb ln cl) (hne : eb ≠ tb) (he : ∃ c t, w.heap[eb.block]? = some (.cells c t (0, 0))) (ht : ∃ c t, w.heap[tb.block]? = some (.cells c t (0, 0))) :
    Calls Tryz.prog 93 #[misV mb, errV tb] w fun e w' => e = .returned (.bool false) ∧ w' = w := by
  obtain ⟨i, hi, hcmp⟩ := Option.map_eq_some_iff.1 compE
  obtain ⟨j, hj, hjs⟩ := Option.map_eq_some_iff.1 sizeE
  have hT := @run_callFunc_extern Tryz.prog 152 _ Extern.ReflectliteType.typeOf Tryz.func152 (by kernel_rfl) (by kernel_rfl) (by kernel_rfl) (by kernel_rfl)
  have hC := @run_callFunc_extern Tryz.prog 312 _ cmpFn Tryz.func312 (by kernel_rfl) (by kernel_rfl) (by kernel_rfl) (by kernel_rfl)
  have tT := typeOfE
  have cT := comparableE
  have nM := noIsM
  have nE := noIsE
  have uE := noUnwrapE
  have vE := noUnwrapsE
  obtain ⟨d1, t1, he⟩ := he
  obtain ⟨d2, t2, ht⟩ := ht
  have uM := hasUnwrapM
  have c0 : w.cell? ⟨mb, 0, none⟩ = some (errV eb) := by rw [cell_of_blk h]; rfl
  unfold errV misV at *
  have heq := run_eql_iface_ptr_other (P := Tryz.prog) w (a := eb) (b := tb) Tryz.underlying96 Tryz.underlying359 hi hcmp hj (by rw [hjs]; decide) hne he ht
  have hty := run_eql_iface_types (P := Tryz.prog) 178 359 (.pointer (some ⟨mb, 0, none⟩)) (.pointer (some tb)) Tryz.underlying96 (by decide) w
  go_enter Tryz.func93, Tryz.ntmps93
  go_wp2
  refine wp_loop_rounds 2 ?_
  rw [rounds_succ]
  go_wp2
  rw [rounds_succ]
  go_wp2
  go_ret
  exact ⟨rfl, rfl⟩
end Go.Proofs.YteioennfpkoagaaGreatDoor
namespace Go.Proofs.YteioennfpkoagaaGreatDoor
open Go.RowKit Go.Extern.Stop Go.Stop Go.Extern
attribute [local go_sem ↓] Go.wp_at_zero Go.wp_at_succ

/- which error a misfit wraps: its number -/
def noOf (ew en eu eb : Addr) : Nat := if eb = ew then 3 else if eb = en then 2 else if eb = eu then 4 else 1

set_option maxRecDepth 100000 in
set_option maxHeartbeats 1000000 in
theorem errnoOf_any (mb : Nat) (eb : Addr) (ln cl : Int) (w : World) {B : Nat} {ew en eu es ex : Addr} (hg : GL w B ew en eu es ex) (h : MisAt w mb eb ln cl) (heb : eb = ew ∨ eb = en ∨ eb = eu ∨ eb = es) :
    Calls Tryz.prog 41 #[misV mb] w fun e w' => e = .returned (.int .i64 (noOf ew en eu eb)) ∧ w' = w := by
  have c1 := hg.cW
  have c2 := hg.cN
  have c3 := hg.cU
  have hne := hg.ne
  have b1 := hg.bW
  have b2 := hg.bN
  have b3 := hg.bU
  have b4 := hg.bS
  have hb : ∃ c t, w.heap[eb.block]? = some (.cells c t (0, 0)) := by
    rcases heb with e | e | e | e <;> rw [e] <;> assumption
  by_cases e1 : eb = ew
  · have hno : noOf ew en eu eb = 3 := by simp [noOf, e1]
    rw [hno]
    subst e1
    clear hne b1 b2 b3 b4 hb c2 c3 heb hno
    go_enter Tryz.func41, Tryz.ntmps41
    go_wp2_with fail
    refine (is_same mb eb ln cl _ h).mono ?_
    rintro e w2 ⟨rfl, rfl⟩
    go_wp2_with fail
    go_ret
    exact ⟨rfl, rfl⟩
  by_cases e2 : eb = en
  · have hno : noOf ew en eu eb = 2 := by unfold noOf; rw [if_neg e1, if_pos e2]
    rw [hno]
    subst e2
    have H1 := is_other mb eb ew ln cl w h e1 hb b1
    clear hne b1 b2 b3 b4 hb c3 heb hno
    go_enter Tryz.func41, Tryz.ntmps41
    go_wp2_with fail
    refine H1.mono ?_
    rintro e w2 ⟨rfl, rfl⟩
    go_wp2_with fail
    refine (is_same mb eb ln cl _ h).mono ?_
    rintro e w2 ⟨rfl, rfl⟩
    go_wp2_with fail
    go_ret
    exact ⟨rfl, rfl⟩
  by_cases e3 : eb = eu
  · have hno : noOf ew en eu eb = 4 := by unfold noOf; rw [if_neg e1, if_neg e2, if_pos e3]
    rw [hno]
    subst e3
    have H1 := is_other mb eb ew ln cl w h e1 hb b1
    have H2 := is_other mb eb en ln cl w h e2 hb b2
    clear hne b1 b2 b3 b4 hb heb hno
    go_enter Tryz.func41, Tryz.ntmps41
    go_wp2_with fail
    refine H1.mono ?_
    rintro e w2 ⟨rfl, rfl⟩
    go_wp2_with fail
    refine H2.mono ?_
    rintro e w2 ⟨rfl, rfl⟩
    go_wp2_with fail
    refine (is_same mb eb ln cl _ h).mono ?_
    rintro e w2 ⟨rfl, rfl⟩
    go_wp2_with fail
    go_ret
    exact ⟨rfl, rfl⟩
  have hno : noOf ew en eu eb = 1 := by unfold noOf; rw [if_neg e1, if_neg e2, if_neg e3]
  rw [hno]
  have H1 := is_other mb eb ew ln cl w h e1 hb b1
  have H2 := is_other mb eb en ln cl w h e2 hb b2
  have H3 := is_other mb eb eu ln cl w h e3 hb b3
  clear hne b1 b2 b3 b4 hb heb hno
  go_enter Tryz.func41, Tryz.ntmps41
  go_wp2_with fail
  refine H1.mono ?_
  rintro e w2 ⟨rfl, rfl⟩
  go_wp2_with fail
  refine H2.mono ?_
  rintro e w2 ⟨rfl, rfl⟩
  go_wp2_with fail
  refine H3.mono ?_
  rintro e w2 ⟨rfl, rfl⟩
  go_wp2_with fail
  go_ret
  exact ⟨rfl, rfl⟩

/- errors.As at a target of the type **misfit: the model's entries, under names -/
def vOf : Array Value → Sem Value := fun args => ReflectliteValue.unpack (args.getD 0 (.tuple #[]))
def vType : Array Value → Sem Value := ReflectliteValue.methodAny (ReflectliteValue.valueError "reflectlite.Value.Type" 0) (fun t _ _ _ => ReflectliteType.toType t)
def vIsNil : Array Value → Sem Value := ReflectliteValue.method (ReflectliteValue.valueError "reflectlite.Value.IsNil" 0) ReflectliteValue.isNil
def vElem : Array Value → Sem Value := ReflectliteValue.method (ReflectliteValue.valueError "reflectlite.Value.Elem" 0) ReflectliteValue.elem
def tKind : Array Value → Sem Value := ReflectliteType.abiMethod fun t => do pure (.int .u8 (← Rtype.kind t))
def tElem : Array Value → Sem Value := ReflectliteType.method ReflectliteType.elem
def tImpl : Array Value → Sem Value := ReflectliteType.relation "Implements" ReflectliteType.implements_
def tAsgn : Array Value → Sem Value := ReflectliteType.relation "AssignableTo" ReflectliteType.assignableTo

def hPP : Value := .pointer (some ⟨11, 180, none⟩)
def hP : Value := .pointer (some ⟨11, 178, none⟩)
def hE : Value := .pointer (some ⟨11, 96, none⟩)
theorem vOf_pp (t : Addr) (w : World) : (vOf #[.iface 180 (.pointer (some t))]).run Tryz.prog w = .ok (.agg #[hPP, .pointer (some ⟨w.heap.size, 0, none⟩), .int .u64 150]) (w.alloc (.cells #[.pointer (some t)] 180)) := by kernel_rfl
theorem vOf_p (t : Addr) (w : World) : (vOf #[.iface 178 (.pointer (some t))]).run Tryz.prog w = .ok (.agg #[hP, .pointer (some ⟨w.heap.size, 0, none⟩), .int .u64 150]) (w.alloc (.cells #[.pointer (some t)] 178)) := by kernel_rfl
theorem vType_pp (a : Addr) (w : World) : (vType #[.agg #[hPP, .pointer (some a), .int .u64 150]]).run Tryz.prog w = .ok (.iface 287 (.agg #[hPP])) w := by kernel_rfl
theorem tKind_pp (w : World) : (tKind #[hPP]).run Tryz.prog w = .ok (.int .u8 22) w := by kernel_rfl
theorem tKind_p (w : World) : (tKind #[hP]).run Tryz.prog w = .ok (.int .u8 22) w := by kernel_rfl
theorem tElem_pp (w : World) : (tElem #[.agg #[hPP]]).run Tryz.prog w = .ok (.iface 287 (.agg #[hP])) w := by kernel_rfl
theorem tImpl_p (w : World) : (tImpl #[.agg #[hP], .iface 287 (.agg #[hE])]).run Tryz.prog w = .ok (.bool true) w := by kernel_rfl
theorem tAsgn_p (w : World) : (tAsgn #[.agg #[hP], .iface 287 (.agg #[hP])]).run Tryz.prog w = .ok (.bool true) w := by kernel_rfl
theorem typeOf_p (v : Value) (w : World) : (Extern.ReflectliteType.typeOf #[.iface 178 v]).run Tryz.prog w = .ok (.iface 287 (.agg #[hP])) w := by kernel_rfl
theorem parts_pp (a : Addr) (w : World) : (ReflectliteValue.parts (.agg #[hPP, .pointer (some a), .int .u64 150])).run Tryz.prog w = .ok (some (180, a, 150)) w := by kernel_rfl
theorem parts_pa (a : Addr) (w : World) : (ReflectliteValue.parts (.agg #[hP, .pointer (some a), .int .u64 406])).run Tryz.prog w = .ok (some (178, a, 406)) w := by kernel_rfl
theorem parts_p (a : Addr) (w : World) : (ReflectliteValue.parts (.agg #[hP, .pointer (some a), .int .u64 150])).run Tryz.prog w = .ok (some (178, a, 150)) w := by kernel_rfl
theorem vIsNil_pp (a p : Addr) (W : World) (ha : W.cell? a = some (.pointer (some p))) : (vIsNil #[.agg #[hPP, .pointer (some a), .int .u64 150]]).run Tryz.prog W = .ok (.bool false) W := by
  show (do match ← ReflectliteValue.parts (.agg #[hPP, .pointer (some a), .int .u64 150]) with | none => ReflectliteValue.valueError "reflectlite.Value.IsNil" 0 | some (t, a, fl) => ReflectliteValue.isNil t a fl (fl % 32)).run Tryz.prog W = _
  simp only [Sem.run_bind, parts_pp, Result.andThen]
  simp [ReflectliteValue.isNil, loadVar, isAgg, underlying, Tryz.underlying180, ha, Result.andThen]
theorem elemOf_pp (w : World) : (Rtype.elem? 180).run Tryz.prog w = .ok (some 178) w := by kernel_rfl
theorem mk_p (p : Addr) (w : World) : (ReflectliteValue.mk 178 p ReflectliteValue.flagAddr).run Tryz.prog w = .ok (.agg #[hP, .pointer (some p), .int .u64 406]) w := by kernel_rfl
theorem vElem_pp (a p : Addr) (W : World) (ha : W.cell? a = some (.pointer (some p))) : (vElem #[.agg #[hPP, .pointer (some a), .int .u64 150]]).run Tryz.prog W = .ok (.agg #[hP, .pointer (some p), .int .u64 406]) W := by
  show (do match ← ReflectliteValue.parts (.agg #[hPP, .pointer (some a), .int .u64 150]) with | none => ReflectliteValue.valueError "reflectlite.Value.Elem" 0 | some (t, a, fl) => ReflectliteValue.elem t a fl (fl % 32)).run Tryz.prog W = _
  simp only [Sem.run_bind, parts_pp, Result.andThen]
  simp [ReflectliteValue.elem, loadVar, isAgg, underlying, Tryz.underlying180, ha, Result.andThen, elemOf_pp, mk_p]
end Go.Proofs.YteioennfpkoagaaGreatDoor
namespace Go.Proofs.YteioennfpkoagaaGreatDoor
open Go.RowKit Go.Extern.Stop Go.Stop Go.Extern
attribute [local go_sem ↓] Go.wp_at_zero Go.wp_at_succ

theorem direct_p (w : World) : (Rtype.directlyAssignable 178 178).run Tryz.prog w = .ok true w := by kernel_rfl
theorem vSet_p (ta b e : Addr) (old : Value) (W : World) (hb : W.cell? b = some (.pointer (some e))) (ht : W.cell? ta = some old) (hf : W.frozen? ta = false) :
    (ReflectliteValue.set #[.agg #[hP, .pointer (some ta), .int .u64 406], .agg #[hP, .pointer (some b), .int .u64 150]]).run Tryz.prog W = .ok (.tuple #[]) (W.setCell ta (.pointer (some e))) := by
  delta ReflectliteValue.set
  delta ReflectliteValue.set.match_3
  rw [dif_pos (by rfl)]
  dsimp only [Eq.ndrec, Array.getLit]
  simp only [List.getElem_toArray, List.getElem_cons_zero, List.getElem_cons_succ]
  simp only [Sem.run_bind, parts_pa, parts_p, Result.andThen]
  simp [ReflectliteValue.flagAddr, loadVar, isAgg, underlying, Tryz.underlying178, hb, Result.andThen, direct_p, storeVar, Value.cells, storeCells, Addr.add]
  rw [run_store Tryz.prog W ta _ _ (by rfl)]
  simp [ht, hf]

set_option maxRecDepth 100000 in
set_option maxHeartbeats 4000000 in
theorem as_hit (mb : Nat) (t : Addr) (old : Value) (w : World) (hg : w.cell? ⟨3, 0, none⟩ = some (.iface 287 (.agg #[hE]))) (ht0 : w.cell? t = some old) (hf0 : w.frozen? t = false) :
    Calls Tryz.prog 92 #[misV mb, .iface 180 (.pointer (some t))] w fun ev w' => ev = .returned (.bool true) ∧ ∃ w2, w' = w2.setCell t (.pointer (some ⟨mb, 0, none⟩)) ∧ Below w.heap.size w w2 := by
  have x1 := @run_callFunc_extern Tryz.prog 148 _ vOf Tryz.func148 (by kernel_rfl) (by kernel_rfl) (by kernel_rfl) (by kernel_rfl)
  have x2 := @run_callFunc_extern Tryz.prog 149 _ vType Tryz.func149 (by kernel_rfl) (by kernel_rfl) (by kernel_rfl) (by kernel_rfl)
  have x3 := @run_callFunc_extern Tryz.prog 150 _ vIsNil Tryz.func150 (by kernel_rfl) (by kernel_rfl) (by kernel_rfl) (by kernel_rfl)
  have x4 := @run_callFunc_extern Tryz.prog 294 _ tKind Tryz.func294 (by kernel_rfl) (by kernel_rfl) (by kernel_rfl) (by kernel_rfl)
  have x5 := @run_callFunc_extern Tryz.prog 313 _ tElem Tryz.func313 (by kernel_rfl) (by kernel_rfl) (by kernel_rfl) (by kernel_rfl)
  have x6 := @run_callFunc_extern Tryz.prog 314 _ tImpl Tryz.func314 (by kernel_rfl) (by kernel_rfl) (by kernel_rfl) (by kernel_rfl)
  have x7 := @run_callFunc_extern Tryz.prog 152 _ Extern.ReflectliteType.typeOf Tryz.func152 (by kernel_rfl) (by kernel_rfl) (by kernel_rfl) (by kernel_rfl)
  have x8 := @run_callFunc_extern Tryz.prog 311 _ tAsgn Tryz.func311 (by kernel_rfl) (by kernel_rfl) (by kernel_rfl) (by kernel_rfl)
  have x9 := @run_callFunc_extern Tryz.prog 207 _ vElem Tryz.func207 (by kernel_rfl) (by kernel_rfl) (by kernel_rfl) (by kernel_rfl)
  have x10 := @run_callFunc_extern Tryz.prog 208 _ ReflectliteValue.set Tryz.func208 (by kernel_rfl) (by kernel_rfl) (by kernel_rfl) (by kernel_rfl)
  have y1 := vOf_pp
  have y2 := vType_pp
  have y3 := tKind_pp
  have y4 := tKind_p
  have y5 := tElem_pp
  have y6 := tImpl_p
  have y7 := typeOf_p
  have y8 := tAsgn_p
  have y9 := vOf_p
  have hlt : 3 < w.heap.size := World.block_lt_of_cell? w ⟨3, 0, none⟩ hg
  have htl : t.block < w.heap.size := World.block_lt_of_cell? w t ht0
  have z1 := vIsNil_pp ⟨w.heap.size, 0, none⟩ t ((w.alloc (Obj.cells #[.pointer (some t)] 180)).alloc (Obj.cells #[hPP, .pointer (some ⟨w.heap.size, 0, none⟩), .int .u64 150] 237)) (by rw [World.cell?_alloc_lt _ _ ⟨w.heap.size, 0, none⟩ (by simp)]; simp)
  have z2 := vElem_pp ⟨w.heap.size, 0, none⟩ t (((w.alloc (Obj.cells #[.pointer (some t)] 180)).alloc (Obj.cells #[hPP, .pointer (some ⟨w.heap.size, 0, none⟩), .int .u64 150] 237)).alloc (Obj.cells #[hPP, .pointer (some ⟨w.heap.size, 0, none⟩), .int .u64 150] 237)) (by rw [World.cell?_alloc_lt _ _ ⟨w.heap.size, 0, none⟩ (by simp; omega), World.cell?_alloc_lt _ _ ⟨w.heap.size, 0, none⟩ (by simp)]; simp)
  have z3 := vSet_p t ⟨w.heap.size + 1 + 1 + 1, 0, none⟩ ⟨mb, 0, none⟩ old ((((w.alloc (Obj.cells #[.pointer (some t)] 180)).alloc (Obj.cells #[hPP, .pointer (some ⟨w.heap.size, 0, none⟩), .int .u64 150] 237)).alloc (Obj.cells #[hPP, .pointer (some ⟨w.heap.size, 0, none⟩), .int .u64 150] 237)).alloc (Obj.cells #[.pointer (some ⟨mb, 0, none⟩)] 178))
    (by rw [World.cell?_alloc_at _ _ _ _ (by simp)]; rfl)
    (by rw [World.cell?_alloc_lt _ _ t (by simp; omega), World.cell?_alloc_lt _ _ t (by simp; omega), World.cell?_alloc_lt _ _ t (by simp; omega), World.cell?_alloc_lt _ _ t htl]; exact ht0)
    (by rw [World.frozen?_alloc_old _ _ t (by simp; omega), World.frozen?_alloc_old _ _ t (by simp; omega), World.frozen?_alloc_old _ _ t (by simp; omega), World.frozen?_alloc_old _ _ t (Nat.ne_of_lt htl)]; exact hf0)
  have hg2 : ((w.alloc (Obj.cells #[.pointer (some t)] 180)).alloc (Obj.cells #[hPP, .pointer (some ⟨w.heap.size, 0, none⟩), .int .u64 150] 237)).cell? ⟨3, 0, none⟩ = some (.iface 287 (.agg #[hE])) := by
    rw [World.cell?_alloc_lt _ _ ⟨3, 0, none⟩ (by simp; omega), World.cell?_alloc_lt _ _ ⟨3, 0, none⟩ hlt]; exact hg
  have HBE : Hid (Below w.heap.size w ((((w.alloc (Obj.cells #[.pointer (some t)] 180)).alloc (Obj.cells #[hPP, .pointer (some ⟨w.heap.size, 0, none⟩), .int .u64 150] 237)).alloc (Obj.cells #[hPP, .pointer (some ⟨w.heap.size, 0, none⟩), .int .u64 150] 237)).alloc (Obj.cells #[.pointer (some ⟨mb, 0, none⟩)] 178))) := ((((Below.refl _ _).alloc (Nat.le_refl _) _).alloc (by simp) _).alloc (by simp; omega) _).alloc (by simp; omega) _
  unfold misV
  unfold hPP hP hE at *
  go_enter Tryz.func92, Tryz.ntmps92
  go_wp2
  refine wp_loop_rounds 1 ?_
  rw [rounds_succ]
  go_wp2
  go_ret
  exact ⟨rfl, _, rfl, HBE.out⟩

set_option maxRecDepth 100000 in
set_option maxHeartbeats 1000000 in
theorem placeOf_any (mb : Nat) (eb : Addr) (ln cl : Int) (w : World) {B : Nat} {ew en eu es ex : Addr} (hg : GL w B ew en eu es ex) (h : MisAt w mb eb ln cl) :
    Calls Tryz.prog 40 #[misV mb] w fun e w' => e = .returned (.agg #[.int .i64 ln, .int .i64 cl]) ∧ Below w.heap.size w w' := by
  have hlt := lt_of_blk h
  go_enter Tryz.func40, Tryz.ntmps40
  go_wp2_with fail
  have hb1 : Below w.heap.size w ((w.alloc (Obj.cells #[.int .i64 0, .int .i64 0] 36)).alloc (Obj.cells #[.pointer none] 178)) := ((Below.refl _ _).alloc (Nat.le_refl _) _).alloc (by simp) _
  have hg1 := hg.below (hb1.mono hg.size)
  have r0 : ((w.alloc (Obj.cells #[.int .i64 0, .int .i64 0] 36)).alloc (Obj.cells #[.pointer none] 178)).heap[w.heap.size]? = some (.cells #[.int .i64 0, .int .i64 0] 36 (0, 0)) := by rw [Below.heap_alloc _ _ _ (by simp), heap_new]
  have r1 : ((w.alloc (Obj.cells #[.int .i64 0, .int .i64 0] 36)).alloc (Obj.cells #[.pointer none] 178)).heap[w.heap.size + 1]? = some (.cells #[.pointer none] 178 (0, 0)) := by
    have := heap_new (w.alloc (Obj.cells #[.int .i64 0, .int .i64 0] 36)) (Obj.cells #[.pointer none] 178)
    simpa using this
  have m1 : ((w.alloc (Obj.cells #[.int .i64 0, .int .i64 0] 36)).alloc (Obj.cells #[.pointer none] 178)).heap[mb]? = _ := (hb1.block mb hlt).trans h
  have sz : ((w.alloc (Obj.cells #[.int .i64 0, .int .i64 0] 36)).alloc (Obj.cells #[.pointer none] 178)).heap.size = w.heap.size + 2 := by simp
  generalize (w.alloc (Obj.cells #[.int .i64 0, .int .i64 0] 36)).alloc (Obj.cells #[.pointer none] 178) = V at *
  refine (as_hit mb ⟨w.heap.size + 1, 0, none⟩ (.pointer none) V hg1.cT (by rw [cell_of_blk r1]; rfl) (frozen_of_blk r1)).mono ?_
  rintro e V3 ⟨rfl, V2, rfl, hb2⟩
  have q1 : V2.heap[w.heap.size + 1]? = some (.cells #[.pointer none] 178 (0, 0)) := (hb2.block _ (by omega)).trans r1
  have q0 : V2.heap[w.heap.size]? = some (.cells #[.int .i64 0, .int .i64 0] 36 (0, 0)) := (hb2.block _ (by omega)).trans r0
  have qm : V2.heap[mb]? = some (.cells #[errV eb, .int .i64 ln, .int .i64 cl] 182 (0, 0)) := (hb2.block _ (by omega)).trans m1
  have p1 := blk_set 0 (.pointer (some ⟨mb, 0, none⟩)) q1
  have p0 : (V2.setCell ⟨w.heap.size + 1, 0, none⟩ (.pointer (some ⟨mb, 0, none⟩))).heap[w.heap.size]? = some (.cells #[.int .i64 0, .int .i64 0] 36 (0, 0)) := by rw [blk_far _ _ (by omega)]; exact q0
  have pm : (V2.setCell ⟨w.heap.size + 1, 0, none⟩ (.pointer (some ⟨mb, 0, none⟩))).heap[mb]? = some (.cells #[errV eb, .int .i64 ln, .int .i64 cl] 182 (0, 0)) := by rw [blk_far _ _ (by omega)]; exact qm
  have hb3 : Below w.heap.size w (V2.setCell ⟨w.heap.size + 1, 0, none⟩ (.pointer (some ⟨mb, 0, none⟩))) := (hb1.trans (hb2.mono (by omega))).setCell (by simp) _
  clear q0 q1 qm hb2 hb1 hg1 r0 r1 m1 sz
  generalize V2.setCell ⟨w.heap.size + 1, 0, none⟩ (.pointer (some ⟨mb, 0, none⟩)) = X at *
  have c0 : X.cell? ⟨w.heap.size + 1, 0, none⟩ = some (.pointer (some ⟨mb, 0, none⟩)) := by rw [cell_of_blk p1]; rfl
  have c1 : X.cell? ⟨mb, 1, none⟩ = some (.int .i64 ln) := by rw [cell_of_blk pm]; rfl
  have c2 : X.cell? ⟨mb, 2, none⟩ = some (.int .i64 cl) := by rw [cell_of_blk pm]; rfl
  have d0 : X.cell? ⟨w.heap.size, 0, none⟩ = some (.int .i64 0) := by rw [cell_of_blk p0]; rfl
  have d1 : X.cell? ⟨w.heap.size, 1, none⟩ = some (.int .i64 0) := by rw [cell_of_blk p0]; rfl
  have f0 : X.frozen? ⟨w.heap.size, 0, none⟩ = false := frozen_of_blk p0
  have f1 : X.frozen? ⟨w.heap.size, 1, none⟩ = false := frozen_of_blk p0
  go_wp2_with fail
  refine bodyPost_ret (v := .agg #[.int .i64 ln, .int .i64 cl]) (by simp [results, Tryz.results40, go_sem, d0, d1]) rfl ⟨rfl, ?_⟩
  exact (hb3.setCell (by simp) _).setCell (by simp) _
end Go.Proofs.YteioennfpkoagaaGreatDoor
namespace Go.Proofs.YteioennfpkoagaaGreatDoor
open Go.RowKit
attribute [local go_sem ↓] Go.wp_at_zero Go.wp_at_succ

/- the bytes of a list -/
def ba (l : List UInt8) : ByteArray := ⟨l.toArray⟩
theorem ba_list (l : List UInt8) : (ba l).data.toList = l := rfl
theorem ba_size (l : List UInt8) : (ba l).size = l.length := by show l.toArray.size = _; simp
theorem ba_eq {s : ByteArray} {l : List UInt8} (h : s.data.toList = l) : s = ba l := by
  apply ByteArray.ext; apply Array.ext'; rw [h]; rfl
/- the reader stands at the index i -/
def RVi (w : World) (c : Nat) (l : List UInt8) (i : Nat) : Prop := RV w c (ba (l.drop i)) (plc l i).1 (plc l i).2
/- the error that a wrong token is -/
def Tn (w w' : World) (t : Tok) (ew en : Addr) (k : Int) (tt : ByteArray) (v a b : Int) (ev : Value) : Prop :=
  (looksF t.sort t.text = 0 ∧ k = kindT t ∧ tt = ba t.text ∧ v = (if kindT t = 2 then valF t.text else 0) ∧ a = t.line ∧ b = t.col ∧ ev = .nilIface) ∨
  (looksF t.sort t.text ≠ 0 ∧ k = 0 ∧ tt = ⟨#[]⟩ ∧ v = 0 ∧ a = 0 ∧ b = 0 ∧ ∃ mb, ev = misV mb ∧ w.heap.size ≤ mb ∧ MisAt w' mb (errB ew en (looksF t.sort t.text)) t.line t.col)
theorem kindF_tok (l : List UInt8) (j : Nat) : kindF (tokAt l j).text = kindT (tokAt l j) := by
  have := kind_tok (l.drop j)
  unfold kindT
  show kindF ((l.drop j).take (tokF (l.drop j)).1) = (if (tokF (l.drop j)).2 = 1 then 1 else if (tokF (l.drop j)).2 = 2 then 2 else 0)
  rw [this]
  cases (l.drop j).take (tokF (l.drop j)).1 <;> rfl
theorem looks_tokAt (l : List UInt8) (j : Nat) : looksF (kindF (tokAt l j).text) (tokAt l j).text = looksF (tokAt l j).sort (tokAt l j).text := by
  rw [kindF_tok]; exact looks_kind _ _

theorem next_tok (c : Nat) (l : List UInt8) (i : Nat) (w : World) {B : Nat} {ew en eu es ex : Addr} (hgl : GL w B ew en eu es ex) (hBc : B ≤ c) (h : RVi w c l i) (hlen : l.length ≤ 8192) :
    Calls Tryz.prog 139 #[.pointer (some ⟨c + 1 + 1, 0, none⟩), .pointer (some ⟨c, 0, none⟩), .pointer (some ⟨c + 1, 0, none⟩)] w fun e w' => ∃ (k : Int) (tt : ByteArray) (v a b : Int) (ev : Value), e = .returned (.tuple #[.agg #[.int .i64 k, .string tt, .int .i64 v, .int .i64 a, .int .i64 b], ev]) ∧
      Tn w w' (tokAt l (i + gapF false (l.drop i))) ew en k tt v a b ev ∧ RVi w' c l (i + gapF false (l.drop i) + (tokF (l.drop (i + gapF false (l.drop i)))).1) ∧ KP c c w w' := by
  have hp1 := plc_bd l i hlen
  generalize hj : i + gapF false (l.drop i) = j
  have hp2 := plc_bd l j hlen
  have hn2 : (tokF (l.drop j)).1 ≤ (l.drop j).length := tokF_le _
  have e1 : (ba (l.drop i)).extract (gapF false (l.drop i)) (ba (l.drop i)).size = ba (l.drop j) := by
    apply ba_eq
    rw [drop_list, ba_list, List.drop_drop, hj]
  have e2 : (ba (l.drop j)).extract 0 (tokF (l.drop j)).1 = ba (tokAt l j).text := by
    apply ba_eq; rw [take_list, ba_list]; rfl
  have e3 : (ba (l.drop j)).extract (tokF (l.drop j)).1 (ba (l.drop j)).size = ba (l.drop (j + (tokF (l.drop j)).1)) := by
    apply ba_eq; rw [drop_list, ba_list, List.drop_drop]
  refine (next_any (ba (l.drop i)) (ba (l.drop j)) (ba (tokAt l j).text) (gapF false (l.drop i)) (tokF (l.drop j)).1 c (plc l i).1 (plc l i).2 (plc l j).1 (plc l j).2 (plc l (j + (tokF (l.drop j)).1)).1 (plc l (j + (tokF (l.drop j)).1)).2 w hgl hBc h
    (by rw [ba_size, List.length_drop]; omega) (by omega) (by omega) (by omega) (by omega) rfl (by show placeFrom (plc l i) _ = _; rw [ba_list, plc_on, hj]) e1.symm rfl e2.symm (by show placeFrom (plc l j) _ = _; rw [ba_list]; show placeFrom (plc l j) ((l.drop j).take (tokF (l.drop j)).1) = _; rw [plc_on]) (by omega) (by omega) (by omega) (by omega)).mono ?_
  rintro e w' ⟨k, tt, v, a, b, ev, rfl, hnt, hrv, hkp⟩
  refine ⟨k, tt, v, a, b, ev, rfl, ?_, ?_, hkp⟩
  · rcases hnt with ⟨h1, h2, h3, h4, h5, h6, h7⟩ | ⟨h1, h2, h3, h4, h5, h6, mb, h7, h8, h9⟩
    · rw [ba_list, looks_tokAt] at h1
      rw [ba_list, kindF_tok] at h2
      rw [ba_list] at h4
      unfold tvalF at h4
      rw [kindF_tok] at h4
      exact .inl ⟨h1, h2, h3, h4, h5, h6, h7⟩
    · rw [ba_list, looks_tokAt] at h1
      rw [ba_list, looks_tokAt] at h9
      exact .inr ⟨h1, h2, h3, h4, h5, h6, mb, h7, h8, h9⟩
  · rw [e3] at hrv; exact hrv

/- the parser's block -/
def prCells (c : Nat) (k : Int) (tt : ByteArray) (v a b : Int) (ev pv : Value) : Array Value := #[nextV c, .int .i64 k, .string tt, .int .i64 v, .int .i64 a, .int .i64 b, ev, pv]
/- The parser lies in block pb, its reader's variables from c on; it is in the state st; pv: the partitions. -/
structure PR (w : World) (pb c B : Nat) (ew en eu es ex : Addr) (l : List UInt8) (st : St) (pv : Value) : Prop where
  gl : GL w B ew en eu es ex
  hBc : B ≤ c
  hBp : B ≤ pb
  ord : c + 1 + 1 < pb
  len : l.length ≤ 8192
  shape : ∃ x y z, pv = .slice x y z
  at' : match st with
    | .inl k => lk l k = 0 ∧ RVi w c l (endp l k) ∧ w.heap[pb]? = some (.cells (prCells c (kindT (tk l k)) (ba (tk l k).text) (if kindT (tk l k) = 2 then valF (tk l k).text else 0) (tk l k).line (tk l k).col .nilIface pv) 177 (0, 0))
    | .inr (er, ln, cl) => ∃ k tt v a b mb eb, w.heap[pb]? = some (.cells (prCells c k tt v a b (misV mb) pv) 177 (0, 0)) ∧ MisAt w mb eb ln cl ∧ (eb = ew ∨ eb = en ∨ eb = eu ∨ eb = es) ∧ noOf ew en eu eb = er ∧ tt.size ≤ 8192
end Go.Proofs.YteioennfpkoagaaGreatDoor
