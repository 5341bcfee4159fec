import Derived.Test.YteioennfpkoagaaGreatDoorManG
namespace Go.Proofs.YteioennfpkoagaaGreatDoor
open Go.RowKit Go.Extern.Stop Go.Stop Go.Extern
attribute [local go_sem ↓] Go.wp_at_zero Go.wp_at_succ

/- which error a misfit wraps: its number -/
def noOf (ew en eu eb : Addr) : Nat := if eb = ew then 3 else if eb = en then 2 else if eb = eu then 4 else 1

set_option maxRecDepth 100000 in
set_option maxHeartbeats 1000000 in
theorem errnoOf_any (mb : Nat) (eb : Addr) (ln cl : Int) (w : World) {B : Nat} {ew en eu es ex : Addr} (hg : GL w B ew en eu es ex) (h : MisAt w mb eb ln cl) (heb : eb = ew ∨ eb = en ∨ eb = eu ∨ eb = es) :
    Calls Tryz.prog 41 #[misV mb] w fun e w' => e = .returned (.int .i64 (noOf ew en eu eb)) ∧ w' = w := by
  have c1 := hg.cW
  have c2 := hg.cN
  have c3 := hg.cU
  have hne := hg.ne
  have b1 := hg.bW
  have b2 := hg.bN
  have b3 := hg.bU
  have b4 := hg.bS
  have hb : ∃ c t, w.heap[eb.block]? = some (.cells c t (0, 0)) := by
    rcases heb with e | e | e | e <;> rw [e] <;> assumption
  by_cases e1 : eb = ew
  · have hno : noOf ew en eu eb = 3 := by simp [noOf, e1]
    rw [hno]
    subst e1
    clear hne b1 b2 b3 b4 hb c2 c3 heb hno
    go_enter Tryz.func41, Tryz.ntmps41
    go_wp2_with fail
    refine (is_same mb eb ln cl _ h).mono ?_
    rintro e w2 ⟨rfl, rfl⟩
    go_wp2_with fail
    go_ret
    exact ⟨rfl, rfl⟩
  by_cases e2 : eb = en
  · have hno : noOf ew en eu eb = 2 := by unfold noOf; rw [if_neg e1, if_pos e2]
    rw [hno]
    subst e2
    have H1 := is_other mb eb ew ln cl w h e1 hb b1
    clear hne b1 b2 b3 b4 hb c3 heb hno
    go_enter Tryz.func41, Tryz.ntmps41
    go_wp2_with fail
    refine H1.mono ?_
    rintro e w2 ⟨rfl, rfl⟩
    go_wp2_with fail
    refine (is_same mb eb ln cl _ h).mono ?_
    rintro e w2 ⟨rfl, rfl⟩
    go_wp2_with fail
    go_ret
    exact ⟨rfl, rfl⟩
  by_cases e3 : eb = eu
  · have hno : noOf ew en eu eb = 4 := by unfold noOf; rw [if_neg e1, if_neg e2, if_pos e3]
    rw [hno]
    subst e3
    have H1 := is_other mb eb ew ln cl w h e1 hb b1
    have H2 := is_other mb eb en ln cl w h e2 hb b2
    clear hne b1 b2 b3 b4 hb heb hno
    go_enter Tryz.func41, Tryz.ntmps41
    go_wp2_with fail
    refine H1.mono ?_
    rintro e w2 ⟨rfl, rfl⟩
    go_wp2_with fail
    refine H2.mono ?_
    rintro e w2 ⟨rfl, rfl⟩
    go_wp2_with fail
    refine (is_same mb eb ln cl _ h).mono ?_
    rintro e w2 ⟨rfl, rfl⟩
    go_wp2_with fail
    go_ret
    exact ⟨rfl, rfl⟩
  have hno : noOf ew en eu eb = 1 := by unfold noOf; rw [if_neg e1, if_neg e2, if_neg e3]
  rw [hno]
  have H1 := is_other mb eb ew ln cl w h e1 hb b1
  have H2 := is_other mb eb en ln cl w h e2 hb b2
  have H3 := is_other mb eb eu ln cl w h e3 hb b3
  clear hne b1 b2 b3 b4 hb heb hno
  go_enter Tryz.func41, Tryz.ntmps41
  go_wp2_with fail
  refine H1.mono ?_
  rintro e w2 ⟨rfl, rfl⟩
  go_wp2_with fail
  refine H2.mono ?_
  rintro e w2 ⟨rfl, rfl⟩
  go_wp2_with fail
  refine H3.mono ?_
  rintro e w2 ⟨rfl, rfl⟩
  go_wp2_with fail
  go_ret
  exact ⟨rfl, rfl⟩

/- errors.As at a target of the type **misfit: the model's entries, under names -/
def vOf : Array Value → Sem Value := fun args => ReflectliteValue.unpack (args.getD 0 (.tuple #[]))
def vType : Array Value → Sem Value := ReflectliteValue.methodAny (ReflectliteValue.valueError "reflectlite.Value.Type" 0) (fun t _ _ _ => ReflectliteType.toType t)
def vIsNil : Array Value → Sem Value := ReflectliteValue.method (ReflectliteValue.valueError "reflectlite.Value.IsNil" 0) ReflectliteValue.isNil
def vElem : Array Value → Sem Value := ReflectliteValue.method (ReflectliteValue.valueError "reflectlite.Value.Elem" 0) ReflectliteValue.elem
def tKind : Array Value → Sem Value := ReflectliteType.abiMethod fun t => do pure (.int .u8 (← Rtype.kind t))
def tElem : Array Value → Sem Value := ReflectliteType.method ReflectliteType.elem
def tImpl : Array Value → Sem Value := ReflectliteType.relation "Implements" ReflectliteType.implements_
def tAsgn : Array Value → Sem Value := ReflectliteType.relation "AssignableTo" ReflectliteType.assignableTo

def hPP : Value := .pointer (some ⟨11, 180, none⟩)
def hP : Value := .pointer (some ⟨11, 178, none⟩)
def hE : Value := .pointer (some ⟨11, 96, none⟩)
theorem vOf_pp (t : Addr) (w : World) : (vOf #[.iface 180 (.pointer (some t))]).run Tryz.prog w = .ok (.agg #[hPP, .pointer (some ⟨w.heap.size, 0, none⟩), .int .u64 150]) (w.alloc (.cells #[.pointer (some t)] 180)) := by kernel_rfl
theorem vOf_p (t : Addr) (w : World) : (vOf #[.iface 178 (.pointer (some t))]).run Tryz.prog w = .ok (.agg #[hP, .pointer (some ⟨w.heap.size, 0, none⟩), .int .u64 150]) (w.alloc (.cells #[.pointer (some t)] 178)) := by kernel_rfl
theorem vType_pp (a : Addr) (w : World) : (vType #[.agg #[hPP, .pointer (some a), .int .u64 150]]).run Tryz.prog w = .ok (.iface 287 (.agg #[hPP])) w := by kernel_rfl
theorem tKind_pp (w : World) : (tKind #[hPP]).run Tryz.prog w = .ok (.int .u8 22) w := by kernel_rfl
theorem tKind_p (w : World) : (tKind #[hP]).run Tryz.prog w = .ok (.int .u8 22) w := by kernel_rfl
theorem tElem_pp (w : World) : (tElem #[.agg #[hPP]]).run Tryz.prog w = .ok (.iface 287 (.agg #[hP])) w := by kernel_rfl
theorem tImpl_p (w : World) : (tImpl #[.agg #[hP], .iface 287 (.agg #[hE])]).run Tryz.prog w = .ok (.bool true) w := by kernel_rfl
theorem tAsgn_p (w : World) : (tAsgn #[.agg #[hP], .iface 287 (.agg #[hP])]).run Tryz.prog w = .ok (.bool true) w := by kernel_rfl
theorem typeOf_p (v : Value) (w : World) : (Extern.ReflectliteType.typeOf #[.iface 178 v]).run Tryz.prog w = .ok (.iface 287 (.agg #[hP])) w := by kernel_rfl
theorem parts_pp (a : Addr) (w : World) : (ReflectliteValue.parts (.agg #[hPP, .pointer (some a), .int .u64 150])).run Tryz.prog w = .ok (some (180, a, 150)) w := by kernel_rfl
theorem parts_pa (a : Addr) (w : World) : (ReflectliteValue.parts (.agg #[hP, .pointer (some a), .int .u64 406])).run Tryz.prog w = .ok (some (178, a, 406)) w := by kernel_rfl
theorem parts_p (a : Addr) (w : World) : (ReflectliteValue.parts (.agg #[hP, .pointer (some a), .int .u64 150])).run Tryz.prog w = .ok (some (178, a, 150)) w := by kernel_rfl
theorem vIsNil_pp (a p : Addr) (W : World) (ha : W.cell? a = some (.pointer (some p))) : (vIsNil #[.agg #[hPP, .pointer (some a), .int .u64 150]]).run Tryz.prog W = .ok (.bool false) W := by
  show (do match ← ReflectliteValue.parts (.agg #[hPP, .pointer (some a), .int .u64 150]) with | none => ReflectliteValue.valueError "reflectlite.Value.IsNil" 0 | some (t, a, fl) => ReflectliteValue.isNil t a fl (fl % 32)).run Tryz.prog W = _
  simp only [Sem.run_bind, parts_pp, Result.andThen]
  simp [ReflectliteValue.isNil, loadVar, isAgg, underlying, Tryz.underlying180, ha, Result.andThen]
theorem elemOf_pp (w : World) : (Rtype.elem? 180).run Tryz.prog w = .ok (some 178) w := by kernel_rfl
theorem mk_p (p : Addr) (w : World) : (ReflectliteValue.mk 178 p ReflectliteValue.flagAddr).run Tryz.prog w = .ok (.agg #[hP, .pointer (some p), .int .u64 406]) w := by kernel_rfl
theorem vElem_pp (a p : Addr) (W : World) (ha : W.cell? a = some (.pointer (some p))) : (vElem #[.agg #[hPP, .pointer (some a), .int .u64 150]]).run Tryz.prog W = .ok (.agg #[hP, .pointer (some p), .int .u64 406]) W := by
  show (do match ← ReflectliteValue.parts (.agg #[hPP, .pointer (some a), .int .u64 150]) with | none => ReflectliteValue.valueError "reflectlite.Value.Elem" 0 | some (t, a, fl) => ReflectliteValue.elem t a fl (fl % 32)).run Tryz.prog W = _
  simp only [Sem.run_bind, parts_pp, Result.andThen]
  simp [ReflectliteValue.elem, loadVar, isAgg, underlying, Tryz.underlying180, ha, Result.andThen, elemOf_pp, mk_p]
end Go.Proofs.YteioennfpkoagaaGreatDoor
