import Derived.Test.YteioennfpkoagaaGreatDoorManE
import Derived.LaidEql
import Derived.Stop.Asserts
import Derived.RowKitTokens
import Derived.Handy
namespace Go.Proofs.YteioennfpkoagaaGreatDoor
open Go.RowKit Go.Extern.Stop Go.Stop Go.Extern
attribute [local go_sem ↓] Go.wp_at_zero Go.wp_at_succ

theorem typeOfE (v : Value) (w : World) : (Extern.ReflectliteType.typeOf #[.iface 359 v]).run Tryz.prog w = .ok (.iface 287 (.agg #[.pointer (some ⟨11, 359, none⟩)])) w := by kernel_rfl
def cmpFn : Array Value → Sem Value := Extern.ReflectliteType.method fun t => do Rtype.noPackHeld "Comparable" t; pure (.bool (← typeInfo t).comparable)
theorem comparableE (w : World) : (cmpFn #[.agg #[.pointer (some ⟨11, 359, none⟩)]]).run Tryz.prog w = .ok (.bool true) w := by kernel_rfl
theorem compE : (Tryz.prog.info? 359).map (·.comparable) = some true := by kernel_rfl
theorem sizeE : (Tryz.prog.info? 361).map (·.size) = some 1 := by kernel_rfl
theorem noIsE (v : Value) (xT : TypeId) (w : World) : (Instr.typeAssert (.iface 359 v) xT 299 true).run Tryz.prog w = .ok (.tuple #[.nilIface, .bool false]) w := run_typeAssert_lacksB Tryz.underlying299 (by kernel_rfl) (by kernel_rfl) v xT w
theorem noUnwrapE (v : Value) (xT : TypeId) (w : World) : (Instr.typeAssert (.iface 359 v) xT 294 true).run Tryz.prog w = .ok (.tuple #[.nilIface, .bool false]) w := run_typeAssert_lacksB Tryz.underlying294 (by kernel_rfl) (by kernel_rfl) v xT w
theorem noUnwrapsE (v : Value) (xT : TypeId) (w : World) : (Instr.typeAssert (.iface 359 v) xT 296 true).run Tryz.prog w = .ok (.tuple #[.nilIface, .bool false]) w := run_typeAssert_lacksB Tryz.underlying296 (by kernel_rfl) (by kernel_rfl) v xT w
theorem noIsM (v : Value) (xT : TypeId) (w : World) : (Instr.typeAssert (.iface 178 v) xT 299 true).run Tryz.prog w = .ok (.tuple #[.nilIface, .bool false]) w := run_typeAssert_lacksB Tryz.underlying299 (by kernel_rfl) (by kernel_rfl) v xT w
theorem hasUnwrapM (v : Value) (xT : TypeId) (w : World) : (Instr.typeAssert (.iface 178 v) xT 294 true).run Tryz.prog w = .ok (.tuple #[.iface 178 v, .bool true]) w := run_typeAssert_hasB Tryz.underlying294 (by kernel_rfl) v xT w

set_option maxRecDepth 100000 in
set_option maxHeartbeats 1000000 in
theorem is_same (mb : Nat) (eb : Addr) (ln cl : Int) (w : World) (h : MisAt w mb eb ln cl) :
    Calls Tryz.prog 93 #[misV mb, errV eb] w fun e w' => e = .returned (.bool true) ∧ w' = w := by
  obtain ⟨i, hi, hcmp⟩ := Option.map_eq_some_iff.1 compE
  obtain ⟨j, hj, hjs⟩ := Option.map_eq_some_iff.1 sizeE
  have hT := @run_callFunc_extern Tryz.prog 152 _ Extern.ReflectliteType.typeOf Tryz.func152 (by kernel_rfl) (by kernel_rfl) (by kernel_rfl) (by kernel_rfl)
  have hC := @run_callFunc_extern Tryz.prog 312 _ cmpFn Tryz.func312 (by kernel_rfl) (by kernel_rfl) (by kernel_rfl) (by kernel_rfl)
  have tT := typeOfE
  have cT := comparableE
  have nM := noIsM
  have uM := hasUnwrapM
  have c0 : w.cell? ⟨mb, 0, none⟩ = some (errV eb) := by rw [cell_of_blk h]; rfl
  unfold errV misV at *
  have heq := run_eql_iface_ptr_same (P := Tryz.prog) w eb Tryz.underlying96 Tryz.underlying359 hi hcmp hj
  have hty := run_eql_iface_types (P := Tryz.prog) 178 359 (.pointer (some ⟨mb, 0, none⟩)) (.pointer (some eb)) Tryz.underlying96 (by decide) w
  go_enter Tryz.func93, Tryz.ntmps93
  go_wp2
  refine wp_loop_rounds 2 ?_
  rw [rounds_succ]
  go_wp2
  rw [rounds_succ]
  go_wp2
  go_ret
  exact ⟨rfl, rfl⟩
set_option maxRecDepth 100000 in
set_option maxHeartbeats 1000000 in
theorem is_other (mb : Nat) (eb tb : Addr) (ln cl : Int) (w : World) (h : MisAt w mb eb ln cl) (hne : eb ≠ tb) (he : ∃ c t, w.heap[eb.block]? = some (.cells c t (0, 0))) (ht : ∃ c t, w.heap[tb.block]? = some (.cells c t (0, 0))) :
    Calls Tryz.prog 93 #[misV mb, errV tb] w fun e w' => e = .returned (.bool false) ∧ w' = w := by
  obtain ⟨i, hi, hcmp⟩ := Option.map_eq_some_iff.1 compE
  obtain ⟨j, hj, hjs⟩ := Option.map_eq_some_iff.1 sizeE
  have hT := @run_callFunc_extern Tryz.prog 152 _ Extern.ReflectliteType.typeOf Tryz.func152 (by kernel_rfl) (by kernel_rfl) (by kernel_rfl) (by kernel_rfl)
  have hC := @run_callFunc_extern Tryz.prog 312 _ cmpFn Tryz.func312 (by kernel_rfl) (by kernel_rfl) (by kernel_rfl) (by kernel_rfl)
  have tT := typeOfE
  have cT := comparableE
  have nM := noIsM
  have nE := noIsE
  have uE := noUnwrapE
  have vE := noUnwrapsE
  obtain ⟨d1, t1, he⟩ := he
  obtain ⟨d2, t2, ht⟩ := ht
  have uM := hasUnwrapM
  have c0 : w.cell? ⟨mb, 0, none⟩ = some (errV eb) := by rw [cell_of_blk h]; rfl
  unfold errV misV at *
  have heq := run_eql_iface_ptr_other (P := Tryz.prog) w (a := eb) (b := tb) Tryz.underlying96 Tryz.underlying359 hi hcmp hj (by rw [hjs]; decide) hne he ht
  have hty := run_eql_iface_types (P := Tryz.prog) 178 359 (.pointer (some ⟨mb, 0, none⟩)) (.pointer (some tb)) Tryz.underlying96 (by decide) w
  go_enter Tryz.func93, Tryz.ntmps93
  go_wp2
  refine wp_loop_rounds 2 ?_
  rw [rounds_succ]
  go_wp2
  rw [rounds_succ]
  go_wp2
  go_ret
  exact ⟨rfl, rfl⟩
end Go.Proofs.YteioennfpkoagaaGreatDoor
