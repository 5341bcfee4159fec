import Derived.Test.YtklflallbhajkaaGreatDoorManE
import Derived.LaidEql
import Derived.Stop.Asserts
import Derived.RowKitTokens
import Derived.Handy
namespace Go.Proofs.YtklflallbhajkaaGreatDoor
open Go.RowKit Go.Extern.Stop Go.Stop Go.Extern
attribute [local go_sem ↓] Go.wp_at_zero Go.wp_at_succ

theorem typeOfE (v : Value) (w : World) : (Extern.ReflectliteType.typeOf #[.iface 230 v]).run Tryz.prog w = .ok (.iface 166 (.agg #[.pointer (some ⟨11, 230, none⟩)])) w := by kernel_rfl
def cmpFn : Array Value → Sem Value := Extern.ReflectliteType.method fun t => do Rtype.noPackHeld "Comparable" t; pure (.bool (← typeInfo t).comparable)
theorem comparableE (w : World) : (cmpFn #[.agg #[.pointer (some ⟨11, 230, none⟩)]]).run Tryz.prog w = .ok (.bool true) w := by kernel_rfl
theorem compE : (Tryz.prog.info? 230).map (·.comparable) = some true := by kernel_rfl
theorem sizeE : (Tryz.prog.info? 232).map (·.size) = some 1 := by kernel_rfl
theorem noIsE (v : Value) (xT : TypeId) (w : World) : (Instr.typeAssert (.iface 230 v) xT 178 true).run Tryz.prog w = .ok (.tuple #[.nilIface, .bool false]) w := run_typeAssert_lacksB Tryz.underlying178 (by kernel_rfl) (by kernel_rfl) v xT w
theorem noUnwrapE (v : Value) (xT : TypeId) (w : World) : (Instr.typeAssert (.iface 230 v) xT 173 true).run Tryz.prog w = .ok (.tuple #[.nilIface, .bool false]) w := run_typeAssert_lacksB Tryz.underlying173 (by kernel_rfl) (by kernel_rfl) v xT w
theorem noUnwrapsE (v : Value) (xT : TypeId) (w : World) : (Instr.typeAssert (.iface 230 v) xT 175 true).run Tryz.prog w = .ok (.tuple #[.nilIface, .bool false]) w := run_typeAssert_lacksB Tryz.underlying175 (by kernel_rfl) (by kernel_rfl) v xT w
theorem noIsM (v : Value) (xT : TypeId) (w : World) : (Instr.typeAssert (.iface 104 v) xT 178 true).run Tryz.prog w = .ok (.tuple #[.nilIface, .bool false]) w := run_typeAssert_lacksB Tryz.underlying178 (by kernel_rfl) (by kernel_rfl) v xT w
theorem hasUnwrapM (v : Value) (xT : TypeId) (w : World) : (Instr.typeAssert (.iface 104 v) xT 173 true).run Tryz.prog w = .ok (.tuple #[.iface 104 v, .bool true]) w := run_typeAssert_hasB Tryz.underlying173 (by kernel_rfl) v xT w

set_option maxRecDepth 100000 in
set_option maxHeartbeats 1000000 in
theorem is_same (mb : Nat) (eb : Addr) (ln cl : Int) (w : World) (h : MisAt w mb eb ln cl) :
    Calls Tryz.prog 44 #[misV mb, errV eb] w fun e w' => e = .returned (.bool true) ∧ w' = w := by
  obtain ⟨i, hi, hcmp⟩ := Option.map_eq_some_iff.1 compE
  obtain ⟨j, hj, hjs⟩ := Option.map_eq_some_iff.1 sizeE
  have hT := @run_callFunc_extern Tryz.prog 79 _ Extern.ReflectliteType.typeOf Tryz.func79 (by kernel_rfl) (by kernel_rfl) (by kernel_rfl) (by kernel_rfl)
  have hC := @run_callFunc_extern Tryz.prog 199 _ cmpFn Tryz.func199 (by kernel_rfl) (by kernel_rfl) (by kernel_rfl) (by kernel_rfl)
  have tT := typeOfE
  have cT := comparableE
  have nM := noIsM
  have uM := hasUnwrapM
  have c0 : w.cell? ⟨mb, 0, none⟩ = some (errV eb) := by rw [cell_of_blk h]; rfl
  unfold errV misV at *
  have heq := run_eql_iface_ptr_same (P := Tryz.prog) w eb Tryz.underlying54 Tryz.underlying230 hi hcmp hj
  have hty := run_eql_iface_types (P := Tryz.prog) 104 230 (.pointer (some ⟨mb, 0, none⟩)) (.pointer (some eb)) Tryz.underlying54 (by decide) w
  go_enter Tryz.func44, Tryz.ntmps44
  go_wp2
  refine wp_loop_rounds 2 ?_
  rw [rounds_succ]
  go_wp2
  rw [rounds_succ]
  go_wp2
  go_ret
  exact ⟨rfl, rfl⟩
set_option maxRecDepth 100000 in
set_option maxHeartbeats 1000000 in
theorem is_other (mb : Nat) (eb tb : Addr) (ln cl : Int) (w : World) (h : MisAt w mb eb ln cl) (hne : eb ≠ tb) (he : ∃ c t, w.heap[eb.block]? = some (.cells c t (0, 0))) (ht : ∃ c t, w.heap[tb.block]? = some (.cells c t (0, 0))) :
    Calls Tryz.prog 44 #[misV mb, errV tb] w fun e w' => e = .returned (.bool false) ∧ w' = w := by
  obtain ⟨i, hi, hcmp⟩ := Option.map_eq_some_iff.1 compE
  obtain ⟨j, hj, hjs⟩ := Option.map_eq_some_iff.1 sizeE
  have hT := @run_callFunc_extern Tryz.prog 79 _ Extern.ReflectliteType.typeOf Tryz.func79 (by kernel_rfl) (by kernel_rfl) (by kernel_rfl) (by kernel_rfl)
  have hC := @run_callFunc_extern Tryz.prog 199 _ cmpFn Tryz.func199 (by kernel_rfl) (by kernel_rfl) (by kernel_rfl) (by kernel_rfl)
  have tT := typeOfE
  have cT := comparableE
  have nM := noIsM
  have nE := noIsE
  have uE := noUnwrapE
  have vE := noUnwrapsE
  obtain ⟨d1, t1, he⟩ := he
  obtain ⟨d2, t2, ht⟩ := ht
  have uM := hasUnwrapM
  have c0 : w.cell? ⟨mb, 0, none⟩ = some (errV eb) := by rw [cell_of_blk h]; rfl
  unfold errV misV at *
  have heq := run_eql_iface_ptr_other (P := Tryz.prog) w (a := eb) (b := tb) Tryz.underlying54 Tryz.underlying230 hi hcmp hj (by rw [hjs]; decide) hne he ht
  have hty := run_eql_iface_types (P := Tryz.prog) 104 230 (.pointer (some ⟨mb, 0, none⟩)) (.pointer (some tb)) Tryz.underlying54 (by decide) w
  go_enter Tryz.func44, Tryz.ntmps44
  go_wp2
  refine wp_loop_rounds 2 ?_
  rw [rounds_succ]
  go_wp2
  rw [rounds_succ]
  go_wp2
  go_ret
  exact ⟨rfl, rfl⟩
end Go.Proofs.YtklflallbhajkaaGreatDoor
