import Derived.Test.YteioennfpkoagaaGreatDoorManH
namespace Go.Proofs.YteioennfpkoagaaGreatDoor
open Go.RowKit Go.Extern.Stop Go.Stop Go.Extern
attribute [local go_sem ↓] Go.wp_at_zero Go.wp_at_succ

theorem direct_p (w : World) : (Rtype.directlyAssignable 178 178).run Tryz.prog w = .ok true w := by kernel_rfl
theorem vSet_p (ta b e : Addr) (old : Value) (W : World) (hb : W.cell? b = some (.pointer (some e))) (ht : W.cell? ta = some old) (hf : W.frozen? ta = false) :
    (ReflectliteValue.set #[.agg #[hP, .pointer (some ta), .int .u64 406], .agg #[hP, .pointer (some b), .int .u64 150]]).run Tryz.prog W = .ok (.tuple #[]) (W.setCell ta (.pointer (some e))) := by
  delta ReflectliteValue.set
  delta ReflectliteValue.set.match_3
  rw [dif_pos (by rfl)]
  dsimp only [Eq.ndrec, Array.getLit]
  simp only [List.getElem_toArray, List.getElem_cons_zero, List.getElem_cons_succ]
  simp only [Sem.run_bind, parts_pa, parts_p, Result.andThen]
  simp [ReflectliteValue.flagAddr, loadVar, isAgg, underlying, Tryz.underlying178, hb, Result.andThen, direct_p, storeVar, Value.cells, storeCells, Addr.add]
  rw [run_store Tryz.prog W ta _ _ (by rfl)]
  simp [ht, hf]

set_option maxRecDepth 100000 in
set_option maxHeartbeats 4000000 in
theorem as_hit (mb : Nat) (t : Addr) (old : Value) (w : World) (hg : w.cell? ⟨3, 0, none⟩ = some (.iface 287 (.agg #[hE]))) (ht0 : w.cell? t = some old) (hf0 : w.frozen? t = false) :
    Calls Tryz.prog 92 #[misV mb, .iface 180 (.pointer (some t))] w fun ev w' => ev = .returned (.bool true) ∧ ∃ w2, w' = w2.setCell t (.pointer (some ⟨mb, 0, none⟩)) ∧ Below w.heap.size w w2 := by
  have x1 := @run_callFunc_extern Tryz.prog 148 _ vOf Tryz.func148 (by kernel_rfl) (by kernel_rfl) (by kernel_rfl) (by kernel_rfl)
  have x2 := @run_callFunc_extern Tryz.prog 149 _ vType Tryz.func149 (by kernel_rfl) (by kernel_rfl) (by kernel_rfl) (by kernel_rfl)
  have x3 := @run_callFunc_extern Tryz.prog 150 _ vIsNil Tryz.func150 (by kernel_rfl) (by kernel_rfl) (by kernel_rfl) (by kernel_rfl)
  have x4 := @run_callFunc_extern Tryz.prog 294 _ tKind Tryz.func294 (by kernel_rfl) (by kernel_rfl) (by kernel_rfl) (by kernel_rfl)
  have x5 := @run_callFunc_extern Tryz.prog 313 _ tElem Tryz.func313 (by kernel_rfl) (by kernel_rfl) (by kernel_rfl) (by kernel_rfl)
  have x6 := @run_callFunc_extern Tryz.prog 314 _ tImpl Tryz.func314 (by kernel_rfl) (by kernel_rfl) (by kernel_rfl) (by kernel_rfl)
  have x7 := @run_callFunc_extern Tryz.prog 152 _ Extern.ReflectliteType.typeOf Tryz.func152 (by kernel_rfl) (by kernel_rfl) (by kernel_rfl) (by kernel_rfl)
  have x8 := @run_callFunc_extern Tryz.prog 311 _ tAsgn Tryz.func311 (by kernel_rfl) (by kernel_rfl) (by kernel_rfl) (by kernel_rfl)
  have x9 := @run_callFunc_extern Tryz.prog 207 _ vElem Tryz.func207 (by kernel_rfl) (by kernel_rfl) (by kernel_rfl) (by kernel_rfl)
  have x10 := @run_callFunc_extern Tryz.prog 208 _ ReflectliteValue.set Tryz.func208 (by kernel_rfl) (by kernel_rfl) (by kernel_rfl) (by kernel_rfl)
  have y1 := vOf_pp
  have y2 := vType_pp
  have y3 := tKind_pp
  have y4 := tKind_p
  have y5 := tElem_pp
  have y6 := tImpl_p
  have y7 := typeOf_p
  have y8 := tAsgn_p
  have y9 := vOf_p
  have hlt : 3 < w.heap.size := World.block_lt_of_cell? w ⟨3, 0, none⟩ hg
  have htl : t.block < w.heap.size := World.block_lt_of_cell? w t ht0
  have z1 := vIsNil_pp ⟨w.heap.size, 0, none⟩ t ((w.alloc (Obj.cells #[.pointer (some t)] 180)).alloc (Obj.cells #[hPP, .pointer (some ⟨w.heap.size, 0, none⟩), .int .u64 150] 237)) (by rw [World.cell?_alloc_lt _ _ ⟨w.heap.size, 0, none⟩ (by simp)]; simp)
  have z2 := vElem_pp ⟨w.heap.size, 0, none⟩ t (((w.alloc (Obj.cells #[.pointer (some t)] 180)).alloc (Obj.cells #[hPP, .pointer (some ⟨w.heap.size, 0, none⟩), .int .u64 150] 237)).alloc (Obj.cells #[hPP, .pointer (some ⟨w.heap.size, 0, none⟩), .int .u64 150] 237)) (by rw [World.cell?_alloc_lt _ _ ⟨w.heap.size, 0, none⟩ (by simp; omega), World.cell?_alloc_lt _ _ ⟨w.heap.size, 0, none⟩ (by simp)]; simp)
  have z3 := vSet_p t ⟨w.heap.size + 1 + 1 + 1, 0, none⟩ ⟨mb, 0, none⟩ old ((((w.alloc (Obj.cells #[.pointer (some t)] 180)).alloc (Obj.cells #[hPP, .pointer (some ⟨w.heap.size, 0, none⟩), .int .u64 150] 237)).alloc (Obj.cells #[hPP, .pointer (some ⟨w.heap.size, 0, none⟩), .int .u64 150] 237)).alloc (Obj.cells #[.pointer (some ⟨mb, 0, none⟩)] 178))
    (by rw [World.cell?_alloc_at _ _ _ _ (by simp)]; rfl)
    (by rw [World.cell?_alloc_lt _ _ t (by simp; omega), World.cell?_alloc_lt _ _ t (by simp; omega), World.cell?_alloc_lt _ _ t (by simp; omega), World.cell?_alloc_lt _ _ t htl]; exact ht0)
    (by rw [World.frozen?_alloc_old _ _ t (by simp; omega), World.frozen?_alloc_old _ _ t (by simp; omega), World.frozen?_alloc_old _ _ t (by simp; omega), World.frozen?_alloc_old _ _ t (Nat.ne_of_lt htl)]; exact hf0)
  have hg2 : ((w.alloc (Obj.cells #[.pointer (some t)] 180)).alloc (Obj.cells #[hPP, .pointer (some ⟨w.heap.size, 0, none⟩), .int .u64 150] 237)).cell? ⟨3, 0, none⟩ = some (.iface 287 (.agg #[hE])) := by
    rw [World.cell?_alloc_lt _ _ ⟨3, 0, none⟩ (by simp; omega), World.cell?_alloc_lt _ _ ⟨3, 0, none⟩ hlt]; exact hg
  have HBE : Hid (Below w.heap.size w ((((w.alloc (Obj.cells #[.pointer (some t)] 180)).alloc (Obj.cells #[hPP, .pointer (some ⟨w.heap.size, 0, none⟩), .int .u64 150] 237)).alloc (Obj.cells #[hPP, .pointer (some ⟨w.heap.size, 0, none⟩), .int .u64 150] 237)).alloc (Obj.cells #[.pointer (some ⟨mb, 0, none⟩)] 178))) := ((((Below.refl _ _).alloc (Nat.le_refl _) _).alloc (by simp) _).alloc (by simp; omega) _).alloc (by simp; omega) _
  unfold misV
  unfold hPP hP hE at *
  go_enter Tryz.func92, Tryz.ntmps92
  go_wp2
  refine wp_loop_rounds 1 ?_
  rw [rounds_succ]
  go_wp2
  go_ret
  exact ⟨rfl, _, rfl, HBE.out⟩

set_option maxRecDepth 100000 in
set_option maxHeartbeats 1000000 in
theorem placeOf_any (mb : Nat) (eb : Addr) (ln cl : Int) (w : World) {B : Nat} {ew en eu es ex : Addr} (hg : GL w B ew en eu es ex) (h : MisAt w mb eb ln cl) :
    Calls Tryz.prog 40 #[misV mb] w fun e w' => e = .returned (.agg #[.int .i64 ln, .int .i64 cl]) ∧ Below w.heap.size w w' := by
  have hlt := lt_of_blk h
  go_enter Tryz.func40, Tryz.ntmps40
  go_wp2_with fail
  have hb1 : Below w.heap.size w ((w.alloc (Obj.cells #[.int .i64 0, .int .i64 0] 36)).alloc (Obj.cells #[.pointer none] 178)) := ((Below.refl _ _).alloc (Nat.le_refl _) _).alloc (by simp) _
  have hg1 := hg.below (hb1.mono hg.size)
  have r0 : ((w.alloc (Obj.cells #[.int .i64 0, .int .i64 0] 36)).alloc (Obj.cells #[.pointer none] 178)).heap[w.heap.size]? = some (.cells #[.int .i64 0, .int .i64 0] 36 (0, 0)) := by rw [Below.heap_alloc _ _ _ (by simp), heap_new]
  have r1 : ((w.alloc (Obj.cells #[.int .i64 0, .int .i64 0] 36)).alloc (Obj.cells #[.pointer none] 178)).heap[w.heap.size + 1]? = some (.cells #[.pointer none] 178 (0, 0)) := by
    have := heap_new (w.alloc (Obj.cells #[.int .i64 0, .int .i64 0] 36)) (Obj.cells #[.pointer none] 178)
    simpa using this
  have m1 : ((w.alloc (Obj.cells #[.int .i64 0, .int .i64 0] 36)).alloc (Obj.cells #[.pointer none] 178)).heap[mb]? = _ := (hb1.block mb hlt).trans h
  have sz : ((w.alloc (Obj.cells #[.int .i64 0, .int .i64 0] 36)).alloc (Obj.cells #[.pointer none] 178)).heap.size = w.heap.size + 2 := by simp
  generalize (w.alloc (Obj.cells #[.int .i64 0, .int .i64 0] 36)).alloc (Obj.cells #[.pointer none] 178) = V at *
  refine (as_hit mb ⟨w.heap.size + 1, 0, none⟩ (.pointer none) V hg1.cT (by rw [cell_of_blk r1]; rfl) (frozen_of_blk r1)).mono ?_
  rintro e V3 ⟨rfl, V2, rfl, hb2⟩
  have q1 : V2.heap[w.heap.size + 1]? = some (.cells #[.pointer none] 178 (0, 0)) := (hb2.block _ (by omega)).trans r1
  have q0 : V2.heap[w.heap.size]? = some (.cells #[.int .i64 0, .int .i64 0] 36 (0, 0)) := (hb2.block _ (by omega)).trans r0
  have qm : V2.heap[mb]? = some (.cells #[errV eb, .int .i64 ln, .int .i64 cl] 182 (0, 0)) := (hb2.block _ (by omega)).trans m1
  have p1 := blk_set 0 (.pointer (some ⟨mb, 0, none⟩)) q1
  have p0 : (V2.setCell ⟨w.heap.size + 1, 0, none⟩ (.pointer (some ⟨mb, 0, none⟩))).heap[w.heap.size]? = some (.cells #[.int .i64 0, .int .i64 0] 36 (0, 0)) := by rw [blk_far _ _ (by omega)]; exact q0
  have pm : (V2.setCell ⟨w.heap.size + 1, 0, none⟩ (.pointer (some ⟨mb, 0, none⟩))).heap[mb]? = some (.cells #[errV eb, .int .i64 ln, .int .i64 cl] 182 (0, 0)) := by rw [blk_far _ _ (by omega)]; exact qm
  have hb3 : Below w.heap.size w (V2.setCell ⟨w.heap.size + 1, 0, none⟩ (.pointer (some ⟨mb, 0, none⟩))) := (hb1.trans (hb2.mono (by omega))).setCell (by simp) _
  clear q0 q1 qm hb2 hb1 hg1 r0 r1 m1 sz
  generalize V2.setCell ⟨w.heap.size + 1, 0, none⟩ (.pointer (some ⟨mb, 0, none⟩)) = X at *
  have c0 : X.cell? ⟨w.heap.size + 1, 0, none⟩ = some (.pointer (some ⟨mb, 0, none⟩)) := by rw [cell_of_blk p1]; rfl
  have c1 : X.cell? ⟨mb, 1, none⟩ = some (.int .i64 ln) := by rw [cell_of_blk pm]; rfl
  have c2 : X.cell? ⟨mb, 2, none⟩ = some (.int .i64 cl) := by rw [cell_of_blk pm]; rfl
  have d0 : X.cell? ⟨w.heap.size, 0, none⟩ = some (.int .i64 0) := by rw [cell_of_blk p0]; rfl
  have d1 : X.cell? ⟨w.heap.size, 1, none⟩ = some (.int .i64 0) := by rw [cell_of_blk p0]; rfl
  have f0 : X.frozen? ⟨w.heap.size, 0, none⟩ = false := frozen_of_blk p0
  have f1 : X.frozen? ⟨w.heap.size, 1, none⟩ = false := frozen_of_blk p0
  go_wp2_with fail
  refine bodyPost_ret (v := .agg #[.int .i64 ln, .int .i64 cl]) (by simp [results, Tryz.results40, go_sem, d0, d1]) rfl ⟨rfl, ?_⟩
  exact (hb3.setCell (by simp) _).setCell (by simp) _
end Go.Proofs.YteioennfpkoagaaGreatDoor
