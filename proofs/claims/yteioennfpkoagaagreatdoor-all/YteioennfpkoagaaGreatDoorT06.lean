import Derived.Test.YteioennfpkoagaaGreatDoorT04
import Derived.Test.YteioennfpkoagaaGreatDoorB27
import Derived.OwnWalk
import Derived.Deep.AppendLies
namespace Go.Proofs.YteioennfpkoagaaGreatDoor.C
open Go.RowKit K
attribute [local go_sem ↓] Go.wp_at_zero Go.wp_at_succ

section
variable {W w w' : World} {kb : Nat} {pv cv qv sv lv mv lv' mv' : Value} {D : ManD} {S T : KS} {ss : List StD} {ls ls' : List CellD} {ms ms' : List MsgR}
theorem infoRCell2 : (Tryz.prog.info? 303).map (fun i => (i.zero, i.size, i.bytes)) = some (some (.agg #[.int .i64 0, .int .i64 0, .int .i64 0]), 3, 24) := by kernel_rfl
/- a list appended to, and set -/
theorem RKn.cel (h : RKv W w kb pv cv qv sv lv mv D S ss ls ms) {w1 w2 : World} (hb : Below w.heap.size w w1) (hg : w1.grownBy w2 lv.ownBlock) (hown : w2.ownsRow W.heap.size 303 3 lv' ls'.length (ls'.flatMap clC)) (hat : ∀ b, lv'.ownBlock = some b → lv.ownBlock = some b ∨ w.heap.size ≤ b)
    (h0 : T.time = S.time) (h1 : T.sts = S.sts) (h2 : T.chs = S.chs) (h3 : ∀ p a, p < D.parts.length → T.mem p a = memOf ls' p a) : RKn W w (w2.setCell ⟨kb, 6, none⟩ lv') kb pv cv qv sv lv mv D T ls'.length ms.length := by
  have hf : Frm (fun b => some b = lv.ownBlock) w w2 := (Frm.all _ hb).trans ((Frm.grown hg).mono fun _ h => h.symm) (newO.refl _ _)
  refine ⟨⟨lv', mv, ss, ls', ms, h.setCel hf hown h0 h1 h2 h3, Nat.le_refl _, Nat.le_refl _, fun b hb => ?_⟩, (hf.mono fun b hb => ?_).set (.inl (.inl rfl)) _ _⟩
  · rcases hb with h | h | h | h | h
    · exact .inl (.inl h)
    · exact .inl (.inr (.inl h))
    · exact .inl (.inr (.inr (.inl h)))
    · rcases hat b h.symm with h' | h'
      · exact .inl (.inr (.inr (.inr (.inl h'.symm))))
      · exact .inr h'
    · exact .inl (.inr (.inr (.inr (.inr h))))
  · exact .inr (.inr (.inr (.inl hb)))
theorem RKn.msg (h : RKv W w kb pv cv qv sv lv mv D S ss ls ms) {w1 w2 : World} (hb : Below w.heap.size w w1) (hg : w1.grownBy w2 mv.ownBlock) (hown : w2.ownsRow W.heap.size 305 3 mv' ms'.length (ms'.flatMap mgC)) (hat : ∀ b, mv'.ownBlock = some b → mv.ownBlock = some b ∨ w.heap.size ≤ b)
    (h0 : T.time = S.time) (h1 : T.sts = S.sts) (h2 : T.mem = S.mem) (h3 : ∀ c, c < D.chans.length → T.chs c = chsOf ms' c) (h4 : ∀ m ∈ ms', 0 ≤ m.c ∧ m.c < D.chans.length ∧ m.time ≤ S.time) : RKn W w (w2.setCell ⟨kb, 7, none⟩ mv') kb pv cv qv sv lv mv D T ls.length ms'.length := by
  have hf : Frm (fun b => some b = mv.ownBlock) w w2 := (Frm.all _ hb).trans ((Frm.grown hg).mono fun _ h => h.symm) (newO.refl _ _)
  refine ⟨⟨lv, mv', ss, ls, ms', h.setMsg hf hown h0 h1 h2 h3 h4, Nat.le_refl _, Nat.le_refl _, fun b hb => ?_⟩, (hf.mono fun b hb => ?_).set (.inl (.inl rfl)) _ _⟩
  · rcases hb with h | h | h | h | h
    · exact .inl (.inl h)
    · exact .inl (.inr (.inl h))
    · exact .inl (.inr (.inr (.inl h)))
    · exact .inl (.inr (.inr (.inr (.inl h))))
    · rcases hat b h.symm with h' | h'
      · exact .inl (.inr (.inr (.inr (.inr h'.symm))))
      · exact .inr h'
  · exact .inr (.inr (.inr (.inr hb)))
theorem rset_mem {S : KS} {i q : Nat} {a b x : Int} {ls : List CellD} (h : S.mem q x = memOf ls q x) : (setMem S i a b).mem q x = memOf (ls ++ [⟨(i : Int), a, b⟩]) q x := by
  rw [memOf_snoc]
  show (if q = i ∧ x = a then b else S.mem q x) = if (i : Int) = (q : Int) ∧ a = x then b else memOf ls q x
  by_cases e : q = i ∧ x = a
  · rw [if_pos e, if_pos ⟨by omega, e.2.symm⟩]
  · rw [if_neg e, if_neg (fun h => e ⟨by omega, h.2.symm⟩), h]
set_option maxRecDepth 100000 in
set_option maxHeartbeats 4000000 in
theorem rwrite_ok (hz : checkF D = 0) (h : RKv W w kb pv cv qv sv lv mv D S ss ls ms) (hs : SmallK bigK S) (hl : ls.length ≤ 4398046511000) (i : Nat) (hi : i < D.parts.length) (a b : Int) (ha : inR a) (hb : inR b) (ht : turnF D S i = 0) (hr : rightsF (regsAt D i) a = 2) :
    Calls Tryz.prog 162 #[ptrV kb, .int .i64 i, .int .i64 a, .int .i64 b] w fun e w' => e = .returned (.int .i64 0) ∧ RKn W w w' kb pv cv qv sv lv mv D (setMem S i a (b % 256)) (ls.length + 1) ms.length := by
  obtain ⟨i0, hi0, hz0, hz1, hz2⟩ := parts_of infoRCell2
  have HTU : Hid _ := rturn_any hz h hs (i : Int) (by unfold inR; have := (check_ok hz).2.2.1; omega)
  have HRI : Hid (∀ w1, Below w.heap.size w w1 → Calls Tryz.prog 211 #[ptrV kb, .int .i64 i, .int .i64 a] w1 fun e w' => e = .returned (.int .i64 (rightsF (regsAt D i) a)) ∧ Below w1.heap.size w1 w') := fun w1 hb => rrights_any hz (h.below hb) i hi a ha
  obtain ⟨la, lcap, rfl, _⟩ := h.cells
  have HKV : Hid _ := h
  have c6 : w.cell? ⟨kb, 6, none⟩ = some (.slice la ls.length lcap) := by rw [cell_of_blk h.ker]; rfl
  have HFI : Hid (∀ w1 w2 g9 c9, Below w.heap.size w w1 → w1.grownBy w2 (Value.slice la ls.length lcap).ownBlock → w2.ownsRow W.heap.size 303 3 (.slice (some ⟨g9, 0, none⟩) (ls.length + 1) c9) (ls.length + 1) (ls.flatMap clC ++ [.int .i64 i, .int .i64 a, .int .i64 (b % 256)]) → ((Value.slice la ls.length lcap).ownBlock = some g9 ∨ w.heap.size ≤ g9) →
      RKn W w (w2.setCell ⟨kb, 6, none⟩ (.slice (some ⟨g9, 0, none⟩) (ls.length + 1) c9)) kb pv cv qv sv (.slice la ls.length lcap) mv D (setMem S i a (b % 256)) (ls.length + 1) ms.length) := fun w1 w2 g9 c9 hb hg hown hat => by
    have e1 : (ls ++ [(⟨(i : Int), a, b % 256⟩ : CellD)]).length = ls.length + 1 := by simp
    have e2 : (ls ++ [(⟨(i : Int), a, b % 256⟩ : CellD)]).flatMap clC = ls.flatMap clC ++ [.int .i64 i, .int .i64 a, .int .i64 (b % 256)] := by simp [clC]
    have hh := RKn.cel (T := setMem S i a (b % 256)) (ls' := ls ++ [(⟨(i : Int), a, b % 256⟩ : CellD)]) (lv' := .slice (some ⟨g9, 0, none⟩) (ls.length + 1) c9) h hb hg (by rw [e1, e2]; exact hown) (fun k hk => by
      have : k = g9 := by simpa [Value.ownBlock] using hk.symm
      subst this
      exact hat) rfl rfl rfl (fun q x hq => rset_mem (h.mem q x hq))
    rw [e1] at hh
    exact hh
  have HKX : Hid (∀ w1 w2, Below w.heap.size w w1 → w1.grownBy w2 (Value.slice la ls.length lcap).ownBlock → w2.cell? ⟨kb, 6, none⟩ = some (.slice la ls.length lcap) ∧ w2.frozen? ⟨kb, 6, none⟩ = false) := fun w1 w2 hb hg => by
    have h1 := keepN h.ker hb
    have hb2 := ((Frm.grown hg).block kb (lt_of_blk h1) fun e => own_not_blk (own_stays h.cel hb) h1 (by decide) e.symm).trans h1
    exact ⟨by rw [cell_of_blk hb2]; rfl, frozen_of_blk hb2⟩
  have HOW : Hid (∀ w1, Below w.heap.size w w1 → w1.ownsRow W.heap.size 303 3 (.slice la ls.length lcap) ls.length (ls.flatMap clC)) := fun w1 hb => own_stays h.cel hb
  have hWs : W.heap.size ≤ w.heap.size := h.base.size
  clear h hs hz
  rw [ht] at HTU
  rw [hr] at HRI
  obtain ⟨ha1, ha2⟩ := ha
  obtain ⟨hb1, hb2⟩ := hb
  unfold ptrV at *
  go_enter Tryz.func162, Tryz.ntmps162
  go_wp2_with fail
  refine Calls.mono HTU.out ?_
  rintro e w1 ⟨rfl, hbw1⟩
  go_wp2_with fail
  refine Calls.mono (HRI.out w1 hbw1) ?_
  rintro e w2 ⟨rfl, hbw2⟩
  have HB2 : Hid (Below w.heap.size w w2) := hbw1.trans (hbw2.mono hbw1.size)
  have d6 := (HB2.out.cell (by exact World.block_lt_of_cell? w _ c6)).trans c6
  clear hbw1 hbw2 c6
  have hw2 := HB2.out.size
  have hm1 : Int.tmod b 256 = if b < 0 then -((-b) % 256) else b % 256 := by
    split
    · rw [← Int.tmod_eq_emod_of_nonneg (show (0 : Int) ≤ -b by omega), Int.neg_tmod]; omega
    · rw [Int.tmod_eq_emod_of_nonneg (by omega)]
  have hm2 : -256 < Int.tmod b 256 ∧ Int.tmod b 256 < 256 ∧ (Int.tmod b 256 < 0 → Int.tmod b 256 + 256 = b % 256) ∧ (¬ Int.tmod b 256 < 0 → Int.tmod b 256 = b % 256) := by
    rw [hm1]; split <;> omega
  generalize hzz : Int.tmod b 256 = z at *
  obtain ⟨hm3, hm4, hm5, hm6⟩ := hm2
  have hwz : IntKind.i64.wrap z = z := wrap_small _ (by omega) (by omega)
  clear hm1
  by_cases hneg : z < 0
  · have hm7 := hm5 hneg
    have hwz2 : IntKind.i64.wrap (z + 256) = z + 256 := wrap_small _ (by omega) (by omega)
    clear hm5 hm6
    go_wp2_with (first
      | (at_builtin; refine wpList_append_lies _ rfl _ _ _ rfl W.heap.size 303 i0 _ 3 24 Tryz.underlying194 hi0 hz0 hz1 hz2 rfl (by omega) (.slice la ls.length lcap) ls.length (ls.flatMap clC) rfl ((HOW.out _ HB2.out).alloc _) ⟨w2.heap.size, 0, none⟩ 1 1 [.int .i64 i, .int .i64 a, .int .i64 (b % 256)] rfl rfl (World.news_of_block (cs := #[.int .i64 i, .int .i64 a, .int .i64 (b % 256)]) (t := 303) (fr := (0, 0)) (heap_new w2 _)) (by simp [Value.oneCell']) (by omega) (by unfold maxLen; omega) (by omega) (by simp; omega) (w2.heap.size + 1) (by simp) ?_; intro g9 c9 V9 hown9 hgrow9 hat9 hlt9
         have HB3 : Hid (Below w.heap.size w (w2.alloc (.cells #[.int .i64 i, .int .i64 a, .int .i64 (b % 256)] 303))) := HB2.out.trans ((newB w2 _).mono hw2)
         obtain ⟨c69, f69⟩ := HKX.out _ _ HB3.out hgrow9)
      | fail)
    go_ret
    refine ⟨rfl, ?_⟩
    exact HFI.out _ _ _ _ HB3.out hgrow9 hown9 (hat9.imp id (fun e => by omega))
  · have hm7 := hm6 hneg
    clear hm5 hm6
    go_wp2_with (first
      | (at_builtin; refine wpList_append_lies _ rfl _ _ _ rfl W.heap.size 303 i0 _ 3 24 Tryz.underlying194 hi0 hz0 hz1 hz2 rfl (by omega) (.slice la ls.length lcap) ls.length (ls.flatMap clC) rfl ((HOW.out _ HB2.out).alloc _) ⟨w2.heap.size, 0, none⟩ 1 1 [.int .i64 i, .int .i64 a, .int .i64 (b % 256)] rfl rfl (World.news_of_block (cs := #[.int .i64 i, .int .i64 a, .int .i64 (b % 256)]) (t := 303) (fr := (0, 0)) (heap_new w2 _)) (by simp [Value.oneCell']) (by omega) (by unfold maxLen; omega) (by omega) (by simp; omega) (w2.heap.size + 1) (by simp) ?_; intro g9 c9 V9 hown9 hgrow9 hat9 hlt9
         have HB3 : Hid (Below w.heap.size w (w2.alloc (.cells #[.int .i64 i, .int .i64 a, .int .i64 (b % 256)] 303))) := HB2.out.trans ((newB w2 _).mono hw2)
         obtain ⟨c69, f69⟩ := HKX.out _ _ HB3.out hgrow9)
      | fail)
    go_ret
    refine ⟨rfl, ?_⟩
    exact HFI.out _ _ _ _ HB3.out hgrow9 hown9 (hat9.imp id (fun e => by omega))
end
end Go.Proofs.YteioennfpkoagaaGreatDoor.C
