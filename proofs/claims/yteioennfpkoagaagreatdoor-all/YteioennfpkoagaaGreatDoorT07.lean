import Derived.Test.YteioennfpkoagaaGreatDoorT06
import Derived.Maps.AppendAt
namespace Go.Proofs.YteioennfpkoagaaGreatDoor.C
open Go.RowKit K
attribute [local go_sem ↓] Go.wp_at_zero Go.wp_at_succ

theorem infoRMsg2 : (Tryz.prog.info? 305).map (fun i => (i.zero, i.size, i.bytes)) = some (some (.agg #[.int .i64 0, .string ⟨#[]⟩, .int .i64 0]), 3, 32) := by kernel_rfl
section
variable {W w w' : World} {kb : Nat} {pv cv qv sv lv mv lv' mv' : Value} {D : ManD} {S T : KS} {ss : List StD} {ls ls' : List CellD} {ms ms' : List MsgR}
/- the kernel with other messages -/
def RKm (W w w' : World) (kb : Nat) (pv cv qv sv lv mv : Value) (D : ManD) (T : KS) (ls : List CellD) (ms' : List MsgR) : Prop :=
  ∃ mv' ss', RKv W w' kb pv cv qv sv lv mv' D T ss' ls ms' ∧ newO (RKo kb qv sv lv mv) (RKo kb qv sv lv mv') w ∧ Frm (RKo kb qv sv lv mv) w w'
theorem RKm.of (h : RKv W w kb pv cv qv sv lv mv D S ss ls ms) {w2 : World} (hf : Frm (fun b => some b = mv.ownBlock) w w2) (hown : w2.ownsRow W.heap.size 305 3 mv' ms'.length (ms'.flatMap mgC)) (hat : ∀ b, mv'.ownBlock = some b → mv.ownBlock = some b ∨ w.heap.size ≤ b)
    (h0 : T.time = S.time) (h1 : T.sts = S.sts) (h2 : T.mem = S.mem) (h3 : ∀ c, c < D.chans.length → T.chs c = chsOf ms' c) (h4 : ∀ m ∈ ms', 0 ≤ m.c ∧ m.c < D.chans.length ∧ m.time ≤ S.time) : RKm W w (w2.setCell ⟨kb, 7, none⟩ mv') kb pv cv qv sv lv mv D T ls ms' := by
  refine ⟨mv', ss, h.setMsg hf hown h0 h1 h2 h3 h4, fun b hb => ?_, (hf.mono fun b hb => ?_).set (.inl (.inl rfl)) _ _⟩
  · rcases hb with h | h | h | h | h
    · exact .inl (.inl h)
    · exact .inl (.inr (.inl h))
    · exact .inl (.inr (.inr (.inl h)))
    · exact .inl (.inr (.inr (.inr (.inl h))))
    · rcases hat b h.symm with h' | h'
      · exact .inl (.inr (.inr (.inr (.inr h'.symm))))
      · exact .inr h'
  · exact .inr (.inr (.inr (.inr hb)))
theorem RKm.from {w1 : World} (hb : Below w.heap.size w w1) (h : RKm W w1 w' kb pv cv qv sv lv mv D T ls ms) : RKm W w w' kb pv cv qv sv lv mv D T ls ms := by
  obtain ⟨mv', ss', h1, h2, h3⟩ := h
  exact ⟨mv', ss', h1, (newO.refl _ w).trans h2 hb.size, (Frm.all _ hb).trans h3 (newO.refl _ _)⟩
theorem RKm.n {n m : Nat} (h : RKm W w w' kb pv cv qv sv lv mv D T ls ms) (hn : ls.length ≤ n) (hm : ms.length ≤ m) : RKn W w w' kb pv cv qv sv lv mv D T n m := by
  obtain ⟨mv', ss', h1, h2, h3⟩ := h
  exact ⟨⟨lv, mv', ss', ls, ms, h1, hn, hm, h2⟩, h3⟩
theorem RKm.then {w2 : World} {n m : Nat} (h : RKm W w w' kb pv cv qv sv lv mv D S ls ms) (h2 : ∀ mv' ss', RKv W w' kb pv cv qv sv lv mv' D S ss' ls ms → RKn W w' w2 kb pv cv qv sv lv mv' D T n m) : RKn W w w2 kb pv cv qv sv lv mv D T n m := by
  obtain ⟨mv', ss', h1, h3, h4⟩ := h
  obtain ⟨⟨lv2, mv2, ss2, ls2, ms2, g1, g2, g3, g4⟩, g5⟩ := h2 mv' ss' h1
  exact ⟨⟨lv2, mv2, ss2, ls2, ms2, g1, g2, g3, h3.trans g4 h4.size⟩, h4.trans g5 h3⟩
def goneS (S : KS) (l : List MsgR) : KS := { S with chs := fun c => chsOf l c }
theorem one_mgC (l : List MsgR) : ∀ u ∈ l.flatMap mgC, u.oneCell' = true := fun u hu => by
  obtain ⟨m, _, hm⟩ := List.mem_flatMap.1 hu
  simp only [mgC, List.mem_cons, List.not_mem_nil, or_false] at hm
  rcases hm with rfl | rfl | rfl <;> rfl
theorem flat_take {k : Nat} (l : List MsgR) (j : Nat) (u : Value) (h : ((l.take k).flatMap mgC)[j]? = some u) : (l.flatMap mgC)[j]? = some u := by
  have e : l.flatMap mgC = (l.take k).flatMap mgC ++ (l.drop k).flatMap mgC := by rw [← List.flatMap_append, List.take_append_drop]
  rw [e, List.getElem?_append_left (List.getElem?_eq_some_iff.1 h).1]
  exact h
theorem flat_drop {k : Nat} (l : List MsgR) (hk : k ≤ l.length) (j : Nat) (u : Value) (h : ((l.drop k).flatMap mgC)[j]? = some u) : (l.flatMap mgC)[k * 3 + j]? = some u := by
  have e : l.flatMap mgC = (l.take k).flatMap mgC ++ (l.drop k).flatMap mgC := by rw [← List.flatMap_append, List.take_append_drop]
  have e2 : ((l.take k).flatMap mgC).length = k * 3 := by rw [flat3_len mgC (fun _ => rfl), List.length_take]; omega
  rw [e, List.getElem?_append_right (by omega), e2]
  rw [show k * 3 + j - k * 3 = j by omega]
  exact h
set_option maxRecDepth 100000 in
set_option maxHeartbeats 4000000 in
theorem rgone_any (h : RKv W w kb pv cv qv sv lv mv D S ss ls ms) (hm : ms.length ≤ 4398046511000) (k : Nat) (hk : k < ms.length) :
    Calls Tryz.prog 213 #[ptrV kb, .int .i64 k] w fun e w' => e = .returned (.tuple #[]) ∧ RKm W w w' kb pv cv qv sv lv mv D (goneS S (ms.take k ++ ms.drop (k + 1))) ls (ms.take k ++ ms.drop (k + 1)) := by
  obtain ⟨j0, hj0, hy0, hy1, hy2⟩ := parts_of infoRMsg2
  have HKV : Hid _ := h
  obtain ⟨g, mcap, rfl, hcap⟩ : ∃ g mcap, mv = .slice (some ⟨g, 0, none⟩) ms.length mcap ∧ ms.length ≤ mcap := by
    rcases own_form h.msg with ⟨h0, _⟩ | h
    · omega
    · exact h
  have c7 : w.cell? ⟨kb, 7, none⟩ = some (.slice (some ⟨g, 0, none⟩) ms.length mcap) := by rw [cell_of_blk h.ker]; rfl
  have f7 : w.frozen? ⟨kb, 7, none⟩ = false := frozen_of_blk h.ker
  have HN1 : Hid (∀ V, Below w.heap.size w V → ∀ j u, ((ms.take k).flatMap mgC)[j]? = some u → V.cell? ((⟨g, 0, none⟩ : Addr).add j) = some u) := fun V hV j u hu => (own_stays h.msg hV).cells (g := g) rfl j u (flat_take ms j u hu)
  have HN2 : Hid (∀ V, Below w.heap.size w V → ∀ j u, ((ms.drop (k + 1)).flatMap mgC)[j]? = some u → V.cell? ((⟨g, (k + 1) * 3, none⟩ : Addr).add j) = some u) := fun V hV j u hu => by
    have := (own_stays h.msg hV).cells (g := g) rfl _ u (flat_drop ms (by omega) j u hu)
    have e1 : ∀ (o j : Nat), (⟨g, o, none⟩ : Addr).add j = ⟨g, o + j, none⟩ := fun o j => by unfold Addr.add; split <;> simp_all
    rw [e1] at this ⊢
    simpa using this
  have HFI : Hid (∀ V v2, Below w.heap.size w V → V.ownsRow w.heap.size 305 3 v2 (k + (ms.length - (k + 1))) ((ms.take k).flatMap mgC ++ (ms.drop (k + 1)).flatMap mgC) → RKm W w (V.setCell ⟨kb, 7, none⟩ v2) kb pv cv qv sv lv (.slice (some ⟨g, 0, none⟩) ms.length mcap) D (goneS S (ms.take k ++ ms.drop (k + 1))) ls (ms.take k ++ ms.drop (k + 1))) := fun V v2 hV hown => by
    have e1 : (ms.take k ++ ms.drop (k + 1)).length = k + (ms.length - (k + 1)) := by simp; omega
    refine RKm.of (S := S) h (Frm.all _ hV) (by rw [e1, List.flatMap_append]; exact own_mono hown h.base.size) (fun b hb => .inr (hown.lt b hb).1) rfl rfl rfl (fun c _ => rfl) (fun m hm => h.mr m ?_)
    rcases List.mem_append.1 hm with h1 | h1
    · exact List.mem_of_mem_take h1
    · exact List.mem_of_mem_drop h1
  have hkl : kb < w.heap.size := lt_of_blk h.ker
  have HKB : Hid (∀ V, Below w.heap.size w V → V.cell? ⟨kb, 7, none⟩ = some (.slice (some ⟨g, 0, none⟩) ms.length mcap) ∧ V.frozen? ⟨kb, 7, none⟩ = false) := fun V hV => by
    have h1 := keepN h.ker hV
    exact ⟨by rw [cell_of_blk h1]; rfl, frozen_of_blk h1⟩
  clear h
  have hk0 : (0 : Int) ≤ (k : Int) := by omega
  have hk1 : (k : Int) ≤ (ms.length : Int) := by omega
  have w1 : IntKind.i64.wrap ((k : Int) + 1) = (k : Int) + 1 := wrap_small _ (by omega) (by omega)
  unfold ptrV
  have hk2 : ((k + 1 : Nat) : Int) = (k : Int) + 1 := by omega
  have hk3 : (k : Int) + 1 ≤ (ms.length : Int) := by omega
  have hk4 : (0 : Int) ≤ (k : Int) + 1 := by omega
  have el1 : ((ms.take k).flatMap mgC).length = k * 3 := by rw [flat3_len mgC (fun _ => rfl), List.length_take]; omega
  have el2 : ((ms.drop (k + 1)).flatMap mgC).length = (ms.length - (k + 1)) * 3 := by rw [flat3_len mgC (fun _ => rfl), List.length_drop]
  by_cases hcz : mcap = k + 1
  · have hlz : ms.length = k + 1 := by omega
    have HNZ : Hid (∀ (V : World) (j : Nat) (u : Value), ((ms.drop (k + 1)).flatMap mgC)[j]? = some u → V.cell? ((⟨g, 0, none⟩ : Addr).add j) = some u) := fun V j u hu => by
      rw [List.drop_eq_nil_of_le (by omega)] at hu
      simp at hu
    have hcz2 : mcap - (k + 1) = 0 := by omega
    clear hcz hlz
    go_enter Tryz.func213, Tryz.ntmps213
    go_wp2_with (first
      | (at_builtin; refine wpList_append_own_at _ rfl _ _ _ rfl w.heap.size 305 j0 _ 3 32 Tryz.underlying195 hj0 hy0 hy1 hy2 rfl (by omega) (.slice none 0 0) 0 [] rfl (World.ownsRow_nil _ _ _ _) ⟨g, 0, none⟩ k mcap ((ms.take k).flatMap mgC) rfl el1 (HN1.out w (Below.refl _ _)) (one_mgC _) (by unfold maxLen; omega) (by omega) (Nat.le_refl _) ?_; intro v1 V1 hown1 hgrow1 hnil1 hat1
         have HB1 : Hid (Below w.heap.size w V1) := (Below.refl _ w).grown hgrow1 (Nat.le_refl _) (fun _ h => by cases h)
         obtain ⟨c71, f71⟩ := HKB.out V1 HB1.out
         simp only [Nat.zero_add, List.nil_append] at hown1
         have HO1 : Hid (V1.ownsRow w.heap.size 305 3 v1 k ((ms.take k).flatMap mgC)) := hown1
         obtain ⟨a1, k1, rfl⟩ := own_shapeT hown1
         clear hown1 hgrow1 hnil1 hat1)
      | (at_builtin; refine wpList_append_own_at _ rfl _ _ _ rfl w.heap.size 305 j0 _ 3 32 Tryz.underlying195 hj0 hy0 hy1 hy2 rfl (by omega) (.slice a1 k k1) k ((ms.take k).flatMap mgC) rfl HO1.out ⟨g, 0, none⟩ (ms.length - (k + 1)) _ ((ms.drop (k + 1)).flatMap mgC) rfl el2 (HNZ.out _) (one_mgC _) (by unfold maxLen; omega) (by omega) HB1.out.size ?_; intro v2 V2 hown2 hgrow2 hnil2 hat2
         have HB2 : Hid (Below w.heap.size w V2) := HB1.out.grown hgrow2 HB1.out.size (fun q hq => (HO1.out.lt q hq).1)
         obtain ⟨c72, f72⟩ := HKB.out V2 HB2.out
         have HO2 : Hid (V2.ownsRow w.heap.size 305 3 v2 (k + (ms.length - (k + 1))) ((ms.take k).flatMap mgC ++ (ms.drop (k + 1)).flatMap mgC)) := hown2
         obtain ⟨a2, k2, rfl⟩ := own_shapeT hown2
         clear hown2 hgrow2 hnil2 hat2)
      | fail)
    go_end0
    exact ⟨rfl, HFI.out _ _ HB2.out HO2.out⟩
  · have hcz3 : ¬ mcap - (k + 1) = 0 := by omega
    go_enter Tryz.func213, Tryz.ntmps213
    go_wp2_with (first
      | (at_builtin; refine wpList_append_own_at _ rfl _ _ _ rfl w.heap.size 305 j0 _ 3 32 Tryz.underlying195 hj0 hy0 hy1 hy2 rfl (by omega) (.slice none 0 0) 0 [] rfl (World.ownsRow_nil _ _ _ _) ⟨g, 0, none⟩ k mcap ((ms.take k).flatMap mgC) rfl el1 (HN1.out w (Below.refl _ _)) (one_mgC _) (by unfold maxLen; omega) (by omega) (Nat.le_refl _) ?_; intro v1 V1 hown1 hgrow1 hnil1 hat1
         have HB1 : Hid (Below w.heap.size w V1) := (Below.refl _ w).grown hgrow1 (Nat.le_refl _) (fun _ h => by cases h)
         obtain ⟨c71, f71⟩ := HKB.out V1 HB1.out
         simp only [Nat.zero_add, List.nil_append] at hown1
         have HO1 : Hid (V1.ownsRow w.heap.size 305 3 v1 k ((ms.take k).flatMap mgC)) := hown1
         obtain ⟨a1, k1, rfl⟩ := own_shapeT hown1
         clear hown1 hgrow1 hnil1 hat1)
      | (at_builtin; refine wpList_append_own_at _ rfl _ _ _ rfl w.heap.size 305 j0 _ 3 32 Tryz.underlying195 hj0 hy0 hy1 hy2 rfl (by omega) (.slice a1 k k1) k ((ms.take k).flatMap mgC) rfl HO1.out ⟨g, (k + 1) * 3, none⟩ (ms.length - (k + 1)) _ ((ms.drop (k + 1)).flatMap mgC) rfl el2 (HN2.out _ HB1.out) (one_mgC _) (by unfold maxLen; omega) (by omega) HB1.out.size ?_; intro v2 V2 hown2 hgrow2 hnil2 hat2
         have HB2 : Hid (Below w.heap.size w V2) := HB1.out.grown hgrow2 HB1.out.size (fun q hq => (HO1.out.lt q hq).1)
         obtain ⟨c72, f72⟩ := HKB.out V2 HB2.out
         have HO2 : Hid (V2.ownsRow w.heap.size 305 3 v2 (k + (ms.length - (k + 1))) ((ms.take k).flatMap mgC ++ (ms.drop (k + 1)).flatMap mgC)) := hown2
         obtain ⟨a2, k2, rfl⟩ := own_shapeT hown2
         clear hown2 hgrow2 hnil2 hat2)
      | fail)
    go_end0
    exact ⟨rfl, HFI.out _ _ HB2.out HO2.out⟩
end
end Go.Proofs.YteioennfpkoagaaGreatDoor.C
