import Derived.Test.YteioennfpkoagaaGreatDoorT11
import Derived.Test.YteioennfpkoagaaGreatDoorB28
namespace Go.Proofs.YteioennfpkoagaaGreatDoor.C
open Go.RowKit K
attribute [local go_sem ↓] Go.wp_at_zero Go.wp_at_succ

theorem infoPpair : (Tryz.prog.info? 188).map (fun i => (i.zero, i.size, i.bytes)) = some (some (.pointer none), 1, 8) := by kernel_rfl
section
variable {I : KerI} {M : MnS} {w0 W w w2 w3 w5 V9 : World} {wb n q k j : Nat} {f : Nat → PRc} {L : List Nat} {tag : Nat → Nat} {rv : Value} {ox oy : Nat → Nat → Prop}
theorem boot_end (h : WPi I M w0 wb n q k f W tag rv ox oy L w) (hj : j < 2) {x : Addr} {y g9 c9 : Nat} {o p : Nat → Prop} (hb2 : Below w.heap.size w w2) (hkv : I.KV w2 (.pointer (some x)) (M.D j) bootK o) (hlo : ∀ b, o b → w.heap.size ≤ b)
    (hrk : RKd w2.drew w3 y (M.pv j) (M.cv j) (M.D j) bootK 0 p) (hb5 : Below w3.heap.size w3 w5) (hpb : w5.heap[w3.heap.size]? = some (.cells #[.pointer (some x), ptrV y] 192)) (hg : w5.grownBy V9 rv.ownBlock)
    (hown : V9.ownsRow W.heap.size 188 1 (.slice (some ⟨g9, 0, none⟩) (k + 1) c9) (k + 1) ((List.range k).map (fun i => ptrV (f i).pb) ++ [ptrV w3.heap.size])) (hat : rv.ownBlock = some g9 ∨ w3.heap.size ≤ g9) :
    WP I M w0 wb n q (k + 1) (fun q => if q = k then ⟨w3.heap.size, x, y, j, bootK, bootK⟩ else f q) [] (V9.setCell ⟨wb, 8, none⟩ (.slice (some ⟨g9, 0, none⟩) (k + 1) c9)) := by
  have hb3 : Below w2.heap.size w2 w3 := by
    obtain ⟨_, _, _, _, _, _, _, h1, _⟩ := hrk.out
    exact ((Below.refl w2.heap.size w2).drew).trans h1.base
  have hsz2 := hb2.size
  have hsz3 := hb3.size
  have hsz5 := hb5.size
  have hb03 := hb2.trans (hb3.mono hsz2)
  have hb05 := hb03.trans (hb5.mono hb03.size)
  have hf : Frm (fun b => some b = rv.ownBlock) w V9 := (Frm.all _ hb05).trans ((Frm.grown hg).mono fun _ h => h.symm) (newO.refl _ _)
  have hrl : ∀ b, rv.ownBlock = some b → b < w.heap.size := fun b hb => (h.row.lt b hb).2
  have hup : ∀ b, w.heap.size ≤ b → b < w5.heap.size → V9.heap[b]? = w5.heap[b]? := fun b hb h5 => (Frm.grown hg).block b h5 fun e => by have := hrl b e; omega
  have hbW : Below W.heap.size W V9 := h.bel.trans (hf.below h.bel.size fun b hb => (h.row.lt b hb.symm).1)
  have hW2 : W.heap.size ≤ w2.drew.heap.size := Nat.le_trans h.bel.size hsz2
  have hbW3 : Below W.heap.size W w3 := h.bel.trans (hb03.mono h.bel.size)
  refine h.more hf (s1 := w2.heap.size) (s2 := w3.heap.size) hj hsz2 hsz3 (I.keep hkv fun b hb => ?_) (fun b hb => ⟨hlo b hb, I.low hkv b hb⟩) (((hrk.lower hbW3 hW2 (h.man j hj).1 (h.man j hj).2.1).keep rfl hbW (h.man j hj).1 (h.man j hj).2.1 fun b hb => ?_).mono (Nat.zero_le _)) (fun b hb => hrk.low b hb) ((hup _ (by omega) (lt_of_blk hpb)).trans hpb) (Nat.le_refl _) hown (fun b hb => ?_)
  · have h1 := hlo b hb
    have h2 := I.low hkv b hb
    rw [hup b h1 (by omega), hb5.block b (by omega), hb3.block b h2]
  · have h1 := (hrk.low b hb).2
    have h0 : w2.heap.size ≤ b := (hrk.low b hb).1
    rw [hup b (by omega) (by omega), hb5.block b h1]
  · have : b = g9 := by simpa [Value.ownBlock] using hb.symm
    subst this
    exact hat
set_option maxRecDepth 100000 in
set_option maxHeartbeats 8000000 in
theorem booted_at (htb : TB w0) (h : WP I M w0 wb n q k f L w) (hg : AllG k f) (hk2 : k ≤ 4398046511000) (c : Int) (hc : inR c) (j : Nat) (hj : j < 2) (hcj : pickF c 2 = j) :
    Calls Tryz.prog 48 #[ptrV wb, .int .i64 c] w fun e w' => e = .returned (.bool true) ∧ ∃ f', WP I M w0 wb n q (k + 1) f' [] w' ∧ AllG (k + 1) f' := by
  obtain ⟨i0, hi0, hz0, hz1, hz2⟩ := parts_of infoPpair
  obtain ⟨⟨W, tag, rv, ox, oy, h⟩⟩ := h
  have HPI : Hid _ := lpick_any c 2 hc (by omega) w
  rw [hcj] at HPI
  have hwb := (h.bel.block _ (lt_of_blk h.blk)).trans h.blk
  have hb0 := h.b0.trans (h.bel.mono h.b0.size)
  have hck := (h.man j hj).2.2
  have hsz : (ba (imgF (M.D j))).size ≤ 9223372036854775807 := by
    have h1 := (imgF_len hck).1
    have h2 := check_ok hck
    simp only [ba, ByteArray.size, List.size_toArray]
    omega
  have HBT : Hid (Calls Tryz.prog 24 #[.string (ba (imgF (M.D j)))] w fun e w' => Below w.heap.size w w' ∧ ∃ a o, e = .returned (.tuple #[.pointer (some a), .int .i64 0]) ∧ (∀ b, o b → w.heap.size ≤ b) ∧ I.KV w' (.pointer (some a)) (M.D j) bootK o) := by
    refine (I.boot (w := w) (s := ba (imgF (M.D j))) (htb.below hb0) hsz).mono fun e w' ⟨h1, h2⟩ => ⟨h1, ?_⟩
    rcases h2 with ⟨ha, _⟩ | ⟨_, a, o, h3, h4, h5⟩
    · rw [I.accImg (M.D j) hck] at ha; cases ha
    · exact ⟨a, o, h3, h4, h5 _ hck rfl⟩
  obtain ⟨va, cap, rfl⟩ := own_shapeT h.row
  have HRB : Hid (∀ V, Below W.heap.size W V → Calls Tryz.prog 98 #[.agg #[.int .i64 (M.D j).frame, M.pv j, M.cv j]] V fun e w' => ∃ kb o, e = .returned (ptrV kb) ∧ RKd V w' kb (M.pv j) (M.cv j) (M.D j) bootK 0 o) := fun V hV => rboot_any _ _ _ _ _ V ((h.man j hj).1.below hV) ((h.man j hj).2.1.below hV) hck
  have HI : Hid (WPi I M w0 wb n q k f W tag (.slice va k cap) ox oy L w) := h
  have HWB : Hid (∀ V, Below W.heap.size W V → V.heap[wb]? = some (.cells (lwC M (.slice va k cap)) 110)) := fun V hV => (hV.block _ (lt_of_blk h.blk)).trans h.blk
  have HOW : Hid (∀ V, Below w.heap.size w V → V.ownsRow W.heap.size 188 1 (.slice va k cap) k ((List.range k).map fun i => ptrV (f i).pb)) := fun V hV => own_stays h.row hV
  have HB0 : Hid (Below W.heap.size W w) := h.bel
  have HGN : Hid (∀ (pb y : Nat) (x : Addr), AllG (k + 1) (fun q => if q = k then ⟨pb, x, y, j, bootK, bootK⟩ else f q)) := fun pb y x q hq => by
    by_cases e : q = k
    · simp [e]
    · simp only [if_neg e]; exact hg q (by omega)
  have hsW : W.heap.size ≤ w.heap.size := h.bel.size
  have hbl : wb < W.heap.size := lt_of_blk h.blk
  obtain ⟨pa, pc, hpe, _⟩ := (h.man j hj).1
  obtain ⟨qa, qc, hce, _⟩ := (h.man j hj).2.1
  have HPE : Hid (M.pv j = .slice pa (M.D j).parts.length pc ∧ M.cv j = .slice qa (M.D j).chans.length qc) := ⟨hpe, hce⟩
  clear h hck hsz hb0 hpe hce
  unfold ptrV at *
  rcases (show j = 0 ∨ j = 1 by omega) with rfl | rfl
  ·
    have c6 : w.cell? ⟨wb, 6, none⟩ = some (.string (ba (imgF (M.D 0)))) := by rw [cell_of_blk hwb]; rfl
    go_enter Tryz.func48, Tryz.ntmps48
    go_wp2_with fail
    refine Calls.mono HPI.out ?_
    rintro e w1 ⟨rfl, hw1⟩
    have hw1b := hw1.symm
    subst hw1b
    clear hw1
    go_wp2_with fail
    refine Calls.mono HBT.out ?_
    rintro e w2 ⟨hb2, x, ox', rfl, hlo, hkv⟩
    have HB2 : Hid (Below w.heap.size w w2) := hb2
    have HKV : Hid _ := hkv
    have HLO : Hid _ := hlo
    have HW2 : Hid (Below W.heap.size W w2.drew) := (HB0.out.trans (hb2.mono hsW)).drew
    have hk8 := HWB.out w2 (HB0.out.trans (hb2.mono hsW))
    have d8 : w2.cell? ⟨wb, 8, none⟩ = some (.slice va k cap) := by rw [cell_of_blk hk8]; rfl
    have d0 : w2.cell? ⟨wb, 0, none⟩ = some (.int .i64 (M.D 0).frame) := by rw [cell_of_blk hk8]; rfl
    have d1 : w2.cell? ⟨wb, 1, none⟩ = some (M.pv 0) := by rw [cell_of_blk hk8]; rfl
    have d2 : w2.cell? ⟨wb, 2, none⟩ = some (M.cv 0) := by rw [cell_of_blk hk8]; rfl
    have HRC := HRB.out w2.drew HW2.out
    rw [HPE.out.1] at d1
    rw [HPE.out.2] at d2
    rw [HPE.out.1, HPE.out.2] at HRC
    have hsz2 := hb2.size
    clear c6 hwb hb2 hkv hlo hk8 HPI HBT
    go_wp2_with fail
    go_region_law (first
      | (refine step_append_lies _ (by rfl) _ _ _ (by rfl) W.heap.size 188 i0 _ 1 8 Tryz.underlying108 hi0 hz0 hz1 hz2 rfl (by omega) (.slice va k cap) k ((List.range k).map fun i => ptrV (f i).pb) (by rfl) (HO5.out _) ⟨w3.heap.size + 1, 0, none⟩ 1 1 [.pointer (some ⟨w3.heap.size, 0, none⟩)] (by rfl) (by rfl) (World.news_of_block (cs := #[.pointer (some ⟨w3.heap.size, 0, none⟩)]) (t := 188) (fr := (0, 0)) (heap21 w3 _ _)) (by simp [Value.oneCell']) (by omega) (by unfold maxLen; omega) (by omega) (by simp; omega) (w3.heap.size + 2) (by simp) ?_; intro g9 c9 V9 hown9 hgrow9 hat9 hlt9
         obtain ⟨c89, f89⟩ := HV9.out V9 _ hgrow9)
      | (go_simp; go_at_call 98; refine Calls.mono HRC ?_; rintro e w3 ⟨y, oy', rfl, hrk⟩
         have HRK : Hid (RKd w2.drew w3 y (M.pv 0) (M.cv 0) (M.D 0) bootK 0 oy') := by show RKd _ _ _ _ _ _ _ _ _; rw [HPE.out.1, HPE.out.2]; exact hrk
         have HB3 : Hid (Below w.heap.size w w3) := HB2.out.trans (Below.mono (((Below.refl w2.heap.size w2).drew).trans (by obtain ⟨_, _, _, _, _, _, _, h1, _⟩ := hrk.out; exact h1.base)) hsz2)
         have HO5 : Hid (∀ o, ((w3.alloc o).alloc (.cells #[.pointer (some ⟨w3.heap.size, 0, none⟩)] 188)).ownsRow W.heap.size 188 1 (.slice va k cap) k ((List.range k).map fun i => ptrV (f i).pb)) := fun o => ((HOW.out w3 HB3.out).alloc _).alloc _
         have hk9 := HWB.out w3 (HB0.out.trans (HB3.out.mono hsW))
         have d83 : w3.cell? ⟨wb, 8, none⟩ = some (.slice va k cap) := by rw [cell_of_blk hk9]; rfl
         have d84 : ∀ o, (w3.alloc o).cell? ⟨wb, 8, none⟩ = some (.slice va k cap) := fun o => by rw [cell_of_blk (heap_old _ o hk9)]; rfl
         have d85 : ∀ o o2, ((w3.alloc o).alloc o2).cell? ⟨wb, 8, none⟩ = some (.slice va k cap) := fun o o2 => by rw [cell_of_blk (heap_old _ o2 (heap_old _ o hk9))]; rfl
         have hsz3 := HB3.out.size
         have HV9 : Hid (∀ V o1, ((w3.alloc o1).alloc (.cells #[.pointer (some ⟨w3.heap.size, 0, none⟩)] 188)).grownBy V (Value.slice va k cap).ownBlock → V.cell? ⟨wb, 8, none⟩ = some (.slice va k cap) ∧ V.frozen? ⟨wb, 8, none⟩ = false) := fun V o1 hgr => by
           have e1 := (hgr.block wb (by simp; omega) (fun e => by have := (HI.out.row.lt wb e.symm).1; omega)).trans (heap_old _ _ (heap_old _ o1 hk9))
           exact ⟨by rw [cell_of_blk e1]; rfl, frozen_of_blk e1⟩
         clear hk9 hrk))
    all_goals
      go_wp2_with fail
      go_ret
      refine ⟨rfl, _, boot_end HI.out (by omega) HB2.out HKV.out HLO.out HRK.out ((newB w3 _).trans ((newB (w3.alloc (.cells #[.pointer (some x), .pointer (some ⟨y, 0, none⟩)] 192)) _).mono (newB w3 _).size)) (heap_old _ (.cells #[.pointer (some ⟨w3.heap.size, 0, none⟩)] 188) (heap_new w3 (.cells #[.pointer (some x), .pointer (some ⟨y, 0, none⟩)] 192))) hgrow9 hown9 (hat9.imp id (fun e => by omega)), HGN.out _ _ _⟩
  ·
    have c6 : w.cell? ⟨wb, 7, none⟩ = some (.string (ba (imgF (M.D 1)))) := by rw [cell_of_blk hwb]; rfl
    go_enter Tryz.func48, Tryz.ntmps48
    go_wp2_with fail
    refine Calls.mono HPI.out ?_
    rintro e w1 ⟨rfl, hw1⟩
    have hw1b := hw1.symm
    subst hw1b
    clear hw1
    go_wp2_with fail
    refine Calls.mono HBT.out ?_
    rintro e w2 ⟨hb2, x, ox', rfl, hlo, hkv⟩
    have HB2 : Hid (Below w.heap.size w w2) := hb2
    have HKV : Hid _ := hkv
    have HLO : Hid _ := hlo
    have HW2 : Hid (Below W.heap.size W w2.drew) := (HB0.out.trans (hb2.mono hsW)).drew
    have hk8 := HWB.out w2 (HB0.out.trans (hb2.mono hsW))
    have d8 : w2.cell? ⟨wb, 8, none⟩ = some (.slice va k cap) := by rw [cell_of_blk hk8]; rfl
    have d0 : w2.cell? ⟨wb, 3, none⟩ = some (.int .i64 (M.D 1).frame) := by rw [cell_of_blk hk8]; rfl
    have d1 : w2.cell? ⟨wb, 4, none⟩ = some (M.pv 1) := by rw [cell_of_blk hk8]; rfl
    have d2 : w2.cell? ⟨wb, 5, none⟩ = some (M.cv 1) := by rw [cell_of_blk hk8]; rfl
    have HRC := HRB.out w2.drew HW2.out
    rw [HPE.out.1] at d1
    rw [HPE.out.2] at d2
    rw [HPE.out.1, HPE.out.2] at HRC
    have hsz2 := hb2.size
    clear c6 hwb hb2 hkv hlo hk8 HPI HBT
    go_wp2_with fail
    go_region_law (first
      | (refine step_append_lies _ (by rfl) _ _ _ (by rfl) W.heap.size 188 i0 _ 1 8 Tryz.underlying108 hi0 hz0 hz1 hz2 rfl (by omega) (.slice va k cap) k ((List.range k).map fun i => ptrV (f i).pb) (by rfl) (HO5.out _) ⟨w3.heap.size + 1, 0, none⟩ 1 1 [.pointer (some ⟨w3.heap.size, 0, none⟩)] (by rfl) (by rfl) (World.news_of_block (cs := #[.pointer (some ⟨w3.heap.size, 0, none⟩)]) (t := 188) (fr := (0, 0)) (heap21 w3 _ _)) (by simp [Value.oneCell']) (by omega) (by unfold maxLen; omega) (by omega) (by simp; omega) (w3.heap.size + 2) (by simp) ?_; intro g9 c9 V9 hown9 hgrow9 hat9 hlt9
         obtain ⟨c89, f89⟩ := HV9.out V9 _ hgrow9)
      | (go_simp; go_at_call 98; refine Calls.mono HRC ?_; rintro e w3 ⟨y, oy', rfl, hrk⟩
         have HRK : Hid (RKd w2.drew w3 y (M.pv 1) (M.cv 1) (M.D 1) bootK 0 oy') := by show RKd _ _ _ _ _ _ _ _ _; rw [HPE.out.1, HPE.out.2]; exact hrk
         have HB3 : Hid (Below w.heap.size w w3) := HB2.out.trans (Below.mono (((Below.refl w2.heap.size w2).drew).trans (by obtain ⟨_, _, _, _, _, _, _, h1, _⟩ := hrk.out; exact h1.base)) hsz2)
         have HO5 : Hid (∀ o, ((w3.alloc o).alloc (.cells #[.pointer (some ⟨w3.heap.size, 0, none⟩)] 188)).ownsRow W.heap.size 188 1 (.slice va k cap) k ((List.range k).map fun i => ptrV (f i).pb)) := fun o => ((HOW.out w3 HB3.out).alloc _).alloc _
         have hk9 := HWB.out w3 (HB0.out.trans (HB3.out.mono hsW))
         have d83 : w3.cell? ⟨wb, 8, none⟩ = some (.slice va k cap) := by rw [cell_of_blk hk9]; rfl
         have d84 : ∀ o, (w3.alloc o).cell? ⟨wb, 8, none⟩ = some (.slice va k cap) := fun o => by rw [cell_of_blk (heap_old _ o hk9)]; rfl
         have d85 : ∀ o o2, ((w3.alloc o).alloc o2).cell? ⟨wb, 8, none⟩ = some (.slice va k cap) := fun o o2 => by rw [cell_of_blk (heap_old _ o2 (heap_old _ o hk9))]; rfl
         have hsz3 := HB3.out.size
         have HV9 : Hid (∀ V o1, ((w3.alloc o1).alloc (.cells #[.pointer (some ⟨w3.heap.size, 0, none⟩)] 188)).grownBy V (Value.slice va k cap).ownBlock → V.cell? ⟨wb, 8, none⟩ = some (.slice va k cap) ∧ V.frozen? ⟨wb, 8, none⟩ = false) := fun V o1 hgr => by
           have e1 := (hgr.block wb (by simp; omega) (fun e => by have := (HI.out.row.lt wb e.symm).1; omega)).trans (heap_old _ _ (heap_old _ o1 hk9))
           exact ⟨by rw [cell_of_blk e1]; rfl, frozen_of_blk e1⟩
         clear hk9 hrk))
    all_goals
      go_wp2_with fail
      go_ret
      refine ⟨rfl, _, boot_end HI.out (by omega) HB2.out HKV.out HLO.out HRK.out ((newB w3 _).trans ((newB (w3.alloc (.cells #[.pointer (some x), .pointer (some ⟨y, 0, none⟩)] 192)) _).mono (newB w3 _).size)) (heap_old _ (.cells #[.pointer (some ⟨w3.heap.size, 0, none⟩)] 188) (heap_new w3 (.cells #[.pointer (some x), .pointer (some ⟨y, 0, none⟩)] 192))) hgrow9 hown9 (hat9.imp id (fun e => by omega)), HGN.out _ _ _⟩
theorem booted_any (htb : TB w0) (h : WP I M w0 wb n q k f L w) (hg : AllG k f) (hk2 : k ≤ 4398046511000) (c : Int) (hc : inR c) :
    Calls Tryz.prog 48 #[ptrV wb, .int .i64 c] w fun e w' => e = .returned (.bool true) ∧ ∃ f', WP I M w0 wb n q (k + 1) f' [] w' ∧ AllG (k + 1) f' := by
  have h1 := pickF_lt (c := c) (n := 2) (by omega)
  exact booted_at htb h hg hk2 c hc (pickF c 2).toNat (by omega) (by omega)
end
end Go.Proofs.YteioennfpkoagaaGreatDoor.C
