import Derived.Test.YteioennfpkoagaaGreatDoorT07
import Derived.Test.YteioennfpkoagaaGreatDoorB27
namespace Go.Proofs.YteioennfpkoagaaGreatDoor.C
open Go.RowKit K
attribute [local go_sem ↓] Go.wp_at_zero Go.wp_at_succ

section
variable {W w w' : World} {kb : Nat} {pv cv qv sv lv mv lv' mv' : Value} {D : ManD} {S T : KS} {ss : List StD} {ls ls' : List CellD} {ms ms' : List MsgR}
theorem RKn.same (h : RKv W w kb pv cv qv sv lv mv D S ss ls ms) (hb : Below w.heap.size w w') {n m : Nat} (hn : ls.length ≤ n) (hm : ms.length ≤ m) : RKn W w w' kb pv cv qv sv lv mv D S n m :=
  ⟨⟨lv, mv, ss, ls, ms, h.below hb, hn, hm, newO.refl _ _⟩, Frm.all _ hb⟩
/- the port that isn't there, or not the partition's -/
set_option maxRecDepth 100000 in
set_option maxHeartbeats 4000000 in
theorem rsend_port (hz : checkF D = 0) (h : RKv W w kb pv cv qv sv lv mv D S ss ls ms) (hs : SmallK bigK S) (i : Nat) (hi : i < D.parts.length) (c : Int) (t : ByteArray) (hc : inR c) (ht : turnF D S i = 0) (hno : c < 0 ∨ (D.chans.length : Int) ≤ c ∨ ∃ q : Nat, c = q ∧ ∃ hq : q < D.chans.length, ¬ D.chans[q].source = i) :
    Calls Tryz.prog 163 #[ptrV kb, .int .i64 i, .int .i64 c, .string t] w fun e w' => e = .returned (.int .i64 23) ∧ Below w.heap.size w w' := by
  have HTU : Hid _ := rturn_any hz h hs (i : Int) (by unfold inR; have := (check_ok hz).2.2.1; omega)
  have hcl : D.chans.length ≤ 8 := (check_ok hz).2.2.2.1
  rw [ht] at HTU
  have hcv := h.seenC
  obtain ⟨ca, ccap, rfl, hcc⟩ := hcv
  have c2 : w.cell? ⟨kb, 2, none⟩ = some (.slice ca D.chans.length ccap) := by rw [cell_of_blk h.ker]; rfl
  have HCC : Hid _ := hcc
  clear h hs hz ht hcc
  obtain ⟨hc1, hc2⟩ := hc
  unfold ptrV at *
  go_enter Tryz.func163, Tryz.ntmps163
  go_wp2_with fail
  refine Calls.mono HTU.out ?_
  rintro e w1 ⟨rfl, hb1⟩
  have HB1 : Hid (Below w.heap.size w w1) := hb1
  have d2 := (hb1.cell (by exact World.block_lt_of_cell? w _ c2)).trans c2
  clear HTU c2
  by_cases h0 : c < 0
  · clear hno hb1
    go_wp2_with fail
    go_ret
    exact ⟨rfl, HB1.out⟩
  · by_cases h1 : (D.chans.length : Int) ≤ c
    · clear hno hb1
      go_wp2_with fail
      go_ret
      exact ⟨rfl, HB1.out⟩
    · rcases hno with hno | hno | ⟨q, rfl, hq, hne⟩
      · exact absurd hno h0
      · exact absurd hno h1
      · obtain ⟨cb, coff, rfl, y0, y1, _⟩ := HCC.out q hq
        have e1 := (hb1.cell (by exact World.block_lt_of_cell? w _ y1)).trans y1
        clear y0 y1 hb1
        generalize D.chans[q].source = sr at *
        have hneb : (sr != (i : Int)) = true := by simpa using hne
        have hq0 : (0 : Int) ≤ (q : Int) := by omega
        have hq1 : (q : Int) < (D.chans.length : Int) := by omega
        go_wp2_with fail
        go_ret
        exact ⟨rfl, HB1.out⟩
/- a message appended -/
theorem msg_app (h : RKv W w kb pv cv qv sv lv mv D S ss ls ms) {w1 V9 : World} {g9 c9 q : Nat} {t : ByteArray} (hb : Below w.heap.size w w1) (hg : w1.grownBy V9 mv.ownBlock) (hq : q < D.chans.length)
    (hown : V9.ownsRow W.heap.size 305 3 (.slice (some ⟨g9, 0, none⟩) (ms.length + 1) c9) (ms.length + 1) (ms.flatMap mgC ++ [.int .i64 q, .string t, .int .i64 S.time])) (hat : mv.ownBlock = some g9 ∨ w.heap.size ≤ g9)
    (h0 : T.time = S.time) (h1 : T.sts = S.sts) (h2 : T.mem = S.mem) (h3 : ∀ c, c < D.chans.length → T.chs c = if q = c then chsOf ms c ++ [⟨t, S.time⟩] else chsOf ms c) :
    RKn W w (V9.setCell ⟨kb, 7, none⟩ (.slice (some ⟨g9, 0, none⟩) (ms.length + 1) c9)) kb pv cv qv sv lv mv D T ls.length (ms.length + 1) := by
  have e1 : (ms ++ [(⟨(q : Int), t, S.time⟩ : MsgR)]).length = ms.length + 1 := by simp
  have e2 : (ms ++ [(⟨(q : Int), t, S.time⟩ : MsgR)]).flatMap mgC = ms.flatMap mgC ++ [.int .i64 q, .string t, .int .i64 S.time] := by simp [mgC]
  have hh := RKn.msg (T := T) (ms' := ms ++ [(⟨(q : Int), t, S.time⟩ : MsgR)]) (mv' := .slice (some ⟨g9, 0, none⟩) (ms.length + 1) c9) h hb hg (by rw [e1, e2]; exact hown) (fun k hk => by
    have : k = g9 := by simpa [Value.ownBlock] using hk.symm
    subst this
    exact hat) h0 h1 h2 (fun c hc => by
      rw [h3 c hc, chsOf_snoc]
      by_cases e : q = c
      · rw [if_pos e, if_pos (by simp [e])]
      · rw [if_neg e, if_neg (fun h => e (by have : (q : Int) = (c : Int) := h; omega))]) (fun m hm => by
      rcases List.mem_append.1 hm with h5 | h5
      · exact h.mr m h5
      · simp only [List.mem_cons, List.not_mem_nil, or_false] at h5
        subst h5
        exact ⟨by simp, by simpa using hq, Nat.le_refl _⟩)
  rw [e1] at hh
  exact hh
theorem RKn.from2 {w1 : World} {n m : Nat} (hb : Below w.heap.size w w1) (h : RKn W w1 w' kb pv cv qv sv lv mv D T n m) : RKn W w w' kb pv cv qv sv lv mv D T n m := h.from hb
theorem RKn.join {w1 w2 : World} {n m n' m' : Nat} (hno : newO (RKo kb qv sv lv mv) (RKo kb qv sv lv mv') w) (hf : Frm (RKo kb qv sv lv mv) w w1) (h : RKn W w1 w2 kb pv cv qv sv lv mv' D T n m) (hn : n ≤ n') (hm : m ≤ m') : RKn W w w2 kb pv cv qv sv lv mv D T n' m' := by
  obtain ⟨⟨lv2, mv2, ss2, ls2, ms2, g1, g2, g3, g4⟩, g5⟩ := h
  exact ⟨⟨lv2, mv2, ss2, ls2, ms2, g1, by omega, by omega, hno.trans g4 hf.size⟩, hf.trans g5 hno⟩
theorem msg_kb (h : RKv W w kb pv cv qv sv lv mv D S ss ls ms) {w1 V9 : World} (hb : Below w.heap.size w w1) (hg : w1.grownBy V9 mv.ownBlock) : V9.cell? ⟨kb, 7, none⟩ = some mv ∧ V9.frozen? ⟨kb, 7, none⟩ = false := by
  have h1 := keepN h.ker hb
  have hb2 := ((Frm.grown hg).block kb (lt_of_blk h1) fun e => own_not_blk (own_stays h.msg hb) h1 (by decide) e.symm).trans h1
  exact ⟨by rw [cell_of_blk hb2]; rfl, frozen_of_blk hb2⟩
set_option maxRecDepth 100000 in
set_option maxHeartbeats 4000000 in
theorem rsend_on (hz : checkF D = 0) (ho : OneS D S) (h : RKv W w kb pv cv qv sv lv mv D S ss ls ms) (hs : SmallK bigK S) (hm : ms.length ≤ 4398046511000) (i : Nat) (hi : i < D.parts.length) (q : Nat) (hq : q < D.chans.length) (t : ByteArray) (_hts : t.size ≤ 9223372036854775807) (ht : turnF D S i = 0) (hsr : D.chans[q].source = i) :
    Calls Tryz.prog 163 #[ptrV kb, .int .i64 i, .int .i64 q, .string t] w fun e w' => e = .returned (.int .i64 (sendF D S i q t).1) ∧ RKn W w w' kb pv cv qv sv lv mv D (sendF D S i q t).2 ls.length (ms.length + 1) := by
  obtain ⟨j0, hj0, hy0, hy1, hy2⟩ := parts_of infoRMsg2
  have HTU : Hid _ := rturn_any hz h hs (i : Int) (by unfold inR; have := (check_ok hz).2.2.1; omega)
  have hcl : D.chans.length ≤ 8 := (check_ok hz).2.2.2.1
  have hgd := chan_good hz (List.getElem?_eq_getElem hq)
  have HSE : Hid (sendF D S i q t = if D.chans[q].size < (t.size : Int) then (24, S) else if D.chans[q].kind = 1 then (if D.chans[q].depth ≤ ((S.chs q).length : Int) then (25, S) else (0, setCh S q (S.chs q ++ [⟨t, S.time⟩]))) else (0, setCh S q [⟨t, S.time⟩])) := by
    show _ = _
    have hpo : portF D (q : Int) = some D.chans[q] := by
      unfold portF
      rw [if_neg (by omega), Int.toNat_natCast, List.getElem?_eq_getElem hq]
    unfold sendF
    rw [if_neg (by simp [ht]), hpo]
    simp only [Int.toNat_natCast]
    rw [if_neg (by simp [hsr])]
  have HFR : Hid (∀ w1, Below w.heap.size w w1 → Calls Tryz.prog 212 #[ptrV kb, .int .i64 q] w1 fun e w' => e = .returned (.tuple #[.int .i64 (frsF ms q ms.length 0).1, .int .i64 (frsF ms q ms.length 0).2]) ∧ Below w1.heap.size w1 w') := fun w1 hb => rfirst_any (h.below hb) hm q
  rw [ht] at HTU
  have HKV : Hid (RKv W w kb pv cv qv sv lv mv D S ss ls ms) := h
  obtain ⟨ma, mcap, rfl, _⟩ := h.msgs
  have hcv := h.seenC
  obtain ⟨ca, ccap, rfl, hcc⟩ := hcv
  have c2 : w.cell? ⟨kb, 2, none⟩ = some (.slice ca D.chans.length ccap) := by rw [cell_of_blk h.ker]; rfl
  obtain ⟨cb, coff, rfl, y0, y1, y2, y3, y4, y5⟩ := hcc q hq
  clear h hs hz ht hcc
  unfold ptrV at *
  go_enter Tryz.func163, Tryz.ntmps163
  go_wp2_with fail
  refine Calls.mono HTU.out ?_
  rintro e w1 ⟨rfl, hb1⟩
  have HB1 : Hid (Below w.heap.size w w1) := hb1
  have d2 := (hb1.cell (by exact World.block_lt_of_cell? w _ c2)).trans c2
  have e0 := (hb1.cell (by exact World.block_lt_of_cell? w _ y0)).trans y0
  have e1 := (hb1.cell (by exact World.block_lt_of_cell? w _ y1)).trans y1
  have e2 := (hb1.cell (by exact World.block_lt_of_cell? w _ y2)).trans y2
  have e3 := (hb1.cell (by exact World.block_lt_of_cell? w _ y3)).trans y3
  have e4 := (hb1.cell (by exact World.block_lt_of_cell? w _ y4)).trans y4
  have e5 := (hb1.cell (by exact World.block_lt_of_cell? w _ y5)).trans y5
  clear HTU c2 y0 y1 y2 y3 y4 y5 hb1
  rw [hsr] at e1
  obtain ⟨hg1, hg2, hg3, hg4, hg5, hg6⟩ := hgd
  have hq0 : (0 : Int) ≤ (q : Int) := by omega
  have hq1 : (q : Int) < (D.chans.length : Int) := by omega
  have hq2 : ¬ D.chans.length ≤ q := by omega
  clear hsr hg1 hg2
  generalize D.chans[q].name = c0 at *
  generalize D.chans[q].target = c2 at *
  generalize hkd : D.chans[q].kind = kd at *
  have HKD : Hid (D.chans[q].kind = kd) := hkd
  clear hkd
  generalize D.chans[q].size = sz at *
  generalize D.chans[q].depth = dp at *
  by_cases hlong : sz < (t.size : Int)
  · have HR : Hid (sendF D S i q t = (24, S)) := by show _ = _; rw [HSE.out, if_pos hlong]
    clear HSE
    have hl2 : decide (sz < (t.size : Int)) = true := decide_eq_true hlong
    go_wp2_with fail
    go_ret
    rw [HR.out]
    exact ⟨rfl, RKn.same HKV.out (HB1.out.trans ((newB w1 _).mono HB1.out.size)) (Nat.le_refl _) (Nat.le_succ _)⟩
  · have hl2 : decide (sz < (t.size : Int)) = false := decide_eq_false hlong
    have HS2 : Hid (sendF D S i q t = if kd = 1 then (if dp ≤ ((S.chs q).length : Int) then (25, S) else (0, setCh S q (S.chs q ++ [⟨t, S.time⟩]))) else (0, setCh S q [⟨t, S.time⟩])) := by show _ = _; rw [HSE.out, if_neg hlong]
    clear HSE
    go_wp2_with fail
    have b2 := newB w1 (.cells #[.string c0, .int .i64 i, .int .i64 c2, .int .i64 kd, .int .i64 sz, .int .i64 dp] 92)
    have hbk := heap_new w1 (.cells #[.string c0, .int .i64 i, .int .i64 c2, .int .i64 kd, .int .i64 sz, .int .i64 dp] 92)
    clear d2 e0 e1 e2 e3 e4 e5
    generalize w1.alloc (.cells #[.string c0, .int .i64 i, .int .i64 c2, .int .i64 kd, .int .i64 sz, .int .i64 dp] 92) = w2 at *
    have HB2 : Hid (Below w.heap.size w w2) := HB1.out.trans (b2.mono HB1.out.size)
    refine Calls.mono (HFR.out w2 HB2.out) ?_
    rintro e w3 ⟨rfl, b3⟩
    have hbk3 := keepN hbk b3
    have u3 : w3.cell? ⟨w1.heap.size, 3, none⟩ = some (.int .i64 kd) := by rw [cell_of_blk hbk3]; rfl
    have u5 : w3.cell? ⟨w1.heap.size, 5, none⟩ = some (.int .i64 dp) := by rw [cell_of_blk hbk3]; rfl
    have HB3 : Hid (Below w.heap.size w w3) := HB2.out.trans (b3.mono HB2.out.size)
    have HK3 : Hid (RKv W w3 kb pv (.slice (some ⟨cb, coff, none⟩) D.chans.length ccap) qv sv lv (.slice ma ms.length mcap) D S ss ls ms) := HKV.out.below HB3.out
    obtain ⟨hfr2, hfr1⟩ := frs_all ms q
    have hchs : S.chs q = chsOf ms q := HKV.out.chs q hq
    have hfle := frs_le ms q ms.length 0
    rw [hfr2] at hfle ⊢
    rw [← hchs] at hfle ⊢
    have HF1 : Hid _ := hfr1
    clear hfr2 hfr1 hchs b2 b3 hbk hbk3 HB1 HB2 HFR
    generalize hat : (frsF ms q ms.length 0).1 = at0 at *
    clear hat
    generalize hn : (S.chs q).length = n at *
    by_cases hk1 : kd = 1
    · have hk1b : (kd == 1) = true := by simpa using hk1
      by_cases hfull : dp ≤ (n : Int)
      · have HR : Hid (sendF D S i q t = (25, S)) := by show _ = _; rw [HS2.out, if_pos hk1, if_pos hfull]
        have hfb : decide (dp ≤ (n : Int)) = true := decide_eq_true hfull
        clear HS2
        go_wp2_with fail
        go_ret
        rw [HR.out]
        exact ⟨rfl, RKn.same HKV.out HB3.out (Nat.le_refl _) (Nat.le_succ _)⟩
      · have HR : Hid (sendF D S i q t = (0, setCh S q (S.chs q ++ [⟨t, S.time⟩]))) := by show _ = _; rw [HS2.out, if_pos hk1, if_neg hfull]
        have hfb : decide (dp ≤ (n : Int)) = false := decide_eq_false hfull
        clear HS2
        have HCH : Hid (∀ c, c < D.chans.length → (setCh S q (S.chs q ++ [⟨t, S.time⟩])).chs c = if q = c then chsOf ms c ++ [⟨t, S.time⟩] else chsOf ms c) := fun c hc => by
          show (if c = q then S.chs q ++ [⟨t, S.time⟩] else S.chs c) = _
          by_cases e : c = q
          · subst e; rw [if_pos rfl, if_pos rfl, HKV.out.chs c hc]
          · rw [if_neg e, if_neg (fun h => e h.symm), HKV.out.chs c hc]
        go_wp2_with fail
        have ck7 : w3.cell? ⟨kb, 7, none⟩ = some (.slice ma ms.length mcap) := by rw [cell_of_blk HK3.out.ker]; rfl
        have ck4 : w3.cell? ⟨kb, 4, none⟩ = some (.int .i64 (S.time : Int)) := by rw [cell_of_blk HK3.out.ker]; rfl
        have cp7 : ∀ o, (w3.alloc o).cell? ⟨kb, 7, none⟩ = some (.slice ma ms.length mcap) := fun o => by rw [cell_of_blk (heap_old _ o HK3.out.ker)]; rfl
        have cp4 : ∀ o, (w3.alloc o).cell? ⟨kb, 4, none⟩ = some (.int .i64 (S.time : Int)) := fun o => by rw [cell_of_blk (heap_old _ o HK3.out.ker)]; rfl
        have hWs : W.heap.size ≤ w3.heap.size := HK3.out.base.size
        go_region_law (first
          | (refine step_append_lies _ (by rfl) _ _ _ (by rfl) W.heap.size 305 j0 _ 3 32 Tryz.underlying195 hj0 hy0 hy1 hy2 rfl (by omega) (.slice ma ms.length mcap) ms.length (ms.flatMap mgC) (by rfl) (HK3.out.msg.alloc _) ⟨w3.heap.size, 0, none⟩ 1 1 [.int .i64 q, .string t, .int .i64 (S.time : Int)] (by rfl) (by rfl) (World.news_of_block (cs := #[.int .i64 q, .string t, .int .i64 (S.time : Int)]) (t := 305) (fr := (0, 0)) (heap_new w3 _)) (by simp [Value.oneCell']) (by omega) (by unfold maxLen; omega) (by omega) (by simp; omega) (w3.heap.size + 1) (by simp) ?_; intro g9 c9 V9 hown9 hgrow9 hat9 hlt9
             have HB9 : Hid (Below w3.heap.size w3 (w3.alloc (.cells #[.int .i64 q, .string t, .int .i64 (S.time : Int)] 305)).drew) := below_drewN (newB w3 _) 1
             obtain ⟨c79, f79⟩ := msg_kb HK3.out HB9.out hgrow9))
        all_goals
          go_wp2_with fail
          go_ret
          rw [HR.out]
          exact ⟨rfl, RKn.from HB3.out (msg_app HK3.out HB9.out hgrow9 hq hown9 (hat9.imp id (fun e => by omega)) rfl rfl rfl (fun c hc => HCH.out c hc))⟩
    · have hk2 : kd = 2 := by omega
      have hk1b : (kd == 1) = false := by simpa using hk1
      have HR : Hid (sendF D S i q t = (0, setCh S q [⟨t, S.time⟩])) := by show _ = _; rw [HS2.out, if_neg hk1]
      subst hk2
      clear HS2
      by_cases hn0 : n = 0
      · have hnb : ¬ (0 : Int) < (n : Int) := by omega
        have HCH : Hid (∀ c, c < D.chans.length → (setCh S q [⟨t, S.time⟩]).chs c = if q = c then chsOf ms c ++ [⟨t, S.time⟩] else chsOf ms c) := fun c hc => by
          show (if c = q then [⟨t, S.time⟩] else S.chs c) = _
          by_cases e : c = q
          · subst e
            have : S.chs c = [] := List.eq_nil_of_length_eq_zero (by omega)
            rw [if_pos rfl, if_pos rfl, ← HKV.out.chs c hc, this]; rfl
          · rw [if_neg e, if_neg (fun h => e h.symm), HKV.out.chs c hc]
        go_wp2_with fail
        have ck7 : w3.cell? ⟨kb, 7, none⟩ = some (.slice ma ms.length mcap) := by rw [cell_of_blk HK3.out.ker]; rfl
        have ck4 : w3.cell? ⟨kb, 4, none⟩ = some (.int .i64 (S.time : Int)) := by rw [cell_of_blk HK3.out.ker]; rfl
        have cp7 : ∀ o, (w3.alloc o).cell? ⟨kb, 7, none⟩ = some (.slice ma ms.length mcap) := fun o => by rw [cell_of_blk (heap_old _ o HK3.out.ker)]; rfl
        have cp4 : ∀ o, (w3.alloc o).cell? ⟨kb, 4, none⟩ = some (.int .i64 (S.time : Int)) := fun o => by rw [cell_of_blk (heap_old _ o HK3.out.ker)]; rfl
        have hWs : W.heap.size ≤ w3.heap.size := HK3.out.base.size
        go_region_law (first
          | (refine step_append_lies _ (by rfl) _ _ _ (by rfl) W.heap.size 305 j0 _ 3 32 Tryz.underlying195 hj0 hy0 hy1 hy2 rfl (by omega) (.slice ma ms.length mcap) ms.length (ms.flatMap mgC) (by rfl) (HK3.out.msg.alloc _) ⟨w3.heap.size, 0, none⟩ 1 1 [.int .i64 q, .string t, .int .i64 (S.time : Int)] (by rfl) (by rfl) (World.news_of_block (cs := #[.int .i64 q, .string t, .int .i64 (S.time : Int)]) (t := 305) (fr := (0, 0)) (heap_new w3 _)) (by simp [Value.oneCell']) (by omega) (by unfold maxLen; omega) (by omega) (by simp; omega) (w3.heap.size + 1) (by simp) ?_; intro g9 c9 V9 hown9 hgrow9 hat9 hlt9
             have HB9 : Hid (Below w3.heap.size w3 (w3.alloc (.cells #[.int .i64 q, .string t, .int .i64 (S.time : Int)] 305)).drew) := below_drewN (newB w3 _) 1
             obtain ⟨c79, f79⟩ := msg_kb HK3.out HB9.out hgrow9))
        all_goals
          go_wp2_with fail
          go_ret
          rw [HR.out]
          exact ⟨rfl, RKn.from HB3.out (msg_app HK3.out HB9.out hgrow9 hq hown9 (hat9.imp id (fun e => by omega)) rfl rfl rfl (fun c hc => HCH.out c hc))⟩
      · have hnb : (0 : Int) < (n : Int) := by omega
        have hal : atF ms q < ms.length := by
          rcases Nat.lt_or_ge (atF ms q) ms.length with h | h
          · exact h
          · have h1 := at_none ms q (by omega)
            rw [← HKV.out.chs q hq] at h1
            rw [h1] at hn
            simp at hn
            omega
        have hat : at0 = (atF ms q : Int) := by rw [HF1.out, if_pos hal]
        subst hat
        have HGO : Hid _ := rgone_any HK3.out hm (atF ms q) hal
        have HCH : Hid (∀ c, c < D.chans.length → (setCh S q [⟨t, S.time⟩]).chs c = if q = c then chsOf (ms.take (atF ms q) ++ ms.drop (atF ms q + 1)) c ++ [⟨t, S.time⟩] else chsOf (ms.take (atF ms q) ++ ms.drop (atF ms q + 1)) c) := fun c hc => by
          show (if c = q then [⟨t, S.time⟩] else S.chs c) = _
          obtain ⟨r, hr1, hr2, hr3⟩ := at_head ms q hal
          by_cases e : c = q
          · subst e
            have hone := ho c _ (List.getElem?_eq_getElem hc) (by rw [HKD.out]; omega)
            rw [HKV.out.chs c hc, hr1] at hone
            have hr0 : r = [] := List.eq_nil_of_length_eq_zero (by simpa using hone)
            rw [if_pos rfl, if_pos rfl, ← hr3, hr0]; rfl
          · rw [if_neg e, if_neg (fun h => e h.symm), HKV.out.chs c hc, gone_other ms q (atF ms q) c hal hr2 (by omega)]
        have hml : (ms.take (atF ms q) ++ ms.drop (atF ms q + 1)).length + 1 = ms.length := by simp; omega
        have HML : Hid ((ms.take (atF ms q) ++ ms.drop (atF ms q + 1)).length + 1 = ms.length) := hml
        have hml2 : (ms.take (atF ms q) ++ ms.drop (atF ms q + 1)).length ≤ 4398046511000 := by omega
        clear HF1 hn ho hml
        generalize atF ms q = ka at *
        unfold ptrV at HGO
        go_wp2_with fail
        refine Calls.mono HGO.out ?_
        rintro e w4 ⟨rfl, mv4, ss4, hk4, hno4, hf4⟩
        generalize hms1 : ms.take ka ++ ms.drop (ka + 1) = ms1 at *
        obtain ⟨ma4, mcap4, rfl, _⟩ := hk4.msgs
        have HK4 : Hid (RKv W w4 kb pv (.slice (some ⟨cb, coff, none⟩) D.chans.length ccap) qv sv lv (.slice ma4 ms1.length mcap4) D (goneS S ms1) ss4 ls ms1) := hk4
        have HNO : Hid _ := hno4
        have HF4 : Hid _ := hf4
        clear hk4 hno4 hf4 HGO hms1
        go_wp2_with fail
        have ck7 : w4.cell? ⟨kb, 7, none⟩ = some (.slice ma4 ms1.length mcap4) := by rw [cell_of_blk HK4.out.ker]; rfl
        have ck4 : w4.cell? ⟨kb, 4, none⟩ = some (.int .i64 (S.time : Int)) := by rw [cell_of_blk HK4.out.ker]; rfl
        have cp7 : ∀ o, (w4.alloc o).cell? ⟨kb, 7, none⟩ = some (.slice ma4 ms1.length mcap4) := fun o => by rw [cell_of_blk (heap_old _ o HK4.out.ker)]; rfl
        have cp4 : ∀ o, (w4.alloc o).cell? ⟨kb, 4, none⟩ = some (.int .i64 (S.time : Int)) := fun o => by rw [cell_of_blk (heap_old _ o HK4.out.ker)]; rfl
        have hWs : W.heap.size ≤ w4.heap.size := HK4.out.base.size
        go_region_law (first
          | (refine step_append_lies _ (by rfl) _ _ _ (by rfl) W.heap.size 305 j0 _ 3 32 Tryz.underlying195 hj0 hy0 hy1 hy2 rfl (by omega) (.slice ma4 ms1.length mcap4) ms1.length (ms1.flatMap mgC) (by rfl) (HK4.out.msg.alloc _) ⟨w4.heap.size, 0, none⟩ 1 1 [.int .i64 q, .string t, .int .i64 (S.time : Int)] (by rfl) (by rfl) (World.news_of_block (cs := #[.int .i64 q, .string t, .int .i64 (S.time : Int)]) (t := 305) (fr := (0, 0)) (heap_new w4 _)) (by simp [Value.oneCell']) (by omega) (by unfold maxLen; omega) (by omega) (by simp; omega) (w4.heap.size + 1) (by simp) ?_; intro g9 c9 V9 hown9 hgrow9 hat9 hlt9
             have HB9 : Hid (Below w4.heap.size w4 (w4.alloc (.cells #[.int .i64 q, .string t, .int .i64 (S.time : Int)] 305)).drew) := below_drewN (newB w4 _) 1
             obtain ⟨c79, f79⟩ := msg_kb HK4.out HB9.out hgrow9))
        all_goals
          go_wp2_with fail
          go_ret
          rw [HR.out]
          exact ⟨rfl, RKn.from HB3.out (RKn.join HNO.out HF4.out (msg_app (T := setCh S q [⟨t, S.time⟩]) HK4.out HB9.out hgrow9 hq hown9 (hat9.imp id (fun e => by omega)) rfl rfl rfl (fun c hc => HCH.out c hc)) (Nat.le_refl _) (by have := HML.out; omega))⟩
end
end Go.Proofs.YteioennfpkoagaaGreatDoor.C
