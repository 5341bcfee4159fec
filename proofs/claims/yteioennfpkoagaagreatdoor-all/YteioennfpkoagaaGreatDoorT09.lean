import Derived.Test.YteioennfpkoagaaGreatDoorT08
import Derived.Test.YteioennfpkoagaaGreatDoorT05
namespace Go.Proofs.YteioennfpkoagaaGreatDoor.C
open Go.RowKit K
attribute [local go_sem ↓] Go.wp_at_zero Go.wp_at_succ

theorem wrap_sub {a b : Nat} (h : b ≤ a) (h1 : a ≤ 4611686018427387904) : IntKind.i64.wrap ((a : Int) - (b : Int)) = (a : Int) - (b : Int) := by
  simp [IntKind.wrap, IntKind.bits, IntKind.signed]
  omega
section
variable {W w w' : World} {kb : Nat} {pv cv qv sv lv mv lv' mv' : Value} {D : ManD} {S T : KS} {ss : List StD} {ls ls' : List CellD} {ms ms' : List MsgR}
set_option maxRecDepth 100000 in
set_option maxHeartbeats 4000000 in
theorem rrecv_port (hz : checkF D = 0) (h : RKv W w kb pv cv qv sv lv mv D S ss ls ms) (hs : SmallK bigK S) (i : Nat) (hi : i < D.parts.length) (c : Int) (hc : inR c) (ht : turnF D S i = 0) (hno : c < 0 ∨ (D.chans.length : Int) ≤ c ∨ ∃ q : Nat, c = q ∧ ∃ hq : q < D.chans.length, ¬ D.chans[q].target = i) :
    Calls Tryz.prog 164 #[ptrV kb, .int .i64 i, .int .i64 c] w fun e w' => e = .returned (.tuple #[.string ⟨#[]⟩, .bool false, .int .i64 23]) ∧ Below w.heap.size w w' := by
  have HTU : Hid _ := rturn_any hz h hs (i : Int) (by unfold inR; have := (check_ok hz).2.2.1; omega)
  have hcl : D.chans.length ≤ 8 := (check_ok hz).2.2.2.1
  rw [ht] at HTU
  have hcv := h.seenC
  obtain ⟨ca, ccap, rfl, hcc⟩ := hcv
  have c2 : w.cell? ⟨kb, 2, none⟩ = some (.slice ca D.chans.length ccap) := by rw [cell_of_blk h.ker]; rfl
  have HCC : Hid _ := hcc
  clear h hs hz ht hcc
  obtain ⟨hc1, hc2⟩ := hc
  unfold ptrV at *
  go_enter Tryz.func164, Tryz.ntmps164
  go_wp2_with fail
  refine Calls.mono HTU.out ?_
  rintro e w1 ⟨rfl, hb1⟩
  have HB1 : Hid (Below w.heap.size w w1) := hb1
  have d2 := (hb1.cell (by exact World.block_lt_of_cell? w _ c2)).trans c2
  clear HTU c2
  by_cases h0 : c < 0
  · clear hno hb1
    go_wp2_with fail
    go_ret3
    exact ⟨rfl, HB1.out⟩
  · by_cases h1 : (D.chans.length : Int) ≤ c
    · clear hno hb1
      go_wp2_with fail
      go_ret3
      exact ⟨rfl, HB1.out⟩
    · rcases hno with hno | hno | ⟨q, rfl, hq, hne⟩
      · exact absurd hno h0
      · exact absurd hno h1
      · obtain ⟨cb, coff, rfl, y0, _, y1, _⟩ := HCC.out q hq
        have e1 := (hb1.cell (by exact World.block_lt_of_cell? w _ y1)).trans y1
        clear y0 y1 hb1
        generalize D.chans[q].target = sr at *
        have hneb : (sr != (i : Int)) = true := by simpa using hne
        have hq0 : (0 : Int) ≤ (q : Int) := by omega
        have hq1 : (q : Int) < (D.chans.length : Int) := by omega
        go_wp2_with fail
        go_ret3
        exact ⟨rfl, HB1.out⟩
set_option maxRecDepth 100000 in
set_option maxHeartbeats 4000000 in
theorem rrecv_on (hz : checkF D = 0) (h : RKv W w kb pv cv qv sv lv mv D S ss ls ms) (hs : SmallK bigK S) (hm : ms.length ≤ 4398046511000) (i : Nat) (hi : i < D.parts.length) (q : Nat) (hq : q < D.chans.length) (ht : turnF D S i = 0) (hsr : D.chans[q].target = i) :
    Calls Tryz.prog 164 #[ptrV kb, .int .i64 i, .int .i64 q] w fun e w' => e = .returned (.tuple #[.string (recvF D S i q).1.1, .bool (recvF D S i q).1.2.1, .int .i64 (recvF D S i q).1.2.2]) ∧ RKn W w w' kb pv cv qv sv lv mv D (recvF D S i q).2 ls.length ms.length := by
  have HTU : Hid _ := rturn_any hz h hs (i : Int) (by unfold inR; have := (check_ok hz).2.2.1; omega)
  have hcl : D.chans.length ≤ 8 := (check_ok hz).2.2.2.1
  have hgd := chan_good hz (List.getElem?_eq_getElem hq)
  have HSE : Hid (recvF D S i q = match S.chs q with
      | [] => ((ByteArray.empty, false, 26), S)
      | m :: l => if D.chans[q].kind = 1 then ((m.text, true, 0), setCh S q l) else ((m.text, decide ((S.time : Int) - m.time ≤ D.chans[q].depth), 0), S)) := by
    show _ = _
    have hpo : portF D (q : Int) = some D.chans[q] := by
      unfold portF
      rw [if_neg (by omega), Int.toNat_natCast, List.getElem?_eq_getElem hq]
    unfold recvF
    rw [if_neg (by simp [ht]), hpo]
    simp only [Int.toNat_natCast]
    rw [if_neg (by simp [hsr])]
    cases S.chs q <;> rfl
  have HFR : Hid (∀ w1, Below w.heap.size w w1 → Calls Tryz.prog 212 #[ptrV kb, .int .i64 q] w1 fun e w' => e = .returned (.tuple #[.int .i64 (frsF ms q ms.length 0).1, .int .i64 (frsF ms q ms.length 0).2]) ∧ Below w1.heap.size w1 w') := fun w1 hb => rfirst_any (h.below hb) hm q
  rw [ht] at HTU
  have htm : S.time ≤ 4611686018427387904 := hs.time
  have HKV : Hid (RKv W w kb pv cv qv sv lv mv D S ss ls ms) := h
  obtain ⟨ma, mcap, rfl, _⟩ := h.msgs
  have hcv := h.seenC
  obtain ⟨ca, ccap, rfl, hcc⟩ := hcv
  have c2 : w.cell? ⟨kb, 2, none⟩ = some (.slice ca D.chans.length ccap) := by rw [cell_of_blk h.ker]; rfl
  obtain ⟨cb, coff, rfl, y0, y1, y2, y3, y4, y5⟩ := hcc q hq
  clear h hs hz ht hcc
  unfold ptrV at *
  go_enter Tryz.func164, Tryz.ntmps164
  go_wp2_with fail
  refine Calls.mono HTU.out ?_
  rintro e w1 ⟨rfl, hb1⟩
  have HB1 : Hid (Below w.heap.size w w1) := hb1
  have d2 := (hb1.cell (by exact World.block_lt_of_cell? w _ c2)).trans c2
  have e0 := (hb1.cell (by exact World.block_lt_of_cell? w _ y0)).trans y0
  have e1 := (hb1.cell (by exact World.block_lt_of_cell? w _ y1)).trans y1
  have e2 := (hb1.cell (by exact World.block_lt_of_cell? w _ y2)).trans y2
  have e3 := (hb1.cell (by exact World.block_lt_of_cell? w _ y3)).trans y3
  have e4 := (hb1.cell (by exact World.block_lt_of_cell? w _ y4)).trans y4
  have e5 := (hb1.cell (by exact World.block_lt_of_cell? w _ y5)).trans y5
  clear HTU c2 y0 y1 y2 y3 y4 y5 hb1
  rw [hsr] at e2
  obtain ⟨hg1, hg2, hg3, hg4, hg5, hg6⟩ := hgd
  have hq0 : (0 : Int) ≤ (q : Int) := by omega
  have hq1 : (q : Int) < (D.chans.length : Int) := by omega
  have hq2 : ¬ D.chans.length ≤ q := by omega
  clear hsr hg1 hg2
  generalize D.chans[q].name = c0 at *
  generalize D.chans[q].source = c2 at *
  generalize D.chans[q].kind = kd at *
  generalize D.chans[q].size = sz at *
  generalize D.chans[q].depth = dp at *
  go_wp2_with fail
  have b2 := newB w1 (.cells #[.string c0, .int .i64 c2, .int .i64 i, .int .i64 kd, .int .i64 sz, .int .i64 dp] 92)
  have hbk := heap_new w1 (.cells #[.string c0, .int .i64 c2, .int .i64 i, .int .i64 kd, .int .i64 sz, .int .i64 dp] 92)
  clear d2 e0 e1 e2 e3 e4 e5
  generalize w1.alloc (.cells #[.string c0, .int .i64 c2, .int .i64 i, .int .i64 kd, .int .i64 sz, .int .i64 dp] 92) = w2 at *
  have HB2 : Hid (Below w.heap.size w w2) := HB1.out.trans (b2.mono HB1.out.size)
  refine Calls.mono (HFR.out w2 HB2.out) ?_
  rintro e w3 ⟨rfl, b3⟩
  have hbk3 := keepN hbk b3
  have HB3 : Hid (Below w.heap.size w w3) := HB2.out.trans (b3.mono HB2.out.size)
  have HK3 : Hid (RKv W w3 kb pv (.slice (some ⟨cb, coff, none⟩) D.chans.length ccap) qv sv lv (.slice ma ms.length mcap) D S ss ls ms) := HKV.out.below HB3.out
  have u3 : w3.cell? ⟨w1.heap.size, 3, none⟩ = some (.int .i64 kd) := by rw [cell_of_blk hbk3]; rfl
  have u5 : w3.cell? ⟨w1.heap.size, 5, none⟩ = some (.int .i64 dp) := by rw [cell_of_blk hbk3]; rfl
  obtain ⟨hfr2, hfr1⟩ := frs_all ms q
  have HF1 : Hid _ := hfr1
  have hu1 : w1.heap.size < w3.heap.size := lt_of_blk hbk3
  have HBK : Hid _ := hbk3
  clear hfr2 hfr1 b2 b3 hbk hbk3 HB1 HB2 HFR
  generalize hat : (frsF ms q ms.length 0).1 = at0 at *
  clear hat
  generalize (frsF ms q ms.length 0).2 = at1 at *
  by_cases hal : atF ms q < ms.length
  · have hat : at0 = (atF ms q : Int) := by rw [HF1.out, if_pos hal]
    subst hat
    obtain ⟨r, hr1, hr2, hr3⟩ := at_head ms q hal
    have HR1 : Hid (S.chs q = ⟨(ms[atF ms q]).text, (ms[atF ms q]).time⟩ :: r) := by show _ = _; rw [HKV.out.chs q hq, hr1]
    have HGO : Hid _ := fun V (hV : Below w.heap.size w V) => rgone_any (HKV.out.below hV) hm (atF ms q) hal
    have hmt := (HKV.out.mr _ (List.getElem_mem hal)).2.2
    obtain ⟨ma2, mc2, hsl, hms⟩ := HK3.out.msgs
    obtain ⟨mg, hmg, m0, m1, m2⟩ := hms _ hal
    obtain ⟨rfl, rfl⟩ : ma = ma2 ∧ mcap = mc2 := by cases hsl; exact ⟨rfl, rfl⟩
    subst hmg
    rw [hr2] at m0
    have HG1 : Hid (∀ c, c < D.chans.length → (setCh S q r).chs c = chsOf (ms.take (atF ms q) ++ ms.drop (atF ms q + 1)) c) := fun c hc => by
      show (if c = q then r else S.chs c) = _
      by_cases e : c = q
      · subst e
        rw [if_pos rfl, hr3]
      · rw [if_neg e, HKV.out.chs c hc, gone_other ms q (atF ms q) c hal hr2 (by omega)]
    have HML : Hid ((ms.take (atF ms q) ++ ms.drop (atF ms q + 1)).length ≤ ms.length) := by show _ ≤ _; simp; omega
    have ck7 : w3.cell? ⟨kb, 7, none⟩ = some (.slice (some ⟨mg, 0, none⟩) ms.length mcap) := by rw [cell_of_blk HK3.out.ker]; rfl
    have hka1 : ((atF ms q : Nat) : Int) < (ms.length : Int) := by omega
    clear HF1 hr1 hr2 hr3 hsl hms
    generalize ms[atF ms q].text = tx at *
    generalize ms[atF ms q].time = tm at *
    generalize atF ms q = ka at *
    have hka0 : (0 : Int) ≤ (ka : Int) := by omega
    have b4 := newB w3 (.cells #[.int .i64 q, .string tx, .int .i64 tm] 305)
    have h4 := heap_new w3 (.cells #[.int .i64 q, .string tx, .int .i64 tm] 305)
    have HBL : Hid ((w3.alloc (.cells #[.int .i64 q, .string tx, .int .i64 tm] 305)).heap[w1.heap.size]? = _) := keepN HBK.out b4
    have HB4 : Hid (Below w.heap.size w (w3.alloc (.cells #[.int .i64 q, .string tx, .int .i64 tm] 305))) := HB3.out.trans (b4.mono HB3.out.size)
    have v3 : (w3.alloc (.cells #[.int .i64 q, .string tx, .int .i64 tm] 305)).cell? ⟨w1.heap.size, 3, none⟩ = some (.int .i64 kd) := by rw [cell_of_blk HBL.out]; rfl
    have v5 : (w3.alloc (.cells #[.int .i64 q, .string tx, .int .i64 tm] 305)).cell? ⟨w1.heap.size, 5, none⟩ = some (.int .i64 dp) := by rw [cell_of_blk HBL.out]; rfl
    have v4 : (w3.alloc (.cells #[.int .i64 q, .string tx, .int .i64 tm] 305)).cell? ⟨kb, 4, none⟩ = some (.int .i64 S.time) := by rw [cell_of_blk (keepN HK3.out.ker b4)]; rfl
    have t1 : (w3.alloc (.cells #[.int .i64 q, .string tx, .int .i64 tm] 305)).cell? ⟨w3.heap.size, 1, none⟩ = some (.string tx) := by rw [cell_of_blk h4]; rfl
    have t2 : (w3.alloc (.cells #[.int .i64 q, .string tx, .int .i64 tm] 305)).cell? ⟨w3.heap.size, 2, none⟩ = some (.int .i64 tm) := by rw [cell_of_blk h4]; rfl
    by_cases hk1 : kd = 1
    · have hk1b : (kd == 2) = false := by simp [hk1]
      have HR : Hid (recvF D S i q = ((tx, true, 0), setCh S q r)) := by show _ = _; rw [HSE.out, HR1.out]; simp only []; rw [if_pos hk1]
      clear HSE
      go_wp2_with fail
      refine Calls.mono (HGO.out _ HB4.out) ?_
      rintro e w5 ⟨rfl, hkm⟩
      have HKM : Hid (RKm W (w3.alloc (.cells #[.int .i64 q, .string tx, .int .i64 tm] 305)) w5 kb pv (.slice (some ⟨cb, coff, none⟩) D.chans.length ccap) qv sv lv (.slice (some ⟨mg, 0, none⟩) ms.length mcap) D (setCh S q r) ls (ms.take ka ++ ms.drop (ka + 1))) := by
        obtain ⟨mv5, ss5, g1, g2, g3⟩ := hkm
        exact ⟨mv5, ss5, ⟨g1.base, g1.parts, g1.chans, g1.lo, g1.ker, g1.pln, g1.sts, g1.cel, g1.msg, g1.slen, g1.sst, g1.mem, fun c hc => HG1.out c hc, g1.mr⟩, g2, g3⟩
      have t5 : w5.cell? ⟨w3.heap.size, 1, none⟩ = some (.string tx) := by
        obtain ⟨mv5, ss5, g1, g2, g3⟩ := hkm
        rw [cell_of_blk ((g3.block w3.heap.size (by simp) fun e => by have := (HK3.out.low _ e).2; omega).trans h4)]; rfl
      clear hkm b4 h4 v3 v5 v4 t1 t2 HGO
      go_wp2_with fail
      go_ret3
      rw [HR.out]
      exact ⟨rfl, (RKm.n HKM.out (Nat.le_refl _) HML.out).from HB4.out⟩
    · have hk2 : kd = 2 := by omega
      have HR : Hid (recvF D S i q = ((tx, decide ((S.time : Int) - tm ≤ dp), 0), S)) := by show _ = _; rw [HSE.out, HR1.out]; simp only []; rw [if_neg hk1]
      subst hk2
      clear HSE HGO b4 h4
      have wt : IntKind.i64.wrap ((S.time : Int) - (tm : Int)) = (S.time : Int) - (tm : Int) := wrap_sub hmt htm
      go_wp2_with fail
      go_quiet (fail)
      go_wp2_with fail
      go_ret3
      rw [HR.out]
      exact ⟨rfl, RKn.same HKV.out (below_drewN HB4.out _) (Nat.le_refl _) (Nat.le_refl _)⟩
  · have hat : at0 = -1 := by rw [HF1.out, if_neg hal]
    have HR : Hid (recvF D S i q = ((ByteArray.empty, false, 26), S)) := by
      show _ = _
      rw [HSE.out, HKV.out.chs q hq, at_none ms q hal]
    subst hat
    clear HSE HF1 hal
    go_wp2_with fail
    go_ret3
    rw [HR.out]
    exact ⟨rfl, RKn.same HKV.out HB3.out (Nat.le_refl _) (Nat.le_refl _)⟩
end
end Go.Proofs.YteioennfpkoagaaGreatDoor.C
namespace Go.Proofs.YteioennfpkoagaaGreatDoor.C
open Go.RowKit K

theorem rfl_true : RFl := fun {W w kb pv cv qv sv lv mv D S ss ls ms} hz h hs hl hm i hi => by
  have ha := (part_good hz hi).1
  rcases (show D.parts[i].action = 1 ∨ D.parts[i].action = 2 ∨ D.parts[i].action = 3 by omega) with h1 | h1 | h1
  · exact (rfails_one hz h hs i hi h1).mono fun e w' ⟨e1, ⟨ss', h2⟩, h3⟩ => ⟨e1, ⟨lv, mv, ss', ls, ms, h2, Nat.le_refl _, Nat.le_refl _, newO.refl _ _⟩, h3⟩
  · exact (rfails_two hz h hs i hi h1).mono fun e w' ⟨e1, ⟨ss', h2⟩, h3⟩ => ⟨e1, ⟨lv, mv, ss', ls, ms, h2, Nat.le_refl _, Nat.le_refl _, newO.refl _ _⟩, h3⟩
  · exact rfails_three hz h hs hl hm i hi h1
theorem turn_zero {D : ManD} {S : KS} {p : Int} (h : turnF D S p = 0) : ∃ i : Nat, p = i ∧ i < D.parts.length := by
  unfold turnF at h
  split at h
  · omega
  · exact ⟨p.toNat, by omega, by omega⟩
section
variable {W w w' : World} {y n m : Nat} {pv cv qv sv lv mv : Value} {D : ManD} {S T : KS} {o : Nat → Prop} {ss : List StD} {ls : List CellD} {ms : List MsgR}
theorem RAft.mono (h : RAft W y pv cv D S n o w w') (hm : n ≤ m) : RAft W y pv cv D S m o w w' := by
  obtain ⟨⟨o', h1, h2⟩, hf⟩ := h
  exact ⟨⟨o', h1.mono hm, h2⟩, hf⟩
theorem RKd.running (h : RKd W w y pv cv D S n o) (hs : SmallK bigK S) (_hn : n ≤ 4398046511000) :
    Calls Tryz.prog 157 #[ptrV y] w fun e w' => e = .returned (.int .i64 (runF D S)) ∧ RAft W y pv cv D S n o w w' := by
  obtain ⟨qv, sv, lv, mv, ss, ls, ms, h1, _, _, _⟩ := h.out
  exact (rrunning_any h.chk h1 hs).mono fun e w' ⟨e1, e2⟩ => ⟨e1, .same h e2⟩
theorem RKd.state (h : RKd W w y pv cv D S n o) (_hs : SmallK bigK S) (_hn : n ≤ 4398046511000) {p : Int} (hp : inR p) :
    Calls Tryz.prog 160 #[ptrV y, .int .i64 p] w fun e w' => e = .returned (.tuple #[stV (stateF D S p).1, .int .i64 (stateF D S p).2]) ∧ RAft W y pv cv D S n o w w' := by
  obtain ⟨qv, sv, lv, mv, ss, ls, ms, h1, _, _, _⟩ := h.out
  exact (rstate_any h.chk h1 p hp).mono fun e w' ⟨e1, e2⟩ => ⟨e1, .same h e2⟩
theorem RKd.raise (h : RKd W w y pv cv D S n o) (hs : SmallK bigK S) (hn : n ≤ 4398046511000) {p : Int} (hp : inR p) :
    Calls Tryz.prog 100 #[ptrV y, .int .i64 p] w fun e w' => e = .returned (.int .i64 (raiseF D S p).1) ∧ RAft W y pv cv D (raiseF D S p).2 (n + 1) o w w' := by
  obtain ⟨qv, sv, lv, mv, ss, ls, ms, h1, hl, hm, ho⟩ := h.out
  have hone := h.one.raise p
  unfold raiseF at hone ⊢
  by_cases ht : turnF D S p = 0
  · rw [if_neg (by simp [ht])] at hone ⊢
    obtain ⟨i, rfl, hi⟩ := turn_zero ht
    rw [Int.toNat_natCast] at hone ⊢
    exact (rraise_on rfl_true h.chk h1 hs (by omega) (by omega) i hi ht).mono fun e w' ⟨e1, e2⟩ => ⟨e1, .of h.chk hone e2 (by omega) (by omega) ho⟩
  · rw [if_pos ht] at hone ⊢
    exact (rraise_off h.chk h1 hs p hp ht).mono fun e w' ⟨e1, e2⟩ => ⟨e1, (RAft.same h e2).mono (Nat.le_succ _)⟩
theorem RKd.read (h : RKd W w y pv cv D S n o) (hs : SmallK bigK S) (hn : n ≤ 4398046511000) {p a : Int} (hp : inR p) (ha : inR a) :
    Calls Tryz.prog 161 #[ptrV y, .int .i64 p, .int .i64 a] w fun e w' => e = .returned (.tuple #[.int .i64 (readF D S p a).1, .int .i64 (readF D S p a).2.1]) ∧ RAft W y pv cv D (readF D S p a).2.2 (n + 1) o w w' := by
  obtain ⟨qv, sv, lv, mv, ss, ls, ms, h1, hl, hm, ho⟩ := h.out
  have hone := h.one.read p a
  unfold readF at hone ⊢
  by_cases ht : turnF D S p = 0
  · rw [if_neg (by simp [ht])] at hone ⊢
    obtain ⟨i, rfl, hi⟩ := turn_zero ht
    rw [Int.toNat_natCast] at hone ⊢
    by_cases hr : rightsF (regsAt D i) a = 0
    · rw [if_pos hr] at hone ⊢
      exact (rread_fault rfl_true h.chk h1 hs (by omega) (by omega) i hi a ha ht hr).mono fun e w' ⟨e1, e2⟩ => ⟨e1, .of h.chk hone e2 (by omega) (by omega) ho⟩
    · rw [if_neg hr] at hone ⊢
      exact (rread_ok h.chk h1 hs (by omega) i hi a ha ht hr).mono fun e w' ⟨e1, e2⟩ => ⟨e1, (RAft.same h e2).mono (Nat.le_succ _)⟩
  · rw [if_pos ht] at hone ⊢
    exact (rread_off h.chk h1 hs p a hp ht).mono fun e w' ⟨e1, e2⟩ => ⟨e1, (RAft.same h e2).mono (Nat.le_succ _)⟩
theorem RKd.write (h : RKd W w y pv cv D S n o) (hs : SmallK bigK S) (hn : n ≤ 4398046511000) {p a b : Int} (hp : inR p) (ha : inR a) (hb : inR b) :
    Calls Tryz.prog 162 #[ptrV y, .int .i64 p, .int .i64 a, .int .i64 b] w fun e w' => e = .returned (.int .i64 (writeF D S p a b).1) ∧ RAft W y pv cv D (writeF D S p a b).2 (n + 1) o w w' := by
  obtain ⟨qv, sv, lv, mv, ss, ls, ms, h1, hl, hm, ho⟩ := h.out
  have hone := h.one.write p a b
  unfold writeF at hone ⊢
  by_cases ht : turnF D S p = 0
  · rw [if_neg (by simp [ht])] at hone ⊢
    obtain ⟨i, rfl, hi⟩ := turn_zero ht
    rw [Int.toNat_natCast] at hone ⊢
    by_cases hr : rightsF (regsAt D i) a = 2
    · rw [if_neg (by simp [hr])] at hone ⊢
      exact (rwrite_ok h.chk h1 hs (by omega) i hi a b ha hb ht hr).mono fun e w' ⟨e1, e2⟩ => ⟨e1, .of h.chk hone e2 (by omega) (by omega) ho⟩
    · rw [if_pos hr] at hone ⊢
      exact (rwrite_fault rfl_true h.chk h1 hs (by omega) (by omega) i hi a b ha ht hr).mono fun e w' ⟨e1, e2⟩ => ⟨e1, .of h.chk hone e2 (by omega) (by omega) ho⟩
  · rw [if_pos ht] at hone ⊢
    exact (rwrite_off h.chk h1 hs p a b hp ht).mono fun e w' ⟨e1, e2⟩ => ⟨e1, (RAft.same h e2).mono (Nat.le_succ _)⟩
theorem send_no {D : ManD} {S : KS} {i : Nat} {c : Int} {s : ByteArray} (ht : turnF D S i = 0) (hno : c < 0 ∨ (D.chans.length : Int) ≤ c ∨ ∃ q : Nat, c = q ∧ ∃ hq : q < D.chans.length, ¬ D.chans[q].source = i) : sendF D S i c s = (23, S) := by
  unfold sendF
  rw [if_neg (by simp [ht])]
  rcases hno with h | h | ⟨q, rfl, hq, h⟩
  · rw [portF, if_pos h]
  · rw [portF, if_neg (by omega), List.getElem?_eq_none (by omega)]
  · rw [portF, if_neg (by omega), Int.toNat_natCast, List.getElem?_eq_getElem hq]
    simp only []
    rw [if_pos h]
theorem recv_no {D : ManD} {S : KS} {i : Nat} {c : Int} (ht : turnF D S i = 0) (hno : c < 0 ∨ (D.chans.length : Int) ≤ c ∨ ∃ q : Nat, c = q ∧ ∃ hq : q < D.chans.length, ¬ D.chans[q].target = i) : recvF D S i c = ((ByteArray.empty, false, 23), S) := by
  unfold recvF
  rw [if_neg (by simp [ht])]
  rcases hno with h | h | ⟨q, rfl, hq, h⟩
  · rw [portF, if_pos h]
  · rw [portF, if_neg (by omega), List.getElem?_eq_none (by omega)]
  · rw [portF, if_neg (by omega), Int.toNat_natCast, List.getElem?_eq_getElem hq]
    simp only []
    rw [if_pos h]
theorem RKd.send (h : RKd W w y pv cv D S n o) (hs : SmallK bigK S) (hn : n ≤ 4398046511000) {p c : Int} {s : ByteArray} (hp : inR p) (hc : inR c) (hz : s.size ≤ 9223372036854775807) :
    Calls Tryz.prog 163 #[ptrV y, .int .i64 p, .int .i64 c, .string s] w fun e w' => e = .returned (.int .i64 (sendF D S p c s).1) ∧ RAft W y pv cv D (sendF D S p c s).2 (n + 1) o w w' := by
  obtain ⟨qv, sv, lv, mv, ss, ls, ms, h1, hl, hm, ho⟩ := h.out
  have hone := h.one.send p c s
  by_cases ht : turnF D S p = 0
  · obtain ⟨i, rfl, hi⟩ := turn_zero ht
    by_cases hno : c < 0 ∨ (D.chans.length : Int) ≤ c ∨ ∃ q : Nat, c = q ∧ ∃ hq : q < D.chans.length, ¬ D.chans[q].source = i
    · rw [send_no ht hno]
      exact (rsend_port h.chk h1 hs i hi c s hc ht hno).mono fun e w' ⟨e1, e2⟩ => ⟨e1, (RAft.same h e2).mono (Nat.le_succ _)⟩
    · obtain ⟨q, rfl⟩ : ∃ q : Nat, c = q := ⟨c.toNat, by have : ¬ c < 0 := fun e => hno (.inl e); omega⟩
      have hq : q < D.chans.length := by
        rcases Nat.lt_or_ge q D.chans.length with h2 | h2
        · exact h2
        · exact absurd (.inr (.inl (by omega))) hno
      have hsr : D.chans[q].source = i := by
        by_cases e : D.chans[q].source = i
        · exact e
        · exact absurd (.inr (.inr ⟨q, rfl, hq, e⟩)) hno
      exact (rsend_on h.chk h.one h1 hs (by omega) i hi q hq s hz ht hsr).mono fun e w' ⟨e1, e2⟩ => ⟨e1, .of h.chk hone e2 (by omega) (by omega) ho⟩
  · have e : sendF D S p c s = (turnF D S p, S) := by unfold sendF; rw [if_pos ht]
    rw [e]
    exact (rsend_off h.chk h1 hs p c s hp ht).mono fun e w' ⟨e1, e2⟩ => ⟨e1, (RAft.same h e2).mono (Nat.le_succ _)⟩
theorem RKd.recv (h : RKd W w y pv cv D S n o) (hs : SmallK bigK S) (hn : n ≤ 4398046511000) {p c : Int} (hp : inR p) (hc : inR c) :
    Calls Tryz.prog 164 #[ptrV y, .int .i64 p, .int .i64 c] w fun e w' => e = .returned (.tuple #[.string (recvF D S p c).1.1, .bool (recvF D S p c).1.2.1, .int .i64 (recvF D S p c).1.2.2]) ∧ RAft W y pv cv D (recvF D S p c).2 (n + 1) o w w' := by
  obtain ⟨qv, sv, lv, mv, ss, ls, ms, h1, hl, hm, ho⟩ := h.out
  have hone := h.one.recv p c
  by_cases ht : turnF D S p = 0
  · obtain ⟨i, rfl, hi⟩ := turn_zero ht
    by_cases hno : c < 0 ∨ (D.chans.length : Int) ≤ c ∨ ∃ q : Nat, c = q ∧ ∃ hq : q < D.chans.length, ¬ D.chans[q].target = i
    · rw [recv_no ht hno]
      exact (rrecv_port h.chk h1 hs i hi c hc ht hno).mono fun e w' ⟨e1, e2⟩ => ⟨e1, (RAft.same h e2).mono (Nat.le_succ _)⟩
    · obtain ⟨q, rfl⟩ : ∃ q : Nat, c = q := ⟨c.toNat, by have : ¬ c < 0 := fun e => hno (.inl e); omega⟩
      have hq : q < D.chans.length := by
        rcases Nat.lt_or_ge q D.chans.length with h2 | h2
        · exact h2
        · exact absurd (.inr (.inl (by omega))) hno
      have hsr : D.chans[q].target = i := by
        by_cases e : D.chans[q].target = i
        · exact e
        · exact absurd (.inr (.inr ⟨q, rfl, hq, e⟩)) hno
      exact (rrecv_on h.chk h1 hs (by omega) i hi q hq ht hsr).mono fun e w' ⟨e1, e2⟩ => ⟨e1, .of h.chk hone e2 (by omega) (by omega) ho⟩
  · have e : recvF D S p c = ((ByteArray.empty, false, turnF D S p), S) := by unfold recvF; rw [if_pos ht]
    rw [e]
    exact (rrecv_off h.chk h1 hs p c hp ht).mono fun e w' ⟨e1, e2⟩ => ⟨e1, (RAft.same h e2).mono (Nat.le_succ _)⟩
theorem RKd.tick (h : RKd W w y pv cv D S n o) : RAft W y pv cv D (tickK S) n o w (w.setCell ⟨y, 4, none⟩ (.int .i64 ((S.time : Int) + 1))) := by
  obtain ⟨qv, sv, lv, mv, ss, ls, ms, h1, hl, hm, ho⟩ := h.out
  exact ⟨⟨o, ⟨h.chk, h.one.tick, qv, sv, lv, mv, ss, ls, ms, h1.setTime, hl, hm, ho⟩, newO.refl _ _⟩, (Frm.refl _ _).set (.inl ((ho y).2 (.inl rfl))) _ _⟩
/- a base further below -/
theorem RKd.lower {V : World} (h : RKd V w y pv cv D S n o) (hb : Below W.heap.size W w) (hs : W.heap.size ≤ V.heap.size) (hp : PartsV W pv D.parts) (hc : ChansV W cv D.chans) : RKd W w y pv cv D S n o := by
  obtain ⟨qv, sv, lv, mv, ss, ls, ms, h1, hl, hm, ho⟩ := h.out
  exact ⟨h.chk, h.one, qv, sv, lv, mv, ss, ls, ms, ⟨hb, hp, hc, Nat.le_trans hs h1.lo, h1.ker, own_mono h1.pln hs, own_mono h1.sts hs, own_mono h1.cel hs, own_mono h1.msg hs, h1.slen, h1.sst, h1.mem, h1.chs, h1.mr⟩, hl, hm, ho⟩
end
end Go.Proofs.YteioennfpkoagaaGreatDoor.C
