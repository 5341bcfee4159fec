import Derived.Test.YteioennfpkoagaaGreatDoorT04
import Derived.OwnWalk
import Derived.Deep.AppendLies
import Derived.Test.YteioennfpkoagaaGreatDoorB19
namespace Go.Proofs.YteioennfpkoagaaGreatDoor.C
open Go.RowKit K
attribute [local go_sem ↓] Go.wp_at_zero Go.wp_at_succ

theorem infoRCell : (Tryz.prog.info? 303).map (fun i => (i.zero, i.size, i.bytes)) = some (some (.agg #[.int .i64 0, .int .i64 0, .int .i64 0]), 3, 24) := by kernel_rfl
theorem infoRMsg : (Tryz.prog.info? 305).map (fun i => (i.zero, i.size, i.bytes)) = some (some (.agg #[.int .i64 0, .string ⟨#[]⟩, .int .i64 0]), 3, 32) := by kernel_rfl
theorem wrap_inc {z : Int} (h0 : 0 ≤ z) (h1 : z ≤ 4611686018427387904) : IntKind.i64.wrap (z + 1) = z + 1 := by
  simp [IntKind.wrap, IntKind.bits, IntKind.signed]
  omega
section
variable {W w w' : World} {kb : Nat} {pv cv qv sv lv mv : Value} {D : ManD} {S T : KS} {ss : List StD} {ls : List CellD} {ms : List MsgR}
theorem fail3_end {W2 w1 w2 : World} {S3 : KS} {ss2 : List StD} {lv' mv' : Value} {i : Nat} (hsz : W2.heap.size = w.heap.size) (hfr : Frm (RKo kb qv sv lv mv) w W2)
    (hb1 : Below W2.heap.size W2 w1) (hown1 : w1.ownsRow W2.heap.size 303 3 lv' (ls.filter (stayC i)).length ((ls.filter (stayC i)).flatMap clC))
    (hk3 : RKv W (w1.setCell ⟨kb, 6, none⟩ lv') kb pv cv qv sv lv' mv D S3 ss2 (ls.filter (stayC i)) ms) (hb2 : Below (w1.setCell ⟨kb, 6, none⟩ lv').heap.size (w1.setCell ⟨kb, 6, none⟩ lv') w2)
    (hown2 : w2.ownsRow (w1.setCell ⟨kb, 6, none⟩ lv').heap.size 305 3 mv' (ms.filter (stayM D i)).length ((ms.filter (stayM D i)).flatMap mgC))
    (h0 : T.time = S3.time) (h1 : T.sts = S3.sts) (h2 : T.mem = S3.mem) (h3 : ∀ c, c < D.chans.length → T.chs c = if (D.chans[c]?.map ChanD.target) = some (i : Int) then [] else S3.chs c) :
    RKn W w (w2.setCell ⟨kb, 7, none⟩ mv') kb pv cv qv sv lv mv D T ls.length ms.length := by
  have hs3 : (w1.setCell ⟨kb, 6, none⟩ lv').heap.size = w1.heap.size := by simp
  have hs1 := hb1.size
  refine ⟨⟨lv', mv', ss2, ls.filter (stayC i), ms.filter (stayM D i), hk3.setMsg (Frm.all _ hb2) (own_mono hown2 hk3.base.size) h0 h1 h2 (fun c hc => ?_) (fun m hm => hk3.mr m (List.mem_filter.1 hm).1), List.length_filter_le _ _, List.length_filter_le _ _, fun b hb => ?_⟩, ?_⟩
  · rw [h3 c hc, stay_chs, hk3.chs c hc]
  · rcases hb with h | h | h | h | h
    · exact .inl (.inl h)
    · exact .inl (.inr (.inl h))
    · exact .inl (.inr (.inr (.inl h)))
    · exact .inr (by have := (hown1.lt b h.symm).1; omega)
    · exact .inr (by have := (hown2.lt b h.symm).1; omega)
  · have f1 : Frm (RKo kb qv sv lv mv) w (w1.setCell ⟨kb, 6, none⟩ lv') := (hfr.trans (Frm.all _ hb1) (newO.refl _ _)).set (.inl (.inl rfl)) _ _
    exact (f1.trans (Frm.all _ hb2) (newO.refl _ _)).set (.inl (.inl rfl)) _ _
set_option maxRecDepth 100000 in
set_option maxHeartbeats 4000000 in
theorem rfails_three (hz : checkF D = 0) (h : RKv W w kb pv cv qv sv lv mv D S ss ls ms) (hs : SmallK bigK S) (hl : ls.length ≤ 4398046511000) (hm : ms.length ≤ 4398046511000) (i : Nat) (hi : i < D.parts.length) (hact : D.parts[i].action = 3) :
    Calls Tryz.prog 159 #[ptrV kb, .int .i64 i] w fun e w' => e = .returned (.tuple #[]) ∧ RKn W w w' kb pv cv qv sv lv mv D (failF D S i) ls.length ms.length := by
  have hn : D.parts.length ≤ 8 := (check_ok hz).2.2.1
  have HCL : Hid (D.chans.length ≤ 8) := (check_ok hz).2.2.2.1
  obtain ⟨i0, hi0, hz0, hz1, hz2⟩ := parts_of infoRCell
  obtain ⟨j0, hj0, hy0, hy1, hy2⟩ := parts_of infoRMsg
  obtain ⟨ca, ccap, rfl, _⟩ := h.chans
  obtain ⟨va, cap, rfl, hst⟩ := h.state
  obtain ⟨g, rfl, s0, s1, s2⟩ := hst i hi
  obtain ⟨pa, pcap, rfl, hps⟩ := h.seenP
  obtain ⟨b, off, rv, rfl, x0, x1, x2, x3, x4, xr⟩ := hps i hi
  have c1 : w.cell? ⟨kb, 1, none⟩ = some (.slice (some ⟨b, off, none⟩) D.parts.length pcap) := by rw [cell_of_blk h.ker]; rfl
  have c5 : w.cell? ⟨kb, 5, none⟩ = some (.slice (some ⟨g, 0, none⟩) D.parts.length cap) := by rw [cell_of_blk h.ker]; rfl
  obtain ⟨rc, hg, hlo⟩ := h.row
  have hf : (S.sts i).faults ≤ 4611686018427387904 := (hs.flt i).2
  have hf0 := (hs.flt i).1
  have hr : (S.sts i).restarts ≤ 4611686018427387904 := (hs.res i).2
  have hr0 := (hs.res i).1
  have w1 : IntKind.i64.wrap ((S.sts i).faults + 1) = (S.sts i).faults + 1 := wrap_inc hf0 hf
  have w2 : IntKind.i64.wrap ((S.sts i).restarts + 1) = (S.sts i).restarts + 1 := wrap_inc hr0 hr
  have f1 : w.frozen? ⟨g, i * 3 + 1, none⟩ = false := frozen_of_blk hg
  obtain ⟨S1, hS1⟩ : ∃ S1 : KS, S1 = { S with sts := fun q => if q = i then ⟨(S.sts i).stopped, (S.sts i).faults + 1, (S.sts i).restarts⟩ else S.sts q } := ⟨_, rfl⟩
  have hS1i : S1.sts i = ⟨(S.sts i).stopped, (S.sts i).faults + 1, (S.sts i).restarts⟩ := by rw [hS1]; simp
  obtain ⟨S2, hS2⟩ : ∃ S2 : KS, S2 = { S1 with sts := fun q => if q = i then ⟨(S.sts i).stopped, (S.sts i).faults + 1, (S.sts i).restarts + 1⟩ else S1.sts q } := ⟨_, rfl⟩
  have ha : actF D i = 3 := by simp [actF, List.getElem?_eq_getElem hi, hact]
  have HT : Hid (S2.time = S.time) := by show _ = _; rw [hS2, hS1]
  have HSS : Hid ((failF D S i).sts = S2.sts) := by
    show _ = _
    rw [hS2, hS1]
    unfold failF
    rw [ha]
    funext q
    by_cases e : q = i
    · subst e; simp [failSt]
    · simp [e]
  have HSM : Hid (S2.mem = S.mem ∧ S2.chs = S.chs) := by show _ ∧ _; rw [hS2, hS1]; exact ⟨rfl, rfl⟩
  have HFM : Hid (∀ q a, (failF D S i).mem q a = if q = i then 0 else S.mem q a) := fun q a => by
    unfold failF
    simp [ha]
  have HFC : Hid (∀ c, (failF D S i).chs c = if (D.chans[c]?.map ChanD.target) = some (i : Int) then [] else S.chs c) := fun c => by
    unfold failF
    simp [ha]
  have hk1 := h.setSt (T := S1) hi (j := 1) (by omega) (.int .i64 ((S.sts i).faults + 1)) ⟨(S.sts i).stopped, (S.sts i).faults + 1, (S.sts i).restarts⟩ rfl hS1
  have hk := hk1.setSt (T := S2) hi (j := 2) (by omega) (.int .i64 ((S.sts i).restarts + 1)) ⟨(S.sts i).stopped, (S.sts i).faults + 1, (S.sts i).restarts + 1⟩ (by rw [hS1i]; rfl) hS2
  obtain ⟨rc1, hg1, _⟩ := hk1.row
  have t2 : (w.setCell ⟨g, i * 3 + 1, none⟩ (.int .i64 ((S.sts i).faults + 1))).cell? ⟨g, i * 3 + 2, none⟩ = some (.int .i64 (S.sts i).restarts) := by
    obtain ⟨va2, cap2, e2, hst2⟩ := hk1.state
    cases e2
    obtain ⟨g2, e3, _, _, y2⟩ := hst2 i hi
    cases e3
    rw [y2, hS1i]
  have t1 : (w.setCell ⟨g, i * 3 + 1, none⟩ (.int .i64 ((S.sts i).faults + 1))).frozen? ⟨g, i * 3 + 2, none⟩ = false := frozen_of_blk hg1
  have t5 : (w.setCell ⟨g, i * 3 + 1, none⟩ (.int .i64 ((S.sts i).faults + 1))).cell? ⟨kb, 5, none⟩ = some (.slice (some ⟨g, 0, none⟩) D.parts.length cap) := by rw [cell_of_blk hk1.ker]; rfl
  have HSZ : Hid (((w.setCell ⟨g, i * 3 + 1, none⟩ (.int .i64 ((S.sts i).faults + 1))).setCell ⟨g, i * 3 + 2, none⟩ (.int .i64 ((S.sts i).restarts + 1))).heap.size = w.heap.size) := by show _ = _; simp
  have HKV : Hid _ := hk
  have HFR : Hid (Frm (RKo kb qv (.slice (some ⟨g, 0, none⟩) D.parts.length cap) lv mv) w ((w.setCell ⟨g, i * 3 + 1, none⟩ (.int .i64 ((S.sts i).faults + 1))).setCell ⟨g, i * 3 + 2, none⟩ (.int .i64 ((S.sts i).restarts + 1)))) := ((Frm.refl _ _).set (.inl (.inr (.inr (.inl rfl)))) _ _).set (.inl (.inr (.inr (.inl rfl)))) _ _
  have hbn : b < W.heap.size := by
    obtain ⟨pa2, pc2, e2, hps2⟩ := h.parts
    cases e2
    obtain ⟨b2, off2, rv2, e3, y0, _⟩ := hps2 i hi
    cases e3
    exact World.block_lt_of_cell? W _ y0
  have d3 : (w.setCell ⟨g, i * 3 + 1, none⟩ (.int .i64 ((S.sts i).faults + 1))).cell? ⟨b, off + i * 5 + 3, none⟩ = some (.int .i64 3) := by
    have hne : b ≠ g := by omega
    rw [cell_same (blk_far _ _ hne), x3, hact]
  have d1 : (w.setCell ⟨g, i * 3 + 1, none⟩ (.int .i64 ((S.sts i).faults + 1))).cell? ⟨kb, 1, none⟩ = some (.slice (some ⟨b, off, none⟩) D.parts.length pcap) := by
    rw [cell_of_blk hk1.ker]; rfl
  have d6 : ∃ la lcap, lv = .slice la ls.length lcap ∧ ∃ ma mcap, mv = .slice ma ms.length mcap := by
    obtain ⟨la, lc, e, _⟩ := h.cells
    obtain ⟨ma, mc, e2, _⟩ := h.msgs
    exact ⟨la, lc, e, ma, mc, e2⟩
  obtain ⟨la, lcap, rfl, ma, mcap, rfl⟩ := d6
  have c6 : ((w.setCell ⟨g, i * 3 + 1, none⟩ (.int .i64 ((S.sts i).faults + 1))).setCell ⟨g, i * 3 + 2, none⟩ (.int .i64 ((S.sts i).restarts + 1))).cell? ⟨kb, 6, none⟩ = some (.slice la ls.length lcap) := by rw [cell_of_blk hk.ker]; rfl
  clear hk hk1 hg1 hS1i hS1 hS2 h hst hps x0 x1 x2 x3 x4 xr hg hlo hs hz hact hbn s0 ha
  have hi2 : (0 : Int) ≤ (i : Int) := by omega
  have hi1 : (i : Int) < (D.parts.length : Int) := by omega
  unfold ptrV
  go_enter Tryz.func159, Tryz.ntmps159
  go_wp2_with fail
  generalize ((w.setCell ⟨g, i * 3 + 1, none⟩ (.int .i64 ((S.sts i).faults + 1))).setCell ⟨g, i * 3 + 2, none⟩ (.int .i64 ((S.sts i).restarts + 1))) = W2 at *
  clear t1 t2 t5 d3 d1 c1 c5 s1 s2 f1 w1 w2
  have HCE : Hid _ := HKV.out.cells
  go_loopw [4, 5] (fun cv' iv wr => ∃ (k : Nat) (fa : Option Addr) (fc : Nat) (l : List CellD), iv = .int .i64 k ∧ cv' = .slice fa l.length fc ∧ k ≤ ls.length ∧ Hid (l = (ls.take k).filter (stayC i)) ∧ Hid (wr.ownsRow W2.heap.size 303 3 (.slice fa l.length fc) l.length (l.flatMap clC)) ∧ Hid (Below W2.heap.size W2 wr)) (fun _ iv _ => ls.length - (intOf iv).toNat)
  case atStart => exact ⟨0, none, 0, [], rfl, rfl, by omega, rfl, World.ownsRow_nil _ _ _ _, Below.refl _ _⟩
  case round =>
    obtain ⟨k, fa, fc, l, rfl, rfl, hk, HLS, HFO, HBE⟩ := hrel
    have HLE : Hid (l.length ≤ k) := by show _ ≤ _; rw [HLS.out]; exact filter_le _ _ _
    have e6 := (HBE.out.cell (by exact World.block_lt_of_cell? W2 _ c6)).trans c6
    by_cases hlt : k < ls.length
    · have hlt' : (k : Int) < (ls.length : Int) := by omega
      have hk0 : (0 : Int) ≤ (k : Int) := by omega
      obtain ⟨la2, lc2, hsl, hce⟩ := HCE.out
      obtain ⟨lg, hlg, m0, m1, m2⟩ := hce k hlt
      obtain ⟨rfl, rfl⟩ : la = la2 ∧ lcap = lc2 := by cases hsl; exact ⟨rfl, rfl⟩
      subst hlg
      have n0 := (HBE.out.cell (by exact World.block_lt_of_cell? W2 _ m0)).trans m0
      have n1 := (HBE.out.cell (by exact World.block_lt_of_cell? W2 _ m1)).trans m1
      have n2 := (HBE.out.cell (by exact World.block_lt_of_cell? W2 _ m2)).trans m2
      have HFS : Hid _ := filter_snoc (stayC i) ls hlt
      have hle := HLE.out
      have hsz := HBE.out.size
      have w3 : IntKind.i64.wrap ((k : Int) + 1) = (k : Int) + 1 := wrap_small _ (by omega) (by omega)
      clear m0 m1 m2 hsl hce
      generalize ls[k] = x at *
      by_cases hx : x.p = (i : Int)
      · have hxb : decide (x.p = (i : Int)) = true := decide_eq_true hx
        have HS2 : Hid (l = (ls.take (k + 1)).filter (stayC i)) := by
          show _ = _
          rw [HFS.out, if_neg (by simp [stayC, hx])]; exact HLS.out
        clear HFS
        go_wp2_with fail
        exact ⟨⟨k + 1, fa, fc, l, by go_num, rfl, by omega, HS2, HFO, HBE⟩, by simp [intOf]; omega⟩
      · have hxb : decide (x.p = (i : Int)) = false := decide_eq_false hx
        have HS2 : Hid (l ++ [x] = (ls.take (k + 1)).filter (stayC i)) := by
          show _ = _
          rw [HFS.out, if_pos (by simp [stayC, hx]), HLS.out]
        clear HFS
        go_wp2_with (first
          | (at_builtin; refine wpList_append_lies _ rfl _ _ _ rfl W2.heap.size 303 i0 _ 3 24 Tryz.underlying194 hi0 hz0 hz1 hz2 rfl (by omega) (.slice fa l.length fc) l.length (l.flatMap clC) rfl (HFO.out.alloc _) ⟨wr.heap.size, 0, none⟩ 1 1 [.int .i64 x.p, .int .i64 x.a, .int .i64 x.b] rfl rfl (World.news_of_block (cs := #[.int .i64 x.p, .int .i64 x.a, .int .i64 x.b]) (t := 303) (fr := (0, 0)) (heap_new wr _)) (by simp [Value.oneCell']) (by omega) (by unfold maxLen; omega) (by omega) (by simp; omega) (wr.heap.size + 1) (by simp) ?_; intro g9 c9 V9 hown9 hgrow9 hat9 hlt9)
          | fail)
        have e1 : (l ++ [x]).length = l.length + 1 := by simp
        have e2 : (l ++ [x]).flatMap clC = l.flatMap clC ++ [.int .i64 x.p, .int .i64 x.a, .int .i64 x.b] := by simp [clC]
        refine ⟨⟨k + 1, some ⟨g9, 0, none⟩, c9, l ++ [x], by go_num, by rw [e1], by omega, HS2, ?_, ?_⟩, by simp [intOf]; omega⟩
        · show World.ownsRow _ _ _ _ _ _ _
          rw [e1, e2]
          exact hown9
        · exact (HBE.out.trans ((newB wr _).mono hsz)).grown hgrow9 (Nat.le_trans hsz (newB wr _).size) (fun q hq => (HFO.out.lt q hq).1)
    · have hlt' : ¬ (k : Int) < (ls.length : Int) := by omega
      have hke : k = ls.length := by omega
      subst hke
      have HLS2 : Hid (l = ls.filter (stayC i)) := by show _ = _; rw [HLS.out, List.take_length]
      clear HLS
      have e7 : wr.frozen? ⟨kb, 6, none⟩ = false := frozen_of_blk (keepN HKV.out.ker HBE.out)
      go_wp2_with fail
      have HK3 : Hid (RKv W (wr.setCell ⟨kb, 6, none⟩ (.slice fa l.length fc)) kb (.slice (some ⟨b, off, none⟩) D.parts.length pcap) (.slice ca D.chans.length ccap) qv (.slice (some ⟨g, 0, none⟩) D.parts.length cap) (.slice fa l.length fc) (.slice ma ms.length mcap) D { S2 with mem := (failF D S i).mem } _ l ms) :=
        HKV.out.setCel (Frm.all _ HBE.out) (own_mono HFO.out HKV.out.base.size) rfl rfl rfl (fun q a hq => by
          show (failF D S i).mem q a = _
          rw [HFM.out, HLS2.out, stay_mem, ← HSM.out.1, HKV.out.mem q a hq])
      have HB1 : Hid (Below W2.heap.size W2 wr) := HBE
      have HO1 : Hid _ := HFO
      have c7 : (wr.setCell ⟨kb, 6, none⟩ (.slice fa l.length fc)).cell? ⟨kb, 7, none⟩ = some (.slice ma ms.length mcap) := by rw [cell_of_blk HK3.out.ker]; rfl
      have c2 : (wr.setCell ⟨kb, 6, none⟩ (.slice fa l.length fc)).cell? ⟨kb, 2, none⟩ = some (.slice ca D.chans.length ccap) := by rw [cell_of_blk HK3.out.ker]; rfl
      have HME : Hid _ := HK3.out.msgs
      have HCH : Hid _ := HK3.out.seenC
      have HMR : Hid _ := HK3.out.mr
      have hcl : D.chans.length ≤ 8 := HCL.out
      clear HBE HFO e6 e7 c6
      generalize hW3 : wr.setCell ⟨kb, 6, none⟩ (.slice fa l.length fc) = W3 at *
      generalize wr = w1 at *
      go_loopw [6, 7] (fun cv' iv wr => ∃ (k : Nat) (na : Option Addr) (nc : Nat) (l : List MsgR), iv = .int .i64 k ∧ cv' = .slice na l.length nc ∧ k ≤ ms.length ∧ Hid (l = (ms.take k).filter (stayM D i)) ∧ Hid (wr.ownsRow W3.heap.size 305 3 (.slice na l.length nc) l.length (l.flatMap mgC)) ∧ Hid (Below W3.heap.size W3 wr)) (fun _ iv _ => ms.length - (intOf iv).toNat)
      case atStart => exact ⟨0, none, 0, [], rfl, rfl, by omega, rfl, World.ownsRow_nil _ _ _ _, Below.refl _ _⟩
      case round =>
        obtain ⟨k, na, nc, r, rfl, rfl, hk, HLS, HFO, HBE⟩ := hrel
        have HLE : Hid (r.length ≤ k) := by show _ ≤ _; rw [HLS.out]; exact filter_le _ _ _
        have e7 := (HBE.out.cell (by exact World.block_lt_of_cell? W3 _ c7)).trans c7
        have e2 := (HBE.out.cell (by exact World.block_lt_of_cell? W3 _ c2)).trans c2
        by_cases hlt : k < ms.length
        · have hlt' : (k : Int) < (ms.length : Int) := by omega
          have hk0 : (0 : Int) ≤ (k : Int) := by omega
          obtain ⟨la2, lc2, hsl, hce⟩ := HME.out
          obtain ⟨lg, hlg, m0, m1, m2⟩ := hce k hlt
          obtain ⟨rfl, rfl⟩ : ma = la2 ∧ mcap = lc2 := by cases hsl; exact ⟨rfl, rfl⟩
          subst hlg
          obtain ⟨hmr0, hmr1, _⟩ := HMR.out _ (List.getElem_mem hlt)
          obtain ⟨q, hq⟩ : ∃ q : Nat, ms[k].c = (q : Int) := ⟨ms[k].c.toNat, by omega⟩
          have hq2 : q < D.chans.length := by omega
          obtain ⟨ca2, cc2, hsl2, hcc⟩ := HCH.out
          obtain ⟨cb, coff, hcb, _, _, y2, _⟩ := hcc q hq2
          obtain ⟨rfl, rfl⟩ : ca = ca2 ∧ ccap = cc2 := by cases hsl2; exact ⟨rfl, rfl⟩
          subst hcb
          rw [hq] at m0
          have n0 := (HBE.out.cell (by exact World.block_lt_of_cell? W3 _ m0)).trans m0
          have n1 := (HBE.out.cell (by exact World.block_lt_of_cell? W3 _ m1)).trans m1
          have n2 := (HBE.out.cell (by exact World.block_lt_of_cell? W3 _ m2)).trans m2
          have n3 := (HBE.out.cell (by exact World.block_lt_of_cell? W3 _ y2)).trans y2
          have HFS : Hid _ := filter_snoc (stayM D i) ms hlt
          have HST : Hid (stayM D i ms[k] = decide (¬ D.chans[q].target = (i : Int))) := by
            show _ = _
            unfold stayM
            rw [hq, Int.toNat_natCast, List.getElem?_eq_getElem hq2]
            simp
          have hle := HLE.out
          have hsz := HBE.out.size
          have w3 : IntKind.i64.wrap ((k : Int) + 1) = (k : Int) + 1 := wrap_small _ (by omega) (by omega)
          have hq0 : (0 : Int) ≤ (q : Int) := by omega
          have hq1 : (q : Int) < (D.chans.length : Int) := by omega
          have HMQ : Hid (ms[k].c = (q : Int)) := hq
          clear m0 m1 m2 y2 hsl hce hsl2 hcc hmr0 hmr1 hq
          generalize ms[k] = x at *
          generalize D.chans[q].target = tg at *
          by_cases hx : tg = (i : Int)
          · have hxb : decide (tg = (i : Int)) = true := decide_eq_true hx
            have HS2 : Hid (r = (ms.take (k + 1)).filter (stayM D i)) := by
              show _ = _
              rw [HFS.out, if_neg (by rw [HST.out]; simp [hx])]; exact HLS.out
            clear HFS
            go_wp2_with fail
            go_quiet (fail)
            have BD : Below wr.heap.size wr (wr.drewN nq) := below_drewN (Below.refl _ _) nq
            have HFO2 : Hid ((wr.drewN nq).ownsRow W3.heap.size 305 3 (.slice na r.length nc) r.length (r.flatMap mgC)) := own_stays HFO.out BD
            have HBE2 : Hid (Below W3.heap.size W3 (wr.drewN nq)) := HBE.out.trans (BD.mono hsz)
            have e72 : (wr.drewN nq).cell? ⟨kb, 7, none⟩ = _ := e7
            have n02 : (wr.drewN nq).cell? ⟨lg, k * 3, none⟩ = _ := n0
            have n12 : (wr.drewN nq).cell? ⟨lg, k * 3 + 1, none⟩ = _ := n1
            have n22 : (wr.drewN nq).cell? ⟨lg, k * 3 + 2, none⟩ = _ := n2
            clear e7 e2 n0 n1 n2 n3 HFO HBE BD hsz HLE
            generalize wr.drewN nq = wd at *
            have hsz := HBE2.out.size
            go_wp2_with fail
            exact ⟨⟨k + 1, na, nc, r, by go_num, rfl, by omega, HS2, HFO2, HBE2⟩, by simp [intOf]; omega⟩
          · have hxb : decide (tg = (i : Int)) = false := decide_eq_false hx
            have HS2 : Hid (r ++ [x] = (ms.take (k + 1)).filter (stayM D i)) := by
              show _ = _
              rw [HFS.out, if_pos (by rw [HST.out]; simp [hx]), HLS.out]
            clear HFS
            go_wp2_with fail
            go_quiet (fail)
            have BD : Below wr.heap.size wr (wr.drewN nq) := below_drewN (Below.refl _ _) nq
            have HFO2 : Hid ((wr.drewN nq).ownsRow W3.heap.size 305 3 (.slice na r.length nc) r.length (r.flatMap mgC)) := own_stays HFO.out BD
            have HBE2 : Hid (Below W3.heap.size W3 (wr.drewN nq)) := HBE.out.trans (BD.mono hsz)
            have e72 : (wr.drewN nq).cell? ⟨kb, 7, none⟩ = _ := e7
            have n02 : (wr.drewN nq).cell? ⟨lg, k * 3, none⟩ = _ := n0
            have n12 : (wr.drewN nq).cell? ⟨lg, k * 3 + 1, none⟩ = _ := n1
            have n22 : (wr.drewN nq).cell? ⟨lg, k * 3 + 2, none⟩ = _ := n2
            clear e7 e2 n0 n1 n2 n3 HFO HBE BD hsz HLE
            generalize wr.drewN nq = wd at *
            have hsz := HBE2.out.size
            go_wp2_with (first
              | (at_builtin; refine wpList_append_lies _ rfl _ _ _ rfl W3.heap.size 305 j0 _ 3 32 Tryz.underlying195 hj0 hy0 hy1 hy2 rfl (by omega) (.slice na r.length nc) r.length (r.flatMap mgC) rfl (HFO2.out.alloc _) ⟨wd.heap.size, 0, none⟩ 1 1 [.int .i64 q, .string x.text, .int .i64 x.time] rfl rfl (World.news_of_block (cs := #[.int .i64 q, .string x.text, .int .i64 x.time]) (t := 305) (fr := (0, 0)) (heap_new wd _)) (by simp [Value.oneCell']) (by omega) (by unfold maxLen; omega) (by omega) (by simp; omega) (wd.heap.size + 1) (by simp) ?_; intro g9 c9 V9 hown9 hgrow9 hat9 hlt9)
              | fail)
            have e1 : (r ++ [x]).length = r.length + 1 := by simp
            have e3 : (r ++ [x]).flatMap mgC = r.flatMap mgC ++ [.int .i64 q, .string x.text, .int .i64 x.time] := by rw [← HMQ.out]; simp [mgC]
            refine ⟨⟨k + 1, some ⟨g9, 0, none⟩, c9, r ++ [x], by go_num, by rw [e1], by omega, HS2, ?_, ?_⟩, by simp [intOf]; omega⟩
            · show World.ownsRow _ _ _ _ _ _ _
              rw [e1, e3]
              exact hown9
            · exact (HBE2.out.trans ((newB wd _).mono hsz)).grown hgrow9 (Nat.le_trans hsz (newB wd _).size) (fun q hq => (HFO2.out.lt q hq).1)
        · have hlt' : ¬ (k : Int) < (ms.length : Int) := by omega
          have hke : k = ms.length := by omega
          subst hke
          have HLS3 : Hid (r = ms.filter (stayM D i)) := by show _ = _; rw [HLS.out, List.take_length]
          have e8 : wr.frozen? ⟨kb, 7, none⟩ = false := frozen_of_blk (keepN HK3.out.ker HBE.out)
          clear HLS
          go_wp2_with fail
          go_end0
          refine ⟨rfl, ?_⟩
          obtain ⟨rfl⟩ := HLS2
          obtain ⟨rfl⟩ := HLS3
          subst hW3
          exact fail3_end HSZ.out HFR.out HB1.out HO1.out HK3.out HBE.out HFO.out HT.out.symm HSS.out rfl (fun c hc => by rw [HFC.out]; show _ = if _ then [] else S2.chs c; rw [HSM.out.2])
end
end Go.Proofs.YteioennfpkoagaaGreatDoor.C
namespace Go.Proofs.YteioennfpkoagaaGreatDoor.C
open Go.RowKit K
attribute [local go_sem ↓] Go.wp_at_zero Go.wp_at_succ

def st0 : StD := ⟨false, 0, 0⟩
theorem infoState : (Tryz.prog.info? 76).map (fun i => (i.zero, i.size, i.bytes)) = some (some (.agg #[.bool false, .int .i64 0, .int .i64 0]), 3, 24) := by kernel_rfl
theorem made_states (n : Nat) : madeCells #[Value.bool false, .int .i64 0, .int .i64 0] (n * 3) = ((List.replicate n st0).flatMap stC).toArray := by
  apply Array.ext_getElem?
  intro i
  obtain ⟨a, b, hb, rfl⟩ : ∃ a b, b < 3 ∧ i = a * 3 + b := ⟨i / 3, i % 3, by omega, by omega⟩
  simp only [madeCells, List.getElem?_toArray, Array.getElem?_map, Array.getElem?_range]
  rw [flat3 stC (fun _ => rfl) _ a b hb, List.getElem?_replicate]
  have e : (a * 3 + b) % 3 = b := by omega
  by_cases h : a < n
  · rw [if_pos h, if_pos (by omega)]
    have : b = 0 ∨ b = 1 ∨ b = 2 := by omega
    rcases this with rfl | rfl | rfl <;> simp [stC, st0, e]
  · rw [if_neg h, if_neg (by omega)]
    rfl
theorem make_states (w : World) (c : Nat) (hc : c ≤ 2000000) :
    (Instr.makeSlice 193 (.int .i64 (c : Int)) (.int .i64 (c : Int))).run Tryz.prog w = .ok (.slice (some ⟨w.heap.size, 0, none⟩) c c) (w.alloc (.cells ((List.replicate c st0).flatMap stC).toArray 76)) := by
  obtain ⟨i, hi, hz, hs, hby⟩ := parts_int infoState
  have hbi : (i.bytes : Int) * (c : Int) ≤ 281474976710656 := by rw [hby]; omega
  have hr := run_make (P := Tryz.prog) w 193 76 i (.agg #[.bool false, .int .i64 0, .int .i64 0]) Tryz.underlying193 hi hz .i64 .i64 c c (by omega) (by omega) hbi (by omega)
  simp only [Int.toNat_natCast, hs] at hr
  rw [show (Value.agg #[Value.bool false, .int .i64 0, .int .i64 0]).cells = #[Value.bool false, .int .i64 0, .int .i64 0] from rfl, made_states] at hr
  exact hr
/- the kernel as it is booted -/
theorem boot_rkd {w0 w : World} {kb : Nat} {f : Int} {ps : List PartD} {cs : List ChanD} {pv cv qv sv : Value} (hb : Below w0.heap.size w0 w) (hp : PartsV w0 pv ps) (hc : ChansV w0 cv cs) (hz : checkF ⟨f, ps, cs⟩ = 0) (hlo : w0.heap.size ≤ kb)
    (hk : w.heap[kb]? = some (.cells #[.int .i64 f, pv, cv, qv, .int .i64 0, sv, .slice none 0 0, .slice none 0 0] 197))
    (hq : w.ownsRow w0.heap.size 3 1 qv (planF ⟨f, ps, cs⟩).length (intsC (planF ⟨f, ps, cs⟩))) (hs : w.ownsRow w0.heap.size 76 3 sv ps.length ((List.replicate ps.length st0).flatMap stC)) :
    RKd w0 w kb pv cv ⟨f, ps, cs⟩ bootK 0 (RKo kb qv sv (.slice none 0 0) (.slice none 0 0)) :=
  ⟨hz, OneS.boot _, qv, sv, .slice none 0 0, .slice none 0 0, List.replicate ps.length st0, [], [], ⟨hb, hp, hc, hlo, hk, hq, hs, World.ownsRow_nil _ _ _ _, World.ownsRow_nil _ _ _ _, by simp, fun i h => by simp [bootK, st0], fun _ _ _ => rfl, fun _ _ => rfl, fun m hm => by cases hm⟩, Nat.le_refl _, Nat.le_refl _, fun _ => Iff.rfl⟩
set_option maxRecDepth 100000 in
set_option maxHeartbeats 4000000 in
theorem rboot_any (f : Int) (ps : List PartD) (cs : List ChanD) (pv cv : Value) (w : World) (hp : PartsV w pv ps) (hc : ChansV w cv cs) (hz : checkF ⟨f, ps, cs⟩ = 0) :
    Calls Tryz.prog 98 #[.agg #[.int .i64 f, pv, cv]] w fun e w' => ∃ kb o, e = .returned (ptrV kb) ∧ RKd w w' kb pv cv ⟨f, ps, cs⟩ bootK 0 o := by
  have hn : ps.length ≤ 8 := (check_ok hz).2.2.1
  have HP : Hid (PartsV w pv ps) := hp
  have HC : Hid (ChansV w cv cs) := hc
  have HZ : Hid (checkF ⟨f, ps, cs⟩ = 0) := hz
  obtain ⟨va, cap, rfl, hx⟩ := hp
  clear hx
  obtain ⟨ca, ck, rfl, hx⟩ := hc
  clear hx hz
  have b0 := newB w (.cells #[.int .i64 f, .slice va ps.length cap, .slice ca cs.length ck] 34)
  have h0 := heap_new w (.cells #[.int .i64 f, .slice va ps.length cap, .slice ca cs.length ck] 34)
  go_enter Tryz.func98, Tryz.ntmps98
  go_wp2_with fail
  generalize w.alloc (.cells #[.int .i64 f, .slice va ps.length cap, .slice ca cs.length ck] 34) = W0 at *
  refine (refPlan_any f ps cs _ _ W0 (PartsV.below HP.out b0) (ChansV.below HC.out b0) (by omega)).mono ?_
  intro e w1 hor
  rcases hor with ⟨hne, _⟩ | ⟨_, hb1, v, rfl, hown⟩
  · exact absurd HZ.out hne
  have h1 := keepN h0 hb1
  have HB1 : Hid (Below w.heap.size w w1) := b0.trans (hb1.mono b0.size)
  have HOW : Hid (w1.ownsRow w.heap.size 3 1 v (planF ⟨f, ps, cs⟩).length (intsC (planF ⟨f, ps, cs⟩))) := own_mono hown b0.size
  obtain ⟨qa, qc, rfl⟩ := own_shapeT hown
  have y0 : w1.cell? ⟨w.heap.size, 0, none⟩ = some (.int .i64 f) := by rw [cell_of_blk h1]; rfl
  have y1 : w1.cell? ⟨w.heap.size, 1, none⟩ = some (.slice va ps.length cap) := by rw [cell_of_blk h1]; rfl
  have y2 : w1.cell? ⟨w.heap.size, 2, none⟩ = some (.slice ca cs.length ck) := by rw [cell_of_blk h1]; rfl
  have hms := make_states w1.drew ps.length (by omega)
  have hdz : w1.drew.heap.size = w1.heap.size := rfl
  rw [hdz] at hms
  have z0 : ∀ o, (w1.alloc o).cell? ⟨w.heap.size, 0, none⟩ = some (.int .i64 f) := fun o => by rw [cell_of_blk (heap_old _ o h1)]; rfl
  have z1 : ∀ o, (w1.alloc o).cell? ⟨w.heap.size, 1, none⟩ = some (.slice va ps.length cap) := fun o => by rw [cell_of_blk (heap_old _ o h1)]; rfl
  have z2 : ∀ o, (w1.alloc o).cell? ⟨w.heap.size, 2, none⟩ = some (.slice ca cs.length ck) := fun o => by rw [cell_of_blk (heap_old _ o h1)]; rfl
  have HFB : Hid (∃ o, RKd w ((w1.alloc (.cells ((List.replicate ps.length st0).flatMap stC).toArray 76)).alloc (.cells #[.int .i64 f, .slice va ps.length cap, .slice ca cs.length ck, .slice qa (planF ⟨f, ps, cs⟩).length qc, .int .i64 0, .slice (some ⟨w1.heap.size, 0, none⟩) ps.length ps.length, .slice none 0 0, .slice none 0 0] 197)).drew (w1.heap.size + 1) (.slice va ps.length cap) (.slice ca cs.length ck) ⟨f, ps, cs⟩ bootK 0 o) := by
    have n1 := newB w1 (.cells ((List.replicate ps.length st0).flatMap stC).toArray 76)
    have n2 := newB (w1.alloc (.cells ((List.replicate ps.length st0).flatMap stC).toArray 76)) (.cells #[.int .i64 f, .slice va ps.length cap, .slice ca cs.length ck, .slice qa (planF ⟨f, ps, cs⟩).length qc, .int .i64 0, .slice (some ⟨w1.heap.size, 0, none⟩) ps.length ps.length, .slice none 0 0, .slice none 0 0] 197)
    have nk := heap_new (w1.alloc (.cells ((List.replicate ps.length st0).flatMap stC).toArray 76)) (.cells #[.int .i64 f, .slice va ps.length cap, .slice ca cs.length ck, .slice qa (planF ⟨f, ps, cs⟩).length qc, .int .i64 0, .slice (some ⟨w1.heap.size, 0, none⟩) ps.length ps.length, .slice none 0 0, .slice none 0 0] 197)
    have e1 : (w1.alloc (.cells ((List.replicate ps.length st0).flatMap stC).toArray 76)).heap.size = w1.heap.size + 1 := by simp
    rw [e1] at nk
    have n12 := n1.trans (n2.mono n1.size)
    have hsz := HB1.out.size
    have hst := World.ownsRow_lit (base := w.heap.size) (e := 76) (size := 3) w1 ((List.replicate ps.length st0).flatMap stC).toArray ps.length hsz (by unfold maxLen; omega) (by simp [flat3_len stC (fun _ => rfl)])
    exact ⟨_, boot_rkd (below_drewN (HB1.out.trans (n12.mono hsz)) 1) HP.out HC.out HZ.out (by omega) nk (own_stays HOW.out (below_drewN n12 1)) (own_stays hst (below_drewN n2 1))⟩
  clear hown b0 h0 hb1 h1 HOW hdz
  generalize (planF ⟨f, ps, cs⟩).length = pn at *
  go_wp2_with fail
  go_region_law (fail)
  all_goals go_wp2_with fail
  all_goals go_ret
  all_goals (obtain ⟨o, ho⟩ := HFB.out; exact ⟨_, o, rfl, ho⟩)
end Go.Proofs.YteioennfpkoagaaGreatDoor.C
