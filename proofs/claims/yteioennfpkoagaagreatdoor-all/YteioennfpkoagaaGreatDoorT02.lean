import Derived.Test.YteioennfpkoagaaGreatDoorT01
import Derived.Test.YteioennfpkoagaaGreatDoorB17
namespace Go.Proofs.YteioennfpkoagaaGreatDoor.C
open Go.RowKit K
attribute [local go_sem ↓] Go.wp_at_zero Go.wp_at_succ

theorem flat3 {α β : Type} (f : α → List β) (hf : ∀ x, (f x).length = 3) : ∀ (l : List α) (i j : Nat), j < 3 → (l.flatMap f)[i * 3 + j]? = (l[i]?).bind fun x => (f x)[j]?
  | [], _, _, _ => by simp
  | x :: l, 0, j, hj => by
    rw [List.flatMap_cons, List.getElem?_append_left (by rw [hf]; omega)]
    simp
  | x :: l, i + 1, j, hj => by
    rw [List.flatMap_cons, List.getElem?_append_right (by rw [hf]; omega), hf]
    have e : (i + 1) * 3 + j - 3 = i * 3 + j := by omega
    rw [e, flat3 f hf l i j hj]
    simp
def stC (s : StD) : List Value := [.bool s.stopped, .int .i64 s.faults, .int .i64 s.restarts]
def clC (x : CellD) : List Value := [.int .i64 x.p, .int .i64 x.a, .int .i64 x.b]
def mgC (m : MsgR) : List Value := [.int .i64 m.c, .string m.text, .int .i64 (m.time : Int)]
/- the reference's kernel as it lies: its own blocks from B on; the manifest is seen in W, whose blocks all lie below B -/
structure RKv (W w : World) (kb : Nat) (pv cv qv sv lv mv : Value) (D : ManD) (S : KS) (ss : List StD) (ls : List CellD) (ms : List MsgR) : Prop where
  base : Below W.heap.size W w
  parts : PartsV W pv D.parts
  chans : ChansV W cv D.chans
  lo : W.heap.size ≤ kb
  ker : w.heap[kb]? = some (.cells #[.int .i64 D.frame, pv, cv, qv, .int .i64 (S.time : Int), sv, lv, mv] 197)
  pln : w.ownsRow W.heap.size 3 1 qv (planF D).length (intsC (planF D))
  sts : w.ownsRow W.heap.size 76 3 sv D.parts.length (ss.flatMap stC)
  cel : w.ownsRow W.heap.size 303 3 lv ls.length (ls.flatMap clC)
  msg : w.ownsRow W.heap.size 305 3 mv ms.length (ms.flatMap mgC)
  slen : ss.length = D.parts.length
  sst : ∀ i (h : i < ss.length), ss[i] = S.sts i
  mem : ∀ p a, p < D.parts.length → S.mem p a = memOf ls p a
  chs : ∀ c, c < D.chans.length → S.chs c = chsOf ms c
  mr : ∀ m ∈ ms, 0 ≤ m.c ∧ m.c < D.chans.length ∧ m.time ≤ S.time
section
variable {W w w' : World} {kb : Nat} {pv cv qv sv lv mv : Value} {D : ManD} {S : KS} {ss : List StD} {ls : List CellD} {ms : List MsgR}
theorem RKv.below (h : RKv W w kb pv cv qv sv lv mv D S ss ls ms) (hb : Below w.heap.size w w') : RKv W w' kb pv cv qv sv lv mv D S ss ls ms :=
  ⟨h.base.trans (hb.mono h.base.size), h.parts, h.chans, h.lo, keepN h.ker hb, own_stays h.pln hb, own_stays h.sts hb, own_stays h.cel hb, own_stays h.msg hb, h.slen, h.sst, h.mem, h.chs, h.mr⟩
theorem RKv.state (h : RKv W w kb pv cv qv sv lv mv D S ss ls ms) : ∃ va cap, sv = .slice va D.parts.length cap ∧ ∀ i, i < D.parts.length → ∃ g, va = some ⟨g, 0, none⟩ ∧ w.cell? ⟨g, i * 3, none⟩ = some (.bool (S.sts i).stopped) ∧ w.cell? ⟨g, i * 3 + 1, none⟩ = some (.int .i64 (S.sts i).faults) ∧ w.cell? ⟨g, i * 3 + 2, none⟩ = some (.int .i64 (S.sts i).restarts) := by
  rcases own_form h.sts with ⟨h0, rfl⟩ | ⟨g, cap, rfl, _⟩
  · exact ⟨none, 0, by rw [h0], fun i hi => absurd hi (by omega)⟩
  · refine ⟨some ⟨g, 0, none⟩, cap, rfl, fun i hi => ⟨g, rfl, ?_⟩⟩
    have hi2 : i < ss.length := by have := h.slen; omega
    have hc : ∀ j, j < 3 → w.cell? ⟨g, i * 3 + j, none⟩ = (stC (S.sts i))[j]? := fun j hj => by
      rw [World.ownsRow.cellAt h.sts (i * 3 + j) (by omega), flat3 stC (fun _ => rfl) ss i j hj, List.getElem?_eq_getElem hi2, h.sst i hi2]
      rfl
    exact ⟨hc 0 (by omega), hc 1 (by omega), hc 2 (by omega)⟩
theorem RKv.plan (h : RKv W w kb pv cv qv sv lv mv D S ss ls ms) (hp : 1 ≤ (planF D).length) : ∃ g cap, qv = .slice (some ⟨g, 0, none⟩) (planF D).length cap ∧ ∀ t, t < (planF D).length → w.cell? ⟨g, t, none⟩ = some (.int .i64 ((planF D).getD t 0)) := by
  rcases own_form h.pln with ⟨h0, rfl⟩ | ⟨g, cap, rfl, _⟩
  · omega
  · refine ⟨g, cap, rfl, fun t ht => ?_⟩
    rw [World.ownsRow.cellAt h.pln t (by omega)]
    simp [intsC, List.getD, List.getElem?_eq_getElem ht]
set_option maxRecDepth 100000 in
set_option maxHeartbeats 2000000 in
theorem rturn_any (hz : checkF D = 0) (h : RKv W w kb pv cv qv sv lv mv D S ss ls ms) (hs : SmallK bigK S) (p : Int) (hp : inR p) :
    Calls Tryz.prog 158 #[ptrV kb, .int .i64 p] w fun e w' => e = .returned (.int .i64 (turnF D S p)) ∧ Below w.heap.size w w' := by
  have hn : D.parts.length ≤ 8 := (check_ok hz).2.2.1
  obtain ⟨hl, hl1, hl2, hwho, hlt⟩ := who_plan (S := S) hz
  obtain ⟨va, cap, rfl, hst⟩ := h.state
  obtain ⟨g, pcap, rfl, hpl⟩ := h.plan hl1
  have ct := hpl _ hlt
  rw [hwho] at ct
  have c3 : w.cell? ⟨kb, 3, none⟩ = some (.slice (some ⟨g, 0, none⟩) (planF D).length pcap) := by rw [cell_of_blk h.ker]; rfl
  have c4 : w.cell? ⟨kb, 4, none⟩ = some (.int .i64 (S.time : Int)) := by rw [cell_of_blk h.ker]; rfl
  have c5 : w.cell? ⟨kb, 5, none⟩ = some (.slice va D.parts.length cap) := by rw [cell_of_blk h.ker]; rfl
  have HT : Hid (turnF D S p = if p < 0 ∨ (D.parts.length : Int) ≤ p then 19 else if (S.sts p.toNat).stopped = true then 20 else if whoF D S ≠ p then 21 else 0) := rfl
  have HST : Hid _ := hst
  clear hpl hst h hwho hz hl
  generalize whoF D S = wv at *
  obtain ⟨hp1, hp2⟩ := hp
  unfold ptrV at *
  by_cases h0 : p < 0
  · go_enter Tryz.func158, Tryz.ntmps158
    go_wp2_with fail
    go_ret
    exact ⟨by rw [HT.out, if_pos (.inl h0)]; rfl, Below.refl _ _⟩
  · by_cases h1 : (D.parts.length : Int) ≤ p
    · go_enter Tryz.func158, Tryz.ntmps158
      go_wp2_with fail
      go_ret
      exact ⟨by rw [HT.out, if_pos (.inr h1)]; rfl, Below.refl _ _⟩
    · obtain ⟨i, rfl⟩ : ∃ i : Nat, p = i := ⟨p.toNat, by omega⟩
      have hi : i < D.parts.length := by omega
      obtain ⟨gb, rfl, s0, _, _⟩ := HST.out i hi
      have HT2 : Hid (turnF D S i = if (S.sts i).stopped = true then 20 else if wv ≠ i then 21 else 0) := by
        show _ = _
        rw [HT.out, if_neg (by omega), Int.toNat_natCast]
      clear HST HT
      generalize (S.sts i).stopped = st at *
      have hi0 : (0 : Int) ≤ (i : Int) := by omega
      have hi1 : (i : Int) < (D.parts.length : Int) := by omega
      generalize hk : S.time % (planF D).length = k at *
      have HK : Hid ((S.time : Int) % ((planF D).length : Int) = (k : Int)) := by
        show _ = _
        rw [← hk]; omega
      clear hk
      have hk0 : (0 : Int) ≤ (k : Int) := by omega
      have hk1 : (k : Int) < ((planF D).length : Int) := by omega
      have htm : S.time ≤ 4611686018427387904 := hs.time
      clear hs
      generalize (planF D).length = plen at *
      generalize S.time = tm at *
      have hm0 : ¬ (plen : Int) = 0 := by omega
      have hmod : (tm : Int) % (plen : Int) = (k : Int) := HK.out
      have hm : Int.tmod (tm : Int) (plen : Int) = (k : Int) := by rw [Int.tmod_eq_emod_of_nonneg (by omega)]; exact HK.out
      have hw2 : IntKind.i64.wrap (k : Int) = (k : Int) := wrap_small _ (by omega) (by omega)
      clear HK
      have hm1 : ((plen : Int) == 0) = false := by simpa using hm0
      have hm2 : decide ((plen : Int) = 0) = false := by simpa using hm0
      cases st
      · by_cases hwn : wv = (i : Int)
        · subst hwn
          go_enter Tryz.func158, Tryz.ntmps158
          go_wp2_with fail
          go_quiet (fail)
          go_wp2_with fail
          go_ret
          exact ⟨by rw [HT2.out]; simp, below_drewN (Below.refl _ _) _⟩
        · have hwb : decide (wv = (i : Int)) = false := by simpa using hwn
          go_enter Tryz.func158, Tryz.ntmps158
          go_wp2_with fail
          go_quiet (fail)
          go_wp2_with fail
          go_ret
          exact ⟨by rw [HT2.out]; simp [hwn], below_drewN (Below.refl _ _) _⟩
      · go_enter Tryz.func158, Tryz.ntmps158
        go_wp2_with fail
        go_ret
        exact ⟨by rw [HT2.out]; simp, Below.refl _ _⟩
end
end Go.Proofs.YteioennfpkoagaaGreatDoor.C
namespace Go.Proofs.YteioennfpkoagaaGreatDoor.C
open Go.RowKit K
attribute [local go_sem ↓] Go.wp_at_zero Go.wp_at_succ

section
variable {W w w' : World} {kb : Nat} {pv cv qv sv lv mv : Value} {D : ManD} {S : KS} {ss : List StD} {ls : List CellD} {ms : List MsgR}
set_option maxRecDepth 100000 in
set_option maxHeartbeats 2000000 in
theorem rrunning_any (hz : checkF D = 0) (h : RKv W w kb pv cv qv sv lv mv D S ss ls ms) (hs : SmallK bigK S) :
    Calls Tryz.prog 157 #[ptrV kb] w fun e w' => e = .returned (.int .i64 (runF D S)) ∧ Below w.heap.size w w' := by
  have hn : D.parts.length ≤ 8 := (check_ok hz).2.2.1
  obtain ⟨hl, hl1, hl2, hwho, hlt⟩ := who_plan (S := S) hz
  obtain ⟨va, cap, rfl, hst⟩ := h.state
  obtain ⟨g, pcap, rfl, hpl⟩ := h.plan hl1
  have ct := hpl _ hlt
  rw [hwho] at ct
  have c3 : w.cell? ⟨kb, 3, none⟩ = some (.slice (some ⟨g, 0, none⟩) (planF D).length pcap) := by rw [cell_of_blk h.ker]; rfl
  have c4 : w.cell? ⟨kb, 4, none⟩ = some (.int .i64 (S.time : Int)) := by rw [cell_of_blk h.ker]; rfl
  have c5 : w.cell? ⟨kb, 5, none⟩ = some (.slice va D.parts.length cap) := by rw [cell_of_blk h.ker]; rfl
  have d5 : w.drew.cell? ⟨kb, 5, none⟩ = some (.slice va D.parts.length cap) := c5
  have hin : -1 ≤ whoF D S ∧ whoF D S < D.parts.length := tick_in D.parts _
  have HR : Hid (runF D S = if 0 ≤ whoF D S ∧ (S.sts (whoF D S).toNat).stopped = true then -1 else whoF D S) := rfl
  have HST : Hid _ := hst
  clear hpl hst h hwho hz hl
  generalize whoF D S = wv at *
  have htm : S.time ≤ 4611686018427387904 := hs.time
  clear hs
  generalize hk : S.time % (planF D).length = k at *
  have hmod : (S.time : Int) % ((planF D).length : Int) = (k : Int) := by rw [← hk]; omega
  clear hk
  generalize (planF D).length = plen at *
  generalize S.time = tm at *
  have hk0 : (0 : Int) ≤ (k : Int) := by omega
  have hk1 : (k : Int) < (plen : Int) := by omega
  have hm0 : ¬ (plen : Int) = 0 := by omega
  have hm : Int.tmod (tm : Int) (plen : Int) = (k : Int) := by rw [Int.tmod_eq_emod_of_nonneg (by omega)]; exact hmod
  have hw2 : IntKind.i64.wrap (k : Int) = (k : Int) := wrap_small _ (by omega) (by omega)
  unfold ptrV at *
  by_cases hw : wv = -1
  · subst hw
    go_enter Tryz.func157, Tryz.ntmps157
    go_wp2_with fail
    go_quiet (fail)
    go_wp2_with fail
    go_ret
    exact ⟨by rw [HR.out]; simp, below_drewN (Below.refl _ _) _⟩
  · obtain ⟨i, rfl⟩ : ∃ i : Nat, wv = i := ⟨wv.toNat, by omega⟩
    have hi : i < D.parts.length := by omega
    have hi1 : (i : Int) < (D.parts.length : Int) := by omega
    have hi0 : (0 : Int) ≤ (i : Int) := by omega
    obtain ⟨gb, rfl, s0, _, _⟩ := HST.out i hi
    have t0 : w.drew.cell? ⟨gb, i * 3, none⟩ = some (.bool (S.sts i).stopped) := s0
    have HR2 : Hid (runF D S = if (S.sts i).stopped = true then -1 else (i : Int)) := by
      show _ = _
      rw [HR.out, Int.toNat_natCast]
      by_cases hst : (S.sts i).stopped = true
      · rw [if_pos ⟨hi0, hst⟩, if_pos hst]
      · rw [if_neg (fun e => hst e.2), if_neg hst]
    clear HST HR
    generalize (S.sts i).stopped = st at *
    cases st
    · go_enter Tryz.func157, Tryz.ntmps157
      go_wp2_with fail
      go_quiet (fail)
      go_wp2_with fail
      go_ret
      exact ⟨by rw [HR2.out]; simp, below_drewN (Below.refl _ _) _⟩
    · go_enter Tryz.func157, Tryz.ntmps157
      go_wp2_with fail
      go_quiet (fail)
      go_wp2_with fail
      go_ret
      exact ⟨by rw [HR2.out]; simp, below_drewN (Below.refl _ _) _⟩
end
end Go.Proofs.YteioennfpkoagaaGreatDoor.C
namespace Go.Proofs.YteioennfpkoagaaGreatDoor.C
open Go.RowKit K
attribute [local go_sem ↓] Go.wp_at_zero Go.wp_at_succ

section
variable {W w w' : World} {kb : Nat} {pv cv qv sv lv mv : Value} {D : ManD} {S : KS} {ss : List StD} {ls : List CellD} {ms : List MsgR}
theorem RKv.seenP (h : RKv W w kb pv cv qv sv lv mv D S ss ls ms) : PartsV w pv D.parts := h.parts.below h.base
theorem RKv.seenC (h : RKv W w kb pv cv qv sv lv mv D S ss ls ms) : ChansV w cv D.chans := h.chans.below h.base
set_option maxRecDepth 100000 in
set_option maxHeartbeats 4000000 in
theorem rrights_any (hz : checkF D = 0) (h : RKv W w kb pv cv qv sv lv mv D S ss ls ms) (i : Nat) (hi : i < D.parts.length) (a : Int) (ha : inR a) :
    Calls Tryz.prog 211 #[ptrV kb, .int .i64 i, .int .i64 a] w fun e w' => e = .returned (.int .i64 (rightsF (regsAt D i) a)) ∧ Below w.heap.size w w' := by
  have hn : D.parts.length ≤ 8 := (check_ok hz).2.2.1
  have hpg := part_good hz hi
  obtain ⟨va, cap, rfl, hps⟩ := h.seenP
  obtain ⟨b, off, rv, rfl, x0, x1, x2, x3, x4, xr⟩ := hps i hi
  obtain ⟨ra, rc, rfl, hrg⟩ := xr
  have c1 : w.cell? ⟨kb, 1, none⟩ = some (.slice (some ⟨b, off, none⟩) D.parts.length cap) := by rw [cell_of_blk h.ker]; rfl
  have HRA : Hid (regsAt D i = D.parts[i].regs) := by show _ = _; simp [regsAt, List.getElem?_eq_getElem hi]
  have hrl : D.parts[i].regs.length ≤ 4 := hpg.2.2.1
  have HG : Hid (∀ j (hj : j < D.parts[i].regs.length), RegG D.parts[i].regs[j]) := fun j hj => regG_of (hpg.2.1.1 _ (List.getElem_mem hj))
  have HRG : Hid _ := hrg
  rw [HRA.out]
  have hi0 : (0 : Int) ≤ (i : Int) := by omega
  have hi1 : (i : Int) < (D.parts.length : Int) := by omega
  clear hpg hps x0 x1 x2 x3 hrg h HRA hz
  generalize D.parts[i].regs = rs at *
  generalize D.parts.length = pn at *
  unfold ptrV at *
  obtain ⟨ha1, ha2⟩ := ha
  go_enter Tryz.func211, Tryz.ntmps211
  go_wp2_with fail
  go_loopw [8] (fun v wr => ∃ (k : Nat), v = .int .i64 k ∧ k ≤ rs.length ∧ Hid (rightsF rs a = rightsF (rs.drop k) a) ∧ Below w.heap.size w wr) (fun v _ => rs.length - (intOf v).toNat)
  case atStart => exact ⟨0, rfl, by omega, rfl, Below.refl _ _⟩
  case round =>
    obtain ⟨k, rfl, hk, HK, hbel⟩ := hrel
    by_cases hlt : k < rs.length
    · have hlt' : (k : Int) < (rs.length : Int) := by omega
      have hk0 : (0 : Int) ≤ (k : Int) := by omega
      have HD : Hid (rightsF (rs.drop k) a = if hitA rs[k] a then rs[k].rights else rightsF (rs.drop (k + 1)) a) := by
        show _ = _
        rw [List.drop_eq_getElem_cons hlt, rights_cons]
      have hg := HG.out k hlt
      obtain ⟨g, roff, rfl, r0, r1, r2⟩ := HRG.out k hlt
      have d0 := (hbel.cell (by exact World.block_lt_of_cell? w _ r0)).trans r0
      have d1 := (hbel.cell (by exact World.block_lt_of_cell? w _ r1)).trans r1
      have d2 := (hbel.cell (by exact World.block_lt_of_cell? w _ r2)).trans r2
      have HBE : Hid (Below w.heap.size w wr) := hbel
      clear r0 r1 r2 hbel
      generalize rs[k] = r at *
      have hp := hg.page
      have hq := hg.pages
      clear hg
      have w1 : IntKind.i64.wrap (64 * r.page) = 64 * r.page := wrap_small _ (by omega) (by omega)
      have w2 : IntKind.i64.wrap (r.page + r.pages) = r.page + r.pages := wrap_small _ (by omega) (by omega)
      have w3 : IntKind.i64.wrap (64 * (r.page + r.pages)) = 64 * (r.page + r.pages) := wrap_small _ (by omega) (by omega)
      by_cases h1 : 64 * r.page ≤ a
      · by_cases h2 : a < 64 * (r.page + r.pages)
        · have hx : rightsF rs a = r.rights := by rw [HK.out, HD.out, if_pos (by exact ⟨h1, h2⟩)]
          have HX : Hid (rightsF rs a = r.rights) := hx
          clear hx HD HK
          have g1 : decide (64 * r.page ≤ a) = true := decide_eq_true h1
          have g2 : decide (a < 64 * (r.page + r.pages)) = true := decide_eq_true h2
          go_wp2_with fail
          go_quiet (fail)
          go_wp2_with fail
          go_ret
          exact ⟨by rw [HX.out]; rfl, below_drewN HBE.out _⟩
        · have HX : Hid (rightsF rs a = rightsF (rs.drop (k + 1)) a) := by show _ = _; rw [HK.out, HD.out, if_neg (by intro e; exact h2 e.2)]
          clear HD HK
          have g1 : decide (64 * r.page ≤ a) = true := decide_eq_true h1
          have g2 : decide (a < 64 * (r.page + r.pages)) = false := decide_eq_false h2
          go_wp2_with fail
          go_quiet (fail)
          go_wp2_with fail
          exact ⟨⟨k + 1, by go_num, by omega, HX, below_drewN HBE.out _⟩, by simp [intOf]; omega⟩
      · have HX : Hid (rightsF rs a = rightsF (rs.drop (k + 1)) a) := by show _ = _; rw [HK.out, HD.out, if_neg (by intro e; exact h1 e.1)]
        clear HD HK
        have g1 : decide (64 * r.page ≤ a) = false := decide_eq_false h1
        go_wp2_with fail
        go_quiet (fail)
        go_wp2_with fail
        exact ⟨⟨k + 1, by go_num, by omega, HX, below_drewN HBE.out _⟩, by simp [intOf]; omega⟩
    · have hlt' : ¬ (k : Int) < (rs.length : Int) := by omega
      go_wp2_with fail
      go_ret
      refine ⟨?_, hbel⟩
      rw [HK.out, List.drop_of_length_le (by omega)]
      rfl
end
end Go.Proofs.YteioennfpkoagaaGreatDoor.C
