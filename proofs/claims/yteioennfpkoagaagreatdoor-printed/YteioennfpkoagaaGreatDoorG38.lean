import Derived.Test.YteioennfpkoagaaGreatDoorG28
import Derived.Test.YteioennfpkoagaaGreatDoorG37
import Derived.Test.YteioennfpkoagaaGreatDoorG08
namespace Go.Proofs.YteioennfpkoagaaGreatDoor.C
open Go.RowKit
attribute [local go_sem ↓] Go.wp_at_zero Go.wp_at_succ

/- what a made manifest is -/
structure MadeOK (M : ManD) : Prop where
  ok : ManOK M
  chk : checkF M = 0
  ne : M.parts ≠ []
  np : M.parts.length ≤ 6
  nr : ∀ x ∈ M.parts, x.regs.length ≤ 2
  nc : M.chans.length ≤ 7
def MadeC : Prop := ∀ (w : World) (v : Value) (L : List Int), IntsV w v L →
  Calls Tryz.prog 16 #[v] w fun e w' => ∃ M pv cv, e = .returned (.agg #[.int .i64 M.frame, pv, cv]) ∧ PartsV w' pv M.parts ∧ ChansV w' cv M.chans ∧ PartsC w' pv M.parts.length ∧ capV cv ∧ MadeOK M ∧ Below w.heap.size w w'
theorem TxtP.len {l : List UInt8} {ts : List (List UInt8)} (h : TxtP l ts) : ts.length ≤ l.length := by
  induction h with
  | nil => simp
  | gap _ _ ih => simp; omega
  | @tok t rest ts ht _ _ _ ih =>
    have : 0 < t.length := List.length_pos_iff.2 ht.1
    simp; omega
theorem MadeOK.len {M : ManD} (h : MadeOK M) : (printL M).length ≤ 7000 := Nat.le_trans (len_wF _) (man_w h.ok h.np h.nr h.nc)
theorem MadeOK.toks {M : ManD} (h : MadeOK M) : (manK M).length ≤ 7000 := Nat.le_trans (print_txt h.ok).len h.len
theorem MadeOK.long {M : ManD} : 8 ≤ (printL M).length := by
  unfold printL headT
  simp only [List.length_append, List.length_cons, List.length_nil]
  omega
theorem MadeOK.sp {M : ManD} (h : MadeOK M) (L : List Int) : (spacedF L (printL M)).length ≤ 7007 ∧ Txt (spacedF L (printL M)) (manK M) := by
  constructor
  · have h1 := spF_len (gapN L) (printL M) 0
    have h2 := man_w h.ok h.np h.nr h.nc
    unfold spacedF
    rw [List.length_append]
    show 7 + _ ≤ _
    omega
  · exact Txt.pre ((print_txt h.ok).spaced (gapN L) 0) (by decide)
theorem cut_ext (l : List UInt8) : (ba l).extract 0 (l.length - 2) = ba (cutL l) := by
  apply ba_of
  rw [extract_seg _ _ _ (by omega), ba_data]
  rfl
end Go.Proofs.YteioennfpkoagaaGreatDoor.C
namespace Go.Proofs.YteioennfpkoagaaGreatDoor.C
open Go.RowKit
attribute [local go_sem ↓] Go.wp_at_zero Go.wp_at_succ

/- what stands while Printed goes on -/
structure PT (w : World) (B : Nat) (ew en eu es ex : Addr) (u : Value) (G : List Int) (mb : Nat) (M : ManD) (pv cv : Value) (V : World) : Prop where
  blk : V.heap[mb]? = some (.cells #[.int .i64 M.frame, pv, cv] 34 (0, 0))
  ps : PartsV V pv M.parts
  cs : ChansV V cv M.chans
  gl : GL V B ew en eu es ex
  ints : IntsV V u G
  bel : Below w.heap.size w V
theorem PT.below {w V V' : World} {B : Nat} {ew en eu es ex : Addr} {u : Value} {G : List Int} {mb : Nat} {M : ManD} {pv cv : Value} (h : PT w B ew en eu es ex u G mb M pv cv V) (hb : Below V.heap.size V V') : PT w B ew en eu es ex u G mb M pv cv V' :=
  ⟨(hb.block _ (lt_of_blk h.blk)).trans h.blk, h.ps.below hb, h.cs.below hb, h.gl.below (hb.mono h.gl.size), h.ints.below hb, h.bel.trans (hb.mono h.bel.size)⟩
theorem place_take (l : List UInt8) (k : Nat) (h : k < l.length) : placeL (l.take (k + 1)) = if l[k].toNat = 10 then ((placeL (l.take k)).1 + 1, 1) else ((placeL (l.take k)).1, (placeL (l.take k)).2 + 1) := by
  rw [List.take_succ_eq_append_getElem h, placeL_from, placeFrom_append, placeFrom_cons, placeFrom_nil, placeL_from]
theorem place_le (l : List UInt8) : 1 ≤ (placeL l).1 ∧ (placeL l).1 ≤ 1 + l.length ∧ 1 ≤ (placeL l).2 ∧ (placeL l).2 ≤ 1 + l.length := by
  have key : ∀ (l : List UInt8) (p : Int × Int) (n : Nat), 1 ≤ p.1 ∧ p.1 ≤ 1 + n ∧ 1 ≤ p.2 ∧ p.2 ≤ 1 + n → 1 ≤ (placeFrom p l).1 ∧ (placeFrom p l).1 ≤ 1 + (n + l.length : Nat) ∧ 1 ≤ (placeFrom p l).2 ∧ (placeFrom p l).2 ≤ 1 + (n + l.length : Nat) := by
    intro l
    induction l with
    | nil => intro p n h; exact h
    | cons b l ih =>
      intro p n h
      rw [placeFrom_cons]
      have := ih (if b.toNat = 10 then (p.1 + 1, 1) else (p.1, p.2 + 1)) (n + 1) (by split <;> simp <;> omega)
      rw [List.length_cons, show n + (l.length + 1) = n + 1 + l.length by omega]
      exact this
  have := key l (1, 1) 0 (by omega)
  rw [placeL_from]
  simpa using this
set_option maxRecDepth 100000 in
set_option maxHeartbeats 4000000 in
theorem printed_true (HM : MadeC) (w : World) (B : Nat) (ew en eu es ex : Addr) (hg : GL w B ew en eu es ex) (ht : TB w) (v u : Value) (L G : List Int) (hL : IntsV w v L) (hG : IntsV w u G) :
    Calls Tryz.prog 5 #[v, u] w fun e w' => e = .returned (.bool true) ∧ Below w.heap.size w w' := by
  have HMM : Hid MadeC := HM
  have HG : Hid (GL w B ew en eu es ex) := hg
  have HT : Hid (TB w) := ht
  have HL : Hid (IntsV w v L) := hL
  have HI : Hid (IntsV w u G) := hG
  obtain ⟨_, _, va, vc, rfl, _⟩ := hL
  obtain ⟨_, _, ua, uc, rfl, _⟩ := hG
  clear hg ht HM
  go_enter Tryz.func5, Tryz.ntmps5
  go_wp2_with fail
  refine Calls.mono (HMM.out w _ L HL.out) ?_
  rintro e w1 ⟨M, pv, cv, rfl, hp, hc, hpc, hcc, hok, hb1⟩
  have hb2 : Below w1.heap.size w1 (w1.alloc (.cells #[.int .i64 M.frame, pv, cv] 34)) := (Below.refl _ _).alloc (Nat.le_refl _) _
  have P1 : PT w B ew en eu es ex (.slice ua G.length uc) G w1.heap.size M pv cv (w1.alloc (.cells #[.int .i64 M.frame, pv, cv] 34)) :=
    ⟨heap_new _ _, hp.below hb2, hc.below hb2, (HG.out.below (hb1.mono HG.out.size)).below (hb2.mono (Nat.le_trans HG.out.size hb1.size)), (IntsV.below HI.out hb1).below hb2, hb1.trans (hb2.mono hb1.size)⟩
  have hpr := manPrint_any M.frame M.parts M.chans pv cv _ ((HT.out.below hb1).below hb2) (hp.below hb2) (hpc.below hp hb2) (hc.below hb2) hcc (by have := hok.np; omega) (fun k hk => by have := hok.nr _ (List.getElem_mem hk); omega) (by have := hok.nc; omega)
  obtain ⟨pa, pk, rfl, _⟩ := hp
  obtain ⟨ca, ck, rfl, _⟩ := hc
  have HPR : Hid _ := hpr
  have HOK : Hid _ := hok
  have HP1 : Hid _ := P1
  have hmb := heap_new w1 (.cells #[.int .i64 M.frame, .slice pa M.parts.length pk, .slice ca M.chans.length ck] 34)
  have k0 := cell_of_blk hmb (i := 0)
  have k1 := cell_of_blk hmb (i := 1)
  have k2 := cell_of_blk hmb (i := 2)
  clear hpr hok P1 hmb hpc hcc hb1 hb2
  go_wp2_with fail
  refine Calls.mono HPR.out ?_
  rintro e w2 ⟨hans, hb3⟩
  rcases hans with ⟨hne, _⟩ | ⟨_, rfl⟩
  · exact absurd HOK.out.chk hne
  have HP2 : Hid _ := PT.below HP1.out hb3
  clear HP1 HPR k0 k1 k2 hb3
  generalize w1.heap.size = mb at *
  have hlo : 8 ≤ (ba (printL M)).size := by rw [ba_size]; exact MadeOK.long
  have hhi : (ba (printL M)).size ≤ 7000 := by rw [ba_size]; exact HOK.out.len
  have hlo' : ¬ ((ba (printL M)).size : Int) < 8 := by omega
  generalize hs : ba (printL M) = s at *
  have HS : Hid _ := hs
  clear hs
  go_wp2_with fail
  rw [← HS.out]
  refine Calls.mono (parse_back w2 B ew en eu es ex HP2.out.gl M HOK.out.ok (printL M) (by have := HOK.out.len; omega) (print_txt HOK.out.ok).txt (by have := HOK.out.toks; omega)) ?_
  rintro e w3 ⟨pv3, cv3, rfl, hp3, hc3, hb3⟩
  rw [HS.out]
  have HP3 : Hid _ := PT.below HP2.out hb3
  clear HP2 hb3
  have hq3 : Below w3.heap.size w3 ((w3.alloc (.cells #[.int .i64 M.frame, pv3, cv3] 34)).alloc (.cells #[.int .i64 0, .int .i64 0] 36)) := ((Below.refl _ _).alloc (Nat.le_refl _) _).alloc (by simp) _
  have B3 := heap_old _ (.cells #[.int .i64 0, .int .i64 0] 36) (heap_new w3 (.cells #[.int .i64 M.frame, pv3, cv3] 34))
  have Q3 := heap_new (w3.alloc (.cells #[.int .i64 M.frame, pv3, cv3] 34)) (.cells #[.int .i64 0, .int .i64 0] 36)
  simp only [World.size_alloc] at Q3
  have hp4 := hp3.below hq3
  have hc4 := hc3.below hq3
  have P4 := PT.below HP3.out hq3
  obtain ⟨pa3, pk3, rfl, _⟩ := hp3
  obtain ⟨ca3, ck3, rfl, _⟩ := hc3
  have HP4 : Hid _ := P4
  have HV4 : Hid _ := And.intro hp4 hc4
  have HQ4 : Hid _ := Q3
  have k0 := cell_of_blk P4.blk (i := 0)
  have k1 := cell_of_blk P4.blk (i := 1)
  have k2 := cell_of_blk P4.blk (i := 2)
  have j0 := cell_of_blk B3 (i := 0)
  have j1 := cell_of_blk B3 (i := 1)
  have j2 := cell_of_blk B3 (i := 2)
  clear hp4 hc4 P4 HP3 B3 Q3 hq3
  go_wp2_with fail
  refine Calls.mono (same_true _ M.frame _ _ _ _ M.parts M.chans (by have := HOK.out.np; omega) (by have := HOK.out.nc; omega) (fun x hx => by have := HOK.out.nr x hx; omega) HP4.out.ps HV4.out.1 HP4.out.cs HV4.out.2) ?_
  rintro e w5 ⟨rfl, hb5⟩
  have Q5 : w5.heap[w3.heap.size + 1]? = _ := (hb5.block _ (lt_of_blk HQ4.out)).trans HQ4.out
  have HQ5 : Hid _ := Q5
  have HP5 : Hid _ := PT.below HP4.out hb5
  clear Q5 HQ4 HV4 HP4 hb5 k0 k1 k2 j0 j1 j2
  generalize w3.heap.size = qb at *
  go_wp2_with fail
  refine Calls.mono (spaced_any w5 s _ G HP5.out.ints (by rw [← HS.out, ba_data]; have := man_w HOK.out.ok HOK.out.np HOK.out.nr HOK.out.nc; omega)) ?_
  rintro e w6 ⟨rfl, hb6⟩
  have Q6 : w6.heap[qb + 1]? = _ := (hb6.block _ (lt_of_blk HQ5.out)).trans HQ5.out
  have HQ6 : Hid _ := Q6
  have HP6 : Hid _ := PT.below HP5.out hb6
  clear Q6 HQ5 HP5 hb6
  have hsl : s.data.toList = printL M := by rw [← HS.out, ba_data]
  have HSL : Hid _ := hsl
  clear hsl
  go_wp2_with fail
  have hspc := HOK.out.sp G
  rw [HSL.out]
  refine Calls.mono (parse_back w6 B ew en eu es ex HP6.out.gl M HOK.out.ok (spacedF G (printL M)) (by omega) hspc.2 (by have := HOK.out.toks; omega)) ?_
  rintro e w7 ⟨pv7, cv7, rfl, hp7, hc7, hb7⟩
  have Q7 : w7.heap[qb + 1]? = _ := (hb7.block _ (lt_of_blk HQ6.out)).trans HQ6.out
  have HP7 : Hid _ := PT.below HP6.out hb7
  clear hspc HQ6 HP6 hb7
  have hq7 : Below w7.heap.size w7 ((w7.alloc (.cells #[.int .i64 M.frame, pv7, cv7] 34)).alloc (.cells #[.int .i64 0, .int .i64 0] 36)) := ((Below.refl _ _).alloc (Nat.le_refl _) _).alloc (by simp) _
  have B7 := heap_old _ (.cells #[.int .i64 0, .int .i64 0] 36) (heap_new w7 (.cells #[.int .i64 M.frame, pv7, cv7] 34))
  have R7 := heap_new (w7.alloc (.cells #[.int .i64 M.frame, pv7, cv7] 34)) (.cells #[.int .i64 0, .int .i64 0] 36)
  simp only [World.size_alloc] at R7
  have Q8 := (hq7.block _ (lt_of_blk Q7)).trans Q7
  have hp8 := hp7.below hq7
  have hc8 := hc7.below hq7
  have P8 := PT.below HP7.out hq7
  obtain ⟨pa7, pk7, rfl, _⟩ := hp7
  obtain ⟨ca7, ck7, rfl, _⟩ := hc7
  have HP8 : Hid _ := P8
  have HV8 : Hid _ := And.intro hp8 hc8
  have HQ8 : Hid _ := And.intro Q8 R7
  have k0 := cell_of_blk P8.blk (i := 0)
  have k1 := cell_of_blk P8.blk (i := 1)
  have k2 := cell_of_blk P8.blk (i := 2)
  have j0 := cell_of_blk B7 (i := 0)
  have j1 := cell_of_blk B7 (i := 1)
  have j2 := cell_of_blk B7 (i := 2)
  clear hp8 hc8 P8 HP7 B7 Q7 Q8 R7 hq7
  go_wp2_with fail
  refine Calls.mono (same_true _ M.frame _ _ _ _ M.parts M.chans (by have := HOK.out.np; omega) (by have := HOK.out.nc; omega) (fun x hx => by have := HOK.out.nr x hx; omega) HP8.out.ps HV8.out.1 HP8.out.cs HV8.out.2) ?_
  rintro e w9 ⟨rfl, hb9⟩
  have Q9 : w9.heap[qb + 1]? = _ := (hb9.block _ (lt_of_blk HQ8.out.1)).trans HQ8.out.1
  have R9 : w9.heap[w7.heap.size + 1]? = _ := (hb9.block _ (lt_of_blk HQ8.out.2)).trans HQ8.out.2
  have HQ9 : Hid _ := And.intro Q9 R9
  have HP9 : Hid _ := PT.below HP8.out hb9
  clear Q9 R9 HQ8 HV8 HP8 hb9 k0 k1 k2 j0 j1 j2
  generalize w7.heap.size = rb at *
  have sub1 : ((s.size : Int) - 2).toNat = s.size - 2 := by omega
  have sub2 : (0 : Int) ≤ (s.size : Int) - 2 ∧ (s.size : Int) - 2 ≤ (s.size : Int) := by omega
  go_wp2_with fail
  have hex : s.extract 0 (s.size - 2) = ba (cutL (printL M)) := by
    rw [← HS.out, ba_size]; exact cut_ext _
  rw [hex]
  refine Calls.mono (parse_cut w9 B ew en eu es ex HP9.out.gl M HOK.out.ok HOK.out.ne (by have := HOK.out.len; omega) (by have := HOK.out.toks; omega)) ?_
  rintro e w10 ⟨pa10, pk10, ca10, ck10, rfl, hb10⟩
  have Q10 : w10.heap[qb + 1]? = _ := (hb10.block _ (lt_of_blk HQ9.out.1)).trans HQ9.out.1
  have R10 : w10.heap[rb + 1]? = _ := (hb10.block _ (lt_of_blk HQ9.out.2)).trans HQ9.out.2
  have bl10 := (PT.below HP9.out hb10).bel
  clear HQ9 HP9 hb10
  rw [← hex]
  have hcl : cutL (printL M) = (printL M).take (s.size - 2) := by unfold cutL; rw [← HS.out, ba_size]
  have hpl := place_le (cutL (printL M))
  generalize hpc : placeL (cutL (printL M)) = pc at *
  have HPC : Hid _ := hpc
  have HCL : Hid _ := hcl
  clear hpc hcl hex
  have hq : Below w10.heap.size w10 ((w10.alloc (.cells #[.int .i64 0, .slice pa10 0 pk10, .slice ca10 0 ck10] 34)).alloc (.cells #[.int .i64 pc.1, .int .i64 pc.2] 36)) := ((Below.refl _ _).alloc (Nat.le_refl _) _).alloc (by simp) _
  have T11 := heap_new (w10.alloc (.cells #[.int .i64 0, .slice pa10 0 pk10, .slice ca10 0 ck10] 34)) (.cells #[.int .i64 pc.1, .int .i64 pc.2] 36)
  simp only [World.size_alloc] at T11
  have Q11 := (hq.block _ (lt_of_blk Q10)).trans Q10
  have R11 := (hq.block _ (lt_of_blk R10)).trans R10
  have bl11 := bl10.trans (hq.mono bl10.size)
  have q0 := cell_of_blk Q11 (i := 0)
  have q1 := cell_of_blk Q11 (i := 1)
  have r0 := cell_of_blk R11 (i := 0)
  have r1 := cell_of_blk R11 (i := 1)
  have HT11 : Hid _ := T11
  have HBL : Hid _ := bl11
  clear Q10 R10 Q11 R11 bl10 bl11 T11 hq
  go_wp2_with fail
  generalize (w10.alloc (.cells #[.int .i64 0, .slice pa10 0 pk10, .slice ca10 0 ck10] 34)).alloc (.cells #[.int .i64 pc.1, .int .i64 pc.2] 36) = w11 at *
  have l0 := cell_of_blk HT11.out (i := 0)
  have l1 := cell_of_blk HT11.out (i := 1)
  clear q0 q1 r0 r1
  go_loopw [19, 20, 21] (fun a b i wr => ∃ (k : Nat), i = .int .i64 k ∧ a = .int .i64 (placeL ((printL M).take k)).1 ∧ b = .int .i64 (placeL ((printL M).take k)).2 ∧ k ≤ s.size - 2 ∧ wr = w11) (fun _ _ i _ => s.size - (intOf i).toNat)
  case atStart => exact ⟨0, rfl, rfl, rfl, by omega, rfl⟩
  case round =>
    obtain ⟨k, rfl, rfl, rfl, hk, rfl⟩ := hrel
    have hpk := place_le ((printL M).take k)
    have hkl : ((printL M).take k).length ≤ 7000 := by simp; omega
    by_cases hlt : k < s.size - 2
    · have hlt' : (k : Int) < (s.size : Int) - 2 := by omega
      have hk0 : (0 : Int) ≤ (k : Int) ∧ (k : Int) < (s.size : Int) := by omega
      have hks : k < s.size := by omega
      have hst : placeL ((printL M).take (k + 1)) = if s[k].toNat = 10 then ((placeL ((printL M).take k)).1 + 1, 1) else ((placeL ((printL M).take k)).1, (placeL ((printL M).take k)).2 + 1) := by
        have hl : k < (printL M).length := by rw [← ba_size, HS.out]; exact hks
        rw [place_take _ k hl]
        have : (printL M)[k] = s[k] := by
          have e := HS.out
          subst e
          simp [ba, ByteArray.getElem_eq_getElem_data]
        rw [this]
      have HST : Hid _ := hst
      clear hst
      generalize hpp : placeL ((printL M).take k) = pp at *
      by_cases h10 : s[k].toNat = 10
      · have z : ((s[k].toNat : Int) == 10) = true := by simp; omega
        have e := HST.out
        rw [if_pos h10] at e
        have HE : Hid _ := e
        clear e
        go_wp2_with fail
        go_roundw
        case rel => exact ⟨k + 1, by go_num, by rw [HE.out], by rw [HE.out], by omega, trivial⟩
        case measure => simp [intOf]; omega
      · have z : ((s[k].toNat : Int) == 10) = false := by simp; omega
        have e := HST.out
        rw [if_neg h10] at e
        have HE : Hid _ := e
        clear e
        go_wp2_with fail
        go_roundw
        case rel => exact ⟨k + 1, by go_num, by rw [HE.out], by rw [HE.out], by omega, trivial⟩
        case measure => simp [intOf]; omega
    · have hlt' : ¬ (k : Int) < (s.size : Int) - 2 := by omega
      have ek : k = s.size - 2 := by omega
      have hfin : placeL ((printL M).take k) = pc := by rw [ek, ← HCL.out]; exact HPC.out
      rw [hfin]
      go_wp2_with fail
      go_ret
      exact ⟨rfl, HBL.out⟩
end Go.Proofs.YteioennfpkoagaaGreatDoor.C
namespace Go.Proofs.YteioennfpkoagaaGreatDoor.C
open Go.RowKit

theorem made_ok {F left : Int} {i : Nat} {ps : List PartD} {cs : List ChanD} (hF : 24 ≤ F ∧ F ≤ 240) (h : LI F i left ps) (hi : i ≤ 6) (hne : ps ≠ []) (hc : CI ps.length F cs) (hcl : cs.length ≤ 7) : MadeOK ⟨F, ps, cs⟩ := by
  have hnm : ∀ x ∈ ps, nameF x.name.data.toList = true := fun x hx => by
    obtain ⟨j, hj, e⟩ := h.nam x hx
    rw [e, ba_data]; exact nm_ok (by omega)
  have hlen := h.len
  have hpl : 1 ≤ ps.length := by have := List.length_pos_iff.2 hne; omega
  have hpok : ∀ x ∈ ps, PartOK x := fun x hx => by
    have hm := h.all x hx
    have := hm.per; have := hm.dur; have := hm.act
    exact ⟨hnm x hx, by omega, by omega, by omega, hm.reg.1⟩
  have hns : NamesOK ps := by
    refine ⟨hnm, fun a b hab hb => ?_⟩
    unfold namesK
    rw [List.getElem?_map, List.getElem?_map, List.getElem?_eq_getElem (by omega), List.getElem?_eq_getElem hb]
    simp only [Option.map_some, ne_eq, Option.some.injEq]
    have := List.pairwise_iff_getElem.1 h.dif a b (by omega) hb hab
    intro e
    apply this
    exact data_inj e
  have hcok : ∀ c ∈ cs, ChanOK ps c := fun c hc' => by
    have hm := hc.all c hc'
    obtain ⟨q, hq, e⟩ := List.getElem_of_mem hc'
    have hn := hc.nam q hq
    have := hm.src; have := hm.tgt; have := hm.knd; have := hm.siz; have := hm.dep
    refine ⟨?_, by omega, by omega, by omega, by omega, by omega⟩
    rw [← e, hn, ba_data]; exact nm_ok (by omega)
  have hfew : ∀ x ∈ ps, x.regs.length ≤ 2 := fun x hx => (h.all x hx).few.1
  exact ⟨⟨by simp only []; omega, hpok, hns, hcok⟩, made_chk hF h hi hne hc hcl, hne, by simp only []; omega, hfew, hcl⟩
end Go.Proofs.YteioennfpkoagaaGreatDoor.C
