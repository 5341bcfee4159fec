import Derived.Test.YteioennfpkoagaaGreatDoorK13
import Derived.Test.YteioennfpkoagaaGreatDoorG41
import Derived.Test.YteioennfpkoagaaGreatDoorK02
import Derived.Laws.MakeOwn
import Derived.Deep.DeepCutAuto
import Derived.Test.YteioennfpkoagaaGreatDoorK12
import Derived.OwnWalk
import Derived.Test.YteioennfpkoagaaGreatDoorG46
namespace Go.Proofs.YteioennfpkoagaaGreatDoor.C
open Go.ChangeShapes Go.WideShapes Go.ChangeAt Go.RowKit K

/- a script in memory -/
def StepsV (w : World) (v : Value) (os : List StepD) : Prop :=
  os.length ≤ 1152921504606846976 ∧ (∀ x ∈ os, StepR x) ∧ ∃ va cap, v = .slice va os.length cap ∧ ∀ i (h : i < os.length), ∃ b off, va = some ⟨b, off, none⟩ ∧
    w.cell? ⟨b, off + i * 5, none⟩ = some (.int .i64 os[i].kind) ∧ w.cell? ⟨b, off + i * 5 + 1, none⟩ = some (.int .i64 os[i].p) ∧ w.cell? ⟨b, off + i * 5 + 2, none⟩ = some (.int .i64 os[i].n) ∧
    w.cell? ⟨b, off + i * 5 + 3, none⟩ = some (.int .i64 os[i].b) ∧ w.cell? ⟨b, off + i * 5 + 4, none⟩ = some (.string os[i].text)
theorem StepsV.below {w w' : World} {v : Value} {os : List StepD} (h : StepsV w v os) (hb : Below w.heap.size w w') : StepsV w' v os := by
  obtain ⟨h0, h1, va, cap, e, hc⟩ := h
  refine ⟨h0, h1, va, cap, e, fun i hi => ?_⟩
  obtain ⟨b, off, e1, c0, c1, c2, c3, c4⟩ := hc i hi
  have hlt := World.block_lt_of_cell? w _ c0
  exact ⟨b, off, e1, (hb.cell (by exact hlt)).trans c0, (hb.cell (by exact hlt)).trans c1, (hb.cell (by exact hlt)).trans c2, (hb.cell (by exact hlt)).trans c3, (hb.cell (by exact hlt)).trans c4⟩
theorem KAt.do_ {I : KerI} {W : World} {a : Addr} {n : Nat} {ps : List PartD} {cs : List ChanD} {S : KS} {w : World} {pv cv : Value} (h : KAt I W a ⟨n, ps, cs⟩ S w) (hp : PartsV W pv ps) (hc : ChansV W cv cs) (hz : checkF ⟨n, ps, cs⟩ = 0) (hne : ps ≠ []) (hs : SmallK bigK S) (o : StepD) (ho : StepR o) :
    Calls Tryz.prog 27 #[.pointer (some a), .agg #[.int .i64 n, pv, cv], stepV o] w fun e w' => e = .returned (ansV (doF ⟨n, ps, cs⟩ S o).1) ∧ KAt I W a ⟨n, ps, cs⟩ (doF ⟨n, ps, cs⟩ S o).2 w' := by
  obtain ⟨ow, h1, h2, h3⟩ := h
  exact Calls.mono (do_any I w n ps cs pv cv (hp.below h3) (hc.below h3) hz hne _ S ow h1 hs o ho) fun _ _ ⟨e1, e2⟩ => ⟨e1, KAt.aft h2 h3 e2⟩
/- what made gives, whole -/
structure MadeM (w : World) (n : Nat) (ps : List PartD) (cs : List ChanD) (pv cv : Value) (w' : World) : Prop where
  parts : PartsV w' pv ps
  partsC : PartsC w' pv ps.length
  chans : ChansV w' cv cs
  chansC : capV cv
  chk : checkF ⟨n, ps, cs⟩ = 0
  ne : ps ≠ []
  fst : ∀ x ∈ ps, ∀ r, x.regs.head? = some r → r.rights = 2
  bel : Below w.heap.size w w'
  f24 : n % 24 = 0
  li : ∃ i left, LI n i left ps ∧ i ≤ 6
  ci : CI ps.length n cs
  few : cs.length ≤ 7
  own : ∃ ys, ps = ys.map Prod.fst ∧ PA w' (w.heap.size + 3) pv ys
  ownC : w'.ownsRow (w.heap.size + 3) 92 6 cv cs.length (cC cs)
  fr : 24 ≤ n ∧ n ≤ 240
def MadeF : Prop := ∀ (w : World) (u : Value) (L : List Int), IntsV w u L →
    Calls Tryz.prog 16 #[u] w fun e w' => ∃ (n : Nat) (ps : List PartD) (cs : List ChanD) (pv cv : Value), e = .returned (.agg #[.int .i64 n, pv, cv]) ∧ MadeM w n ps cs pv cv w'
/- which step a script makes -/
def runK (D : ManD) : List StepD → KS → KS
  | [], S => S
  | o :: l, S => runK D l (doF D S o).2
def runTo (D : ManD) (os : List StepD) (S : KS) : Nat → KS
  | 0 => S
  | k + 1 => match os[k]? with
    | none => runTo D os S k
    | some o => (doF D (runTo D os S k) o).2
theorem runTo_succ {D : ManD} {os : List StepD} {S : KS} {k : Nat} (h : k < os.length) : runTo D os S (k + 1) = (doF D (runTo D os S k) os[k]).2 := by
  show (match os[k]? with | none => _ | some o => _) = _
  rw [List.getElem?_eq_getElem h]
theorem runTo_small (D : ManD) (os : List StepD) (k : Nat) : SmallK k (runTo D os bootK k) := by
  induction k with
  | zero => exact SmallK.boot
  | succ k ih =>
    rcases Nat.lt_or_ge k os.length with h | h
    · rw [runTo_succ h]
      exact ih.step D _
    · have : runTo D os bootK (k + 1) = runTo D os bootK k := by
        show (match os[k]? with | none => _ | some o => _) = _
        rw [List.getElem?_eq_none h]
      rw [this]
      exact ih.mono (Nat.le_succ _)
theorem do_time (D : ManD) (S : KS) (o : StepD) : (doF D S o).2.time = if o.kind = 1 then S.time + 1 else S.time := by
  unfold doF
  split
  · rfl
  split
  · simp only [readF]
    split
    · rfl
    · split <;> rfl
  split
  · simp only [writeF]
    split
    · rfl
    · split <;> rfl
  split
  · simp only [sendF]
    split
    · rfl
    split
    · rfl
    split
    · rfl
    split
    · rfl
    split
    · split <;> rfl
    · rfl
  split
  · simp only [recvF]
    split
    · rfl
    split
    · rfl
    split
    · rfl
    split
    · rfl
    split <;> rfl
  split
  · simp only [raiseF]
    split <;> rfl
  · rfl
end Go.Proofs.YteioennfpkoagaaGreatDoor.C
namespace Go.Proofs.YteioennfpkoagaaGreatDoor.C
open Go.RowKit K

/- one partition more -/
def moreN : ByteArray := ⟨#[109, 111, 114, 101]⟩
def moreD (per dur : Int) : PartD := ⟨moreN, per, dur, 2, []⟩
theorem more_name : nameF moreN.data.toList = true := by decide
theorem more_fresh {j : Nat} : ba (nmL j) ≠ moreN := by
  intro h
  have h1 : (ba (nmL j)).data.toList = moreN.data.toList := by rw [h]
  rw [mk_data] at h1
  have h2 := congrArg List.length h1
  simp [nmL, moreN] at h2
theorem ticks_snoc (F : Int) (ps : List PartD) (x : PartD) : ticksF F (ps ++ [x]) = ticksF F ps + F / x.period * x.duration := by
  unfold ticksF
  rw [List.map_append, List.sum_append]
  simp
theorem load_chk {F left : Int} {i : Nat} {ps : List PartD} {cs : List ChanD} {per dur : Int} (hF : 24 ≤ F ∧ F ≤ 240) (h : LI F i left ps) (hi : i ≤ 6) (hc : CI ps.length F cs) (hcl : cs.length ≤ 7)
    (hper : 1 ≤ per ∧ per ≤ F ∧ F % per = 0) (hdur : 1 ≤ dur ∧ dur ≤ per) : checkF ⟨F, ps ++ [moreD per dur], cs⟩ = if F < ticksF F (ps ++ [moreD per dur]) then 16 else 0 := by
  have hnm : ∀ x ∈ ps, nameF x.name.data.toList = true := fun x hx => by
    obtain ⟨j, hj, e⟩ := h.nam x hx
    rw [e, mk_data]; exact nm_ok (by omega)
  have hlen := h.len
  have hfew : ∀ x ∈ ps, x.regs.length ≤ 2 := fun x hx => (h.all x hx).few.1
  have hpl : (ps ++ [moreD per dur]).length = ps.length + 1 := by simp
  unfold checkF
  simp only []
  have hmany : manyB ⟨F, ps ++ [moreD per dur], cs⟩ = false := by
    unfold manyB wideB
    simp only [Bool.or_eq_false_iff, decide_eq_false_iff_not, List.any_eq_false]
    refine ⟨⟨⟨by omega, by omega⟩, by omega⟩, fun x hx => ?_⟩
    rcases List.mem_append.1 hx with hx | hx
    · have := hfew x hx
      simp; omega
    · rw [List.mem_singleton.1 hx]
      simp [moreD]
  have hparts : firstNZ (partAt ⟨F, ps ++ [moreD per dur], cs⟩) (ps ++ [moreD per dur]).length = 0 := by
    apply first_zero
    intro k hk
    unfold partAt
    simp only []
    rw [dif_pos hk]
    rcases Nat.lt_or_ge k ps.length with hk' | hk'
    · have e1 : (ps ++ [moreD per dur])[k] = ps[k] := List.getElem_append_left hk'
      have e2 : (ps ++ [moreD per dur]).take k = ps.take k := by rw [List.take_append_of_le_length (by omega)]
      rw [e1, e2]
      have hm := h.all _ (List.getElem_mem hk')
      have h1 := hm.per; have h2 := hm.dur; have h3 := hm.act
      unfold partErr
      have hfr : freshP (ps.take k) ps[k] = true := by
        unfold freshP
        rw [List.all_eq_true]
        intro p hp
        obtain ⟨a, ha, e⟩ := List.getElem_of_mem hp
        have ha' : a < k := by simp at ha; omega
        rw [List.getElem_take] at e
        have := List.pairwise_iff_getElem.1 h.dif a k (by omega) hk' ha'
        rw [e] at this
        simp only [bne_iff_ne, ne_eq]
        intro e2
        apply this
        rw [ByteArray.toList_eq, ByteArray.toList_eq] at e2
        exact data_inj e2
      rw [if_neg (by rw [hnm _ (List.getElem_mem hk'), hfr]; simp), if_neg (by omega), if_neg (by omega), if_neg (by omega), if_neg (by rw [(regsF_iff _).2 hm.reg]; simp)]
    · have hke : k = ps.length := by omega
      subst hke
      have e1 : (ps ++ [moreD per dur])[ps.length] = moreD per dur := by simp
      have e2 : (ps ++ [moreD per dur]).take ps.length = ps := by simp
      rw [e1, e2]
      unfold partErr
      have hfr : freshP ps (moreD per dur) = true := by
        unfold freshP
        rw [List.all_eq_true]
        intro p hp
        obtain ⟨j, _, e⟩ := h.nam p hp
        simp only [bne_iff_ne, ne_eq]
        intro e2
        rw [ByteArray.toList_eq, ByteArray.toList_eq] at e2
        exact more_fresh (j := j) (by rw [← e]; exact data_inj e2)
      have hnf : nameF (moreD per dur).name.data.toList = true := more_name
      have hre : regsF (moreD per dur).regs = true := rfl
      simp only [hnf, hfr, hre]
      show (if _ then _ else if per < 1 ∨ F < per ∨ F % per ≠ 0 then _ else if dur < 1 ∨ per < dur then _ else if (2 : Int) < 1 ∨ 3 < (2 : Int) then _ else _) = _
      rw [if_neg (by simp), if_neg (by omega), if_neg (by omega), if_neg (by omega), if_neg (by simp)]
  have hchans : firstNZ (chanAt ⟨F, ps ++ [moreD per dur], cs⟩) cs.length = 0 := by
    apply first_zero
    intro k hk
    unfold chanAt
    simp only []
    rw [dif_pos hk]
    have hm := hc.all _ (List.getElem_mem hk)
    have h1 := hm.src; have h2 := hm.tgt; have h3 := hm.two; have h4 := hm.knd; have h5 := hm.siz; have h6 := hm.dep
    have hnk := hc.nam k hk
    unfold chanErr
    have hfr : freshC (cs.take k) cs[k] = true := by
      unfold freshC
      rw [List.all_eq_true]
      intro p hp
      obtain ⟨a, ha, e⟩ := List.getElem_of_mem hp
      have ha' : a < k := by simp at ha; omega
      rw [List.getElem_take] at e
      have hna := hc.nam a (by omega)
      rw [e] at hna
      rw [hna, hnk]
      simp only [bne_iff_ne, ne_eq]
      intro e2
      have e3 : nmL a = nmL k := by rw [ByteArray.toList_eq, ByteArray.toList_eq, mk_data, mk_data] at e2; exact e2
      have := nm_inj (by omega) (by omega) e3
      omega
    have hnf : nameF cs[k].name.data.toList = true := by rw [hnk, mk_data]; exact nm_ok (by omega)
    rw [if_neg (by rw [hnf, hfr]; simp), if_neg (by omega), if_neg (by omega), if_neg (by omega), if_neg (by split <;> omega)]
  have hpages : pagesF (ps ++ [moreD per dur]) ≤ 64 := by
    have key : ∀ qs : List PartD, (∀ x ∈ qs, regPages x.regs ≤ 4) → pagesF qs ≤ 4 * qs.length := by
      intro qs
      induction qs with
      | nil => intro _; simp [pagesF]
      | cons x qs ih =>
        intro hq
        have h1 := hq x (by simp)
        have h2 := ih (fun y hy => hq y (by simp [hy]))
        unfold pagesF at *
        simp only [List.map_cons, List.sum_cons, List.length_cons]
        omega
    have := key (ps ++ [moreD per dur]) (fun x hx => by
      rcases List.mem_append.1 hx with hx | hx
      · exact (h.all x hx).few.2.1
      · rw [List.mem_singleton.1 hx]; simp [moreD, regPages])
    omega
  rw [if_neg (by omega), if_neg (by rw [hmany]; simp), if_neg (by rw [hparts]; simp), if_neg (by rw [hchans]; simp)]
  split
  · rfl
  · rw [if_neg (by omega)]
end Go.Proofs.YteioennfpkoagaaGreatDoor.C
namespace Go.Proofs.YteioennfpkoagaaGreatDoor.C
open Go.RowKit K
attribute [local go_sem ↓] Go.wp_at_zero Go.wp_at_succ

def boolA (S : Nat → Bool) (n : Nat) : Array Value := ((List.range n).map fun j => Value.bool (S j)).toArray
theorem boolA_at (S : Nat → Bool) {n j : Nat} (h : j < n) : (boolA S n)[j]? = some (.bool (S j)) := by simp [boolA, h]
theorem boolA_set (S : Nat → Bool) (n i : Nat) : (boolA S n).setIfInBounds i (.bool true) = boolA (upB S i) n := by
  apply Array.ext_getElem?
  intro j
  rw [Array.getElem?_setIfInBounds]
  by_cases h : j < n
  · rw [boolA_at S h, boolA_at _ h]
    by_cases e : i = j
    · subst e
      simp [boolA, upB, h]
    · rw [if_neg e]
      unfold upB
      rw [if_neg (fun x => e x.symm)]
  · have h1 : (boolA S n)[j]? = none := by rw [Array.getElem?_eq_none]; simp [boolA]; omega
    have h2 : (boolA (upB S i) n)[j]? = none := by rw [Array.getElem?_eq_none]; simp [boolA]; omega
    rw [h1, h2]
    split
    · simp [boolA]; omega
    · rfl
theorem boolInfo : (Tryz.prog.info? 4).map (fun i => (i.zero, i.size, i.bytes)) = some (some (.bool false), 1, 1) := by kernel_rfl
theorem made_bools (n : Nat) : madeCells #[Value.bool false] n = boolA (fun _ => false) n := by
  apply Array.ext_getElem?
  intro i
  simp only [madeCells, boolA, List.getElem?_toArray, List.getElem?_map, Array.getElem?_map, Array.getElem?_range]
  by_cases h : i < n
  · have e : i % 1 = 0 := Nat.mod_one i
    simp [h, e]
  · simp [h]
theorem make_bools (w : World) (c : Nat) (hc : c ≤ 2000000) :
    (Instr.makeSlice 68 (.int .i64 (c : Int)) (.int .i64 (c : Int))).run Tryz.prog w = .ok (.slice (some ⟨w.heap.size, 0, none⟩) c c) (w.alloc (.cells (boolA (fun _ => false) c) 4)) := by
  obtain ⟨i, hi, hz, hs, hby⟩ := parts_int boolInfo
  have hbi : (i.bytes : Int) * (c : Int) ≤ 281474976710656 := by rw [hby]; omega
  have hr := run_make (P := Tryz.prog) w 68 4 i (.bool false) Tryz.underlying68 hi hz .i64 .i64 c c (by omega) (by omega) hbi (by omega)
  simp only [Int.toNat_natCast, hs, Nat.mul_one] at hr
  rw [show (Value.bool false).cells = #[Value.bool false] from rfl, made_bools] at hr
  exact hr
theorem round_step {cs : List ChanD} {S : Nat → Bool} {i : Nat} (h : i < cs.length) : roundL (cs.take (i + 1)) S = chanL (roundL (cs.take i) S) cs[i] := by
  unfold roundL
  rw [List.take_succ_eq_append_getElem h, List.foldl_append]
  rfl
set_option maxRecDepth 100000 in
set_option maxHeartbeats 8000000 in
theorem leads_any (w : World) (n : Nat) (ps : List PartD) (cs : List ChanD) (pv cv : Value) (hp : PartsV w pv ps) (hc : ChansV w cv cs) (hpl : ps.length ≤ 8) (hcl : cs.length ≤ 8) (hends : ∀ x ∈ cs, (0 ≤ x.source ∧ x.source < ps.length) ∧ (0 ≤ x.target ∧ x.target < ps.length)) (tp : Nat) (htp : tp < ps.length) :
    Calls Tryz.prog 26 #[.agg #[.int .i64 n, pv, cv], .int .i64 tp] w fun e w' => ∃ fb, e = .returned (.slice (some ⟨fb, 0, none⟩) ps.length ps.length) ∧ w.heap.size ≤ fb ∧ w'.heap[fb]? = some (.cells (boolA (leadL cs (upB (fun _ => false) tp) ps.length) ps.length) 4 (0, 0)) ∧ Below w.heap.size w w' := by
  have HC : Hid (ChansV w cv cs) := hc
  obtain ⟨va, cap, rfl, hx⟩ := hp
  clear hx
  obtain ⟨ca, ck, rfl, hx⟩ := hc
  clear hx
  go_enter Tryz.func26, Tryz.ntmps26
  have b0 := newB w (.cells #[.int .i64 n, .slice va ps.length cap, .slice ca cs.length ck] 34)
  have h0 := heap_new w (.cells #[.int .i64 n, .slice va ps.length cap, .slice ca cs.length ck] 34)
  have hmk := make_bools (w.alloc (.cells #[.int .i64 n, .slice va ps.length cap, .slice ca cs.length ck] 34)) ps.length (by omega)
  have z0 : (w.alloc (.cells #[.int .i64 n, .slice va ps.length cap, .slice ca cs.length ck] 34)).heap.size = w.heap.size + 1 := by simp
  go_upto_region 1 with fail
  generalize w.alloc (.cells #[.int .i64 n, .slice va ps.length cap, .slice ca cs.length ck] 34) = W0 at *
  have m1 : W0.cell? ⟨w.heap.size, 1, none⟩ = some (.slice va ps.length cap) := by rw [cell_of_blk h0]; rfl
  have b1 := newB W0 (.cells (boolA (fun _ => false) ps.length) 4)
  have h1 := heap_new W0 (.cells (boolA (fun _ => false) ps.length) 4)
  have k1 := keepN h0 b1
  go_upto_region 2 with fail
  generalize W0.alloc (.cells (boolA (fun _ => false) ps.length) 4) = W1 at *
  have HB1 : Hid (Below w.heap.size w W1) := b0.trans (b1.mono b0.size)
  rw [z0] at h1
  have c1 : W1.cell? ⟨w.heap.size + 1, tp, none⟩ = some (.bool false) := by rw [cell_of_blk h1]; exact boolA_at _ htp
  have f1 := frozen_of_row W1 (w.heap.size + 1) tp _ _ h1
  have htp' : (tp : Int) < (ps.length : Int) := by omega
  have h2 := blk_set tp (.bool true) h1
  rw [boolA_set] at h2
  have k2 := (blk_far tp (.bool true) (show w.heap.size ≠ w.heap.size + 1 by omega)).trans k1
  have b2 : Below w.heap.size w (W1.setCell ⟨w.heap.size + 1, tp, none⟩ (.bool true)) := HB1.out.setCell (p := ⟨w.heap.size + 1, tp, none⟩) (show w.heap.size ≤ w.heap.size + 1 by omega) _
  go_upto_region 3 with fail
  generalize W1.setCell ⟨w.heap.size + 1, tp, none⟩ (.bool true) = W2 at *
  have HH2 : Hid (W2.heap[w.heap.size + 1]? = some (.cells (boolA (upB (fun _ => false) tp) ps.length) 4 (0, 0))) := h2
  have HK2 : Hid (W2.heap[w.heap.size]? = some (.cells #[.int .i64 n, .slice va ps.length cap, .slice ca cs.length ck] 34 (0, 0))) := k2
  have HB2 : Hid (Below w.heap.size w W2) := b2
  clear h1 h2 k1 k2 b0 b1 b2 m1 c1 f1 h0 hmk z0 HB1
  go_wp2_with fail
  go_loopw [6] (fun rr wr => ∃ r : Nat, rr = .int .i64 r ∧ r ≤ ps.length ∧ Hid (wr.heap[w.heap.size + 1]? = some (.cells (boolA (leadL cs (upB (fun _ => false) tp) r) ps.length) 4 (0, 0))) ∧ Hid (wr.heap[w.heap.size]? = some (.cells #[.int .i64 n, .slice va ps.length cap, .slice ca cs.length ck] 34 (0, 0))) ∧ Hid (Below w.heap.size w wr)) (fun rr _ => ps.length - (intOf rr).toNat)
  case atStart => exact ⟨0, rfl, by omega, HH2, HK2, HB2⟩
  case round =>
    obtain ⟨r, rfl, hr, HA, HK, HB⟩ := hrel
    have m1 : wr.cell? ⟨w.heap.size, 1, none⟩ = some (.slice va ps.length cap) := by rw [cell_of_blk HK.out]; rfl
    by_cases hrl : r < ps.length
    · have hrl' : (r : Int) < (ps.length : Int) := by omega
      go_wp2_with fail
      generalize wr = WR at *
      obtain ⟨S0, hS0⟩ : ∃ S0, leadL cs (upB (fun _ => false) tp) r = S0 := ⟨_, rfl⟩
      have HS0 : Hid (leadL cs (upB (fun _ => false) tp) r = S0) := hS0
      rw [hS0] at HA
      clear hS0 m1
      go_loopw [7] (fun ii wr => ∃ i : Nat, ii = .int .i64 i ∧ i ≤ cs.length ∧ Hid (wr.heap[w.heap.size + 1]? = some (.cells (boolA (roundL (cs.take i) S0) ps.length) 4 (0, 0))) ∧ Hid (wr.heap[w.heap.size]? = some (.cells #[.int .i64 n, .slice va ps.length cap, .slice ca cs.length ck] 34 (0, 0))) ∧ Hid (Below w.heap.size w wr)) (fun ii _ => cs.length - (intOf ii).toNat)
      case atStart => exact ⟨0, rfl, by omega, HA, HK, HB⟩
      case round =>
        obtain ⟨i, rfl, hi, HA1, HK1, HB1⟩ := hrel
        have m2 : wr.cell? ⟨w.heap.size, 2, none⟩ = some (.slice ca cs.length ck) := by rw [cell_of_blk HK1.out]; rfl
        by_cases hil : i < cs.length
        · have hil' : (i : Int) < (cs.length : Int) := by omega
          obtain ⟨ca', ck', eca, hcc⟩ := HC.out.below HB1.out
          simp only [Value.slice.injEq, true_and] at eca
          obtain ⟨rfl, rfl⟩ := eca
          obtain ⟨cb, co, rfl, d0, d1, d2, d3, d4, d5⟩ := hcc i hil
          obtain ⟨⟨s1, s2⟩, ⟨t1, t2⟩⟩ := hends cs[i] (List.getElem_mem _)
          have HRS : Hid (roundL (cs.take (i + 1)) S0 = chanL (roundL (cs.take i) S0) cs[i]) := round_step hil
          obtain ⟨x, hx⟩ : ∃ x, cs[i] = x := ⟨_, rfl⟩
          rw [hx] at d0 d1 d2 d3 d4 d5 s1 s2 t1 t2 HRS
          obtain ⟨xn, xs, xt, xk, xz, xd⟩ := x
          simp only [] at d0 d1 d2 d3 d4 d5 s1 s2 t1 t2
          obtain ⟨S, hS⟩ : ∃ S, roundL (cs.take i) S0 = S := ⟨_, rfl⟩
          rw [hS] at HA1 HRS
          clear hS hcc hx
          obtain ⟨ns, rfl⟩ : ∃ ns : Nat, xs = ns := ⟨xs.toNat, by omega⟩
          obtain ⟨nt, rfl⟩ : ∃ nt : Nat, xt = nt := ⟨xt.toNat, by omega⟩
          have HCH : Hid (∀ (T : Nat → Bool), (if S nt = true then upB S ns else S) = T → chanL S ⟨xn, ns, nt, xk, xz, xd⟩ = if T ns = true ∧ xk = 1 then upB T nt else T) := fun T hT => by
            unfold chanL
            simp only [Int.toNat_natCast]
            rw [hT]
          have hA := newB wr (.cells #[.string xn, .int .i64 ns, .int .i64 nt, .int .i64 xk, .int .i64 xz, .int .i64 xd] 92)
          have hx := heap_new wr (.cells #[.string xn, .int .i64 ns, .int .i64 nt, .int .i64 xk, .int .i64 xz, .int .i64 xd] 92)
          have hlt1 := lt_of_blk HA1.out
          go_upto_region 10 with fail
          have HA2 : Hid _ := keepN HA1.out hA
          have HK2 : Hid _ := keepN HK1.out hA
          have HB2 : Hid _ := HB1.out.trans (hA.mono HB1.out.size)
          generalize wr.alloc (.cells #[.string xn, .int .i64 ns, .int .i64 nt, .int .i64 xk, .int .i64 xz, .int .i64 xd] 92) = WA at *
          obtain ⟨cx, hcx⟩ : ∃ cx, wr.heap.size = cx := ⟨_, rfl⟩
          rw [hcx] at hx hlt1 ⊢
          have HX : Hid (WA.heap[cx]? = some (.cells #[.string xn, .int .i64 ns, .int .i64 nt, .int .i64 xk, .int .i64 xz, .int .i64 xd] 92 (0, 0))) := hx
          have p1 : WA.cell? ⟨cx, 1, none⟩ = some (.int .i64 ns) := by rw [cell_of_blk hx]; rfl
          have p2 : WA.cell? ⟨cx, 2, none⟩ = some (.int .i64 nt) := by rw [cell_of_blk hx]; rfl
          have p3 : WA.cell? ⟨cx, 3, none⟩ = some (.int .i64 xk) := by rw [cell_of_blk hx]; rfl
          have q1 : WA.cell? ⟨w.heap.size + 1, nt, none⟩ = some (.bool (S nt)) := by rw [cell_of_blk HA2.out]; exact boolA_at _ (by omega)
          have q2 : WA.cell? ⟨w.heap.size + 1, ns, none⟩ = some (.bool (S ns)) := by rw [cell_of_blk HA2.out]; exact boolA_at _ (by omega)
          have fz := fun i => frozen_of_row WA (w.heap.size + 1) i _ _ HA2.out
          have fz1 := fz ns
          have fz2 := fz nt
          clear fz d0 d1 d2 d3 d4 d5 m2 hx hA
          cases hst : S nt
          · rw [hst] at q1
            have HC2 : Hid (chanL S ⟨xn, ns, nt, xk, xz, xd⟩ = if S ns = true ∧ xk = 1 then upB S nt else S) := HCH.out S (by rw [hst]; rfl)
            cases hss : S ns
            · rw [hss] at q2
              go_wp2_with fail
              refine ⟨⟨i + 1, by go_num, by omega, ?_, HK2, HB2⟩, by simp [intOf]; omega⟩
              rw [HRS.out, HC2.out, hss]
              simpa using HA2
            · rw [hss] at q2
              by_cases hk1 : xk = 1
              · subst hk1
                go_wp2_with fail
                refine ⟨⟨i + 1, by go_num, by omega, ?_, (blk_far nt _ (show w.heap.size ≠ w.heap.size + 1 by omega)).trans HK2.out, HB2.out.setCell (p := ⟨w.heap.size + 1, nt, none⟩) (show w.heap.size ≤ w.heap.size + 1 by omega) _⟩, by simp [intOf]; omega⟩
                rw [HRS.out, HC2.out, hss, if_pos ⟨rfl, rfl⟩, ← boolA_set]
                exact blk_set nt _ HA2.out
              · go_wp2_with fail
                refine ⟨⟨i + 1, by go_num, by omega, ?_, HK2, HB2⟩, by simp [intOf]; omega⟩
                rw [HRS.out, HC2.out, if_neg (fun h => hk1 h.2)]
                exact HA2
          · rw [hst] at q1
            have HC2 : Hid (chanL S ⟨xn, ns, nt, xk, xz, xd⟩ = if (upB S ns) ns = true ∧ xk = 1 then upB (upB S ns) nt else upB S ns) := HCH.out _ (by rw [hst]; rfl)
            have hup : (upB S ns) ns = true := by unfold upB; simp
            rw [hup] at HC2
            have hA3 := blk_set ns (.bool true) HA2.out
            rw [boolA_set] at hA3
            have hK3 := (blk_far ns (.bool true) (show w.heap.size ≠ w.heap.size + 1 by omega)).trans HK2.out
            have hX3 := (blk_far ns (.bool true) (show cx ≠ w.heap.size + 1 by omega)).trans HX.out
            have hB3 : Below w.heap.size w (WA.setCell ⟨w.heap.size + 1, ns, none⟩ (.bool true)) := HB2.out.setCell (p := ⟨w.heap.size + 1, ns, none⟩) (show w.heap.size ≤ w.heap.size + 1 by omega) _
            go_upto_region 12 with fail
            generalize WA.setCell ⟨w.heap.size + 1, ns, none⟩ (.bool true) = WB at *
            have r1 : WB.cell? ⟨cx, 1, none⟩ = some (.int .i64 ns) := by rw [cell_of_blk hX3]; rfl
            have r2 : WB.cell? ⟨cx, 2, none⟩ = some (.int .i64 nt) := by rw [cell_of_blk hX3]; rfl
            have r3 : WB.cell? ⟨cx, 3, none⟩ = some (.int .i64 xk) := by rw [cell_of_blk hX3]; rfl
            have r4 : WB.cell? ⟨w.heap.size + 1, ns, none⟩ = some (.bool true) := by rw [cell_of_blk hA3, boolA_at _ (by omega), hup]
            have r5 : WB.cell? ⟨w.heap.size + 1, nt, none⟩ = some (.bool ((upB S ns) nt)) := by rw [cell_of_blk hA3]; exact boolA_at _ (by omega)
            have fy := frozen_of_row WB (w.heap.size + 1) nt _ _ hA3
            have HA3 : Hid (WB.heap[w.heap.size + 1]? = some (.cells (boolA (upB S ns) ps.length) 4 (0, 0))) := hA3
            have HK3 : Hid (WB.heap[w.heap.size]? = some (.cells #[.int .i64 n, .slice va ps.length cap, .slice (some ⟨cb, co, none⟩) cs.length ck] 34 (0, 0))) := hK3
            have HB3 : Hid (Below w.heap.size w WB) := hB3
            clear p1 p2 p3 q1 q2 fz1 fz2 hA3 hK3 hX3 hB3
            by_cases hk1 : xk = 1
            · subst hk1
              go_wp2_with fail
              refine ⟨⟨i + 1, by go_num, by omega, ?_, (blk_far nt _ (show w.heap.size ≠ w.heap.size + 1 by omega)).trans HK3.out, HB3.out.setCell (p := ⟨w.heap.size + 1, nt, none⟩) (show w.heap.size ≤ w.heap.size + 1 by omega) _⟩, by simp [intOf]; omega⟩
              rw [HRS.out, HC2.out, if_pos ⟨rfl, rfl⟩, ← boolA_set]
              exact blk_set nt _ HA3.out
            · go_wp2_with fail
              refine ⟨⟨i + 1, by go_num, by omega, ?_, HK3, HB3⟩, by simp [intOf]; omega⟩
              rw [HRS.out, HC2.out, if_neg (fun h => hk1 h.2)]
              exact HA3
        · have hil' : ¬ (i : Int) < (cs.length : Int) := by omega
          go_wp2_with fail
          refine ⟨⟨r + 1, by go_num, by omega, ?_, HK1, HB1⟩, by simp [intOf]; omega⟩
          have : leadL cs (upB (fun _ => false) tp) (r + 1) = roundL (cs.take i) S0 := by
            rw [List.take_of_length_le (by omega), ← HS0.out]; rfl
          rw [this]
          exact HA1
    · have hrl' : ¬ (r : Int) < (ps.length : Int) := by omega
      have hre : r = ps.length := by omega
      go_wp2_with fail
      go_ret
      refine ⟨w.heap.size + 1, rfl, by omega, ?_, HB.out⟩
      rw [← hre]
      have := HA.out
      rwa [← hre] at this
end Go.Proofs.YteioennfpkoagaaGreatDoor.C
namespace Go.Proofs.YteioennfpkoagaaGreatDoor.C
open Go.RowKit K

/- two kernels beside one another -/
def KP (I : KerI) (W : World) (L : List Nat) (a b : Addr) (D : ManD) (S T : KS) (w : World) : Prop :=
  ∃ ox oy, I.KV w (.pointer (some a)) D S ox ∧ I.KV w (.pointer (some b)) D T oy ∧ (∀ k, ox k → W.heap.size ≤ k) ∧ (∀ k, oy k → W.heap.size ≤ k) ∧ (∀ k, ox k → ¬ oy k) ∧ Below W.heap.size W w ∧ ∀ c ∈ L, ¬ ox c ∧ ¬ oy c ∧ c < w.heap.size
theorem KP.swap {I : KerI} {W : World} {L : List Nat} {a b : Addr} {D : ManD} {S T : KS} {w : World} (h : KP I W L a b D S T w) : KP I W L b a D T S w := by
  obtain ⟨ox, oy, h1, h2, h3, h4, h5, h6, h7⟩ := h
  exact ⟨oy, ox, h2, h1, h4, h3, fun k hk hk2 => h5 k hk2 hk, h6, fun c hc => ⟨(h7 c hc).2.1, (h7 c hc).1, (h7 c hc).2.2⟩⟩
theorem KP.bel {I : KerI} {W : World} {L : List Nat} {a b : Addr} {D : ManD} {S T : KS} {w : World} (h : KP I W L a b D S T w) : Below W.heap.size W w := by
  obtain ⟨ox, oy, h1, h2, h3, h4, h5, h6, h7⟩ := h
  exact h6
theorem KP.less {I : KerI} {W : World} {L M : List Nat} {a b : Addr} {D : ManD} {S T : KS} {w : World} (h : KP I W L a b D S T w) (hm : ∀ c ∈ M, c ∈ L) : KP I W M a b D S T w := by
  obtain ⟨ox, oy, h1, h2, h3, h4, h5, h6, h7⟩ := h
  exact ⟨ox, oy, h1, h2, h3, h4, h5, h6, fun c hc => h7 c (hm c hc)⟩
theorem KP.alloc {I : KerI} {W : World} {L : List Nat} {a b : Addr} {D : ManD} {S T : KS} {w : World} (h : KP I W L a b D S T w) (x : Obj) : KP I W (w.heap.size :: L) a b D S T (w.alloc x) := by
  obtain ⟨ox, oy, h1, h2, h3, h4, h5, h6, h7⟩ := h
  have hb : Below w.heap.size w (w.alloc x) := (Below.refl _ w).alloc (Nat.le_refl _) _
  refine ⟨ox, oy, I.below h1 hb, I.below h2 hb, h3, h4, h5, h6.trans (hb.mono h6.size), fun c hm => ?_⟩
  rcases List.mem_cons.1 hm with rfl | hm
  · exact ⟨fun e => by have := I.low h1 _ e; omega, fun e => by have := I.low h2 _ e; omega, by simp⟩
  · have := h7 c hm
    exact ⟨this.1, this.2.1, by simp; omega⟩
theorem KP.below {I : KerI} {W : World} {L : List Nat} {a b : Addr} {D : ManD} {S T : KS} {w w' : World} (h : KP I W L a b D S T w) (hb : Below w.heap.size w w') : KP I W L a b D S T w' := by
  obtain ⟨ox, oy, h1, h2, h3, h4, h5, h6, h7⟩ := h
  exact ⟨ox, oy, I.below h1 hb, I.below h2 hb, h3, h4, h5, h6.trans (hb.mono h6.size), fun c hc => ⟨(h7 c hc).1, (h7 c hc).2.1, Nat.lt_of_lt_of_le (h7 c hc).2.2 hb.size⟩⟩
theorem KP.add {I : KerI} {W : World} {L : List Nat} {a b : Addr} {D : ManD} {S T : KS} {w w' : World} (h : KP I W L a b D S T w) (hb : Below w.heap.size w w') {c : Nat} (hc : w.heap.size ≤ c) (hc2 : c < w'.heap.size) : KP I W (c :: L) a b D S T w' := by
  obtain ⟨ox, oy, h1, h2, h3, h4, h5, h6, h7⟩ := h
  refine ⟨ox, oy, I.below h1 hb, I.below h2 hb, h3, h4, h5, h6.trans (hb.mono h6.size), fun d hd => ?_⟩
  rcases List.mem_cons.1 hd with rfl | hd
  · exact ⟨fun e => by have := I.low h1 _ e; omega, fun e => by have := I.low h2 _ e; omega, hc2⟩
  · exact ⟨(h7 d hd).1, (h7 d hd).2.1, Nat.lt_of_lt_of_le (h7 d hd).2.2 hb.size⟩
theorem KP.set {I : KerI} {W : World} {L : List Nat} {a b : Addr} {D : ManD} {S T : KS} {w : World} (h : KP I W L a b D S T w) {c : Nat} (hc : c ∈ L) (hW : W.heap.size ≤ c) (i : Nat) (v : Value) : KP I W L a b D S T (w.setCell ⟨c, i, none⟩ v) := by
  obtain ⟨ox, oy, h1, h2, h3, h4, h5, h6, h7⟩ := h
  refine ⟨ox, oy, I.keep h1 fun d hd => Below.heap_setCell _ _ _ _ (show d ≠ c from fun e => (h7 c hc).1 (e ▸ hd)), I.keep h2 fun d hd => Below.heap_setCell _ _ _ _ (show d ≠ c from fun e => (h7 c hc).2.1 (e ▸ hd)), h3, h4, h5, h6.setCell (p := ⟨c, i, none⟩) hW _, fun d hd => ⟨(h7 d hd).1, (h7 d hd).2.1, by simpa using (h7 d hd).2.2⟩⟩
theorem KP.aft {I : KerI} {W : World} {L : List Nat} {a b : Addr} {D : ManD} {S' T : KS} {w w' : World} {ox oy : Nat → Prop} (h2 : I.KV w (.pointer (some b)) D T oy) (h3 : ∀ k, ox k → W.heap.size ≤ k) (h4 : ∀ k, oy k → W.heap.size ≤ k) (h5 : ∀ k, ox k → ¬ oy k) (h6 : Below W.heap.size W w) (h7 : ∀ c ∈ L, ¬ ox c ∧ ¬ oy c ∧ c < w.heap.size) (h : Aft I.KV (.pointer (some a)) D S' ox w w') : KP I W L a b D S' T w' ∧ sameL L w w' := by
  obtain ⟨⟨o', h8, h9⟩, hf⟩ := h
  refine ⟨⟨o', oy, h8, I.apart h2 hf (fun k hk hk2 => h5 k hk2 hk), fun k hk => ?_, h4, fun k hk hk2 => ?_, h6.trans (hf.below h6.size h3), fun c hc => ?_⟩, fun c hc => hf.block c (h7 c hc).2.2 (h7 c hc).1⟩
  · rcases h9 k hk with h | h
    · exact h3 k h
    · exact Nat.le_trans h6.size h
  · rcases h9 k hk with h | h
    · exact h5 k h hk2
    · have := I.low h2 k hk2; omega
  · refine ⟨fun e => ?_, (h7 c hc).2.1, Nat.lt_of_lt_of_le (h7 c hc).2.2 hf.size⟩
    rcases h9 c e with h | h
    · exact (h7 c hc).1 h
    · have := (h7 c hc).2.2; omega
theorem KP.tick {I : KerI} {W : World} {L : List Nat} {a b : Addr} {D : ManD} {S T : KS} {w : World} (h : KP I W L a b D S T w) (hs : SmallK bigK S) :
    Calls Tryz.prog 34 #[.pointer (some a)] w fun e w' => e = .returned (.tuple #[]) ∧ KP I W L a b D (tickK S) T w' ∧ sameL L w w' := by
  obtain ⟨ox, oy, h1, h2, h3, h4, h5, h6, h7⟩ := h
  exact Calls.mono (I.tick h1 hs) fun _ _ ⟨e1, e2⟩ => ⟨e1, KP.aft h2 h3 h4 h5 h6 h7 e2⟩
theorem KP.running {I : KerI} {W : World} {L : List Nat} {a b : Addr} {D : ManD} {S T : KS} {w : World} (h : KP I W L a b D S T w) (hs : SmallK bigK S) :
    Calls Tryz.prog 35 #[.pointer (some a)] w fun e w' => e = .returned (.int .i64 (runF D S)) ∧ KP I W L a b D S T w' ∧ sameL L w w' := by
  obtain ⟨ox, oy, h1, h2, h3, h4, h5, h6, h7⟩ := h
  exact Calls.mono (I.running h1 hs) fun _ _ ⟨e1, e2⟩ => ⟨e1, KP.aft h2 h3 h4 h5 h6 h7 e2⟩
theorem KP.state {I : KerI} {W : World} {L : List Nat} {a b : Addr} {D : ManD} {S T : KS} {w : World} (h : KP I W L a b D S T w) (hs : SmallK bigK S) {p : Int} (hp : inR p) :
    Calls Tryz.prog 28 #[.pointer (some a), .int .i64 p] w fun e w' => e = .returned (.tuple #[stV (stateF D S p).1, .int .i64 (stateF D S p).2]) ∧ KP I W L a b D S T w' ∧ sameL L w w' := by
  obtain ⟨ox, oy, h1, h2, h3, h4, h5, h6, h7⟩ := h
  exact Calls.mono (I.state h1 hs hp) fun _ _ ⟨e1, e2⟩ => ⟨e1, KP.aft h2 h3 h4 h5 h6 h7 e2⟩
theorem KP.do_ {I : KerI} {W : World} {L : List Nat} {a b : Addr} {n : Nat} {ps : List PartD} {cs : List ChanD} {S T : KS} {w : World} {pv cv : Value} (h : KP I W L a b ⟨n, ps, cs⟩ S T w) (hp : PartsV W pv ps) (hc : ChansV W cv cs) (hz : checkF ⟨n, ps, cs⟩ = 0) (hne : ps ≠ []) (hs : SmallK bigK S) (o : StepD) (ho : StepR o) :
    Calls Tryz.prog 27 #[.pointer (some a), .agg #[.int .i64 n, pv, cv], stepV o] w fun e w' => e = .returned (ansV (doF ⟨n, ps, cs⟩ S o).1) ∧ KP I W L a b ⟨n, ps, cs⟩ (doF ⟨n, ps, cs⟩ S o).2 T w' ∧ sameL L w w' := by
  obtain ⟨ox, oy, h1, h2, h3, h4, h5, h6, h7⟩ := h
  exact Calls.mono (do_any I w n ps cs pv cv (hp.below h6) (hc.below h6) hz hne _ S ox h1 hs o ho) fun _ _ ⟨e1, e2⟩ => ⟨e1, KP.aft h2 h3 h4 h5 h6 h7 e2⟩
theorem KP.of {I : KerI} {W W2 : World} {a b : Addr} {D : ManD} {S T : KS} {w w' : World} (h : KAt I W a D S w) (h2 : KAt I W2 b D T w') (hb : Below w.heap.size w W2) : KP I W [] a b D S T w' := by
  obtain ⟨o, h1, h3, h4⟩ := h
  obtain ⟨o2, h5, h6, h7⟩ := h2
  have hb2 : Below w.heap.size w w' := hb.trans (h7.mono hb.size)
  refine ⟨o, o2, I.below h1 hb2, h5, h3, fun k hk => ?_, fun k hk hk2 => ?_, h4.trans (hb2.mono h4.size), fun c hc => by cases hc⟩
  · exact Nat.le_trans (Nat.le_trans h4.size hb.size) (h6 k hk)
  · have h8 := I.low h1 k hk
    have h9 := h6 k hk2
    have := hb.size
    omega
end Go.Proofs.YteioennfpkoagaaGreatDoor.C
namespace Go.Proofs.YteioennfpkoagaaGreatDoor.C
open Go.RowKit K

/- the manifest of Queued -/
def qPs : List PartD := [⟨⟨#[97]⟩, 2, 1, 1, []⟩, ⟨⟨#[98]⟩, 4, 2, 1, []⟩]
def qCs (d : Nat) : List ChanD := [⟨⟨#[113]⟩, 0, 1, 1, 32, 1 + d⟩]
theorem q_ok0 : checkF ⟨4, qPs, qCs 0⟩ = 0 := by kernel_rfl
theorem q_ok1 : checkF ⟨4, qPs, qCs 1⟩ = 0 := by kernel_rfl
theorem q_ok2 : checkF ⟨4, qPs, qCs 2⟩ = 0 := by kernel_rfl
theorem q_ok3 : checkF ⟨4, qPs, qCs 3⟩ = 0 := by kernel_rfl
theorem q_ok4 : checkF ⟨4, qPs, qCs 4⟩ = 0 := by kernel_rfl
theorem q_ok5 : checkF ⟨4, qPs, qCs 5⟩ = 0 := by kernel_rfl
theorem q_ok6 : checkF ⟨4, qPs, qCs 6⟩ = 0 := by kernel_rfl
theorem q_ok7 : checkF ⟨4, qPs, qCs 7⟩ = 0 := by kernel_rfl
theorem q_ok {d : Nat} (h : d < 8) : checkF ⟨4, qPs, qCs d⟩ = 0 := by
  have : d = 0 ∨ d = 1 ∨ d = 2 ∨ d = 3 ∨ d = 4 ∨ d = 5 ∨ d = 6 ∨ d = 7 := by omega
  rcases this with rfl | rfl | rfl | rfl | rfl | rfl | rfl | rfl
  · exact q_ok0
  · exact q_ok1
  · exact q_ok2
  · exact q_ok3
  · exact q_ok4
  · exact q_ok5
  · exact q_ok6
  · exact q_ok7
theorem q_t0 : tickF qPs 0 = 0 := by kernel_rfl
theorem q_t1 : tickF qPs 1 = 1 := by kernel_rfl
theorem q_t2 : tickF qPs 2 = 0 := by kernel_rfl
theorem q_t3 : tickF qPs 3 = 1 := by kernel_rfl
theorem q_tick (t : Nat) : tickF qPs (t % 4) = ((t % 2 : Nat) : Int) := by
  have : t % 4 = 0 ∧ t % 2 = 0 ∨ t % 4 = 1 ∧ t % 2 = 1 ∨ t % 4 = 2 ∧ t % 2 = 0 ∨ t % 4 = 3 ∧ t % 2 = 1 := by omega
  rcases this with ⟨h, h'⟩ | ⟨h, h'⟩ | ⟨h, h'⟩ | ⟨h, h'⟩ <;> rw [h, h']
  · exact q_t0
  · exact q_t1
  · exact q_t2
  · exact q_t3
/- its kernel: the tick, and the texts that wait -/
structure QK (t : Nat) (q : List ByteArray) (S : KS) : Prop where
  time : S.time = t
  sts : ∀ p, S.sts p = ⟨false, 0, 0⟩
  ch : (S.chs 0).map MsgD.text = q
theorem QK.boot : QK 0 [] bootK := ⟨rfl, fun _ => rfl, rfl⟩
theorem QK.tick {t : Nat} {q : List ByteArray} {S : KS} (h : QK t q S) : QK (t + 1) q (tickK S) := ⟨by show S.time + 1 = _; rw [h.time], h.sts, h.ch⟩
theorem QK.small {t : Nat} {q : List ByteArray} {S : KS} (h : QK t q S) (ht : t ≤ bigK) : SmallK bigK S :=
  ⟨by rw [h.time]; exact ht, fun p => by rw [h.sts p]; simp, fun p => by rw [h.sts p]; simp⟩
theorem QK.turn {t d : Nat} {q : List ByteArray} {S : KS} (h : QK t q S) {p : Nat} (hp : t % 2 = p) : turnF ⟨4, qPs, qCs d⟩ S p = 0 := by
  have hw : whoF ⟨4, qPs, qCs d⟩ S = ((t % 2 : Nat) : Int) := by
    show tickF qPs (S.time % 4) = _
    rw [h.time]
    exact q_tick t
  have hl : ((qPs.length : Nat) : Int) = 2 := rfl
  unfold turnF
  rw [hw, hp, if_neg (by show ¬ ((p : Int) < 0 ∨ (qPs.length : Int) ≤ p); rw [hl]; omega), if_neg (by rw [h.sts]; simp), if_neg (by simp)]
theorem q_port (d : Nat) : portF ⟨4, qPs, qCs d⟩ 0 = some ⟨⟨#[113]⟩, 0, 1, 1, 32, 1 + d⟩ := rfl
theorem QK.len {t : Nat} {q : List ByteArray} {S : KS} (h : QK t q S) : (S.chs 0).length = q.length := by rw [← h.ch, List.length_map]
theorem QK.long {t d : Nat} {q : List ByteArray} {S : KS} (h : QK t q S) (ht : t % 2 = 0) {s : ByteArray} (hs : 32 < s.size) : sendF ⟨4, qPs, qCs d⟩ S 0 0 s = (24, S) := by
  have h0 := h.turn (d := d) (p := 0) ht
  unfold sendF
  rw [if_neg (fun e => e h0), q_port]
  simp only []
  rw [if_neg (by simp), if_pos (by omega)]
theorem QK.full {t d : Nat} {q : List ByteArray} {S : KS} (h : QK t q S) (ht : t % 2 = 0) {s : ByteArray} (hs : ¬ 32 < s.size) (hq : d < q.length) : sendF ⟨4, qPs, qCs d⟩ S 0 0 s = (25, S) := by
  have h0 := h.turn (d := d) (p := 0) ht
  have hl := h.len
  unfold sendF
  rw [if_neg (fun e => e h0), q_port]
  simp only []
  rw [if_neg (by simp), if_neg (by omega), if_pos (by simp)]
  simp only [Int.toNat_zero]
  rw [if_pos (by rw [hl]; omega)]
theorem QK.sent {t d : Nat} {q : List ByteArray} {S : KS} (h : QK t q S) (ht : t % 2 = 0) {s : ByteArray} (hs : ¬ 32 < s.size) (hq : ¬ d < q.length) : ∃ T, sendF ⟨4, qPs, qCs d⟩ S 0 0 s = (0, T) ∧ QK t (q ++ [s]) T := by
  have h0 := h.turn (d := d) (p := 0) ht
  have hl := h.len
  unfold sendF
  rw [if_neg (fun e => e h0), q_port]
  simp only []
  rw [if_neg (by simp), if_neg (by omega), if_pos (by simp)]
  simp only [Int.toNat_zero]
  rw [if_neg (by rw [hl]; omega)]
  refine ⟨_, rfl, h.time, h.sts, ?_⟩
  show ((if (0 : Nat) = 0 then (S.chs 0 ++ [⟨s, S.time⟩]) else S.chs 0)).map MsgD.text = _
  rw [if_pos rfl, List.map_append, h.ch]; rfl
theorem QK.none {t d : Nat} {S : KS} (h : QK t [] S) (ht : t % 2 = 1) : recvF ⟨4, qPs, qCs d⟩ S 1 0 = ((ByteArray.empty, false, 26), S) := by
  have h0 := h.turn (d := d) (p := 1) ht
  have hl : S.chs 0 = [] := List.map_eq_nil_iff.1 h.ch
  unfold recvF
  rw [if_neg (fun e => e h0), q_port]
  simp only []
  rw [if_neg (by simp)]
  simp only [Int.toNat_zero]
  rw [hl]
theorem QK.got {t d : Nat} {s : ByteArray} {q : List ByteArray} {S : KS} (h : QK t (s :: q) S) (ht : t % 2 = 1) : ∃ T, recvF ⟨4, qPs, qCs d⟩ S 1 0 = ((s, true, 0), T) ∧ QK t q T := by
  have h0 := h.turn (d := d) (p := 1) ht
  obtain ⟨m, l, hl, hm, hr⟩ := List.map_eq_cons_iff.1 h.ch
  unfold recvF
  rw [if_neg (fun e => e h0), q_port]
  simp only []
  rw [if_neg (by simp)]
  simp only [Int.toNat_zero]
  rw [hl]
  simp only []
  rw [if_pos (by simp), hm]
  refine ⟨_, rfl, h.time, h.sts, ?_⟩
  show (if (0 : Nat) = 0 then l else S.chs 0).map MsgD.text = _
  rw [if_pos rfl]
  exact hr
/- how far it is: N texts, at of them taken up, m sent, got of those received -/
structure QP (N ah t at' m got : Nat) : Prop where
  gle : got ≤ m
  sle : m ≤ at'
  ale : at' ≤ N
  even : ah ≤ t → t % 2 = 0 → 2 * (2 * (N - at') + (m - got)) + t ≤ 4 * (N + 4) + ah
  odd : ah ≤ t → t % 2 = 1 → 2 * (N - at') + (m - got) = 0 ∨ 2 * (2 * (N - at') + (m - got)) + 1 + t ≤ 4 * (N + 4) + ah ∨ (0 < m - got ∧ 2 * (2 * (N - at') + (m - got)) + t ≤ 4 * (N + 4) + ah + 1)
theorem QP.start (N ah : Nat) : QP N ah 0 0 0 0 := ⟨by omega, by omega, by omega, by omega, by omega⟩
theorem QP.long {N ah t a m g : Nat} (h : QP N ah t a m g) (ht : t % 2 = 0) (ha : a < N) : QP N ah (t + 1) (a + 1) m g := by
  obtain ⟨h1, h2, h3, h4, h5⟩ := h
  exact ⟨by omega, by omega, by omega, by omega, by omega⟩
theorem QP.full {N ah t a m g : Nat} (h : QP N ah t a m g) (ht : t % 2 = 0) (hf : 0 < m - g) : QP N ah (t + 1) a m g := by
  obtain ⟨h1, h2, h3, h4, h5⟩ := h
  exact ⟨by omega, by omega, by omega, by omega, by omega⟩
theorem QP.push {N ah t a m g : Nat} (h : QP N ah t a m g) (ht : t % 2 = 0) (ha : a < N) : QP N ah (t + 1) (a + 1) (m + 1) g := by
  obtain ⟨h1, h2, h3, h4, h5⟩ := h
  exact ⟨by omega, by omega, by omega, by omega, by omega⟩
theorem QP.rest {N ah t a m g : Nat} (h : QP N ah t a m g) (ht : t % 2 = 0) (ha : ¬ a < N) : QP N ah (t + 1) a m g := by
  obtain ⟨h1, h2, h3, h4, h5⟩ := h
  exact ⟨by omega, by omega, by omega, by omega, by omega⟩
theorem QP.wait {N ah t a m g : Nat} (h : QP N ah t a m g) (ht : t % 2 = 1) (ha : t < ah) : QP N ah (t + 1) a m g := by
  obtain ⟨h1, h2, h3, h4, h5⟩ := h
  exact ⟨by omega, by omega, by omega, by omega, by omega⟩
theorem QP.take {N ah t a m g : Nat} (h : QP N ah t a m g) (ht : t % 2 = 1) (hg : g < m) : QP N ah (t + 1) a m (g + 1) := by
  obtain ⟨h1, h2, h3, h4, h5⟩ := h
  exact ⟨by omega, by omega, by omega, by omega, by omega⟩
theorem QP.empty {N ah t a m g : Nat} (h : QP N ah t a m g) (ht : t % 2 = 1) (hl : t < 4 * (N + 4) + ah) (hg : ¬ g < m) : QP N ah (t + 1) a m g := by
  obtain ⟨h1, h2, h3, h4, h5⟩ := h
  exact ⟨by omega, by omega, by omega, by omega, by omega⟩
theorem QP.end_ {N ah a m g : Nat} (h : QP N ah (4 * (N + 4) + ah) a m g) : g = m ∧ a = N := by
  obtain ⟨h1, h2, h3, h4, h5⟩ := h
  omega
end Go.Proofs.YteioennfpkoagaaGreatDoor.C
namespace Go.Proofs.YteioennfpkoagaaGreatDoor.C
open Go.RowKit K
attribute [local go_sem ↓] Go.wp_at_zero Go.wp_at_succ

/- a list of texts, read from memory -/
def StrsV (w : World) (v : Value) (xs : List ByteArray) : Prop :=
  (∀ x ∈ xs, x.size ≤ 9223372036854775807) ∧ ∃ va cap, v = .slice va xs.length cap ∧ ∀ i (h : i < xs.length), ∃ b off, va = some ⟨b, off, none⟩ ∧ w.cell? ⟨b, off + i, none⟩ = some (.string xs[i])
theorem StrsV.below {w w' : World} {v : Value} {L : List ByteArray} (h : StrsV w v L) (hb : Below w.heap.size w w') : StrsV w' v L := by
  obtain ⟨h1, va, cap, e, hc⟩ := h
  refine ⟨h1, va, cap, e, fun i hi => ?_⟩
  obtain ⟨b, off, e1, h1⟩ := hc i hi
  have hlt := World.block_lt_of_cell? w _ h1
  exact ⟨b, off, e1, (hb.cell (by exact hlt)).trans h1⟩
/- the kernel, and beside it the list of what was sent -/
structure QM (I : KerI) (W1 : World) (a : Addr) (d : Nat) (sv : Value) (ss : List ByteArray) (S : KS) (w : World) : Prop where
  kat : KAtL I W1 sv.ownBlock.toList a ⟨4, qPs, qCs d⟩ S w
  own : w.ownsRow W1.heap.size 9 1 sv ss.length (ss.map .string)
theorem QM.bel {I : KerI} {W1 : World} {a : Addr} {d : Nat} {sv : Value} {ss : List ByteArray} {S : KS} {w : World} (h : QM I W1 a d sv ss S w) : Below W1.heap.size W1 w := h.kat.kat.bel
theorem QM.call {I : KerI} {W1 : World} {a : Addr} {d : Nat} {sv : Value} {ss : List ByteArray} {S T : KS} {w w' : World} (h : QM I W1 a d sv ss S w) (hk : KAtL I W1 sv.ownBlock.toList a ⟨4, qPs, qCs d⟩ T w') (hs : sameL sv.ownBlock.toList w w') : QM I W1 a d sv ss T w' := by
  refine ⟨hk, h.own.1, ?_⟩
  rcases h.own.2 with h0 | ⟨g, cap, cur, rfl, hb, hg, hr⟩
  · exact .inl h0
  · exact .inr ⟨g, cap, cur, rfl, hb, hs.at (by simp [Value.ownBlock]) hg, hr⟩
theorem QM.app {I : KerI} {W1 : World} {a : Addr} {d : Nat} {sv : Value} {ss : List ByteArray} {S : KS} {w w' : World} {x : Obj} {s : ByteArray} {g cap : Nat} (h : QM I W1 a d sv ss S w) (hgr : (w.alloc x).grownBy w' sv.ownBlock)
    (ho : w'.ownsRow W1.heap.size 9 1 (.slice (some ⟨g, 0, none⟩) (ss.length + 1) cap) (ss.length + 1) (ss.map .string ++ [.string s])) (hat : sv.ownBlock = some g ∨ g = w.heap.size + 1) (hlt : g < w'.heap.size) : QM I W1 a d (.slice (some ⟨g, 0, none⟩) (ss.length + 1) cap) (ss ++ [s]) S w' := by
  refine ⟨?_, by rw [List.map_append, List.length_append]; exact ho⟩
  obtain ⟨o, h1, h2, h3, h4⟩ := h.kat
  have hsz : w.heap.size + 1 ≤ w'.heap.size := by have := hgr.size; simpa using this
  have hrow : ∀ k, sv.ownBlock = some k → W1.heap.size ≤ k := fun k hk => (h.own.lt k hk).1
  have hkeep : ∀ b, b < w.heap.size → some b ≠ sv.ownBlock → w'.heap[b]? = w.heap[b]? := fun b hb hne => (hgr.block b (by simp; omega) hne).trans (Below.heap_alloc _ _ _ hb)
  have hno : ∀ b, o b → some b ≠ sv.ownBlock := fun b hb e => (h4 b (by rw [← e]; simp)).1 hb
  refine ⟨o, I.keep h1 fun b hb => hkeep b (I.low h1 b hb) (hno b hb), h2, ⟨hgr.os.trans h3.os, hgr.tape.trans h3.tape, hgr.output.trans h3.output, by have := h3.size; omega, fun k hk => ?_⟩, fun b hb => ?_⟩
  · rw [hkeep k (by have := h3.size; omega) (fun e => by have := hrow k e.symm; omega), h3.block k hk]
  · have e : b = g := by simpa [Value.ownBlock] using hb
    subst e
    refine ⟨fun hob => ?_, hlt⟩
    rcases hat with h5 | h5
    · exact hno b hob h5.symm
    · have := I.low h1 b hob
      omega
theorem QM.at {I : KerI} {W1 : World} {a : Addr} {d : Nat} {sv : Value} {ss : List ByteArray} {S : KS} {w : World} (h : QM I W1 a d sv ss S w) {i : Nat} (hi : i < ss.length) : ∃ g cap, sv = .slice (some ⟨g, 0, none⟩) ss.length cap ∧ w.cell? ⟨g, i, none⟩ = some (.string ss[i]) := by
  have ho := h.own
  rcases own_nil_or ho with ⟨h0, _⟩ | ⟨g, cap, rfl⟩
  · omega
  · refine ⟨g, cap, rfl, ?_⟩
    rw [own_cells ho i (by omega)]
    simp [hi]
def qW (w : World) (d : Nat) : World := ((w.alloc (.cells #[.string ⟨#[97]⟩, .int .i64 2, .int .i64 1, .int .i64 1, .slice none 0 0, .string ⟨#[98]⟩, .int .i64 4, .int .i64 2, .int .i64 1, .slice none 0 0] 42)).alloc (.cells #[.string ⟨#[113]⟩, .int .i64 0, .int .i64 1, .int .i64 1, .int .i64 32, .int .i64 (1 + (d : Int))] 92)).alloc (.cells #[.int .i64 4, .slice (some ⟨w.heap.size, 0, none⟩) 2 2, .slice (some ⟨w.heap.size + 1, 0, none⟩) 1 1] 34)
theorem qW_see (w : World) (d : Nat) : PartsV (qW w d) (.slice (some ⟨w.heap.size, 0, none⟩) 2 2) qPs ∧ PartsC (qW w d) (.slice (some ⟨w.heap.size, 0, none⟩) 2 2) qPs.length ∧ ChansV (qW w d) (.slice (some ⟨w.heap.size + 1, 0, none⟩) 1 1) (qCs d) ∧ Below w.heap.size w (qW w d) := by
  have g5 : (qW w d).heap[w.heap.size]? = some (.cells #[.string ⟨#[97]⟩, .int .i64 2, .int .i64 1, .int .i64 1, .slice none 0 0, .string ⟨#[98]⟩, .int .i64 4, .int .i64 2, .int .i64 1, .slice none 0 0] 42 (0, 0)) := heap_old _ _ (heap_old _ _ (heap_new w _))
  have g6 : (qW w d).heap[w.heap.size + 1]? = some (.cells #[.string ⟨#[113]⟩, .int .i64 0, .int .i64 1, .int .i64 1, .int .i64 32, .int .i64 (1 + (d : Int))] 92 (0, 0)) := heap_old _ _ (by
    have := heap_new (w.alloc (.cells #[.string ⟨#[97]⟩, .int .i64 2, .int .i64 1, .int .i64 1, .slice none 0 0, .string ⟨#[98]⟩, .int .i64 4, .int .i64 2, .int .i64 1, .slice none 0 0] 42)) (.cells #[.string ⟨#[113]⟩, .int .i64 0, .int .i64 1, .int .i64 1, .int .i64 32, .int .i64 (1 + (d : Int))] 92)
    simpa using this)
  refine ⟨⟨_, _, rfl, ?_⟩, ⟨⟨_, _, _, rfl, Nat.le_refl _⟩, ?_⟩, ⟨_, _, rfl, ?_⟩, ?_⟩
  · intro i hi
    have : i = 0 ∨ i = 1 := by have : i < 2 := hi; omega
    rcases this with rfl | rfl
    · refine ⟨_, _, _, rfl, by rw [cell_of_blk g5]; rfl, by rw [cell_of_blk g5]; rfl, by rw [cell_of_blk g5]; rfl, by rw [cell_of_blk g5]; rfl, by rw [cell_of_blk g5]; rfl, ⟨_, _, rfl, ?_⟩⟩
      intro j hj
      exact absurd hj (by simp [qPs])
    · refine ⟨_, _, _, rfl, by rw [cell_of_blk g5]; rfl, by rw [cell_of_blk g5]; rfl, by rw [cell_of_blk g5]; rfl, by rw [cell_of_blk g5]; rfl, by rw [cell_of_blk g5]; rfl, ⟨_, _, rfl, ?_⟩⟩
      intro j hj
      exact absurd hj (by simp [qPs])
  · intro i hi b off l c e rv hc
    cases e
    have : i = 0 ∨ i = 1 := by have : i < 2 := hi; omega
    rcases this with rfl | rfl
    · rw [cell_of_blk g5] at hc
      exact ⟨_, _, _, (Option.some.inj hc).symm, Nat.le_refl _⟩
    · rw [cell_of_blk g5] at hc
      exact ⟨_, _, _, (Option.some.inj hc).symm, Nat.le_refl _⟩
  · intro i hi
    have : i = 0 := by have : i < 1 := hi; omega
    subst this
    exact ⟨_, _, rfl, by rw [cell_of_blk g6]; rfl, by rw [cell_of_blk g6]; rfl, by rw [cell_of_blk g6]; rfl, by rw [cell_of_blk g6]; rfl, by rw [cell_of_blk g6]; rfl, by rw [cell_of_blk g6]; rfl⟩
  · exact ((((Below.refl _ w).alloc (Nat.le_refl _) _).alloc (by simp) _).alloc (by simp; omega) _)
theorem q_fst : ∀ x ∈ qPs, ∀ r : RegD, x.regs.head? = some r → r.rights = 2 := by
  intro x hx r hr
  simp only [qPs, List.mem_cons, List.not_mem_nil, or_false] at hx
  rcases hx with rfl | rfl <;> cases hr
end Go.Proofs.YteioennfpkoagaaGreatDoor.C
namespace Go.Proofs.YteioennfpkoagaaGreatDoor.C
open Go.RowKit K
attribute [local go_sem ↓] Go.wp_at_zero Go.wp_at_succ

theorem infoChanI : (Tryz.prog.info? 92).map (fun i => (i.zero, i.size, i.bytes)) = some (some (.agg #[.string ⟨#[]⟩, .int .i64 0, .int .i64 0, .int .i64 0, .int .i64 0, .int .i64 0]), 6, 56) := by kernel_rfl
set_option maxRecDepth 100000 in
set_option maxHeartbeats 4000000 in
theorem ichans_any (w : World) (rb : Nat) (s : ByteArray) (l : List UInt8) (hs : s.size ≤ 9223372036854775807) (h : RD w rb s l) :
    Calls Tryz.prog 187 #[.pointer (some ⟨rb, 0, none⟩)] w fun e w' => ∃ v, e = .returned v ∧ w'.ownsRow w.heap.size 92 6 v (chansI l).1.length (cC (chansI l).1) ∧ RD w' rb s (chansI l).2 ∧ Frm (isB rb) w w' := by
  obtain ⟨i0, hi0, hz0, hz1, hz2⟩ := parts_of infoChanI
  have hrb := h.lt
  go_enter Tryz.func187, Tryz.ntmps187
  go_wp2_with fail
  refine Calls.mono (number_any w rb s l hs h) ?_
  rintro e w1 ⟨rfl, hr1, hf1⟩
  have hn := num_lt l
  have HR1 : Hid (RD w1 rb s (numI l).2) := hr1
  have HF1 : Hid (Frm (isB rb) w w1) := hf1
  obtain ⟨n, hne⟩ : ∃ n, (numI l).1 = n := ⟨_, rfl⟩
  have HL : Hid (chansI l = readN chanI n (numI l).2) := by
    show _ = _
    rw [← hne]; rfl
  rw [hne] at hn ⊢
  clear h hr1 hf1 hne
  generalize (numI l).2 = l0 at *
  go_wp2_with fail
  go_loopw [3, 7] (fun v i wr => ∃ (k : Nat) (va : Option Addr) (c : Nat) (X : List ChanD) (l' : List UInt8), i = .int .i64 k ∧ v = .slice va k c ∧ Hid (LR chanI n l0 k X l') ∧ Hid (wr.ownsRow w.heap.size 92 6 (.slice va k c) k (cC X)) ∧ Hid (RD wr rb s l') ∧ Hid (Frm (isB rb) w wr)) (fun _ i _ => n - (intOf i).toNat)
  case atStart => exact ⟨0, none, 0, [], l0, rfl, rfl, LR.start _ _ _, World.ownsRow_nil _ _ _ _, HR1, HF1⟩
  case round =>
    obtain ⟨k, va, c, X, l', rfl, rfl, HLR, HOW, HRD, HFR⟩ := hrel
    clear HR1 HF1
    by_cases hlt : k < n
    · have hlt' : (k : Int) < (n : Int) := by omega
      have HS0 : Hid (RSt w (wr.alloc (.cells #[.string ⟨#[]⟩, .int .i64 0, .int .i64 0, .int .i64 0, .int .i64 0, .int .i64 0] 92)) rb s l' wr.heap.size #[.string ⟨#[]⟩, .int .i64 0, .int .i64 0, .int .i64 0, .int .i64 0, .int .i64 0] 92 92 6 (.slice va k c) k (cC X)) := RSt.start HRD.out HFR.out HOW.out hrb _ _
      have HL2 : Hid (LR chanI n l0 (k + 1) (X ++ [(chanI l').1]) (chanI l').2) := HLR.out.step hlt
      go_wp2_with fail
      generalize wr.alloc (.cells #[.string ⟨#[]⟩, .int .i64 0, .int .i64 0, .int .i64 0, .int .i64 0, .int .i64 0] 92) = W1 at *
      generalize wr.heap.size = b at *
      refine Calls.mono (number_any W1 rb s _ hs HS0.out.rd) ?_
      rintro e w2 ⟨rfl, hr2, hf2⟩
      have HS1 : Hid _ := HS0.out.num hr2 hf2
      have c0 : w2.cell? ⟨b, 1, none⟩ = some (.int .i64 0) := HS1.out.cell 1
      have f0 : w2.frozen? ⟨b, 1, none⟩ = false := HS1.out.free 1
      clear hr2 hf2
      obtain ⟨x1, hx1⟩ : ∃ x, (numI l').1 = x := ⟨_, rfl⟩
      rw [hx1]
      go_wp2_with fail
      have HS2 : Hid _ := HS1.out.set 1 (.int .i64 x1)
      clear c0 f0
      generalize w2.setCell ⟨b, 1, none⟩ (.int .i64 x1) = W2 at *
      refine Calls.mono (number_any W2 rb s _ hs HS2.out.rd) ?_
      rintro e w3 ⟨rfl, hr2, hf2⟩
      have HS3 : Hid _ := HS2.out.num hr2 hf2
      have c0 : w3.cell? ⟨b, 2, none⟩ = some (.int .i64 0) := HS3.out.cell 2
      have f0 : w3.frozen? ⟨b, 2, none⟩ = false := HS3.out.free 2
      clear hr2 hf2
      obtain ⟨x2, hx2⟩ : ∃ x, (numI (numI l').2).1 = x := ⟨_, rfl⟩
      rw [hx2]
      go_wp2_with fail
      have HS4 : Hid _ := HS3.out.set 2 (.int .i64 x2)
      clear c0 f0
      generalize w3.setCell ⟨b, 2, none⟩ (.int .i64 x2) = W3 at *
      refine Calls.mono (number_any W3 rb s _ hs HS4.out.rd) ?_
      rintro e w4 ⟨rfl, hr2, hf2⟩
      have HS5 : Hid _ := HS4.out.num hr2 hf2
      have c0 : w4.cell? ⟨b, 3, none⟩ = some (.int .i64 0) := HS5.out.cell 3
      have f0 : w4.frozen? ⟨b, 3, none⟩ = false := HS5.out.free 3
      clear hr2 hf2
      obtain ⟨x3, hx3⟩ : ∃ x, (numI (numI (numI l').2).2).1 = x := ⟨_, rfl⟩
      rw [hx3]
      go_wp2_with fail
      have HS6 : Hid _ := HS5.out.set 3 (.int .i64 x3)
      clear c0 f0
      generalize w4.setCell ⟨b, 3, none⟩ (.int .i64 x3) = W4 at *
      refine Calls.mono (number_any W4 rb s _ hs HS6.out.rd) ?_
      rintro e w5 ⟨rfl, hr2, hf2⟩
      have HS7 : Hid _ := HS6.out.num hr2 hf2
      have c0 : w5.cell? ⟨b, 4, none⟩ = some (.int .i64 0) := HS7.out.cell 4
      have f0 : w5.frozen? ⟨b, 4, none⟩ = false := HS7.out.free 4
      clear hr2 hf2
      obtain ⟨x4, hx4⟩ : ∃ x, (numI (numI (numI (numI l').2).2).2).1 = x := ⟨_, rfl⟩
      rw [hx4]
      go_wp2_with fail
      have HS8 : Hid _ := HS7.out.set 4 (.int .i64 x4)
      clear c0 f0
      generalize w5.setCell ⟨b, 4, none⟩ (.int .i64 x4) = W5 at *
      refine Calls.mono (number_any W5 rb s _ hs HS8.out.rd) ?_
      rintro e w6 ⟨rfl, hr2, hf2⟩
      have HS9 : Hid _ := HS8.out.num hr2 hf2
      have c0 : w6.cell? ⟨b, 5, none⟩ = some (.int .i64 0) := HS9.out.cell 5
      have f0 : w6.frozen? ⟨b, 5, none⟩ = false := HS9.out.free 5
      clear hr2 hf2
      obtain ⟨x5, hx5⟩ : ∃ x, (numI (numI (numI (numI (numI l').2).2).2).2).1 = x := ⟨_, rfl⟩
      rw [hx5]
      have HX : Hid ((chanI l').1 = ⟨noName, x1, x2, x3, x4, x5⟩) := by
        show (⟨_, _, _, _, _, _⟩ : ChanD) = _
        rw [hx1, hx2, hx3, hx4, hx5]
      have HS10 : Hid (RSt w (w6.setCell ⟨b, 5, none⟩ (.int .i64 x5)) rb s (chanI l').2 b #[.string ⟨#[]⟩, .int .i64 x1, .int .i64 x2, .int .i64 x3, .int .i64 x4, .int .i64 x5] 92 92 6 (.slice va k c) k (cC X)) := HS9.out.set 5 (.int .i64 x5)
      have d0 : (w6.setCell ⟨b, 5, none⟩ (.int .i64 x5)).cell? ⟨b, 0, none⟩ = some (.string ⟨#[]⟩) := HS10.out.cell 0
      have d1 : (w6.setCell ⟨b, 5, none⟩ (.int .i64 x5)).cell? ⟨b, 1, none⟩ = some (.int .i64 x1) := HS10.out.cell 1
      have d2 : (w6.setCell ⟨b, 5, none⟩ (.int .i64 x5)).cell? ⟨b, 2, none⟩ = some (.int .i64 x2) := HS10.out.cell 2
      have d3 : (w6.setCell ⟨b, 5, none⟩ (.int .i64 x5)).cell? ⟨b, 3, none⟩ = some (.int .i64 x3) := HS10.out.cell 3
      have d4 : (w6.setCell ⟨b, 5, none⟩ (.int .i64 x5)).cell? ⟨b, 4, none⟩ = some (.int .i64 x4) := HS10.out.cell 4
      have d5 : (w6.setCell ⟨b, 5, none⟩ (.int .i64 x5)).cell? ⟨b, 5, none⟩ = some (.int .i64 x5) := HS10.out.cell 5
      clear HS0 HS1 HS2 HS3 HS4 HS5 HS6 HS7 HS8 HS9 hx1 hx2 hx3 hx4 hx5
      go_upto_region 10 with fail
      generalize w6.setCell ⟨b, 5, none⟩ (.int .i64 x5) = W6 at *
      have hsz := HS10.out.frm.size
      go_wp2_with (first
        | (at_builtin; refine wpList_append_lies _ rfl _ _ _ rfl w.heap.size 92 i0 _ 6 56 Tryz.underlying32 hi0 hz0 hz1 hz2 rfl (by omega) (.slice va k c) k (cC X) rfl (HS10.out.own.alloc _) ⟨W6.heap.size, 0, none⟩ 1 1 [.string ⟨#[]⟩, .int .i64 x1, .int .i64 x2, .int .i64 x3, .int .i64 x4, .int .i64 x5] rfl rfl (World.news_of_block (cs := #[.string ⟨#[]⟩, .int .i64 x1, .int .i64 x2, .int .i64 x3, .int .i64 x4, .int .i64 x5]) (t := 92) (fr := (0, 0)) (heap_new W6 _)) (by simp [Value.oneCell']) (by omega) (by unfold maxLen; omega) (by omega) (by simp; omega) (W6.heap.size + 1) (by simp) ?_; intro g9 c9 V9 hown9 hgrow9 hat9 hlt9)
        | fail)
      obtain ⟨hr9, hf9⟩ := HS10.out.grow _ hgrow9
      refine ⟨⟨k + 1, _, c9, _, _, by go_num, rfl, HL2, ?_, hr9, hf9⟩, by simp [intOf]; omega⟩
      have e : cC (X ++ [(chanI l').1]) = cC X ++ [.string ⟨#[]⟩, .int .i64 x1, .int .i64 x2, .int .i64 x3, .int .i64 x4, .int .i64 x5] := by rw [HX.out]; simp [cC, cC1, noName]
      rw [e]; exact hown9
    · have hlt' : ¬ (k : Int) < (n : Int) := by omega
      go_wp2_with fail
      go_ret
      have hfin := HLR.out.fin hlt
      have hl := HLR.out.len
      rw [HL.out, hfin]
      exact ⟨_, rfl, by rw [hl]; exact HOW.out, HRD.out, HFR.out⟩
end Go.Proofs.YteioennfpkoagaaGreatDoor.C
namespace Go.Proofs.YteioennfpkoagaaGreatDoor.C
open Go.RowKit

theorem madeF_true : MadeF := fun w u L hL => Calls.mono (made_any w u L hL) fun e w' ⟨F, ps, cs, pv, cv, h1, h2, h3, h4, h5, h6, ⟨i, left, h7, h7b⟩, h8, h9, h10, h11, h12, ys, h13, h14, h15⟩ => by
  obtain ⟨n, rfl⟩ : ∃ n : Nat, F = n := ⟨F.toNat, by omega⟩
  exact ⟨n, ps, cs, pv, cv, h1, h2, h4, h3, h5, made_chk h6 h7 h7b h8 h9 h10, h8, fun x hx => (h7.all x hx).few.2.2, h11, by omega, ⟨i, left, h7, h7b⟩, h9, h10, ⟨ys, h13, h14⟩, h15, by omega⟩
end Go.Proofs.YteioennfpkoagaaGreatDoor.C
