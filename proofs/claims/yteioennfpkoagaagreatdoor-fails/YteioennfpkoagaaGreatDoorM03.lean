import Derived.Test.YteioennfpkoagaaGreatDoorM01
import Derived.Test.YteioennfpkoagaaGreatDoorM02
import Derived.Laws.MakeOwn
import Derived.Deep.DeepCutAuto
import Derived.Test.YteioennfpkoagaaGreatDoorB25
namespace Go.Proofs.YteioennfpkoagaaGreatDoor.C
open Go.ChangeShapes Go.WideShapes Go.ChangeAt Go.RowKit K

/- a script in memory -/
def StepsV (w : World) (v : Value) (os : List StepD) : Prop :=
  os.length ≤ 1152921504606846976 ∧ (∀ x ∈ os, StepR x) ∧ ∃ va cap, v = .slice va os.length cap ∧ ∀ i (h : i < os.length), ∃ b off, va = some ⟨b, off, none⟩ ∧
    w.cell? ⟨b, off + i * 5, none⟩ = some (.int .i64 os[i].kind) ∧ w.cell? ⟨b, off + i * 5 + 1, none⟩ = some (.int .i64 os[i].p) ∧ w.cell? ⟨b, off + i * 5 + 2, none⟩ = some (.int .i64 os[i].n) ∧
    w.cell? ⟨b, off + i * 5 + 3, none⟩ = some (.int .i64 os[i].b) ∧ w.cell? ⟨b, off + i * 5 + 4, none⟩ = some (.string os[i].text)
theorem StepsV.below {w w' : World} {v : Value} {os : List StepD} (h : StepsV w v os) (hb : Below w.heap.size w w') : StepsV w' v os := by
  obtain ⟨h0, h1, va, cap, e, hc⟩ := h
  refine ⟨h0, h1, va, cap, e, fun i hi => ?_⟩
  obtain ⟨b, off, e1, c0, c1, c2, c3, c4⟩ := hc i hi
  have hlt := World.block_lt_of_cell? w _ c0
  exact ⟨b, off, e1, (hb.cell (by exact hlt)).trans c0, (hb.cell (by exact hlt)).trans c1, (hb.cell (by exact hlt)).trans c2, (hb.cell (by exact hlt)).trans c3, (hb.cell (by exact hlt)).trans c4⟩
theorem KAt.do_ {I : KerI} {W : World} {a : Addr} {n : Nat} {ps : List PartD} {cs : List ChanD} {S : KS} {w : World} {pv cv : Value} (h : KAt I W a ⟨n, ps, cs⟩ S w) (hp : PartsV W pv ps) (hc : ChansV W cv cs) (hz : checkF ⟨n, ps, cs⟩ = 0) (hne : ps ≠ []) (hs : SmallK bigK S) (o : StepD) (ho : StepR o) :
    Calls Tryz.prog 27 #[.pointer (some a), .agg #[.int .i64 n, pv, cv], stepV o] w fun e w' => e = .returned (ansV (doF ⟨n, ps, cs⟩ S o).1) ∧ KAt I W a ⟨n, ps, cs⟩ (doF ⟨n, ps, cs⟩ S o).2 w' := by
  obtain ⟨ow, h1, h2, h3⟩ := h
  exact Calls.mono (do_any I w n ps cs pv cv (hp.below h3) (hc.below h3) hz hne _ S ow h1 hs o ho) fun _ _ ⟨e1, e2⟩ => ⟨e1, KAt.aft h2 h3 e2⟩
/- what made gives, whole -/
structure MadeM (w : World) (n : Nat) (ps : List PartD) (cs : List ChanD) (pv cv : Value) (w' : World) : Prop where
  parts : PartsV w' pv ps
  partsC : PartsC w' pv ps.length
  chans : ChansV w' cv cs
  chansC : capV cv
  chk : checkF ⟨n, ps, cs⟩ = 0
  ne : ps ≠ []
  fst : ∀ x ∈ ps, ∀ r, x.regs.head? = some r → r.rights = 2
  bel : Below w.heap.size w w'
  f24 : n % 24 = 0
  li : ∃ i left, LI n i left ps ∧ i ≤ 6
  ci : CI ps.length n cs
  few : cs.length ≤ 7
  own : ∃ ys, ps = ys.map Prod.fst ∧ PA w' (w.heap.size + 3) pv ys
  ownC : w'.ownsRow (w.heap.size + 3) 92 6 cv cs.length (cC cs)
  fr : 24 ≤ n ∧ n ≤ 240
def MadeF : Prop := ∀ (w : World) (u : Value) (L : List Int), IntsV w u L →
    Calls Tryz.prog 16 #[u] w fun e w' => ∃ (n : Nat) (ps : List PartD) (cs : List ChanD) (pv cv : Value), e = .returned (.agg #[.int .i64 n, pv, cv]) ∧ MadeM w n ps cs pv cv w'
/- which step a script makes -/
def runK (D : ManD) : List StepD → KS → KS
  | [], S => S
  | o :: l, S => runK D l (doF D S o).2
def runTo (D : ManD) (os : List StepD) (S : KS) : Nat → KS
  | 0 => S
  | k + 1 => match os[k]? with
    | none => runTo D os S k
    | some o => (doF D (runTo D os S k) o).2
theorem runTo_succ {D : ManD} {os : List StepD} {S : KS} {k : Nat} (h : k < os.length) : runTo D os S (k + 1) = (doF D (runTo D os S k) os[k]).2 := by
  show (match os[k]? with | none => _ | some o => _) = _
  rw [List.getElem?_eq_getElem h]
theorem runTo_small (D : ManD) (os : List StepD) (k : Nat) : SmallK k (runTo D os bootK k) := by
  induction k with
  | zero => exact SmallK.boot
  | succ k ih =>
    rcases Nat.lt_or_ge k os.length with h | h
    · rw [runTo_succ h]
      exact ih.step D _
    · have : runTo D os bootK (k + 1) = runTo D os bootK k := by
        show (match os[k]? with | none => _ | some o => _) = _
        rw [List.getElem?_eq_none h]
      rw [this]
      exact ih.mono (Nat.le_succ _)
theorem do_time (D : ManD) (S : KS) (o : StepD) : (doF D S o).2.time = if o.kind = 1 then S.time + 1 else S.time := by
  unfold doF
  split
  · rfl
  split
  · simp only [readF]
    split
    · rfl
    · split <;> rfl
  split
  · simp only [writeF]
    split
    · rfl
    · split <;> rfl
  split
  · simp only [sendF]
    split
    · rfl
    split
    · rfl
    split
    · rfl
    split
    · rfl
    split
    · split <;> rfl
    · rfl
  split
  · simp only [recvF]
    split
    · rfl
    split
    · rfl
    split
    · rfl
    split
    · rfl
    split <;> rfl
  split
  · simp only [raiseF]
    split <;> rfl
  · rfl
end Go.Proofs.YteioennfpkoagaaGreatDoor.C
namespace Go.Proofs.YteioennfpkoagaaGreatDoor.C
open Go.RowKit K
attribute [local go_sem ↓] Go.wp_at_zero Go.wp_at_succ

def boolA (S : Nat → Bool) (n : Nat) : Array Value := ((List.range n).map fun j => Value.bool (S j)).toArray
theorem boolA_at (S : Nat → Bool) {n j : Nat} (h : j < n) : (boolA S n)[j]? = some (.bool (S j)) := by simp [boolA, h]
theorem boolA_set (S : Nat → Bool) (n i : Nat) : (boolA S n).setIfInBounds i (.bool true) = boolA (upB S i) n := by
  apply Array.ext_getElem?
  intro j
  rw [Array.getElem?_setIfInBounds]
  by_cases h : j < n
  · rw [boolA_at S h, boolA_at _ h]
    by_cases e : i = j
    · subst e
      simp [boolA, upB, h]
    · rw [if_neg e]
      unfold upB
      rw [if_neg (fun x => e x.symm)]
  · have h1 : (boolA S n)[j]? = none := by rw [Array.getElem?_eq_none]; simp [boolA]; omega
    have h2 : (boolA (upB S i) n)[j]? = none := by rw [Array.getElem?_eq_none]; simp [boolA]; omega
    rw [h1, h2]
    split
    · simp [boolA]; omega
    · rfl
theorem boolInfo : (Tryz.prog.info? 4).map (fun i => (i.zero, i.size, i.bytes)) = some (some (.bool false), 1, 1) := by kernel_rfl
theorem made_bools (n : Nat) : madeCells #[Value.bool false] n = boolA (fun _ => false) n := by
  apply Array.ext_getElem?
  intro i
  simp only [madeCells, boolA, List.getElem?_toArray, List.getElem?_map, Array.getElem?_map, Array.getElem?_range]
  by_cases h : i < n
  · have e : i % 1 = 0 := Nat.mod_one i
    simp [h, e]
  · simp [h]
theorem make_bools (w : World) (c : Nat) (hc : c ≤ 2000000) :
    (Instr.makeSlice 68 (.int .i64 (c : Int)) (.int .i64 (c : Int))).run Tryz.prog w = .ok (.slice (some ⟨w.heap.size, 0, none⟩) c c) (w.alloc (.cells (boolA (fun _ => false) c) 4)) := by
  obtain ⟨i, hi, hz, hs, hby⟩ := parts_int boolInfo
  have hbi : (i.bytes : Int) * (c : Int) ≤ 281474976710656 := by rw [hby]; omega
  have hr := run_make (P := Tryz.prog) w 68 4 i (.bool false) Tryz.underlying68 hi hz .i64 .i64 c c (by omega) (by omega) hbi (by omega)
  simp only [Int.toNat_natCast, hs, Nat.mul_one] at hr
  rw [show (Value.bool false).cells = #[Value.bool false] from rfl, made_bools] at hr
  exact hr
theorem round_step {cs : List ChanD} {S : Nat → Bool} {i : Nat} (h : i < cs.length) : roundL (cs.take (i + 1)) S = chanL (roundL (cs.take i) S) cs[i] := by
  unfold roundL
  rw [List.take_succ_eq_append_getElem h, List.foldl_append]
  rfl
set_option maxRecDepth 100000 in
set_option maxHeartbeats 8000000 in
theorem leads_any (w : World) (n : Nat) (ps : List PartD) (cs : List ChanD) (pv cv : Value) (hp : PartsV w pv ps) (hc : ChansV w cv cs) (hpl : ps.length ≤ 8) (hcl : cs.length ≤ 8) (hends : ∀ x ∈ cs, (0 ≤ x.source ∧ x.source < ps.length) ∧ (0 ≤ x.target ∧ x.target < ps.length)) (tp : Nat) (htp : tp < ps.length) :
    Calls Tryz.prog 26 #[.agg #[.int .i64 n, pv, cv], .int .i64 tp] w fun e w' => ∃ fb, e = .returned (.slice (some ⟨fb, 0, none⟩) ps.length ps.length) ∧ w.heap.size ≤ fb ∧ w'.heap[fb]? = some (.cells (boolA (leadL cs (upB (fun _ => false) tp) ps.length) ps.length) 4 (0, 0)) ∧ Below w.heap.size w w' := by
  have HC : Hid (ChansV w cv cs) := hc
  obtain ⟨va, cap, rfl, hx⟩ := hp
  clear hx
  obtain ⟨ca, ck, rfl, hx⟩ := hc
  clear hx
  go_enter Tryz.func26, Tryz.ntmps26
  have b0 := newB w (.cells #[.int .i64 n, .slice va ps.length cap, .slice ca cs.length ck] 34)
  have h0 := heap_new w (.cells #[.int .i64 n, .slice va ps.length cap, .slice ca cs.length ck] 34)
  have hmk := make_bools (w.alloc (.cells #[.int .i64 n, .slice va ps.length cap, .slice ca cs.length ck] 34)) ps.length (by omega)
  have z0 : (w.alloc (.cells #[.int .i64 n, .slice va ps.length cap, .slice ca cs.length ck] 34)).heap.size = w.heap.size + 1 := by simp
  go_upto_region 1 with fail
  generalize w.alloc (.cells #[.int .i64 n, .slice va ps.length cap, .slice ca cs.length ck] 34) = W0 at *
  have m1 : W0.cell? ⟨w.heap.size, 1, none⟩ = some (.slice va ps.length cap) := by rw [cell_of_blk h0]; rfl
  have b1 := newB W0 (.cells (boolA (fun _ => false) ps.length) 4)
  have h1 := heap_new W0 (.cells (boolA (fun _ => false) ps.length) 4)
  have k1 := keepN h0 b1
  go_upto_region 2 with fail
  generalize W0.alloc (.cells (boolA (fun _ => false) ps.length) 4) = W1 at *
  have HB1 : Hid (Below w.heap.size w W1) := b0.trans (b1.mono b0.size)
  rw [z0] at h1
  have c1 : W1.cell? ⟨w.heap.size + 1, tp, none⟩ = some (.bool false) := by rw [cell_of_blk h1]; exact boolA_at _ htp
  have f1 := frozen_of_row W1 (w.heap.size + 1) tp _ _ h1
  have htp' : (tp : Int) < (ps.length : Int) := by omega
  have h2 := blk_set tp (.bool true) h1
  rw [boolA_set] at h2
  have k2 := (blk_far tp (.bool true) (show w.heap.size ≠ w.heap.size + 1 by omega)).trans k1
  have b2 : Below w.heap.size w (W1.setCell ⟨w.heap.size + 1, tp, none⟩ (.bool true)) := HB1.out.setCell (p := ⟨w.heap.size + 1, tp, none⟩) (show w.heap.size ≤ w.heap.size + 1 by omega) _
  go_upto_region 3 with fail
  generalize W1.setCell ⟨w.heap.size + 1, tp, none⟩ (.bool true) = W2 at *
  have HH2 : Hid (W2.heap[w.heap.size + 1]? = some (.cells (boolA (upB (fun _ => false) tp) ps.length) 4 (0, 0))) := h2
  have HK2 : Hid (W2.heap[w.heap.size]? = some (.cells #[.int .i64 n, .slice va ps.length cap, .slice ca cs.length ck] 34 (0, 0))) := k2
  have HB2 : Hid (Below w.heap.size w W2) := b2
  clear h1 h2 k1 k2 b0 b1 b2 m1 c1 f1 h0 hmk z0 HB1
  go_wp2_with fail
  go_loopw [6] (fun rr wr => ∃ r : Nat, rr = .int .i64 r ∧ r ≤ ps.length ∧ Hid (wr.heap[w.heap.size + 1]? = some (.cells (boolA (leadL cs (upB (fun _ => false) tp) r) ps.length) 4 (0, 0))) ∧ Hid (wr.heap[w.heap.size]? = some (.cells #[.int .i64 n, .slice va ps.length cap, .slice ca cs.length ck] 34 (0, 0))) ∧ Hid (Below w.heap.size w wr)) (fun rr _ => ps.length - (intOf rr).toNat)
  case atStart => exact ⟨0, rfl, by omega, HH2, HK2, HB2⟩
  case round =>
    obtain ⟨r, rfl, hr, HA, HK, HB⟩ := hrel
    have m1 : wr.cell? ⟨w.heap.size, 1, none⟩ = some (.slice va ps.length cap) := by rw [cell_of_blk HK.out]; rfl
    by_cases hrl : r < ps.length
    · have hrl' : (r : Int) < (ps.length : Int) := by omega
      go_wp2_with fail
      generalize wr = WR at *
      obtain ⟨S0, hS0⟩ : ∃ S0, leadL cs (upB (fun _ => false) tp) r = S0 := ⟨_, rfl⟩
      have HS0 : Hid (leadL cs (upB (fun _ => false) tp) r = S0) := hS0
      rw [hS0] at HA
      clear hS0 m1
      go_loopw [7] (fun ii wr => ∃ i : Nat, ii = .int .i64 i ∧ i ≤ cs.length ∧ Hid (wr.heap[w.heap.size + 1]? = some (.cells (boolA (roundL (cs.take i) S0) ps.length) 4 (0, 0))) ∧ Hid (wr.heap[w.heap.size]? = some (.cells #[.int .i64 n, .slice va ps.length cap, .slice ca cs.length ck] 34 (0, 0))) ∧ Hid (Below w.heap.size w wr)) (fun ii _ => cs.length - (intOf ii).toNat)
      case atStart => exact ⟨0, rfl, by omega, HA, HK, HB⟩
      case round =>
        obtain ⟨i, rfl, hi, HA1, HK1, HB1⟩ := hrel
        have m2 : wr.cell? ⟨w.heap.size, 2, none⟩ = some (.slice ca cs.length ck) := by rw [cell_of_blk HK1.out]; rfl
        by_cases hil : i < cs.length
        · have hil' : (i : Int) < (cs.length : Int) := by omega
          obtain ⟨ca', ck', eca, hcc⟩ := HC.out.below HB1.out
          simp only [Value.slice.injEq, true_and] at eca
          obtain ⟨rfl, rfl⟩ := eca
          obtain ⟨cb, co, rfl, d0, d1, d2, d3, d4, d5⟩ := hcc i hil
          obtain ⟨⟨s1, s2⟩, ⟨t1, t2⟩⟩ := hends cs[i] (List.getElem_mem _)
          have HRS : Hid (roundL (cs.take (i + 1)) S0 = chanL (roundL (cs.take i) S0) cs[i]) := round_step hil
          obtain ⟨x, hx⟩ : ∃ x, cs[i] = x := ⟨_, rfl⟩
          rw [hx] at d0 d1 d2 d3 d4 d5 s1 s2 t1 t2 HRS
          obtain ⟨xn, xs, xt, xk, xz, xd⟩ := x
          simp only [] at d0 d1 d2 d3 d4 d5 s1 s2 t1 t2
          obtain ⟨S, hS⟩ : ∃ S, roundL (cs.take i) S0 = S := ⟨_, rfl⟩
          rw [hS] at HA1 HRS
          clear hS hcc hx
          obtain ⟨ns, rfl⟩ : ∃ ns : Nat, xs = ns := ⟨xs.toNat, by omega⟩
          obtain ⟨nt, rfl⟩ : ∃ nt : Nat, xt = nt := ⟨xt.toNat, by omega⟩
          have HCH : Hid (∀ (T : Nat → Bool), (if S nt = true then upB S ns else S) = T → chanL S ⟨xn, ns, nt, xk, xz, xd⟩ = if T ns = true ∧ xk = 1 then upB T nt else T) := fun T hT => by
            unfold chanL
            simp only [Int.toNat_natCast]
            rw [hT]
          have hA := newB wr (.cells #[.string xn, .int .i64 ns, .int .i64 nt, .int .i64 xk, .int .i64 xz, .int .i64 xd] 92)
          have hx := heap_new wr (.cells #[.string xn, .int .i64 ns, .int .i64 nt, .int .i64 xk, .int .i64 xz, .int .i64 xd] 92)
          have hlt1 := lt_of_blk HA1.out
          go_upto_region 10 with fail
          have HA2 : Hid _ := keepN HA1.out hA
          have HK2 : Hid _ := keepN HK1.out hA
          have HB2 : Hid _ := HB1.out.trans (hA.mono HB1.out.size)
          generalize wr.alloc (.cells #[.string xn, .int .i64 ns, .int .i64 nt, .int .i64 xk, .int .i64 xz, .int .i64 xd] 92) = WA at *
          obtain ⟨cx, hcx⟩ : ∃ cx, wr.heap.size = cx := ⟨_, rfl⟩
          rw [hcx] at hx hlt1 ⊢
          have HX : Hid (WA.heap[cx]? = some (.cells #[.string xn, .int .i64 ns, .int .i64 nt, .int .i64 xk, .int .i64 xz, .int .i64 xd] 92 (0, 0))) := hx
          have p1 : WA.cell? ⟨cx, 1, none⟩ = some (.int .i64 ns) := by rw [cell_of_blk hx]; rfl
          have p2 : WA.cell? ⟨cx, 2, none⟩ = some (.int .i64 nt) := by rw [cell_of_blk hx]; rfl
          have p3 : WA.cell? ⟨cx, 3, none⟩ = some (.int .i64 xk) := by rw [cell_of_blk hx]; rfl
          have q1 : WA.cell? ⟨w.heap.size + 1, nt, none⟩ = some (.bool (S nt)) := by rw [cell_of_blk HA2.out]; exact boolA_at _ (by omega)
          have q2 : WA.cell? ⟨w.heap.size + 1, ns, none⟩ = some (.bool (S ns)) := by rw [cell_of_blk HA2.out]; exact boolA_at _ (by omega)
          have fz := fun i => frozen_of_row WA (w.heap.size + 1) i _ _ HA2.out
          have fz1 := fz ns
          have fz2 := fz nt
          clear fz d0 d1 d2 d3 d4 d5 m2 hx hA
          cases hst : S nt
          · rw [hst] at q1
            have HC2 : Hid (chanL S ⟨xn, ns, nt, xk, xz, xd⟩ = if S ns = true ∧ xk = 1 then upB S nt else S) := HCH.out S (by rw [hst]; rfl)
            cases hss : S ns
            · rw [hss] at q2
              go_wp2_with fail
              refine ⟨⟨i + 1, by go_num, by omega, ?_, HK2, HB2⟩, by simp [intOf]; omega⟩
              rw [HRS.out, HC2.out, hss]
              simpa using HA2
            · rw [hss] at q2
              by_cases hk1 : xk = 1
              · subst hk1
                go_wp2_with fail
                refine ⟨⟨i + 1, by go_num, by omega, ?_, (blk_far nt _ (show w.heap.size ≠ w.heap.size + 1 by omega)).trans HK2.out, HB2.out.setCell (p := ⟨w.heap.size + 1, nt, none⟩) (show w.heap.size ≤ w.heap.size + 1 by omega) _⟩, by simp [intOf]; omega⟩
                rw [HRS.out, HC2.out, hss, if_pos ⟨rfl, rfl⟩, ← boolA_set]
                exact blk_set nt _ HA2.out
              · go_wp2_with fail
                refine ⟨⟨i + 1, by go_num, by omega, ?_, HK2, HB2⟩, by simp [intOf]; omega⟩
                rw [HRS.out, HC2.out, if_neg (fun h => hk1 h.2)]
                exact HA2
          · rw [hst] at q1
            have HC2 : Hid (chanL S ⟨xn, ns, nt, xk, xz, xd⟩ = if (upB S ns) ns = true ∧ xk = 1 then upB (upB S ns) nt else upB S ns) := HCH.out _ (by rw [hst]; rfl)
            have hup : (upB S ns) ns = true := by unfold upB; simp
            rw [hup] at HC2
            have hA3 := blk_set ns (.bool true) HA2.out
            rw [boolA_set] at hA3
            have hK3 := (blk_far ns (.bool true) (show w.heap.size ≠ w.heap.size + 1 by omega)).trans HK2.out
            have hX3 := (blk_far ns (.bool true) (show cx ≠ w.heap.size + 1 by omega)).trans HX.out
            have hB3 : Below w.heap.size w (WA.setCell ⟨w.heap.size + 1, ns, none⟩ (.bool true)) := HB2.out.setCell (p := ⟨w.heap.size + 1, ns, none⟩) (show w.heap.size ≤ w.heap.size + 1 by omega) _
            go_upto_region 12 with fail
            generalize WA.setCell ⟨w.heap.size + 1, ns, none⟩ (.bool true) = WB at *
            have r1 : WB.cell? ⟨cx, 1, none⟩ = some (.int .i64 ns) := by rw [cell_of_blk hX3]; rfl
            have r2 : WB.cell? ⟨cx, 2, none⟩ = some (.int .i64 nt) := by rw [cell_of_blk hX3]; rfl
            have r3 : WB.cell? ⟨cx, 3, none⟩ = some (.int .i64 xk) := by rw [cell_of_blk hX3]; rfl
            have r4 : WB.cell? ⟨w.heap.size + 1, ns, none⟩ = some (.bool true) := by rw [cell_of_blk hA3, boolA_at _ (by omega), hup]
            have r5 : WB.cell? ⟨w.heap.size + 1, nt, none⟩ = some (.bool ((upB S ns) nt)) := by rw [cell_of_blk hA3]; exact boolA_at _ (by omega)
            have fy := frozen_of_row WB (w.heap.size + 1) nt _ _ hA3
            have HA3 : Hid (WB.heap[w.heap.size + 1]? = some (.cells (boolA (upB S ns) ps.length) 4 (0, 0))) := hA3
            have HK3 : Hid (WB.heap[w.heap.size]? = some (.cells #[.int .i64 n, .slice va ps.length cap, .slice (some ⟨cb, co, none⟩) cs.length ck] 34 (0, 0))) := hK3
            have HB3 : Hid (Below w.heap.size w WB) := hB3
            clear p1 p2 p3 q1 q2 fz1 fz2 hA3 hK3 hX3 hB3
            by_cases hk1 : xk = 1
            · subst hk1
              go_wp2_with fail
              refine ⟨⟨i + 1, by go_num, by omega, ?_, (blk_far nt _ (show w.heap.size ≠ w.heap.size + 1 by omega)).trans HK3.out, HB3.out.setCell (p := ⟨w.heap.size + 1, nt, none⟩) (show w.heap.size ≤ w.heap.size + 1 by omega) _⟩, by simp [intOf]; omega⟩
              rw [HRS.out, HC2.out, if_pos ⟨rfl, rfl⟩, ← boolA_set]
              exact blk_set nt _ HA3.out
            · go_wp2_with fail
              refine ⟨⟨i + 1, by go_num, by omega, ?_, HK3, HB3⟩, by simp [intOf]; omega⟩
              rw [HRS.out, HC2.out, if_neg (fun h => hk1 h.2)]
              exact HA3
        · have hil' : ¬ (i : Int) < (cs.length : Int) := by omega
          go_wp2_with fail
          refine ⟨⟨r + 1, by go_num, by omega, ?_, HK1, HB1⟩, by simp [intOf]; omega⟩
          have : leadL cs (upB (fun _ => false) tp) (r + 1) = roundL (cs.take i) S0 := by
            rw [List.take_of_length_le (by omega), ← HS0.out]; rfl
          rw [this]
          exact HA1
    · have hrl' : ¬ (r : Int) < (ps.length : Int) := by omega
      have hre : r = ps.length := by omega
      go_wp2_with fail
      go_ret
      refine ⟨w.heap.size + 1, rfl, by omega, ?_, HB.out⟩
      rw [← hre]
      have := HA.out
      rwa [← hre] at this
end Go.Proofs.YteioennfpkoagaaGreatDoor.C
namespace Go.Proofs.YteioennfpkoagaaGreatDoor.C
open Go.RowKit K

/- one kernel, and blocks of others that lie beside it -/
def KAtL (I : KerI) (W : World) (L : List Nat) (a : Addr) (D : ManD) (S : KS) (w : World) : Prop :=
  ∃ o, I.KV w (.pointer (some a)) D S o ∧ (∀ b, o b → W.heap.size ≤ b) ∧ Below W.heap.size W w ∧ ∀ b ∈ L, ¬ o b ∧ b < w.heap.size
def sameL (L : List Nat) (w w' : World) : Prop := ∀ b ∈ L, w'.heap[b]? = w.heap[b]?
theorem KAt.lists {I : KerI} {W : World} {a : Addr} {D : ManD} {S : KS} {w : World} (h : KAt I W a D S w) : KAtL I W [] a D S w := by
  obtain ⟨o, h1, h2, h3⟩ := h
  exact ⟨o, h1, h2, h3, fun b hb => by cases hb⟩
theorem KAtL.kat {I : KerI} {W : World} {L : List Nat} {a : Addr} {D : ManD} {S : KS} {w : World} (h : KAtL I W L a D S w) : KAt I W a D S w := by
  obtain ⟨o, h1, h2, h3, _⟩ := h
  exact ⟨o, h1, h2, h3⟩
theorem KAtL.alloc {I : KerI} {W : World} {L : List Nat} {a : Addr} {D : ManD} {S : KS} {w : World} (h : KAtL I W L a D S w) (x : Obj) : KAtL I W (w.heap.size :: L) a D S (w.alloc x) := by
  obtain ⟨o, h1, h2, h3, h4⟩ := h
  have hb : Below w.heap.size w (w.alloc x) := (Below.refl _ w).alloc (Nat.le_refl _) _
  refine ⟨o, I.below h1 hb, h2, h3.trans (hb.mono h3.size), fun b hm => ?_⟩
  rcases List.mem_cons.1 hm with rfl | hm
  · exact ⟨fun e => by have := I.low h1 _ e; omega, by simp⟩
  · have := h4 b hm
    exact ⟨this.1, by simp; omega⟩
theorem KAtL.drew {I : KerI} {W : World} {L : List Nat} {a : Addr} {D : ManD} {S : KS} {w : World} (h : KAtL I W L a D S w) : KAtL I W L a D S w.drew := by
  obtain ⟨o, h1, h2, h3, h4⟩ := h
  exact ⟨o, I.keep h1 fun _ _ => rfl, h2, h3.drew, h4⟩
theorem KAtL.set {I : KerI} {W : World} {L : List Nat} {a : Addr} {D : ManD} {S : KS} {w : World} (h : KAtL I W L a D S w) {b : Nat} (hb : b ∈ L) (hW : W.heap.size ≤ b) (i : Nat) (v : Value) : KAtL I W L a D S (w.setCell ⟨b, i, none⟩ v) := by
  obtain ⟨o, h1, h2, h3, h4⟩ := h
  refine ⟨o, I.keep h1 fun c hc => Below.heap_setCell _ _ _ _ (show c ≠ b from fun e => (h4 b hb).1 (e ▸ hc)), h2, h3.setCell (p := ⟨b, i, none⟩) hW _, fun c hc => ?_⟩
  have := h4 c hc
  exact ⟨this.1, by simpa using this.2⟩
theorem KAtL.aft {I : KerI} {W : World} {L : List Nat} {a : Addr} {D : ManD} {T : KS} {w w' : World} {o : Nat → Prop} (h2 : ∀ b, o b → W.heap.size ≤ b) (h3 : Below W.heap.size W w) (h4 : ∀ b ∈ L, ¬ o b ∧ b < w.heap.size) (h : Aft I.KV (.pointer (some a)) D T o w w') : KAtL I W L a D T w' ∧ sameL L w w' := by
  obtain ⟨⟨o', h5, h6⟩, hf⟩ := h
  refine ⟨⟨o', h5, fun b hb => ?_, h3.trans (hf.below h3.size h2), fun b hb => ?_⟩, fun b hb => hf.block b (h4 b hb).2 (h4 b hb).1⟩
  · rcases h6 b hb with h7 | h7
    · exact h2 b h7
    · exact Nat.le_trans h3.size h7
  · have := h4 b hb
    refine ⟨fun e => ?_, Nat.lt_of_lt_of_le this.2 hf.size⟩
    rcases h6 b e with h7 | h7
    · exact this.1 h7
    · omega
theorem sameL.at {L : List Nat} {w w' : World} (h : sameL L w w') {b : Nat} {x : Obj} (hb : b ∈ L) (hx : w.heap[b]? = some x) : w'.heap[b]? = some x := (h b hb).trans hx
theorem KAtL.tick {I : KerI} {W : World} {L : List Nat} {a : Addr} {D : ManD} {S : KS} {w : World} (h : KAtL I W L a D S w) (hs : SmallK bigK S) :
    Calls Tryz.prog 34 #[.pointer (some a)] w fun e w' => e = .returned (.tuple #[]) ∧ KAtL I W L a D (tickK S) w' ∧ sameL L w w' := by
  obtain ⟨o, h1, h2, h3, h4⟩ := h
  exact Calls.mono (I.tick h1 hs) fun _ _ ⟨e1, e2⟩ => ⟨e1, KAtL.aft h2 h3 h4 e2⟩
theorem KAtL.running {I : KerI} {W : World} {L : List Nat} {a : Addr} {D : ManD} {S : KS} {w : World} (h : KAtL I W L a D S w) (hs : SmallK bigK S) :
    Calls Tryz.prog 35 #[.pointer (some a)] w fun e w' => e = .returned (.int .i64 (runF D S)) ∧ KAtL I W L a D S w' ∧ sameL L w w' := by
  obtain ⟨o, h1, h2, h3, h4⟩ := h
  exact Calls.mono (I.running h1 hs) fun _ _ ⟨e1, e2⟩ => ⟨e1, KAtL.aft h2 h3 h4 e2⟩
theorem KAtL.read {I : KerI} {W : World} {L : List Nat} {a : Addr} {D : ManD} {S : KS} {w : World} (h : KAtL I W L a D S w) (hs : SmallK bigK S) {p x : Int} (hp : inR p) (hx : inR x) :
    Calls Tryz.prog 29 #[.pointer (some a), .int .i64 p, .int .i64 x] w fun e w' => e = .returned (.tuple #[.int .i64 (readF D S p x).1, .int .i64 (readF D S p x).2.1]) ∧ KAtL I W L a D (readF D S p x).2.2 w' ∧ sameL L w w' := by
  obtain ⟨o, h1, h2, h3, h4⟩ := h
  exact Calls.mono (I.read h1 hs hp hx) fun _ _ ⟨e1, e2⟩ => ⟨e1, KAtL.aft h2 h3 h4 e2⟩
theorem KAtL.write {I : KerI} {W : World} {L : List Nat} {a : Addr} {D : ManD} {S : KS} {w : World} (h : KAtL I W L a D S w) (hs : SmallK bigK S) {p x b : Int} (hp : inR p) (hx : inR x) (hb : inR b) :
    Calls Tryz.prog 30 #[.pointer (some a), .int .i64 p, .int .i64 x, .int .i64 b] w fun e w' => e = .returned (.int .i64 (writeF D S p x b).1) ∧ KAtL I W L a D (writeF D S p x b).2 w' ∧ sameL L w w' := by
  obtain ⟨o, h1, h2, h3, h4⟩ := h
  exact Calls.mono (I.write h1 hs hp hx hb) fun _ _ ⟨e1, e2⟩ => ⟨e1, KAtL.aft h2 h3 h4 e2⟩
theorem KAtL.send {I : KerI} {W : World} {L : List Nat} {a : Addr} {D : ManD} {S : KS} {w : World} (h : KAtL I W L a D S w) (hs : SmallK bigK S) {p c : Int} {s : ByteArray} (hp : inR p) (hc : inR c) (hz : s.size ≤ 9223372036854775807) :
    Calls Tryz.prog 31 #[.pointer (some a), .int .i64 p, .int .i64 c, .string s] w fun e w' => e = .returned (.int .i64 (sendF D S p c s).1) ∧ KAtL I W L a D (sendF D S p c s).2 w' ∧ sameL L w w' := by
  obtain ⟨o, h1, h2, h3, h4⟩ := h
  exact Calls.mono (I.send h1 hs hp hc hz) fun _ _ ⟨e1, e2⟩ => ⟨e1, KAtL.aft h2 h3 h4 e2⟩
theorem KAtL.recv {I : KerI} {W : World} {L : List Nat} {a : Addr} {D : ManD} {S : KS} {w : World} (h : KAtL I W L a D S w) (hs : SmallK bigK S) {p c : Int} (hp : inR p) (hc : inR c) :
    Calls Tryz.prog 32 #[.pointer (some a), .int .i64 p, .int .i64 c] w fun e w' => e = .returned (.tuple #[.string (recvF D S p c).1.1, .bool (recvF D S p c).1.2.1, .int .i64 (recvF D S p c).1.2.2]) ∧ KAtL I W L a D (recvF D S p c).2 w' ∧ sameL L w w' := by
  obtain ⟨o, h1, h2, h3, h4⟩ := h
  exact Calls.mono (I.recv h1 hs hp hc) fun _ _ ⟨e1, e2⟩ => ⟨e1, KAtL.aft h2 h3 h4 e2⟩
theorem KAtL.raise {I : KerI} {W : World} {L : List Nat} {a : Addr} {D : ManD} {S : KS} {w : World} (h : KAtL I W L a D S w) (hs : SmallK bigK S) {p : Int} (hp : inR p) :
    Calls Tryz.prog 33 #[.pointer (some a), .int .i64 p] w fun e w' => e = .returned (.int .i64 (raiseF D S p).1) ∧ KAtL I W L a D (raiseF D S p).2 w' ∧ sameL L w w' := by
  obtain ⟨o, h1, h2, h3, h4⟩ := h
  exact Calls.mono (I.raise h1 hs hp) fun _ _ ⟨e1, e2⟩ => ⟨e1, KAtL.aft h2 h3 h4 e2⟩
theorem KAtL.state {I : KerI} {W : World} {L : List Nat} {a : Addr} {D : ManD} {S : KS} {w : World} (h : KAtL I W L a D S w) (hs : SmallK bigK S) {p : Int} (hp : inR p) :
    Calls Tryz.prog 28 #[.pointer (some a), .int .i64 p] w fun e w' => e = .returned (.tuple #[stV (stateF D S p).1, .int .i64 (stateF D S p).2]) ∧ KAtL I W L a D S w' ∧ sameL L w w' := by
  obtain ⟨o, h1, h2, h3, h4⟩ := h
  exact Calls.mono (I.state h1 hs hp) fun _ _ ⟨e1, e2⟩ => ⟨e1, KAtL.aft h2 h3 h4 e2⟩
end Go.Proofs.YteioennfpkoagaaGreatDoor.C
namespace Go.Proofs.YteioennfpkoagaaGreatDoor.C
open Go.RowKit K

/- two kernels beside one another -/
def KP (I : KerI) (W : World) (L : List Nat) (a b : Addr) (D : ManD) (S T : KS) (w : World) : Prop :=
  ∃ ox oy, I.KV w (.pointer (some a)) D S ox ∧ I.KV w (.pointer (some b)) D T oy ∧ (∀ k, ox k → W.heap.size ≤ k) ∧ (∀ k, oy k → W.heap.size ≤ k) ∧ (∀ k, ox k → ¬ oy k) ∧ Below W.heap.size W w ∧ ∀ c ∈ L, ¬ ox c ∧ ¬ oy c ∧ c < w.heap.size
theorem KP.swap {I : KerI} {W : World} {L : List Nat} {a b : Addr} {D : ManD} {S T : KS} {w : World} (h : KP I W L a b D S T w) : KP I W L b a D T S w := by
  obtain ⟨ox, oy, h1, h2, h3, h4, h5, h6, h7⟩ := h
  exact ⟨oy, ox, h2, h1, h4, h3, fun k hk hk2 => h5 k hk2 hk, h6, fun c hc => ⟨(h7 c hc).2.1, (h7 c hc).1, (h7 c hc).2.2⟩⟩
theorem KP.bel {I : KerI} {W : World} {L : List Nat} {a b : Addr} {D : ManD} {S T : KS} {w : World} (h : KP I W L a b D S T w) : Below W.heap.size W w := by
  obtain ⟨ox, oy, h1, h2, h3, h4, h5, h6, h7⟩ := h
  exact h6
theorem KP.less {I : KerI} {W : World} {L M : List Nat} {a b : Addr} {D : ManD} {S T : KS} {w : World} (h : KP I W L a b D S T w) (hm : ∀ c ∈ M, c ∈ L) : KP I W M a b D S T w := by
  obtain ⟨ox, oy, h1, h2, h3, h4, h5, h6, h7⟩ := h
  exact ⟨ox, oy, h1, h2, h3, h4, h5, h6, fun c hc => h7 c (hm c hc)⟩
theorem KP.alloc {I : KerI} {W : World} {L : List Nat} {a b : Addr} {D : ManD} {S T : KS} {w : World} (h : KP I W L a b D S T w) (x : Obj) : KP I W (w.heap.size :: L) a b D S T (w.alloc x) := by
  obtain ⟨ox, oy, h1, h2, h3, h4, h5, h6, h7⟩ := h
  have hb : Below w.heap.size w (w.alloc x) := (Below.refl _ w).alloc (Nat.le_refl _) _
  refine ⟨ox, oy, I.below h1 hb, I.below h2 hb, h3, h4, h5, h6.trans (hb.mono h6.size), fun c hm => ?_⟩
  rcases List.mem_cons.1 hm with rfl | hm
  · exact ⟨fun e => by have := I.low h1 _ e; omega, fun e => by have := I.low h2 _ e; omega, by simp⟩
  · have := h7 c hm
    exact ⟨this.1, this.2.1, by simp; omega⟩
theorem KP.below {I : KerI} {W : World} {L : List Nat} {a b : Addr} {D : ManD} {S T : KS} {w w' : World} (h : KP I W L a b D S T w) (hb : Below w.heap.size w w') : KP I W L a b D S T w' := by
  obtain ⟨ox, oy, h1, h2, h3, h4, h5, h6, h7⟩ := h
  exact ⟨ox, oy, I.below h1 hb, I.below h2 hb, h3, h4, h5, h6.trans (hb.mono h6.size), fun c hc => ⟨(h7 c hc).1, (h7 c hc).2.1, Nat.lt_of_lt_of_le (h7 c hc).2.2 hb.size⟩⟩
theorem KP.add {I : KerI} {W : World} {L : List Nat} {a b : Addr} {D : ManD} {S T : KS} {w w' : World} (h : KP I W L a b D S T w) (hb : Below w.heap.size w w') {c : Nat} (hc : w.heap.size ≤ c) (hc2 : c < w'.heap.size) : KP I W (c :: L) a b D S T w' := by
  obtain ⟨ox, oy, h1, h2, h3, h4, h5, h6, h7⟩ := h
  refine ⟨ox, oy, I.below h1 hb, I.below h2 hb, h3, h4, h5, h6.trans (hb.mono h6.size), fun d hd => ?_⟩
  rcases List.mem_cons.1 hd with rfl | hd
  · exact ⟨fun e => by have := I.low h1 _ e; omega, fun e => by have := I.low h2 _ e; omega, hc2⟩
  · exact ⟨(h7 d hd).1, (h7 d hd).2.1, Nat.lt_of_lt_of_le (h7 d hd).2.2 hb.size⟩
theorem KP.set {I : KerI} {W : World} {L : List Nat} {a b : Addr} {D : ManD} {S T : KS} {w : World} (h : KP I W L a b D S T w) {c : Nat} (hc : c ∈ L) (hW : W.heap.size ≤ c) (i : Nat) (v : Value) : KP I W L a b D S T (w.setCell ⟨c, i, none⟩ v) := by
  obtain ⟨ox, oy, h1, h2, h3, h4, h5, h6, h7⟩ := h
  refine ⟨ox, oy, I.keep h1 fun d hd => Below.heap_setCell _ _ _ _ (show d ≠ c from fun e => (h7 c hc).1 (e ▸ hd)), I.keep h2 fun d hd => Below.heap_setCell _ _ _ _ (show d ≠ c from fun e => (h7 c hc).2.1 (e ▸ hd)), h3, h4, h5, h6.setCell (p := ⟨c, i, none⟩) hW _, fun d hd => ⟨(h7 d hd).1, (h7 d hd).2.1, by simpa using (h7 d hd).2.2⟩⟩
theorem KP.aft {I : KerI} {W : World} {L : List Nat} {a b : Addr} {D : ManD} {S' T : KS} {w w' : World} {ox oy : Nat → Prop} (h2 : I.KV w (.pointer (some b)) D T oy) (h3 : ∀ k, ox k → W.heap.size ≤ k) (h4 : ∀ k, oy k → W.heap.size ≤ k) (h5 : ∀ k, ox k → ¬ oy k) (h6 : Below W.heap.size W w) (h7 : ∀ c ∈ L, ¬ ox c ∧ ¬ oy c ∧ c < w.heap.size) (h : Aft I.KV (.pointer (some a)) D S' ox w w') : KP I W L a b D S' T w' ∧ sameL L w w' := by
  obtain ⟨⟨o', h8, h9⟩, hf⟩ := h
  refine ⟨⟨o', oy, h8, I.apart h2 hf (fun k hk hk2 => h5 k hk2 hk), fun k hk => ?_, h4, fun k hk hk2 => ?_, h6.trans (hf.below h6.size h3), fun c hc => ?_⟩, fun c hc => hf.block c (h7 c hc).2.2 (h7 c hc).1⟩
  · rcases h9 k hk with h | h
    · exact h3 k h
    · exact Nat.le_trans h6.size h
  · rcases h9 k hk with h | h
    · exact h5 k h hk2
    · have := I.low h2 k hk2; omega
  · refine ⟨fun e => ?_, (h7 c hc).2.1, Nat.lt_of_lt_of_le (h7 c hc).2.2 hf.size⟩
    rcases h9 c e with h | h
    · exact (h7 c hc).1 h
    · have := (h7 c hc).2.2; omega
theorem KP.tick {I : KerI} {W : World} {L : List Nat} {a b : Addr} {D : ManD} {S T : KS} {w : World} (h : KP I W L a b D S T w) (hs : SmallK bigK S) :
    Calls Tryz.prog 34 #[.pointer (some a)] w fun e w' => e = .returned (.tuple #[]) ∧ KP I W L a b D (tickK S) T w' ∧ sameL L w w' := by
  obtain ⟨ox, oy, h1, h2, h3, h4, h5, h6, h7⟩ := h
  exact Calls.mono (I.tick h1 hs) fun _ _ ⟨e1, e2⟩ => ⟨e1, KP.aft h2 h3 h4 h5 h6 h7 e2⟩
theorem KP.running {I : KerI} {W : World} {L : List Nat} {a b : Addr} {D : ManD} {S T : KS} {w : World} (h : KP I W L a b D S T w) (hs : SmallK bigK S) :
    Calls Tryz.prog 35 #[.pointer (some a)] w fun e w' => e = .returned (.int .i64 (runF D S)) ∧ KP I W L a b D S T w' ∧ sameL L w w' := by
  obtain ⟨ox, oy, h1, h2, h3, h4, h5, h6, h7⟩ := h
  exact Calls.mono (I.running h1 hs) fun _ _ ⟨e1, e2⟩ => ⟨e1, KP.aft h2 h3 h4 h5 h6 h7 e2⟩
theorem KP.state {I : KerI} {W : World} {L : List Nat} {a b : Addr} {D : ManD} {S T : KS} {w : World} (h : KP I W L a b D S T w) (hs : SmallK bigK S) {p : Int} (hp : inR p) :
    Calls Tryz.prog 28 #[.pointer (some a), .int .i64 p] w fun e w' => e = .returned (.tuple #[stV (stateF D S p).1, .int .i64 (stateF D S p).2]) ∧ KP I W L a b D S T w' ∧ sameL L w w' := by
  obtain ⟨ox, oy, h1, h2, h3, h4, h5, h6, h7⟩ := h
  exact Calls.mono (I.state h1 hs hp) fun _ _ ⟨e1, e2⟩ => ⟨e1, KP.aft h2 h3 h4 h5 h6 h7 e2⟩
theorem KP.do_ {I : KerI} {W : World} {L : List Nat} {a b : Addr} {n : Nat} {ps : List PartD} {cs : List ChanD} {S T : KS} {w : World} {pv cv : Value} (h : KP I W L a b ⟨n, ps, cs⟩ S T w) (hp : PartsV W pv ps) (hc : ChansV W cv cs) (hz : checkF ⟨n, ps, cs⟩ = 0) (hne : ps ≠ []) (hs : SmallK bigK S) (o : StepD) (ho : StepR o) :
    Calls Tryz.prog 27 #[.pointer (some a), .agg #[.int .i64 n, pv, cv], stepV o] w fun e w' => e = .returned (ansV (doF ⟨n, ps, cs⟩ S o).1) ∧ KP I W L a b ⟨n, ps, cs⟩ (doF ⟨n, ps, cs⟩ S o).2 T w' ∧ sameL L w w' := by
  obtain ⟨ox, oy, h1, h2, h3, h4, h5, h6, h7⟩ := h
  exact Calls.mono (do_any I w n ps cs pv cv (hp.below h6) (hc.below h6) hz hne _ S ox h1 hs o ho) fun _ _ ⟨e1, e2⟩ => ⟨e1, KP.aft h2 h3 h4 h5 h6 h7 e2⟩
theorem KP.of {I : KerI} {W W2 : World} {a b : Addr} {D : ManD} {S T : KS} {w w' : World} (h : KAt I W a D S w) (h2 : KAt I W2 b D T w') (hb : Below w.heap.size w W2) : KP I W [] a b D S T w' := by
  obtain ⟨o, h1, h3, h4⟩ := h
  obtain ⟨o2, h5, h6, h7⟩ := h2
  have hb2 : Below w.heap.size w w' := hb.trans (h7.mono hb.size)
  refine ⟨o, o2, I.below h1 hb2, h5, h3, fun k hk => ?_, fun k hk hk2 => ?_, h4.trans (hb2.mono h4.size), fun c hc => by cases hc⟩
  · exact Nat.le_trans (Nat.le_trans h4.size hb.size) (h6 k hk)
  · have h8 := I.low h1 k hk
    have h9 := h6 k hk2
    have := hb.size
    omega
end Go.Proofs.YteioennfpkoagaaGreatDoor.C
namespace Go.Proofs.YteioennfpkoagaaGreatDoor.C
open Go.RowKit K

/- the manifest of Queued -/
def qPs : List PartD := [⟨⟨#[97]⟩, 2, 1, 1, []⟩, ⟨⟨#[98]⟩, 4, 2, 1, []⟩]
def qCs (d : Nat) : List ChanD := [⟨⟨#[113]⟩, 0, 1, 1, 32, 1 + d⟩]
theorem q_ok0 : checkF ⟨4, qPs, qCs 0⟩ = 0 := by kernel_rfl
theorem q_ok1 : checkF ⟨4, qPs, qCs 1⟩ = 0 := by kernel_rfl
theorem q_ok2 : checkF ⟨4, qPs, qCs 2⟩ = 0 := by kernel_rfl
theorem q_ok3 : checkF ⟨4, qPs, qCs 3⟩ = 0 := by kernel_rfl
theorem q_ok4 : checkF ⟨4, qPs, qCs 4⟩ = 0 := by kernel_rfl
theorem q_ok5 : checkF ⟨4, qPs, qCs 5⟩ = 0 := by kernel_rfl
theorem q_ok6 : checkF ⟨4, qPs, qCs 6⟩ = 0 := by kernel_rfl
theorem q_ok7 : checkF ⟨4, qPs, qCs 7⟩ = 0 := by kernel_rfl
theorem q_ok {d : Nat} (h : d < 8) : checkF ⟨4, qPs, qCs d⟩ = 0 := by
  have : d = 0 ∨ d = 1 ∨ d = 2 ∨ d = 3 ∨ d = 4 ∨ d = 5 ∨ d = 6 ∨ d = 7 := by omega
  rcases this with rfl | rfl | rfl | rfl | rfl | rfl | rfl | rfl
  · exact q_ok0
  · exact q_ok1
  · exact q_ok2
  · exact q_ok3
  · exact q_ok4
  · exact q_ok5
  · exact q_ok6
  · exact q_ok7
theorem q_t0 : tickF qPs 0 = 0 := by kernel_rfl
theorem q_t1 : tickF qPs 1 = 1 := by kernel_rfl
theorem q_t2 : tickF qPs 2 = 0 := by kernel_rfl
theorem q_t3 : tickF qPs 3 = 1 := by kernel_rfl
theorem q_tick (t : Nat) : tickF qPs (t % 4) = ((t % 2 : Nat) : Int) := by
  have : t % 4 = 0 ∧ t % 2 = 0 ∨ t % 4 = 1 ∧ t % 2 = 1 ∨ t % 4 = 2 ∧ t % 2 = 0 ∨ t % 4 = 3 ∧ t % 2 = 1 := by omega
  rcases this with ⟨h, h'⟩ | ⟨h, h'⟩ | ⟨h, h'⟩ | ⟨h, h'⟩ <;> rw [h, h']
  · exact q_t0
  · exact q_t1
  · exact q_t2
  · exact q_t3
/- its kernel: the tick, and the texts that wait -/
structure QK (t : Nat) (q : List ByteArray) (S : KS) : Prop where
  time : S.time = t
  sts : ∀ p, S.sts p = ⟨false, 0, 0⟩
  ch : (S.chs 0).map MsgD.text = q
theorem QK.boot : QK 0 [] bootK := ⟨rfl, fun _ => rfl, rfl⟩
theorem QK.tick {t : Nat} {q : List ByteArray} {S : KS} (h : QK t q S) : QK (t + 1) q (tickK S) := ⟨by show S.time + 1 = _; rw [h.time], h.sts, h.ch⟩
theorem QK.small {t : Nat} {q : List ByteArray} {S : KS} (h : QK t q S) (ht : t ≤ bigK) : SmallK bigK S :=
  ⟨by rw [h.time]; exact ht, fun p => by rw [h.sts p]; simp, fun p => by rw [h.sts p]; simp⟩
theorem QK.turn {t d : Nat} {q : List ByteArray} {S : KS} (h : QK t q S) {p : Nat} (hp : t % 2 = p) : turnF ⟨4, qPs, qCs d⟩ S p = 0 := by
  have hw : whoF ⟨4, qPs, qCs d⟩ S = ((t % 2 : Nat) : Int) := by
    show tickF qPs (S.time % 4) = _
    rw [h.time]
    exact q_tick t
  have hl : ((qPs.length : Nat) : Int) = 2 := rfl
  unfold turnF
  rw [hw, hp, if_neg (by show ¬ ((p : Int) < 0 ∨ (qPs.length : Int) ≤ p); rw [hl]; omega), if_neg (by rw [h.sts]; simp), if_neg (by simp)]
theorem q_port (d : Nat) : portF ⟨4, qPs, qCs d⟩ 0 = some ⟨⟨#[113]⟩, 0, 1, 1, 32, 1 + d⟩ := rfl
theorem QK.len {t : Nat} {q : List ByteArray} {S : KS} (h : QK t q S) : (S.chs 0).length = q.length := by rw [← h.ch, List.length_map]
theorem QK.long {t d : Nat} {q : List ByteArray} {S : KS} (h : QK t q S) (ht : t % 2 = 0) {s : ByteArray} (hs : 32 < s.size) : sendF ⟨4, qPs, qCs d⟩ S 0 0 s = (24, S) := by
  have h0 := h.turn (d := d) (p := 0) ht
  unfold sendF
  rw [if_neg (fun e => e h0), q_port]
  simp only []
  rw [if_neg (by simp), if_pos (by omega)]
theorem QK.full {t d : Nat} {q : List ByteArray} {S : KS} (h : QK t q S) (ht : t % 2 = 0) {s : ByteArray} (hs : ¬ 32 < s.size) (hq : d < q.length) : sendF ⟨4, qPs, qCs d⟩ S 0 0 s = (25, S) := by
  have h0 := h.turn (d := d) (p := 0) ht
  have hl := h.len
  unfold sendF
  rw [if_neg (fun e => e h0), q_port]
  simp only []
  rw [if_neg (by simp), if_neg (by omega), if_pos (by simp)]
  simp only [Int.toNat_zero]
  rw [if_pos (by rw [hl]; omega)]
theorem QK.sent {t d : Nat} {q : List ByteArray} {S : KS} (h : QK t q S) (ht : t % 2 = 0) {s : ByteArray} (hs : ¬ 32 < s.size) (hq : ¬ d < q.length) : ∃ T, sendF ⟨4, qPs, qCs d⟩ S 0 0 s = (0, T) ∧ QK t (q ++ [s]) T := by
  have h0 := h.turn (d := d) (p := 0) ht
  have hl := h.len
  unfold sendF
  rw [if_neg (fun e => e h0), q_port]
  simp only []
  rw [if_neg (by simp), if_neg (by omega), if_pos (by simp)]
  simp only [Int.toNat_zero]
  rw [if_neg (by rw [hl]; omega)]
  refine ⟨_, rfl, h.time, h.sts, ?_⟩
  show ((if (0 : Nat) = 0 then (S.chs 0 ++ [⟨s, S.time⟩]) else S.chs 0)).map MsgD.text = _
  rw [if_pos rfl, List.map_append, h.ch]; rfl
theorem QK.none {t d : Nat} {S : KS} (h : QK t [] S) (ht : t % 2 = 1) : recvF ⟨4, qPs, qCs d⟩ S 1 0 = ((ByteArray.empty, false, 26), S) := by
  have h0 := h.turn (d := d) (p := 1) ht
  have hl : S.chs 0 = [] := List.map_eq_nil_iff.1 h.ch
  unfold recvF
  rw [if_neg (fun e => e h0), q_port]
  simp only []
  rw [if_neg (by simp)]
  simp only [Int.toNat_zero]
  rw [hl]
theorem QK.got {t d : Nat} {s : ByteArray} {q : List ByteArray} {S : KS} (h : QK t (s :: q) S) (ht : t % 2 = 1) : ∃ T, recvF ⟨4, qPs, qCs d⟩ S 1 0 = ((s, true, 0), T) ∧ QK t q T := by
  have h0 := h.turn (d := d) (p := 1) ht
  obtain ⟨m, l, hl, hm, hr⟩ := List.map_eq_cons_iff.1 h.ch
  unfold recvF
  rw [if_neg (fun e => e h0), q_port]
  simp only []
  rw [if_neg (by simp)]
  simp only [Int.toNat_zero]
  rw [hl]
  simp only []
  rw [if_pos (by simp), hm]
  refine ⟨_, rfl, h.time, h.sts, ?_⟩
  show (if (0 : Nat) = 0 then l else S.chs 0).map MsgD.text = _
  rw [if_pos rfl]
  exact hr
/- how far it is: N texts, at of them taken up, m sent, got of those received -/
structure QP (N ah t at' m got : Nat) : Prop where
  gle : got ≤ m
  sle : m ≤ at'
  ale : at' ≤ N
  even : ah ≤ t → t % 2 = 0 → 2 * (2 * (N - at') + (m - got)) + t ≤ 4 * (N + 4) + ah
  odd : ah ≤ t → t % 2 = 1 → 2 * (N - at') + (m - got) = 0 ∨ 2 * (2 * (N - at') + (m - got)) + 1 + t ≤ 4 * (N + 4) + ah ∨ (0 < m - got ∧ 2 * (2 * (N - at') + (m - got)) + t ≤ 4 * (N + 4) + ah + 1)
theorem QP.start (N ah : Nat) : QP N ah 0 0 0 0 := ⟨by omega, by omega, by omega, by omega, by omega⟩
theorem QP.long {N ah t a m g : Nat} (h : QP N ah t a m g) (ht : t % 2 = 0) (ha : a < N) : QP N ah (t + 1) (a + 1) m g := by
  obtain ⟨h1, h2, h3, h4, h5⟩ := h
  exact ⟨by omega, by omega, by omega, by omega, by omega⟩
theorem QP.full {N ah t a m g : Nat} (h : QP N ah t a m g) (ht : t % 2 = 0) (hf : 0 < m - g) : QP N ah (t + 1) a m g := by
  obtain ⟨h1, h2, h3, h4, h5⟩ := h
  exact ⟨by omega, by omega, by omega, by omega, by omega⟩
theorem QP.push {N ah t a m g : Nat} (h : QP N ah t a m g) (ht : t % 2 = 0) (ha : a < N) : QP N ah (t + 1) (a + 1) (m + 1) g := by
  obtain ⟨h1, h2, h3, h4, h5⟩ := h
  exact ⟨by omega, by omega, by omega, by omega, by omega⟩
theorem QP.rest {N ah t a m g : Nat} (h : QP N ah t a m g) (ht : t % 2 = 0) (ha : ¬ a < N) : QP N ah (t + 1) a m g := by
  obtain ⟨h1, h2, h3, h4, h5⟩ := h
  exact ⟨by omega, by omega, by omega, by omega, by omega⟩
theorem QP.wait {N ah t a m g : Nat} (h : QP N ah t a m g) (ht : t % 2 = 1) (ha : t < ah) : QP N ah (t + 1) a m g := by
  obtain ⟨h1, h2, h3, h4, h5⟩ := h
  exact ⟨by omega, by omega, by omega, by omega, by omega⟩
theorem QP.take {N ah t a m g : Nat} (h : QP N ah t a m g) (ht : t % 2 = 1) (hg : g < m) : QP N ah (t + 1) a m (g + 1) := by
  obtain ⟨h1, h2, h3, h4, h5⟩ := h
  exact ⟨by omega, by omega, by omega, by omega, by omega⟩
theorem QP.empty {N ah t a m g : Nat} (h : QP N ah t a m g) (ht : t % 2 = 1) (hl : t < 4 * (N + 4) + ah) (hg : ¬ g < m) : QP N ah (t + 1) a m g := by
  obtain ⟨h1, h2, h3, h4, h5⟩ := h
  exact ⟨by omega, by omega, by omega, by omega, by omega⟩
theorem QP.end_ {N ah a m g : Nat} (h : QP N ah (4 * (N + 4) + ah) a m g) : g = m ∧ a = N := by
  obtain ⟨h1, h2, h3, h4, h5⟩ := h
  omega
end Go.Proofs.YteioennfpkoagaaGreatDoor.C
