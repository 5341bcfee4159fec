import Derived.Test.YteioennfpkoagaaGreatDoorRows
import Derived.WalkKit
import Derived.WalkSpells
import Derived.WalkLawsBesides
import Derived.Deep.RegionHeld3
import Derived.Deep.AppendLies
import Derived.Deep.DrawnRows
import Derived.Deep.QuietTactic
import Derived.BigQuiet
import Derived.Handy
import Derived.Test.YteioennfpkoagaaGreatDoorB03
import Derived.Test.YteioennfpkoagaaGreatDoorB02
namespace Go.Proofs.YteioennfpkoagaaGreatDoor.C
open Go.RowKit
attribute [local go_sem ↓] Go.wp_at_zero Go.wp_at_succ

/- the raw numbers -/
def inI (x : Int) : Prop := -9223372036854775808 ≤ x ∧ x ≤ 9223372036854775807
def IntsV (w : World) (v : Value) (L : List Int) : Prop :=
  L.length ≤ 9223372036854775807 ∧ (∀ x ∈ L, inI x) ∧ ∃ va cap, v = .slice va L.length cap ∧ ∀ i (h : i < L.length), ∃ b off, va = some ⟨b, off, none⟩ ∧ w.cell? ⟨b, off + i, none⟩ = some (.int .i64 L[i])
theorem IntsV.below {w w' : World} {v : Value} {L : List Int} (h : IntsV w v L) (hb : Below w.heap.size w w') : IntsV w' v L := by
  obtain ⟨h0, h1, va, cap, e, hc⟩ := h
  refine ⟨h0, h1, va, cap, e, fun i hi => ?_⟩
  obtain ⟨b, off, e1, h1⟩ := hc i hi
  have hlt := World.block_lt_of_cell? w _ h1
  exact ⟨b, off, e1, (hb.cell (by exact hlt)).trans h1⟩
def pickF (c n : Int) : Int := (if c < 0 then -(c + 1) else c) % n
theorem pickF_lt {c n : Int} (h : 0 < n) : 0 ≤ pickF c n ∧ pickF c n < n := ⟨Int.emod_nonneg _ (by omega), Int.emod_lt_of_pos _ h⟩
def rawF (L : List Int) (i : Nat) : Int := L.getD (i % L.length) 0
theorem rawF_in {w : World} {v : Value} {L : List Int} (h : IntsV w v L) (i : Nat) : inI (rawF L i) := by
  unfold rawF
  by_cases hl : i % L.length < L.length
  · simp only [List.getD, List.getElem?_eq_getElem hl, Option.getD_some]
    exact h.2.1 _ (List.getElem_mem _)
  · simp only [List.getD, List.getElem?_eq_none (by omega : L.length ≤ i % L.length), Option.getD_none]
    unfold inI; omega
theorem pick_any (c n : Int) (hc : inI c) (hn : 0 < n ∧ n ≤ 1000000) (w : World) :
    Calls Tryz.prog 21 #[.int .i64 c, .int .i64 n] w fun e w' => e = .returned (.int .i64 (pickF c n)) ∧ w' = w := by
  unfold inI at hc
  have hn0 : n ≠ 0 := by omega
  by_cases h : c < 0
  · go_enter Tryz.func21, Tryz.ntmps21
    go_wp2_with fail
    go_ret
    refine ⟨?_, rfl⟩
    unfold pickF
    rw [if_pos h]
    show Ending.returned (Value.int IntKind.i64 (-((c + 1).tmod n))) = _
    rw [← Int.neg_tmod, Int.tmod_eq_emod_of_nonneg (by omega)]
  · go_enter Tryz.func21, Tryz.ntmps21
    go_wp2_with fail
    go_ret
    refine ⟨?_, rfl⟩
    unfold pickF
    rw [if_neg (by omega)]
    rfl
theorem raw_any (v : Value) (L : List Int) (i : Nat) (hi : i ≤ 1000000) (w : World) (hL : IntsV w v L) :
    Calls Tryz.prog 51 #[v, .int .i64 i] w fun e w' => e = .returned (.int .i64 (rawF L i)) ∧ w' = w := by
  obtain ⟨h0, h1, va, cap, rfl, hc⟩ := hL
  by_cases h : L.length = 0
  · have q : ((L.length : Int) = 0) := by omega
    go_enter Tryz.func51, Tryz.ntmps51
    go_wp2_with fail
    go_ret
    refine ⟨?_, rfl⟩
    unfold rawF
    simp [List.getD, List.length_eq_zero_iff.1 h]
  · have q : ¬ ((L.length : Int) = 0) := by omega
    have hlt := Nat.mod_lt i (show L.length > 0 by omega)
    obtain ⟨b, off, rfl, hcell⟩ := hc (i % L.length) hlt
    have e : (i : Int) % (L.length : Int) = ((i % L.length : Nat) : Int) := (Int.natCast_emod i L.length).symm
    have hb : 0 ≤ (i : Int) % (L.length : Int) ∧ (i : Int) % (L.length : Int) < (L.length : Int) := by omega
    have er : rawF L i = L[i % L.length] := by unfold rawF; simp [List.getD, hlt]
    rw [er]
    clear e er hc
    generalize L[i % L.length] = y at *
    go_enter Tryz.func51, Tryz.ntmps51
    go_wp2_with fail
    go_ret
    exact ⟨rfl, rfl⟩
/- a name -/
def nmL (i : Nat) : List UInt8 := [112, UInt8.ofNat (97 + i % 26)]
theorem nums_nm (n : Nat) (h : n < 26) : strOfNums [97 + (n : Int)] = ba [UInt8.ofNat (97 + n)] := by
  have e : (97 + (n : Int)).toNat = 97 + n := by omega
  unfold strOfNums ba
  rw [List.map_cons, List.map_nil, e]
set_option maxRecDepth 100000 in
set_option maxHeartbeats 1000000 in
theorem name_any (i : Nat) (hi : i ≤ 1000000) (w : World) :
    Calls Tryz.prog 52 #[.int .i64 i] w fun e w' => e = .returned (.string (ba (nmL i))) ∧ Below w.heap.size w w' := by
  have hm : i % 26 < 26 := Nat.mod_lt _ (by omega)
  have h4 : IntKind.i64.wrap (97 + (i : Int) % 26) = 97 + (i : Int) % 26 := wrap_small _ (by omega) (by omega)
  have h5 : IntKind.u8.wrap (97 + (i : Int) % 26) = 97 + (i : Int) % 26 := by simp [IntKind.wrap, IntKind.bits, IntKind.signed]; omega
  have h6 : IntKind.i64.wrap ((i : Int) % 26) = (i : Int) % 26 := wrap_small _ (by omega) (by omega)
  have hcv := conv_one w (97 + (i : Int) % 26)
  have hs : strOfNums [97 + (i : Int) % 26] = ba [UInt8.ofNat (97 + i % 26)] := nums_nm (i % 26) hm
  rw [hs] at hcv
  have hb0 : Below w.heap.size w (w.alloc (.cells #[.int .u8 (97 + (i : Int) % 26)] 5)) := (Below.refl _ _).alloc (Nat.le_refl _) _
  have hz : (ba [UInt8.ofNat (97 + i % 26)]).size = 1 := rfl
  generalize he : ba [UInt8.ofNat (97 + i % 26)] = t at *
  have hsum : ¬ 9223372036854775807 < 1 + t.size := by omega
  go_enter Tryz.func52, Tryz.ntmps52
  go_wp2_with fail
  go_ret
  refine ⟨?_, hb0⟩
  subst he
  rfl
end Go.Proofs.YteioennfpkoagaaGreatDoor.C
namespace Go.Proofs.YteioennfpkoagaaGreatDoor.C
open Go.RowKit

/- what holds of a manifest while it is made -/
theorem mk_data (l : List UInt8) : (ba l).data.toList = l := by simp [ba]
theorem mk_of {s : ByteArray} {l : List UInt8} (h : s.data.toList = l) : s = ba l := by
  subst h
  cases s
  simp [ba]
theorem nm_all : ((List.range 26).all fun j => nameF (nmL j)) = true := by decide
theorem nm_ok {j : Nat} (h : j < 26) : nameF (nmL j) = true := List.all_eq_true.1 nm_all j (List.mem_range.2 h)
theorem nm_inj_all : ((List.range 26).all fun i => (List.range 26).all fun j => decide (nmL i = nmL j → i = j)) = true := by decide
theorem nm_inj {i j : Nat} (hi : i < 26) (hj : j < 26) (h : nmL i = nmL j) : i = j := by
  have h1 := List.all_eq_true.1 nm_inj_all i (List.mem_range.2 hi)
  have h2 := List.all_eq_true.1 h1 j (List.mem_range.2 hj)
  simp only [decide_eq_true_eq] at h2
  exact h2 h
theorem data_inj {a b : ByteArray} (h : a.data.toList = b.data.toList) : a = b := by
  have h1 := mk_of h
  have h2 := mk_of (s := b) rfl
  rw [h1, ← h2]
structure PartM (F : Int) (x : PartD) : Prop where
  per : 1 ≤ x.period ∧ x.period ≤ F ∧ F % x.period = 0
  dur : 1 ≤ x.duration ∧ x.duration ≤ x.period
  act : 1 ≤ x.action ∧ x.action ≤ 3
  reg : RegsOK x.regs
  few : x.regs.length ≤ 2 ∧ regPages x.regs ≤ 4 ∧ ∀ r, x.regs.head? = some r → r.rights = 2
structure LI (F : Int) (i : Nat) (left : Int) (acc : List PartD) : Prop where
  all : ∀ x ∈ acc, PartM F x
  nam : ∀ x ∈ acc, ∃ j, j < i ∧ x.name = ba (nmL j)
  dif : acc.Pairwise (fun x y => x.name ≠ y.name)
  tic : left = F - ticksF F acc
  pos : 0 ≤ left
  len : acc.length ≤ i
theorem LI.skip {F left : Int} {i : Nat} {acc : List PartD} (h : LI F i left acc) : LI F (i + 1) left acc :=
  ⟨h.all, fun x hx => by obtain ⟨j, hj, e⟩ := h.nam x hx; exact ⟨j, by omega, e⟩, h.dif, h.tic, h.pos, by have := h.len; omega⟩
theorem LI.add {F left : Int} {i : Nat} {acc : List PartD} (h : LI F i left acc) (hi : i < 26) {x : PartD} (hn : x.name = ba (nmL i)) (hx : PartM F x) (hl : F / x.period * x.duration ≤ left) : LI F (i + 1) (left - F / x.period * x.duration) (acc ++ [x]) := by
  refine ⟨fun y hy => ?_, fun y hy => ?_, ?_, ?_, by omega, by have := h.len; simp; omega⟩
  · rcases List.mem_append.1 hy with hy | hy
    · exact h.all y hy
    · rw [List.mem_singleton.1 hy]; exact hx
  · rcases List.mem_append.1 hy with hy | hy
    · obtain ⟨j, hj, e⟩ := h.nam y hy; exact ⟨j, by omega, e⟩
    · rw [List.mem_singleton.1 hy]; exact ⟨i, by omega, hn⟩
  · rw [List.pairwise_append]
    refine ⟨h.dif, by simp, fun a ha b hb => ?_⟩
    rw [List.mem_singleton.1 hb]
    obtain ⟨j, hj, e⟩ := h.nam a ha
    rw [e, hn]
    intro e2
    have e3 : nmL j = nmL i := by rw [← mk_data (nmL j), e2, mk_data]
    have := nm_inj (by omega) hi e3
    omega
  · have := h.tic
    unfold ticksF at *
    rw [List.map_append, List.sum_append, this]
    simp
    omega
structure ChanM (n : Nat) (F : Int) (c : ChanD) : Prop where
  src : 0 ≤ c.source ∧ c.source < n
  tgt : 0 ≤ c.target ∧ c.target < n
  two : c.source ≠ c.target
  knd : c.kind = 1 ∨ c.kind = 2
  siz : c.size = 8
  dep : 1 ≤ c.depth ∧ c.depth ≤ 4
structure CI (n : Nat) (F : Int) (cs : List ChanD) : Prop where
  all : ∀ x ∈ cs, ChanM n F x
  nam : ∀ i (h : i < cs.length), cs[i].name = ba (nmL i)
theorem CI.nil (n : Nat) (F : Int) : CI n F [] := ⟨by simp, fun i h => absurd h (by simp)⟩
theorem CI.add {n : Nat} {F : Int} {cs : List ChanD} (h : CI n F cs) {c : ChanD} (hn : c.name = ba (nmL cs.length)) (hc : ChanM n F c) : CI n F (cs ++ [c]) := by
  refine ⟨fun y hy => ?_, fun i hi => ?_⟩
  · rcases List.mem_append.1 hy with hy | hy
    · exact h.all y hy
    · rw [List.mem_singleton.1 hy]; exact hc
  · by_cases e : i < cs.length
    · rw [List.getElem_append_left e]; exact h.nam i e
    · have : i = cs.length := by simp at hi; omega
      subst this
      simp [hn]
theorem first_zero {f : Nat → Int} {n : Nat} (h : ∀ i, i < n → f i = 0) : firstNZ f n = 0 := by
  induction n with
  | zero => rfl
  | succ n ih => simp only [firstNZ]; rw [if_pos (ih fun i hi => h i (by omega)), h n (by omega)]
theorem made_chk {F left : Int} {i : Nat} {ps : List PartD} {cs : List ChanD} (hF : 24 ≤ F ∧ F ≤ 240) (h : LI F i left ps) (hi : i ≤ 6) (hne : ps ≠ []) (hc : CI ps.length F cs) (hcl : cs.length ≤ 7) : checkF ⟨F, ps, cs⟩ = 0 := by
  have hnm : ∀ x ∈ ps, nameF x.name.data.toList = true := fun x hx => by
    obtain ⟨j, hj, e⟩ := h.nam x hx
    rw [e, mk_data]; exact nm_ok (by omega)
  have hlen := h.len
  have hpl : 1 ≤ ps.length := by have := List.length_pos_iff.2 hne; omega
  have hfew : ∀ x ∈ ps, x.regs.length ≤ 2 := fun x hx => (h.all x hx).few.1
  unfold checkF
  simp only []
  have hmany : manyB ⟨F, ps, cs⟩ = false := by
    unfold manyB wideB
    simp only [Bool.or_eq_false_iff, decide_eq_false_iff_not, List.any_eq_false]
    refine ⟨⟨⟨by omega, by omega⟩, by omega⟩, fun x hx => ?_⟩
    have := hfew x hx
    simp; omega
  have hparts : firstNZ (partAt ⟨F, ps, cs⟩) ps.length = 0 := by
    apply first_zero
    intro k hk
    unfold partAt
    simp only []
    rw [dif_pos hk]
    have hm := h.all _ (List.getElem_mem hk)
    have h1 := hm.per; have h2 := hm.dur; have h3 := hm.act
    unfold partErr
    have hfr : freshP (ps.take k) ps[k] = true := by
      unfold freshP
      rw [List.all_eq_true]
      intro p hp
      obtain ⟨a, ha, e⟩ := List.getElem_of_mem hp
      have ha' : a < k := by simp at ha; omega
      rw [List.getElem_take] at e
      have := List.pairwise_iff_getElem.1 h.dif a k (by omega) hk ha'
      rw [e] at this
      simp only [bne_iff_ne, ne_eq]
      intro e2
      apply this
      rw [ByteArray.toList_eq, ByteArray.toList_eq] at e2
      exact data_inj e2
    rw [if_neg (by rw [hnm _ (List.getElem_mem hk), hfr]; simp), if_neg (by omega), if_neg (by omega), if_neg (by omega), if_neg (by rw [(regsF_iff _).2 hm.reg]; simp)]
  have hchans : firstNZ (chanAt ⟨F, ps, cs⟩) cs.length = 0 := by
    apply first_zero
    intro k hk
    unfold chanAt
    simp only []
    rw [dif_pos hk]
    have hm := hc.all _ (List.getElem_mem hk)
    have h1 := hm.src; have h2 := hm.tgt; have h3 := hm.two; have h4 := hm.knd; have h5 := hm.siz; have h6 := hm.dep
    have hnk := hc.nam k hk
    unfold chanErr
    have hfr : freshC (cs.take k) cs[k] = true := by
      unfold freshC
      rw [List.all_eq_true]
      intro p hp
      obtain ⟨a, ha, e⟩ := List.getElem_of_mem hp
      have ha' : a < k := by simp at ha; omega
      rw [List.getElem_take] at e
      have hna := hc.nam a (by omega)
      rw [e] at hna
      rw [hna, hnk]
      simp only [bne_iff_ne, ne_eq]
      intro e2
      have e3 : nmL a = nmL k := by rw [ByteArray.toList_eq, ByteArray.toList_eq, mk_data, mk_data] at e2; exact e2
      have := nm_inj (by omega) (by omega) e3
      omega
    have hnf : nameF cs[k].name.data.toList = true := by rw [hnk, mk_data]; exact nm_ok (by omega)
    rw [if_neg (by rw [hnf, hfr]; simp), if_neg (by omega), if_neg (by omega), if_neg (by omega), if_neg (by split <;> omega)]
  have hpages : pagesF ps ≤ 64 := by
    have key : ∀ qs : List PartD, (∀ x ∈ qs, regPages x.regs ≤ 4) → pagesF qs ≤ 4 * qs.length := by
      intro qs
      induction qs with
      | nil => intro _; simp [pagesF]
      | cons x qs ih =>
        intro hq
        have h1 := hq x (by simp)
        have h2 := ih (fun y hy => hq y (by simp [hy]))
        unfold pagesF at *
        simp only [List.map_cons, List.sum_cons, List.length_cons]
        omega
    have := key ps (fun x hx => (h.all x hx).few.2.1)
    omega
  have htic := h.tic
  have hpos := h.pos
  rw [if_neg (by omega), if_neg (by rw [hmany]; simp), if_neg (by rw [hparts]; simp), if_neg (by rw [hchans]; simp), if_neg (by omega), if_neg (by omega)]
end Go.Proofs.YteioennfpkoagaaGreatDoor.C
namespace Go.Proofs.YteioennfpkoagaaGreatDoor.C
open Go.RowKit
attribute [local go_sem ↓] Go.wp_at_zero Go.wp_at_succ

theorem freshP_any (bef : List PartD) (x : PartD) : freshP bef x = !(bef.any (sameP x.name)) := by
  unfold freshP sameP
  rw [List.not_any_eq_all_not]
  rfl
theorem freshC_any (bef : List ChanD) (x : ChanD) : freshC bef x = !(bef.any (sameC x.name)) := by
  unfold freshC sameC
  rw [List.not_any_eq_all_not]
  rfl
theorem PartsV.take {w : World} {b off cap : Nat} {ps : List PartD} (h : PartsV w (.slice (some ⟨b, off, none⟩) ps.length cap) ps) (k : Nat) (hk : k ≤ ps.length) (cap' : Nat) : PartsV w (.slice (some ⟨b, off, none⟩) k cap') (ps.take k) := by
  obtain ⟨va, c, e, hc⟩ := h
  cases e
  refine ⟨_, _, by rw [List.length_take, Nat.min_eq_left hk], fun i hi => ?_⟩
  have hi2 : i < ps.length := by rw [List.length_take] at hi; omega
  rw [List.getElem_take]
  exact hc i hi2
theorem ChansV.take {w : World} {b off cap : Nat} {ps : List ChanD} (h : ChansV w (.slice (some ⟨b, off, none⟩) ps.length cap) ps) (k : Nat) (hk : k ≤ ps.length) (cap' : Nat) : ChansV w (.slice (some ⟨b, off, none⟩) k cap') (ps.take k) := by
  obtain ⟨va, c, e, hc⟩ := h
  cases e
  refine ⟨_, _, by rw [List.length_take, Nat.min_eq_left hk], fun i hi => ?_⟩
  have hi2 : i < ps.length := by rw [List.length_take] at hi; omega
  rw [List.getElem_take]
  exact hc i hi2

set_option maxRecDepth 100000 in
set_option maxHeartbeats 2000000 in
theorem checkPartitions_any (f : Int) (ps : List PartD) (cs : List ChanD) (pv cv : Value) (w : World) (hp : PartsV w pv ps) (hpc : PartsC w pv ps.length) (hcv : ∃ a l k, cv = .slice a l k) (hf : 1 ≤ f ∧ f ≤ 240) (hl : ps.length ≤ 4611686018427387903) (hrl : ∀ k (h : k < ps.length), ps[k].regs.length ≤ 4611686018427387903) :
    Calls Tryz.prog 59 #[.agg #[.int .i64 f, pv, cv]] w fun e w' => e = .returned (.int .i64 (firstNZ (partAt ⟨f, ps, cs⟩) ps.length)) ∧ Below w.heap.size w w' := by
  obtain ⟨ca, cl, ck, rfl⟩ := hcv
  have HP : Hid (PartsV w pv ps) := hp
  have HPC : Hid (PartsC w pv ps.length) := hpc
  obtain ⟨va, cap, rfl, hc⟩ := hp
  have hlc := hpc.1.le
  clear hpc
  have HC : Hid _ := hc
  have HRL : Hid _ := hrl
  clear hc hrl
  have b0 : Below w.heap.size w (w.alloc (.cells #[.int .i64 f, .slice va ps.length cap, .slice ca cl ck] 34)) := (Below.refl _ w).alloc (Nat.le_refl _) _
  have h0 := heap_new w (.cells #[.int .i64 f, .slice va ps.length cap, .slice ca cl ck] 34)
  go_enter Tryz.func59, Tryz.ntmps59
  go_wp2_with fail
  generalize w.alloc (.cells #[.int .i64 f, .slice va ps.length cap, .slice ca cl ck] 34) = W0 at *
  go_loopw [10] (fun i wr => ∃ (k : Nat), i = .int .i64 k ∧ k ≤ ps.length ∧ Hid (firstNZ (partAt ⟨f, ps, cs⟩) k = 0) ∧ wr.heap[w.heap.size]? = some (.cells #[.int .i64 f, .slice va ps.length cap, .slice ca cl ck] 34 (0, 0)) ∧ Below w.heap.size w wr) (fun i _ => ps.length - (intOf i).toNat)
  case atStart => exact ⟨0, rfl, by omega, rfl, h0, b0⟩
  case round =>
    obtain ⟨k, rfl, hk, HZ, hm, hbel⟩ := hrel
    by_cases hlt : k < ps.length
    · have hlt' : (k : Int) < (ps.length : Int) := by omega
      have hk0 : (0 : Int) ≤ (k : Int) := by omega
      obtain ⟨b, off, rv, rfl, c0, c1, c2, c3, c4, hrv⟩ := HC.out k hlt
      have hbl := World.block_lt_of_cell? w _ c0
      have HCR : Hid (capV rv) := HPC.out.2 k hlt b off _ _ rfl rv c4
      have HRV : Hid (RegsV w rv ps[k].regs) := hrv
      obtain ⟨ra, rcap, rfl, hrx⟩ := hrv
      clear hrx
      have d0 := (hbel.cell (by exact hbl)).trans c0
      have d1 := (hbel.cell (by exact hbl)).trans c1
      have d2 := (hbel.cell (by exact hbl)).trans c2
      have d3 := (hbel.cell (by exact hbl)).trans c3
      have d4 := (hbel.cell (by exact hbl)).trans c4
      clear c0 c1 c2 c3 c4
      have HAT : Hid (partAt ⟨f, ps, cs⟩ k = partErr f (ps.take k) ps[k]) := dif_pos hlt
      have HTK : Hid _ := fun cap' (w' : World) (hb : Below w.heap.size w w') => (PartsV.below HP.out hb).take k hk cap'
      have hRL := HRL.out k hlt
      have HST : Hid _ := @firstNZ_stop (partAt ⟨f, ps, cs⟩) k ps.length HZ.out
      have HSN : Hid _ := @firstNZ_step (partAt ⟨f, ps, cs⟩) k HZ.out
      generalize ps[k] = x at *
      have hkc : (k : Int) ≤ (cap : Int) := by omega
      have b1 := hbel.alloc (o := .cells #[.string x.name, .int .i64 x.period, .int .i64 x.duration, .int .i64 x.action, .slice ra x.regs.length rcap] 42) hbel.size
      have h1 := heap_new wr (.cells #[.string x.name, .int .i64 x.period, .int .i64 x.duration, .int .i64 x.action, .slice ra x.regs.length rcap] 42)
      have m1 := heap_old wr (.cells #[.string x.name, .int .i64 x.period, .int .i64 x.duration, .int .i64 x.action, .slice ra x.regs.length rcap] 42) hm
      go_wp2_with fail
      clear d0 d1 d2 d3 d4 hm hbel
      generalize wr.alloc (.cells #[.string x.name, .int .i64 x.period, .int .i64 x.duration, .int .i64 x.action, .slice ra x.regs.length rcap] 42) = W1 at *
      generalize wr.heap.size = nb at *
      have e0 : W1.cell? ⟨nb, 0, none⟩ = some (.string x.name) := by rw [cell_of_blk h1]; rfl
      have m2 : W1.cell? ⟨w.heap.size, 1, none⟩ = some (.slice (some ⟨b, off, none⟩) ps.length cap) := by rw [cell_of_blk m1]; rfl
      refine (isName_any _ _).mono ?_
      rintro e w2 ⟨rfl, rfl⟩
      have HPE : Hid _ := partErr_eq f (ps.take k) x
      cases hN : nameF x.name.data.toList
      · have HX : Hid (firstNZ (partAt ⟨f, ps, cs⟩) ps.length = 7) := by
          have h7 : partAt ⟨f, ps, cs⟩ k = 7 := by rw [HAT.out, HPE.out, hN]; rfl
          show _ = _
          rw [HST.out (by rw [h7]; decide) hlt, h7]
        clear hN
        go_wp2_with fail
        go_ret
        exact ⟨by rw [HX.out]; rfl, b1⟩
      have HN : Hid _ := hN
      clear hN
      go_wp2_with fail
      refine (contains_name nb x.name (ps.take k) _ w2 (HTK.out cap w2 b1) (by rw [List.length_take]; omega) e0).mono ?_
      rintro e w3 ⟨rfl, hb3⟩
      have h3 := (hb3.block _ (lt_of_blk h1)).trans h1
      have m3 := (hb3.block _ (lt_of_blk m1)).trans m1
      have b3 := b1.trans (hb3.mono b1.size)
      clear e0 m2 h1 m1 hb3 b1
      cases hF : (ps.take k).any (sameP x.name)
      · have HF : Hid _ := hF
        clear hF
        have g0 : w3.cell? ⟨nb, 0, none⟩ = some (.string x.name) := by rw [cell_of_blk h3]; rfl
        have g1 : w3.cell? ⟨nb, 1, none⟩ = some (.int .i64 x.period) := by rw [cell_of_blk h3]; rfl
        have g2 : w3.cell? ⟨nb, 2, none⟩ = some (.int .i64 x.duration) := by rw [cell_of_blk h3]; rfl
        have g3 : w3.cell? ⟨nb, 3, none⟩ = some (.int .i64 x.action) := by rw [cell_of_blk h3]; rfl
        have g4 : w3.cell? ⟨nb, 4, none⟩ = some (.slice ra x.regs.length rcap) := by rw [cell_of_blk h3]; rfl
        have g5 : w3.cell? ⟨w.heap.size, 0, none⟩ = some (.int .i64 f) := by rw [cell_of_blk m3]; rfl
        go_wp2_with fail
        refine (checkPartition_any f x _ w3 (RegsV.below HRV.out b3) HCR.out hf hRL).mono ?_
        rintro e w4 ⟨rfl, hb4⟩
        have m4 := (hb4.block _ (lt_of_blk m3)).trans m3
        have b4 := b3.trans (hb4.mono b3.size)
        have HVV : Hid (partAt ⟨f, ps, cs⟩ k = partE f x) := by
          show _ = _
          rw [HAT.out, HPE.out, HN.out, freshP_any, HF.out]; rfl
        clear g0 g1 g2 g3 g4 g5 m3 h3 hb4 b3
        by_cases hz : partE f x = 0
        · have HZ2 : Hid _ := HSN.out (HVV.out.trans hz)
          rw [hz]
          clear hz
          go_wp2_with fail
          go_roundw
          case rel => exact ⟨k + 1, by go_num, by omega, HZ2, m4, b4⟩
          case measure => simp [intOf]; omega
        · have hzz : (partE f x != 0) = true := by simp [hz]
          have HX : Hid (firstNZ (partAt ⟨f, ps, cs⟩) ps.length = partE f x) := by show _ = _; rw [HST.out (by rw [HVV.out]; exact hz) hlt, HVV.out]
          go_wp2_with fail
          go_ret
          exact ⟨by rw [HX.out]; rfl, b4⟩
      · have HX : Hid (firstNZ (partAt ⟨f, ps, cs⟩) ps.length = 7) := by
          have h7 : partAt ⟨f, ps, cs⟩ k = 7 := by rw [HAT.out, HPE.out, freshP_any, hF]; simp
          show _ = _
          rw [HST.out (by rw [h7]; decide) hlt, h7]
        clear hF
        go_wp2_with fail
        go_ret
        exact ⟨by rw [HX.out]; rfl, b3⟩
    · have hlt' : ¬ (k : Int) < (ps.length : Int) := by omega
      have hke : k = ps.length := by omega
      have HF : Hid (firstNZ (partAt ⟨f, ps, cs⟩) ps.length = 0) := by have := HZ.out; rw [hke] at this; exact this
      go_wp2_with fail
      go_ret
      exact ⟨by rw [HF.out]; rfl, hbel⟩
end Go.Proofs.YteioennfpkoagaaGreatDoor.C
namespace Go.Proofs.YteioennfpkoagaaGreatDoor.C
open Go.RowKit
attribute [local go_sem ↓] Go.wp_at_zero Go.wp_at_succ

set_option maxRecDepth 100000 in
set_option maxHeartbeats 2000000 in
theorem checkChannels_any (f : Int) (ps : List PartD) (cs : List ChanD) (pv cv : Value) (w : World) (hpv : ∃ a k, pv = .slice a ps.length k) (hp : ChansV w cv cs) (hpc : capV cv) (hn : ps.length ≤ 4611686018427387903) (hl : cs.length ≤ 4611686018427387903) :
    Calls Tryz.prog 60 #[.agg #[.int .i64 f, pv, cv]] w fun e w' => e = .returned (.int .i64 (firstNZ (chanAt ⟨f, ps, cs⟩) cs.length)) ∧ Below w.heap.size w w' := by
  obtain ⟨pa, pcap, rfl⟩ := hpv
  have HP : Hid (ChansV w cv cs) := hp
  obtain ⟨va, cap, rfl, hc⟩ := hp
  have hlc := hpc.le
  clear hpc
  have HC : Hid _ := hc
  clear hc
  have b0 : Below w.heap.size w (w.alloc (.cells #[.int .i64 f, .slice pa ps.length pcap, .slice va cs.length cap] 34)) := (Below.refl _ w).alloc (Nat.le_refl _) _
  have h0 := heap_new w (.cells #[.int .i64 f, .slice pa ps.length pcap, .slice va cs.length cap] 34)
  go_enter Tryz.func60, Tryz.ntmps60
  go_wp2_with fail
  generalize w.alloc (.cells #[.int .i64 f, .slice pa ps.length pcap, .slice va cs.length cap] 34) = W0 at *
  go_loopw [10] (fun i wr => ∃ (k : Nat), i = .int .i64 k ∧ k ≤ cs.length ∧ Hid (firstNZ (chanAt ⟨f, ps, cs⟩) k = 0) ∧ wr.heap[w.heap.size]? = some (.cells #[.int .i64 f, .slice pa ps.length pcap, .slice va cs.length cap] 34 (0, 0)) ∧ Below w.heap.size w wr) (fun i _ => cs.length - (intOf i).toNat)
  case atStart => exact ⟨0, rfl, by omega, rfl, h0, b0⟩
  case round =>
    obtain ⟨k, rfl, hk, HZ, hm, hbel⟩ := hrel
    by_cases hlt : k < cs.length
    · have hlt' : (k : Int) < (cs.length : Int) := by omega
      have hk0 : (0 : Int) ≤ (k : Int) := by omega
      obtain ⟨b, off, rfl, c0, c1, c2, c3, c4, c5⟩ := HC.out k hlt
      have hbl := World.block_lt_of_cell? w _ c0
      have d0 := (hbel.cell (by exact hbl)).trans c0
      have d1 := (hbel.cell (by exact hbl)).trans c1
      have d2 := (hbel.cell (by exact hbl)).trans c2
      have d3 := (hbel.cell (by exact hbl)).trans c3
      have d4 := (hbel.cell (by exact hbl)).trans c4
      have d5 := (hbel.cell (by exact hbl)).trans c5
      clear c0 c1 c2 c3 c4 c5
      have HAT : Hid (chanAt ⟨f, ps, cs⟩ k = chanErr f ps.length (cs.take k) cs[k]) := dif_pos hlt
      have HTK : Hid _ := fun cap' (w' : World) (hb : Below w.heap.size w w') => (ChansV.below HP.out hb).take k hk cap'
      have HST : Hid _ := @firstNZ_stop (chanAt ⟨f, ps, cs⟩) k cs.length HZ.out
      have HSN : Hid _ := @firstNZ_step (chanAt ⟨f, ps, cs⟩) k HZ.out
      generalize cs[k] = x at *
      have hkc : (k : Int) ≤ (cap : Int) := by omega
      have b1 := hbel.alloc (o := .cells #[.string x.name, .int .i64 x.source, .int .i64 x.target, .int .i64 x.kind, .int .i64 x.size, .int .i64 x.depth] 92) hbel.size
      have h1 := heap_new wr (.cells #[.string x.name, .int .i64 x.source, .int .i64 x.target, .int .i64 x.kind, .int .i64 x.size, .int .i64 x.depth] 92)
      have m1 := heap_old wr (.cells #[.string x.name, .int .i64 x.source, .int .i64 x.target, .int .i64 x.kind, .int .i64 x.size, .int .i64 x.depth] 92) hm
      go_wp2_with fail
      clear d0 d1 d2 d3 d4 d5 hm hbel
      generalize wr.alloc (.cells #[.string x.name, .int .i64 x.source, .int .i64 x.target, .int .i64 x.kind, .int .i64 x.size, .int .i64 x.depth] 92) = W1 at *
      generalize wr.heap.size = nb at *
      have e0 : W1.cell? ⟨nb, 0, none⟩ = some (.string x.name) := by rw [cell_of_blk h1]; rfl
      have m2 : W1.cell? ⟨w.heap.size, 2, none⟩ = some (.slice (some ⟨b, off, none⟩) cs.length cap) := by rw [cell_of_blk m1]; rfl
      refine (isName_any _ _).mono ?_
      rintro e w2 ⟨rfl, rfl⟩
      have HPE : Hid _ := chanErr_eq f ps.length (cs.take k) x
      cases hN : nameF x.name.data.toList
      · have HX : Hid (firstNZ (chanAt ⟨f, ps, cs⟩) cs.length = 7) := by
          have h7 : chanAt ⟨f, ps, cs⟩ k = 7 := by rw [HAT.out, HPE.out, hN]; rfl
          show _ = _
          rw [HST.out (by rw [h7]; decide) hlt, h7]
        clear hN
        go_wp2_with fail
        go_ret
        exact ⟨by rw [HX.out]; rfl, b1⟩
      have HN : Hid _ := hN
      clear hN
      go_wp2_with fail
      refine (contains_cname nb x.name (cs.take k) _ w2 (HTK.out cap w2 b1) (by rw [List.length_take]; omega) e0).mono ?_
      rintro e w3 ⟨rfl, hb3⟩
      have h3 := (hb3.block _ (lt_of_blk h1)).trans h1
      have m3 := (hb3.block _ (lt_of_blk m1)).trans m1
      have b3 := b1.trans (hb3.mono b1.size)
      clear e0 m2 h1 m1 hb3 b1
      cases hF : (cs.take k).any (sameC x.name)
      · have HF : Hid _ := hF
        clear hF
        have g0 : w3.cell? ⟨nb, 0, none⟩ = some (.string x.name) := by rw [cell_of_blk h3]; rfl
        have g1 : w3.cell? ⟨nb, 1, none⟩ = some (.int .i64 x.source) := by rw [cell_of_blk h3]; rfl
        have g2 : w3.cell? ⟨nb, 2, none⟩ = some (.int .i64 x.target) := by rw [cell_of_blk h3]; rfl
        have g3 : w3.cell? ⟨nb, 3, none⟩ = some (.int .i64 x.kind) := by rw [cell_of_blk h3]; rfl
        have g4 : w3.cell? ⟨nb, 4, none⟩ = some (.int .i64 x.size) := by rw [cell_of_blk h3]; rfl
        have g5 : w3.cell? ⟨nb, 5, none⟩ = some (.int .i64 x.depth) := by rw [cell_of_blk h3]; rfl
        have k0 : w3.cell? ⟨w.heap.size, 0, none⟩ = some (.int .i64 f) := by rw [cell_of_blk m3]; rfl
        have k1 : w3.cell? ⟨w.heap.size, 1, none⟩ = some (.slice pa ps.length pcap) := by rw [cell_of_blk m3]; rfl
        have k2 : w3.cell? ⟨w.heap.size, 2, none⟩ = some (.slice (some ⟨b, off, none⟩) cs.length cap) := by rw [cell_of_blk m3]; rfl
        go_wp2_with fail
        refine (checkChannel_any f ps.length x pa pcap _ w3 hn ⟨_, _, _, rfl⟩).mono ?_
        rintro e w4 ⟨rfl, hb4⟩
        have m4 := (hb4.block _ (lt_of_blk m3)).trans m3
        have b4 := b3.trans (hb4.mono b3.size)
        have HVV : Hid (chanAt ⟨f, ps, cs⟩ k = chanE f ps.length x) := by
          show _ = _
          rw [HAT.out, HPE.out, HN.out, freshC_any, HF.out]; rfl
        clear g0 g1 g2 g3 g4 g5 k0 k1 k2 m3 h3 hb4 b3
        by_cases hz : chanE f ps.length x = 0
        · have HZ2 : Hid _ := HSN.out (HVV.out.trans hz)
          rw [hz]
          clear hz
          go_wp2_with fail
          go_roundw
          case rel => exact ⟨k + 1, by go_num, by omega, HZ2, m4, b4⟩
          case measure => simp [intOf]; omega
        · have hzz : (chanE f ps.length x != 0) = true := by simp [hz]
          have HX : Hid (firstNZ (chanAt ⟨f, ps, cs⟩) cs.length = chanE f ps.length x) := by show _ = _; rw [HST.out (by rw [HVV.out]; exact hz) hlt, HVV.out]
          go_wp2_with fail
          go_ret
          exact ⟨by rw [HX.out]; rfl, b4⟩
      · have HX : Hid (firstNZ (chanAt ⟨f, ps, cs⟩) cs.length = 7) := by
          have h7 : chanAt ⟨f, ps, cs⟩ k = 7 := by rw [HAT.out, HPE.out, freshC_any, hF]; simp
          show _ = _
          rw [HST.out (by rw [h7]; decide) hlt, h7]
        clear hF
        go_wp2_with fail
        go_ret
        exact ⟨by rw [HX.out]; rfl, b3⟩
    · have hlt' : ¬ (k : Int) < (cs.length : Int) := by omega
      have hke : k = cs.length := by omega
      have HF : Hid (firstNZ (chanAt ⟨f, ps, cs⟩) cs.length = 0) := by have := HZ.out; rw [hke] at this; exact this
      go_wp2_with fail
      go_ret
      exact ⟨by rw [HF.out]; rfl, hbel⟩

theorem wideB_any (ps : List PartD) : wideB ps = ps.any wideP := rfl
set_option maxRecDepth 100000 in
set_option maxHeartbeats 2000000 in
theorem tooMany_any (f : Int) (ps : List PartD) (cs : List ChanD) (pv cv : Value) (w : World) (hp : PartsV w pv ps) (hcv : ∃ a k, cv = .slice a cs.length k) (hl : ps.length ≤ 4611686018427387903) :
    Calls Tryz.prog 58 #[.agg #[.int .i64 f, pv, cv]] w fun e w' => e = .returned (.bool (manyB ⟨f, ps, cs⟩)) ∧ Below w.heap.size w w' := by
  obtain ⟨ca, ck, rfl⟩ := hcv
  have HP : Hid (PartsV w pv ps) := hp
  obtain ⟨va, cap, rfl, hc⟩ := hp
  clear hc
  have b0 : Below w.heap.size w (w.alloc (.cells #[.int .i64 f, .slice va ps.length cap, .slice ca cs.length ck] 34)) := (Below.refl _ w).alloc (Nat.le_refl _) _
  have h0 := heap_new w (.cells #[.int .i64 f, .slice va ps.length cap, .slice ca cs.length ck] 34)
  have HT : Hid _ := @many_true ⟨f, ps, cs⟩
  have HW : Hid _ := @many_wide ⟨f, ps, cs⟩
  go_enter Tryz.func58, Tryz.ntmps58
  go_wp2_with fail
  generalize w.alloc (.cells #[.int .i64 f, .slice va ps.length cap, .slice ca cs.length ck] 34) = W0 at *
  have y1 : W0.cell? ⟨w.heap.size, 1, none⟩ = some (.slice va ps.length cap) := by rw [cell_of_blk h0]; rfl
  have y2 : W0.cell? ⟨w.heap.size, 2, none⟩ = some (.slice ca cs.length ck) := by rw [cell_of_blk h0]; rfl
  refine (within_any _ _ _ _).mono ?_
  rintro e w1 ⟨rfl, rfl⟩
  cases hA : (decide ((1 : Int) ≤ (ps.length : Int)) && decide ((ps.length : Int) ≤ 8))
  · have HX : Hid (manyB ⟨f, ps, cs⟩ = true) := by
      rw [Bool.and_eq_false_iff] at hA
      exact HT.out (by simp only [decide_eq_false_iff_not] at hA ⊢; omega)
    clear hA
    go_wp2_with fail
    go_ret
    exact ⟨by rw [HX.out]; rfl, b0⟩
  have hA' : 1 ≤ ps.length ∧ ps.length ≤ 8 := by simp only [Bool.and_eq_true, decide_eq_true_eq] at hA; omega
  clear hA
  cases hB : decide ((8 : Int) < (cs.length : Int))
  · have hB' : ¬ 8 < cs.length := by simp only [decide_eq_false_iff_not] at hB; omega
    have HX : Hid (manyB ⟨f, ps, cs⟩ = ps.any wideP) := HW.out (by omega)
    go_wp2_with fail
    refine (contains_wide ps _ w1 (PartsV.below HP.out b0) hl).mono ?_
    rintro e w2 ⟨rfl, hb2⟩
    go_wp2_with fail
    go_ret
    exact ⟨by rw [HX.out]; rfl, b0.trans (hb2.mono b0.size)⟩
  · have HX : Hid (manyB ⟨f, ps, cs⟩ = true) := HT.out (by simp only [decide_eq_true_eq] at hB ⊢; omega)
    go_wp2_with fail
    go_ret
    exact ⟨by rw [HX.out]; rfl, b0⟩

/- the sums -/
set_option maxRecDepth 100000 in
set_option maxHeartbeats 2000000 in
theorem load_any (f : Int) (ps : List PartD) (pv cv : Value) (w : World) (hp : PartsV w pv ps) (hcv : ∃ a l k, cv = .slice a l k) (hf : 1 ≤ f ∧ f ≤ 240) (hl : ps.length ≤ 8) (hok : ∀ k (h : k < ps.length), 1 ≤ ps[k].period ∧ ps[k].period ≤ f ∧ 1 ≤ ps[k].duration ∧ ps[k].duration ≤ ps[k].period) :
    Calls Tryz.prog 61 #[.agg #[.int .i64 f, pv, cv]] w fun e w' => e = .returned (.int .i64 (ticksF f ps)) ∧ Below w.heap.size w w' := by
  obtain ⟨ca, cl, ck, rfl⟩ := hcv
  obtain ⟨va, cap, rfl, hc⟩ := hp
  have HC : Hid _ := hc
  have HK : Hid _ := hok
  clear hc hok
  have b0 : Below w.heap.size w (w.alloc (.cells #[.int .i64 f, .slice va ps.length cap, .slice ca cl ck] 34)) := (Below.refl _ w).alloc (Nat.le_refl _) _
  have h0 := heap_new w (.cells #[.int .i64 f, .slice va ps.length cap, .slice ca cl ck] 34)
  go_enter Tryz.func61, Tryz.ntmps61
  go_wp2_with fail
  generalize w.alloc (.cells #[.int .i64 f, .slice va ps.length cap, .slice ca cl ck] 34) = W0 at *
  go_loopw [3, 9] (fun t i wr => ∃ (k : Nat) (T : Int), i = .int .i64 k ∧ t = .int .i64 T ∧ k ≤ ps.length ∧ Hid (T = ticksF f (ps.take k)) ∧ 0 ≤ T ∧ T ≤ 240 * k ∧ wr.heap[w.heap.size]? = some (.cells #[.int .i64 f, .slice va ps.length cap, .slice ca cl ck] 34 (0, 0)) ∧ Below w.heap.size w wr) (fun _ i _ => ps.length - (intOf i).toNat)
  case atStart => exact ⟨0, 0, rfl, rfl, by omega, by simp [Hid, ticksF], by omega, by omega, h0, b0⟩
  case round =>
    obtain ⟨k, T, rfl, rfl, hk, HT, hT0, hT1, hm, hbel⟩ := hrel
    by_cases hlt : k < ps.length
    · have hlt' : (k : Int) < (ps.length : Int) := by omega
      have hk0 : (0 : Int) ≤ (k : Int) := by omega
      obtain ⟨b, off, rv, rfl, c0, c1, c2, c3, c4, hrv⟩ := HC.out k hlt
      obtain ⟨ra, rcap, rfl, hrx⟩ := hrv
      clear hrx
      have hbl := World.block_lt_of_cell? w _ c0
      have d0 := (hbel.cell (by exact hbl)).trans c0
      have d1 := (hbel.cell (by exact hbl)).trans c1
      have d2 := (hbel.cell (by exact hbl)).trans c2
      have d3 := (hbel.cell (by exact hbl)).trans c3
      have d4 := (hbel.cell (by exact hbl)).trans c4
      clear c0 c1 c2 c3 c4
      obtain ⟨o1, o2, o3, o4⟩ := HK.out k hlt
      have HTS : Hid _ := ticksF_step f hlt
      generalize ps[k] = x at *
      obtain ⟨t1, t2, t3, t4⟩ := ticks_one o1 o2 o3 o4 (by omega)
      have w1 : IntKind.i64.wrap (f / x.period) = f / x.period := wrap_small _ (by omega) (by omega)
      have w2 : IntKind.i64.wrap (f / x.period * x.duration) = f / x.period * x.duration := wrap_small _ (by omega) (by omega)
      have w3 : IntKind.i64.wrap (T + f / x.period * x.duration) = T + f / x.period * x.duration := wrap_small _ (by omega) (by omega)
      have hpz : ¬ x.period = 0 := by omega
      have hf0 : 0 ≤ f := by omega
      have b1 := hbel.alloc (o := .cells #[.string x.name, .int .i64 x.period, .int .i64 x.duration, .int .i64 x.action, .slice ra x.regs.length rcap] 42) hbel.size
      have h1 := heap_new wr (.cells #[.string x.name, .int .i64 x.period, .int .i64 x.duration, .int .i64 x.action, .slice ra x.regs.length rcap] 42)
      have m1 := heap_old wr (.cells #[.string x.name, .int .i64 x.period, .int .i64 x.duration, .int .i64 x.action, .slice ra x.regs.length rcap] 42) hm
      go_wp2_with fail
      clear d0 d1 d2 d3 d4 hm hbel
      generalize wr.alloc (.cells #[.string x.name, .int .i64 x.period, .int .i64 x.duration, .int .i64 x.action, .slice ra x.regs.length rcap] 42) = W1 at *
      generalize wr.heap.size = nb at *
      have e1 : W1.cell? ⟨nb, 1, none⟩ = some (.int .i64 x.period) := by rw [cell_of_blk h1]; rfl
      have e2 : W1.cell? ⟨nb, 2, none⟩ = some (.int .i64 x.duration) := by rw [cell_of_blk h1]; rfl
      have m2 : W1.cell? ⟨w.heap.size, 0, none⟩ = some (.int .i64 f) := by rw [cell_of_blk m1]; rfl
      go_quiet (fail)
      go_wp2_with fail
      go_roundw
      case rel => exact ⟨k + 1, T + f / x.period * x.duration, by go_num, rfl, by omega, by show _ = _; rw [HTS.out, HT.out], by omega, by omega, m1, below_drewN b1 _⟩
      case measure => simp [intOf]; omega
    · have hlt' : ¬ (k : Int) < (ps.length : Int) := by omega
      have hke : k = ps.length := by omega
      have HF : Hid (T = ticksF f ps) := by have := HT.out; rw [hke, List.take_length] at this; exact this
      go_wp2_with fail
      go_ret
      exact ⟨by rw [← HF.out]; rfl, hbel⟩
set_option maxRecDepth 100000 in
set_option maxHeartbeats 2000000 in
theorem pages_any (f : Int) (ps : List PartD) (pv cv : Value) (w : World) (hp : PartsV w pv ps) (hcv : ∃ a l k, cv = .slice a l k) (hl : ps.length ≤ 8) (hok : ∀ k (h : k < ps.length), ps[k].regs.length ≤ 4 ∧ RegsOK ps[k].regs) :
    Calls Tryz.prog 62 #[.agg #[.int .i64 f, pv, cv]] w fun e w' => e = .returned (.int .i64 (pagesF ps)) ∧ Below w.heap.size w w' := by
  obtain ⟨ca, cl, ck, rfl⟩ := hcv
  obtain ⟨va, cap, rfl, hc⟩ := hp
  have HC : Hid _ := hc
  have HK : Hid _ := hok
  clear hc hok
  have b0 : Below w.heap.size w (w.alloc (.cells #[.int .i64 f, .slice va ps.length cap, .slice ca cl ck] 34)) := (Below.refl _ w).alloc (Nat.le_refl _) _
  go_enter Tryz.func62, Tryz.ntmps62
  go_wp2_with fail
  generalize w.alloc (.cells #[.int .i64 f, .slice va ps.length cap, .slice ca cl ck] 34) = W0 at *
  go_loopw [3, 11] (fun t i wr => ∃ (k : Nat) (T : Int), i = .int .i64 k ∧ t = .int .i64 T ∧ k ≤ ps.length ∧ Hid (T = pagesF (ps.take k)) ∧ 0 ≤ T ∧ T ≤ 256 * k ∧ Below w.heap.size w wr) (fun _ i _ => ps.length - (intOf i).toNat)
  case atStart => exact ⟨0, 0, rfl, rfl, by omega, by simp [Hid, pagesF], by omega, by omega, b0⟩
  case round =>
    obtain ⟨k, T, rfl, rfl, hk, HT, hT0, hT1, hbel⟩ := hrel
    by_cases hlt : k < ps.length
    · have hlt' : (k : Int) < (ps.length : Int) := by omega
      have hk0 : (0 : Int) ≤ (k : Int) := by omega
      obtain ⟨b, off, rv, rfl, c0, c1, c2, c3, c4, hrv⟩ := HC.out k hlt
      have HRV : Hid (RegsV w rv ps[k].regs) := hrv
      obtain ⟨ra, rcap, rfl, hrx⟩ := hrv
      clear hrx
      have hbl := World.block_lt_of_cell? w _ c0
      have d0 := (hbel.cell (by exact hbl)).trans c0
      have d1 := (hbel.cell (by exact hbl)).trans c1
      have d2 := (hbel.cell (by exact hbl)).trans c2
      have d3 := (hbel.cell (by exact hbl)).trans c3
      have d4 := (hbel.cell (by exact hbl)).trans c4
      clear c0 c1 c2 c3 c4
      obtain ⟨o1, o2⟩ := HK.out k hlt
      have HOK : Hid _ := o2
      clear o2
      have HTS : Hid _ := pagesF_step hlt
      generalize ps[k] = x at *
      have b1 := hbel.alloc (o := .cells #[.string x.name, .int .i64 x.period, .int .i64 x.duration, .int .i64 x.action, .slice ra x.regs.length rcap] 42) hbel.size
      have h1 := heap_new wr (.cells #[.string x.name, .int .i64 x.period, .int .i64 x.duration, .int .i64 x.action, .slice ra x.regs.length rcap] 42)
      go_wp2_with fail
      clear d0 d1 d2 d3 d4 hbel
      generalize wr.alloc (.cells #[.string x.name, .int .i64 x.period, .int .i64 x.duration, .int .i64 x.action, .slice ra x.regs.length rcap] 42) = W1 at *
      obtain ⟨ra', rcap', hrr, hrc⟩ := RegsV.below HRV.out b1
      cases hrr
      have HRC : Hid _ := hrc
      clear hrc
      go_loopw [3, 18] (fun t i wx => ∃ (q : Nat) (G : Int), i = .int .i64 q ∧ t = .int .i64 G ∧ q ≤ x.regs.length ∧ Hid (G = T + regPages (x.regs.take q)) ∧ 0 ≤ G ∧ G ≤ T + 64 * q ∧ Below W1.heap.size W1 wx) (fun _ i _ => x.regs.length - (intOf i).toNat)
      case atStart => exact ⟨0, T, rfl, rfl, by omega, by simp [Hid, regPages], by omega, by omega, Below.refl _ _⟩
      case round =>
        obtain ⟨q, G, rfl, rfl, hq, HG, hG0, hG1, hbx⟩ := hrel
        by_cases hql : q < x.regs.length
        · have hql' : (q : Int) < (x.regs.length : Int) := by omega
          have hq0 : (0 : Int) ≤ (q : Int) := by omega
          obtain ⟨rb, ro, rfl, z0, z1, z2⟩ := HRC.out q hql
          have hzl := World.block_lt_of_cell? W1 _ z0
          have u0 := (hbx.cell (by exact hzl)).trans z0
          have u1 := (hbx.cell (by exact hzl)).trans z1
          have u2 := (hbx.cell (by exact hzl)).trans z2
          clear z0 z1 z2
          have hbd := HOK.out.1 x.regs[q] (List.getElem_mem _)
          unfold regB at hbd
          simp only [decide_eq_true_eq] at hbd
          have HST : Hid _ := regPages_step hql
          generalize x.regs[q] = r at *
          have wg : IntKind.i64.wrap (G + r.pages) = G + r.pages := wrap_small _ (by omega) (by omega)
          go_wp2_with fail
          go_roundw
          case rel => exact ⟨q + 1, G + r.pages, by go_num, rfl, by omega, by show _ = _; rw [HST.out, HG.out]; omega, by omega, by omega, hbx.alloc hbx.size _⟩
          case measure => simp [intOf]; omega
        · have hql' : ¬ (q : Int) < (x.regs.length : Int) := by omega
          have hqe : q = x.regs.length := by omega
          have HG2 : Hid (G = T + regPages x.regs) := by have := HG.out; rw [hqe, List.take_length] at this; exact this
          clear HG
          go_wp2_with fail
          go_roundw
          case rel => exact ⟨k + 1, G, by go_num, rfl, by omega, by show _ = _; rw [HTS.out, HG2.out, HT.out], by omega, by omega, b1.trans (hbx.mono b1.size)⟩
          case measure => simp [intOf]; omega
    · have hlt' : ¬ (k : Int) < (ps.length : Int) := by omega
      have hke : k = ps.length := by omega
      have HF : Hid (T = pagesF ps) := by have := HT.out; rw [hke, List.take_length] at this; exact this
      go_wp2_with fail
      go_ret
      exact ⟨by rw [← HF.out]; rfl, hbel⟩
end Go.Proofs.YteioennfpkoagaaGreatDoor.C
namespace Go.Proofs.YteioennfpkoagaaGreatDoor.C
open Go.RowKit
attribute [local go_sem ↓] Go.wp_at_zero Go.wp_at_succ

set_option maxRecDepth 100000 in
set_option maxHeartbeats 4000000 in
theorem manCheck_any (f : Int) (ps : List PartD) (cs : List ChanD) (pv cv : Value) (w : World) (hp : PartsV w pv ps) (hpc : PartsC w pv ps.length) (hc : ChansV w cv cs) (hcc : capV cv) (hl : ps.length ≤ 4611686018427387903) (hrl : ∀ k (h : k < ps.length), ps[k].regs.length ≤ 4611686018427387903) (hcl : cs.length ≤ 4611686018427387903) :
    Calls Tryz.prog 22 #[.agg #[.int .i64 f, pv, cv]] w fun e w' => e = .returned (.int .i64 (checkF ⟨f, ps, cs⟩)) ∧ Below w.heap.size w w' := by
  have HP : Hid (PartsV w pv ps) := hp
  have HPC : Hid (PartsC w pv ps.length) := hpc
  have HCV : Hid (ChansV w cv cs) := hc
  have HCC : Hid (capV cv) := hcc
  have HRL : Hid _ := hrl
  clear hpc hcc hrl
  obtain ⟨va, cap, rfl, hx⟩ := hp
  clear hx
  obtain ⟨ca, ck, rfl, hx⟩ := hc
  clear hx
  have b0 : Below w.heap.size w (w.alloc (.cells #[.int .i64 f, .slice va ps.length cap, .slice ca cs.length ck] 34)) := (Below.refl _ w).alloc (Nat.le_refl _) _
  have h0 := heap_new w (.cells #[.int .i64 f, .slice va ps.length cap, .slice ca cs.length ck] 34)
  have HE : Hid (checkF ⟨f, ps, cs⟩ = checkF ⟨f, ps, cs⟩) := rfl
  conv at HE => arg 1; rhs; unfold checkF
  go_enter Tryz.func22, Tryz.ntmps22
  go_wp2_with fail
  generalize w.alloc (.cells #[.int .i64 f, .slice va ps.length cap, .slice ca cs.length ck] 34) = W0 at *
  refine (within_any _ _ _ _).mono ?_
  rintro e w1 ⟨rfl, rfl⟩
  cases hA : (decide (1 ≤ f) && decide (f ≤ 240))
  · have HX : Hid (checkF ⟨f, ps, cs⟩ = 5) := by
      rw [Bool.and_eq_false_iff] at hA
      simp only [decide_eq_false_iff_not] at hA
      show _ = _
      rw [HE.out, if_pos (by omega)]
    clear hA
    go_wp2_with fail
    go_ret
    exact ⟨by rw [HX.out]; rfl, b0⟩
  have hf : 1 ≤ f ∧ f ≤ 240 := by simp only [Bool.and_eq_true, decide_eq_true_eq] at hA; exact hA
  clear hA
  have y0 : w1.cell? ⟨w.heap.size, 0, none⟩ = some (.int .i64 f) := by rw [cell_of_blk h0]; rfl
  have y1 : w1.cell? ⟨w.heap.size, 1, none⟩ = some (.slice va ps.length cap) := by rw [cell_of_blk h0]; rfl
  have y2 : w1.cell? ⟨w.heap.size, 2, none⟩ = some (.slice ca cs.length ck) := by rw [cell_of_blk h0]; rfl
  go_wp2_with fail
  refine (tooMany_any f ps cs _ _ w1 (PartsV.below HP.out b0) ⟨_, _, rfl⟩ hl).mono ?_
  rintro e w2 ⟨rfl, hb⟩
  have h2 := (hb.block _ (lt_of_blk h0)).trans h0
  have b2 := b0.trans (hb.mono b0.size)
  clear y0 y1 y2 h0 hb b0
  cases hM : manyB ⟨f, ps, cs⟩
  · have HM : Hid _ := hM
    clear hM
    have HW : Hid (∀ k (hk : k < ps.length), ps[k].regs.length ≤ 4) := by
      have h := HM.out
      have hn : ¬ (ps.length < 1 ∨ 8 < ps.length ∨ 8 < cs.length) := fun hh => by rw [many_true (M := ⟨f, ps, cs⟩) hh] at h; cases h
      rw [many_wide (M := ⟨f, ps, cs⟩) hn] at h
      exact fun k hk => wide_len h k hk
    have hps8 : ps.length ≤ 8 := by
      rcases Nat.lt_or_ge 8 ps.length with h | h
      · have := many_true (M := ⟨f, ps, cs⟩) (.inr (.inl h)); rw [HM.out] at this; cases this
      · exact h
    have y0 : w2.cell? ⟨w.heap.size, 0, none⟩ = some (.int .i64 f) := by rw [cell_of_blk h2]; rfl
    have y1 : w2.cell? ⟨w.heap.size, 1, none⟩ = some (.slice va ps.length cap) := by rw [cell_of_blk h2]; rfl
    have y2 : w2.cell? ⟨w.heap.size, 2, none⟩ = some (.slice ca cs.length ck) := by rw [cell_of_blk h2]; rfl
    go_wp2_with fail
    refine (checkPartitions_any f ps cs _ _ w2 (PartsV.below HP.out b2) (PartsC.below HP.out HPC.out b2) ⟨_, _, _, rfl⟩ hf hl HRL.out).mono ?_
    rintro e w3 ⟨rfl, hb⟩
    have h3 := (hb.block _ (lt_of_blk h2)).trans h2
    have b3 := b2.trans (hb.mono b2.size)
    clear y0 y1 y2 h2 hb b2
    by_cases hz : firstNZ (partAt ⟨f, ps, cs⟩) ps.length = 0
    · rw [hz]
      have HZ : Hid _ := hz
      clear hz
      have y0 : w3.cell? ⟨w.heap.size, 0, none⟩ = some (.int .i64 f) := by rw [cell_of_blk h3]; rfl
      have y1 : w3.cell? ⟨w.heap.size, 1, none⟩ = some (.slice va ps.length cap) := by rw [cell_of_blk h3]; rfl
      have y2 : w3.cell? ⟨w.heap.size, 2, none⟩ = some (.slice ca cs.length ck) := by rw [cell_of_blk h3]; rfl
      go_wp2_with fail
      refine (checkChannels_any f ps cs _ _ w3 ⟨_, _, rfl⟩ (ChansV.below HCV.out b3) HCC.out hl hcl).mono ?_
      rintro e w4 ⟨rfl, hb⟩
      have h4 := (hb.block _ (lt_of_blk h3)).trans h3
      have b4 := b3.trans (hb.mono b3.size)
      clear y0 y1 y2 h3 hb b3
      have HAT : Hid (∀ k (hk : k < ps.length), partErr f (ps.take k) ps[k] = 0) := fun k hk => by
        have := firstNZ_all HZ.out hk
        unfold partAt at this
        rw [dif_pos hk] at this; exact this
      by_cases hy : firstNZ (chanAt ⟨f, ps, cs⟩) cs.length = 0
      · rw [hy]
        have HY : Hid _ := hy
        clear hy
        have HX : Hid (checkF ⟨f, ps, cs⟩ = if f < ticksF f ps then 16 else if 64 < pagesF ps then 17 else 0) := by
          show _ = _
          rw [HE.out, if_neg (by omega), if_neg (by rw [HM.out]; simp), if_neg (by rw [HZ.out]; simp), if_neg (by rw [HY.out]; simp)]
        have y0 : w4.cell? ⟨w.heap.size, 0, none⟩ = some (.int .i64 f) := by rw [cell_of_blk h4]; rfl
        have y1 : w4.cell? ⟨w.heap.size, 1, none⟩ = some (.slice va ps.length cap) := by rw [cell_of_blk h4]; rfl
        have y2 : w4.cell? ⟨w.heap.size, 2, none⟩ = some (.slice ca cs.length ck) := by rw [cell_of_blk h4]; rfl
        cases hT : decide (f < ticksF f ps)
        all_goals go_wp2_with fail
        all_goals (go_region_held3 (fun w' => w'.cell? ⟨w.heap.size, 0, none⟩ = some (.int .i64 f) ∧ w'.cell? ⟨w.heap.size, 1, none⟩ = some (.slice va ps.length cap) ∧ w'.cell? ⟨w.heap.size, 2, none⟩ = some (.slice ca cs.length ck) ∧ Below w.heap.size w w') (first | assumption | exact ⟨y0, y1, y2, b4.drew⟩ | exact keep3 (by assumption) hb2 (Nat.le_refl _)) ((first
          | (go_at_call 61; refine (load_any f ps _ _ _ (PartsV.below HP.out (by first | exact b4 | (exact (‹World.cell? _ ⟨w.heap.size, 0, none⟩ = _ ∧ _ ∧ _ ∧ Below w.heap.size w _›).2.2.2) | exact b4.drew)) ⟨_, _, _, rfl⟩ hf hps8 (fun k hk => have h := partErr_ok (HAT.out k hk); ⟨h.1, h.2.1, h.2.2.1, h.2.2.2.1⟩)).mono ?_; rintro e w5 ⟨rfl, hb2⟩))))
        all_goals (have hS := ‹World.cell? _ ⟨w.heap.size, 0, none⟩ = _ ∧ _ ∧ _ ∧ Below w.heap.size w _›)
        all_goals (obtain ⟨x0, x1, x2, b5⟩ := hS)
        all_goals clear y0 y1 y2 h4 b4
        · have hT' : ¬ f < ticksF f ps := by simpa using hT
          clear hT
          go_wp2_with fail
          refine (pages_any f ps _ _ _ (PartsV.below HP.out b5) ⟨_, _, _, rfl⟩ hps8 (fun k hk => ⟨HW.out k hk, (partErr_ok (HAT.out k hk)).2.2.2.2.2.2⟩)).mono ?_
          rintro e w6 ⟨rfl, hb6⟩
          have b6 := b5.trans (hb6.mono b5.size)
          cases hQ : decide (64 < pagesF ps)
          · go_wp2_with fail
            go_ret
            exact ⟨by rw [HX.out, if_neg (by omega), if_neg (by simpa using hQ)]; rfl, b6⟩
          · go_wp2_with fail
            go_ret
            exact ⟨by rw [HX.out, if_neg (by omega), if_pos (by simpa using hQ)]; rfl, b6⟩
        · have hT' : f < ticksF f ps := by simpa using hT
          go_wp2_with fail
          go_ret
          exact ⟨by rw [HX.out, if_pos hT']; rfl, b5⟩
      · have hyy : (firstNZ (chanAt ⟨f, ps, cs⟩) cs.length != 0) = true := by simp [hy]
        have HX : Hid (checkF ⟨f, ps, cs⟩ = firstNZ (chanAt ⟨f, ps, cs⟩) cs.length) := by
          show _ = _
          rw [HE.out, if_neg (by omega), if_neg (by rw [HM.out]; simp), if_neg (by rw [HZ.out]; simp), if_pos hy]
        go_wp2_with fail
        go_ret
        exact ⟨by rw [HX.out]; rfl, b4⟩
    · have hzz : (firstNZ (partAt ⟨f, ps, cs⟩) ps.length != 0) = true := by simp [hz]
      have HX : Hid (checkF ⟨f, ps, cs⟩ = firstNZ (partAt ⟨f, ps, cs⟩) ps.length) := by
        show _ = _
        rw [HE.out, if_neg (by omega), if_neg (by rw [HM.out]; simp), if_pos hz]
      go_wp2_with fail
      go_ret
      exact ⟨by rw [HX.out]; rfl, b3⟩
  · have HX : Hid (checkF ⟨f, ps, cs⟩ = 6) := by show _ = _; rw [HE.out, if_neg (by omega), if_pos hM]
    clear hM
    go_wp2_with fail
    go_ret
    exact ⟨by rw [HX.out]; rfl, b2⟩
end Go.Proofs.YteioennfpkoagaaGreatDoor.C
