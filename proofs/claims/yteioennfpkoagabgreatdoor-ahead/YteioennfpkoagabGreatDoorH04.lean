import Derived.Test.YteioennfpkoagabGreatDoorRows
import Derived.WalkKit
import Derived.WalkSpells
import Derived.WalkLawsBesides
import Derived.Deep.RegionHeld3
import Derived.Deep.AppendLies
import Derived.Deep.DrawnRows
import Derived.Deep.QuietTactic
import Derived.BigQuiet
import Derived.Handy
import Derived.Test.YteioennfpkoagabGreatDoorH03
import Derived.Test.YteioennfpkoagabGreatDoorH02
namespace Go.Proofs.YteioennfpkoagabGreatDoor.C
open Go.RowKit
attribute [local go_sem ↓] Go.wp_at_zero Go.wp_at_succ

/- the raw numbers -/
def inI (x : Int) : Prop := -9223372036854775808 ≤ x ∧ x ≤ 9223372036854775807
def IntsV (w : World) (v : Value) (L : List Int) : Prop :=
  L.length ≤ 9223372036854775807 ∧ (∀ x ∈ L, inI x) ∧ ∃ va cap, v = .slice va L.length cap ∧ ∀ i (h : i < L.length), ∃ b off, va = some ⟨b, off, none⟩ ∧ w.cell? ⟨b, off + i, none⟩ = some (.int .i64 L[i])
theorem IntsV.below {w w' : World} {v : Value} {L : List Int} (h : IntsV w v L) (hb : Below w.heap.size w w') : IntsV w' v L := by
  obtain ⟨h0, h1, va, cap, e, hc⟩ := h
  refine ⟨h0, h1, va, cap, e, fun i hi => ?_⟩
  obtain ⟨b, off, e1, h1⟩ := hc i hi
  have hlt := World.block_lt_of_cell? w _ h1
  exact ⟨b, off, e1, (hb.cell (by exact hlt)).trans h1⟩
def pickF (c n : Int) : Int := (if c < 0 then -(c + 1) else c) % n
theorem pickF_lt {c n : Int} (h : 0 < n) : 0 ≤ pickF c n ∧ pickF c n < n := ⟨Int.emod_nonneg _ (by omega), Int.emod_lt_of_pos _ h⟩
def rawF (L : List Int) (i : Nat) : Int := L.getD (i % L.length) 0
theorem rawF_in {w : World} {v : Value} {L : List Int} (h : IntsV w v L) (i : Nat) : inI (rawF L i) := by
  unfold rawF
  by_cases hl : i % L.length < L.length
  · simp only [List.getD, List.getElem?_eq_getElem hl, Option.getD_some]
    exact h.2.1 _ (List.getElem_mem _)
  · simp only [List.getD, List.getElem?_eq_none (by omega : L.length ≤ i % L.length), Option.getD_none]
    unfold inI; omega
theorem pick_any (c n : Int) (hc : inI c) (hn : 0 < n ∧ n ≤ 1000000) (w : World) :
    Calls Tryz.prog 13 #[.int .i64 c, .int .i64 n] w fun e w' => e = .returned (.int .i64 (pickF c n)) ∧ w' = w := by
  unfold inI at hc
  have hn0 : n ≠ 0 := by omega
  by_cases h : c < 0
  · go_enter Tryz.func13, Tryz.ntmps13
    go_wp2_with fail
    go_ret
    refine ⟨?_, rfl⟩
    unfold pickF
    rw [if_pos h]
    show Ending.returned (Value.int IntKind.i64 (-((c + 1).tmod n))) = _
    rw [← Int.neg_tmod, Int.tmod_eq_emod_of_nonneg (by omega)]
  · go_enter Tryz.func13, Tryz.ntmps13
    go_wp2_with fail
    go_ret
    refine ⟨?_, rfl⟩
    unfold pickF
    rw [if_neg (by omega)]
    rfl
theorem raw_any (v : Value) (L : List Int) (i : Nat) (hi : i ≤ 1000000) (w : World) (hL : IntsV w v L) :
    Calls Tryz.prog 14 #[v, .int .i64 i] w fun e w' => e = .returned (.int .i64 (rawF L i)) ∧ w' = w := by
  obtain ⟨h0, h1, va, cap, rfl, hc⟩ := hL
  by_cases h : L.length = 0
  · have q : ((L.length : Int) = 0) := by omega
    go_enter Tryz.func14, Tryz.ntmps14
    go_wp2_with fail
    go_ret
    refine ⟨?_, rfl⟩
    unfold rawF
    simp [List.getD, List.length_eq_zero_iff.1 h]
  · have q : ¬ ((L.length : Int) = 0) := by omega
    have hlt := Nat.mod_lt i (show L.length > 0 by omega)
    obtain ⟨b, off, rfl, hcell⟩ := hc (i % L.length) hlt
    have e : (i : Int) % (L.length : Int) = ((i % L.length : Nat) : Int) := (Int.natCast_emod i L.length).symm
    have hb : 0 ≤ (i : Int) % (L.length : Int) ∧ (i : Int) % (L.length : Int) < (L.length : Int) := by omega
    have er : rawF L i = L[i % L.length] := by unfold rawF; simp [List.getD, hlt]
    rw [er]
    clear e er hc
    generalize L[i % L.length] = y at *
    go_enter Tryz.func14, Tryz.ntmps14
    go_wp2_with fail
    go_ret
    exact ⟨rfl, rfl⟩
/- a name -/
def nmL (i : Nat) : List UInt8 := [112, UInt8.ofNat (97 + i % 26)]
theorem nums_nm (n : Nat) (h : n < 26) : strOfNums [97 + (n : Int)] = ba [UInt8.ofNat (97 + n)] := by
  have e : (97 + (n : Int)).toNat = 97 + n := by omega
  unfold strOfNums ba
  rw [List.map_cons, List.map_nil, e]
set_option maxRecDepth 100000 in
set_option maxHeartbeats 1000000 in
theorem name_any (i : Nat) (hi : i ≤ 1000000) (w : World) :
    Calls Tryz.prog 15 #[.int .i64 i] w fun e w' => e = .returned (.string (ba (nmL i))) ∧ Below w.heap.size w w' := by
  have hm : i % 26 < 26 := Nat.mod_lt _ (by omega)
  have h4 : IntKind.i64.wrap (97 + (i : Int) % 26) = 97 + (i : Int) % 26 := wrap_small _ (by omega) (by omega)
  have h5 : IntKind.u8.wrap (97 + (i : Int) % 26) = 97 + (i : Int) % 26 := by simp [IntKind.wrap, IntKind.bits, IntKind.signed]; omega
  have h6 : IntKind.i64.wrap ((i : Int) % 26) = (i : Int) % 26 := wrap_small _ (by omega) (by omega)
  have hcv := conv_one w (97 + (i : Int) % 26)
  have hs : strOfNums [97 + (i : Int) % 26] = ba [UInt8.ofNat (97 + i % 26)] := nums_nm (i % 26) hm
  rw [hs] at hcv
  have hb0 : Below w.heap.size w (w.alloc (.cells #[.int .u8 (97 + (i : Int) % 26)] 5)) := (Below.refl _ _).alloc (Nat.le_refl _) _
  have hz : (ba [UInt8.ofNat (97 + i % 26)]).size = 1 := rfl
  generalize he : ba [UInt8.ofNat (97 + i % 26)] = t at *
  have hsum : ¬ 9223372036854775807 < 1 + t.size := by omega
  go_enter Tryz.func15, Tryz.ntmps15
  go_wp2_with fail
  go_ret
  refine ⟨?_, hb0⟩
  subst he
  rfl
end Go.Proofs.YteioennfpkoagabGreatDoor.C
namespace Go.Proofs.YteioennfpkoagabGreatDoor.C
open Go.RowKit

/- what holds of a manifest while it is made -/
theorem mk_data (l : List UInt8) : (ba l).data.toList = l := by simp [ba]
theorem mk_of {s : ByteArray} {l : List UInt8} (h : s.data.toList = l) : s = ba l := by
  subst h
  cases s
  simp [ba]
theorem nm_all : ((List.range 26).all fun j => nameF (nmL j)) = true := by decide
theorem nm_ok {j : Nat} (h : j < 26) : nameF (nmL j) = true := List.all_eq_true.1 nm_all j (List.mem_range.2 h)
theorem nm_inj_all : ((List.range 26).all fun i => (List.range 26).all fun j => decide (nmL i = nmL j → i = j)) = true := by decide
theorem nm_inj {i j : Nat} (hi : i < 26) (hj : j < 26) (h : nmL i = nmL j) : i = j := by
  have h1 := List.all_eq_true.1 nm_inj_all i (List.mem_range.2 hi)
  have h2 := List.all_eq_true.1 h1 j (List.mem_range.2 hj)
  simp only [decide_eq_true_eq] at h2
  exact h2 h
theorem data_inj {a b : ByteArray} (h : a.data.toList = b.data.toList) : a = b := by
  have h1 := mk_of h
  have h2 := mk_of (s := b) rfl
  rw [h1, ← h2]
structure PartM (F : Int) (x : PartD) : Prop where
  per : 1 ≤ x.period ∧ x.period ≤ F ∧ F % x.period = 0
  dur : 1 ≤ x.duration ∧ x.duration ≤ x.period
  act : 1 ≤ x.action ∧ x.action ≤ 3
  reg : RegsOK x.regs
  few : x.regs.length ≤ 2 ∧ regPages x.regs ≤ 4 ∧ ∀ r, x.regs.head? = some r → r.rights = 2
structure LI (F : Int) (i : Nat) (left : Int) (acc : List PartD) : Prop where
  all : ∀ x ∈ acc, PartM F x
  nam : ∀ x ∈ acc, ∃ j, j < i ∧ x.name = ba (nmL j)
  dif : acc.Pairwise (fun x y => x.name ≠ y.name)
  tic : left = F - ticksF F acc
  pos : 0 ≤ left
  len : acc.length ≤ i
theorem LI.skip {F left : Int} {i : Nat} {acc : List PartD} (h : LI F i left acc) : LI F (i + 1) left acc :=
  ⟨h.all, fun x hx => by obtain ⟨j, hj, e⟩ := h.nam x hx; exact ⟨j, by omega, e⟩, h.dif, h.tic, h.pos, by have := h.len; omega⟩
theorem LI.add {F left : Int} {i : Nat} {acc : List PartD} (h : LI F i left acc) (hi : i < 26) {x : PartD} (hn : x.name = ba (nmL i)) (hx : PartM F x) (hl : F / x.period * x.duration ≤ left) : LI F (i + 1) (left - F / x.period * x.duration) (acc ++ [x]) := by
  refine ⟨fun y hy => ?_, fun y hy => ?_, ?_, ?_, by omega, by have := h.len; simp; omega⟩
  · rcases List.mem_append.1 hy with hy | hy
    · exact h.all y hy
    · rw [List.mem_singleton.1 hy]; exact hx
  · rcases List.mem_append.1 hy with hy | hy
    · obtain ⟨j, hj, e⟩ := h.nam y hy; exact ⟨j, by omega, e⟩
    · rw [List.mem_singleton.1 hy]; exact ⟨i, by omega, hn⟩
  · rw [List.pairwise_append]
    refine ⟨h.dif, by simp, fun a ha b hb => ?_⟩
    rw [List.mem_singleton.1 hb]
    obtain ⟨j, hj, e⟩ := h.nam a ha
    rw [e, hn]
    intro e2
    have e3 : nmL j = nmL i := by rw [← mk_data (nmL j), e2, mk_data]
    have := nm_inj (by omega) hi e3
    omega
  · have := h.tic
    unfold ticksF at *
    rw [List.map_append, List.sum_append, this]
    simp
    omega
structure ChanM (n : Nat) (F : Int) (c : ChanD) : Prop where
  src : 0 ≤ c.source ∧ c.source < n
  tgt : 0 ≤ c.target ∧ c.target < n
  two : c.source ≠ c.target
  knd : c.kind = 1 ∨ c.kind = 2
  siz : c.size = 8
  dep : 1 ≤ c.depth ∧ c.depth ≤ 4
structure CI (n : Nat) (F : Int) (cs : List ChanD) : Prop where
  all : ∀ x ∈ cs, ChanM n F x
  nam : ∀ i (h : i < cs.length), cs[i].name = ba (nmL i)
theorem CI.nil (n : Nat) (F : Int) : CI n F [] := ⟨by simp, fun i h => absurd h (by simp)⟩
theorem CI.add {n : Nat} {F : Int} {cs : List ChanD} (h : CI n F cs) {c : ChanD} (hn : c.name = ba (nmL cs.length)) (hc : ChanM n F c) : CI n F (cs ++ [c]) := by
  refine ⟨fun y hy => ?_, fun i hi => ?_⟩
  · rcases List.mem_append.1 hy with hy | hy
    · exact h.all y hy
    · rw [List.mem_singleton.1 hy]; exact hc
  · by_cases e : i < cs.length
    · rw [List.getElem_append_left e]; exact h.nam i e
    · have : i = cs.length := by simp at hi; omega
      subst this
      simp [hn]
theorem first_zero {f : Nat → Int} {n : Nat} (h : ∀ i, i < n → f i = 0) : firstNZ f n = 0 := by
  induction n with
  | zero => rfl
  | succ n ih => simp only [firstNZ]; rw [if_pos (ih fun i hi => h i (by omega)), h n (by omega)]
theorem made_chk {F left : Int} {i : Nat} {ps : List PartD} {cs : List ChanD} (hF : 24 ≤ F ∧ F ≤ 240) (h : LI F i left ps) (hi : i ≤ 6) (hne : ps ≠ []) (hc : CI ps.length F cs) (hcl : cs.length ≤ 7) : checkF ⟨F, ps, cs⟩ = 0 := by
  have hnm : ∀ x ∈ ps, nameF x.name.data.toList = true := fun x hx => by
    obtain ⟨j, hj, e⟩ := h.nam x hx
    rw [e, mk_data]; exact nm_ok (by omega)
  have hlen := h.len
  have hpl : 1 ≤ ps.length := by have := List.length_pos_iff.2 hne; omega
  have hfew : ∀ x ∈ ps, x.regs.length ≤ 2 := fun x hx => (h.all x hx).few.1
  unfold checkF
  simp only []
  have hmany : manyB ⟨F, ps, cs⟩ = false := by
    unfold manyB wideB
    simp only [Bool.or_eq_false_iff, decide_eq_false_iff_not, List.any_eq_false]
    refine ⟨⟨⟨by omega, by omega⟩, by omega⟩, fun x hx => ?_⟩
    have := hfew x hx
    simp; omega
  have hparts : firstNZ (partAt ⟨F, ps, cs⟩) ps.length = 0 := by
    apply first_zero
    intro k hk
    unfold partAt
    simp only []
    rw [dif_pos hk]
    have hm := h.all _ (List.getElem_mem hk)
    have h1 := hm.per; have h2 := hm.dur; have h3 := hm.act
    unfold partErr
    have hfr : freshP (ps.take k) ps[k] = true := by
      unfold freshP
      rw [List.all_eq_true]
      intro p hp
      obtain ⟨a, ha, e⟩ := List.getElem_of_mem hp
      have ha' : a < k := by simp at ha; omega
      rw [List.getElem_take] at e
      have := List.pairwise_iff_getElem.1 h.dif a k (by omega) hk ha'
      rw [e] at this
      simp only [bne_iff_ne, ne_eq]
      intro e2
      apply this
      rw [ByteArray.toList_eq, ByteArray.toList_eq] at e2
      exact data_inj e2
    rw [if_neg (by rw [hnm _ (List.getElem_mem hk), hfr]; simp), if_neg (by omega), if_neg (by omega), if_neg (by omega), if_neg (by rw [(regsF_iff _).2 hm.reg]; simp)]
  have hchans : firstNZ (chanAt ⟨F, ps, cs⟩) cs.length = 0 := by
    apply first_zero
    intro k hk
    unfold chanAt
    simp only []
    rw [dif_pos hk]
    have hm := hc.all _ (List.getElem_mem hk)
    have h1 := hm.src; have h2 := hm.tgt; have h3 := hm.two; have h4 := hm.knd; have h5 := hm.siz; have h6 := hm.dep
    have hnk := hc.nam k hk
    unfold chanErr
    have hfr : freshC (cs.take k) cs[k] = true := by
      unfold freshC
      rw [List.all_eq_true]
      intro p hp
      obtain ⟨a, ha, e⟩ := List.getElem_of_mem hp
      have ha' : a < k := by simp at ha; omega
      rw [List.getElem_take] at e
      have hna := hc.nam a (by omega)
      rw [e] at hna
      rw [hna, hnk]
      simp only [bne_iff_ne, ne_eq]
      intro e2
      have e3 : nmL a = nmL k := by rw [ByteArray.toList_eq, ByteArray.toList_eq, mk_data, mk_data] at e2; exact e2
      have := nm_inj (by omega) (by omega) e3
      omega
    have hnf : nameF cs[k].name.data.toList = true := by rw [hnk, mk_data]; exact nm_ok (by omega)
    rw [if_neg (by rw [hnf, hfr]; simp), if_neg (by omega), if_neg (by omega), if_neg (by omega), if_neg (by split <;> omega)]
  have hpages : pagesF ps ≤ 64 := by
    have key : ∀ qs : List PartD, (∀ x ∈ qs, regPages x.regs ≤ 4) → pagesF qs ≤ 4 * qs.length := by
      intro qs
      induction qs with
      | nil => intro _; simp [pagesF]
      | cons x qs ih =>
        intro hq
        have h1 := hq x (by simp)
        have h2 := ih (fun y hy => hq y (by simp [hy]))
        unfold pagesF at *
        simp only [List.map_cons, List.sum_cons, List.length_cons]
        omega
    have := key ps (fun x hx => (h.all x hx).few.2.1)
    omega
  have htic := h.tic
  have hpos := h.pos
  rw [if_neg (by omega), if_neg (by rw [hmany]; simp), if_neg (by rw [hparts]; simp), if_neg (by rw [hchans]; simp), if_neg (by omega), if_neg (by omega)]
end Go.Proofs.YteioennfpkoagabGreatDoor.C
namespace Go.Proofs.YteioennfpkoagabGreatDoor.C
open Go.RowKit

theorem nameF_len {l : List UInt8} (h : nameF l = true) : l.length ≤ 16 := by
  unfold nameF at h; simp at h; omega
theorem partErr_name {f : Int} {bef : List PartD} {x : PartD} (h : partErr f bef x = 0) : x.name.size ≤ 16 := by
  unfold partErr at h
  split at h
  · cases h
  rename_i h1
  have : nameF x.name.data.toList = true := by
    cases hn : nameF x.name.data.toList
    · rw [hn] at h1; simp at h1
    · rfl
  have := nameF_len this
  simpa using this
theorem chanErr_ok {f : Int} {n : Nat} {bef : List ChanD} {c : ChanD} (h : chanErr f n bef c = 0) (hf : 8 ≤ 240 ∧ f ≤ 240) : c.name.size ≤ 16 ∧ 0 ≤ c.source ∧ c.source < n ∧ 0 ≤ c.target ∧ c.target < n ∧ 1 ≤ c.kind ∧ c.kind ≤ 2 ∧ 1 ≤ c.size ∧ c.size ≤ 32 ∧ 1 ≤ c.depth ∧ c.depth ≤ 240 := by
  unfold chanErr at h
  split at h
  · cases h
  split at h
  · cases h
  split at h
  · cases h
  split at h
  · cases h
  rename_i h1 h2 h3 h4
  have hn : nameF c.name.data.toList = true := by
    cases hn : nameF c.name.data.toList
    · rw [hn] at h1; simp at h1
    · rfl
  have := nameF_len hn
  have hd : 1 ≤ c.depth ∧ c.depth ≤ 240 := by
    by_cases hk : c.kind = 1
    · rw [if_pos hk] at h
      split at h
      · cases h
      · omega
    · rw [if_neg hk] at h
      split at h
      · cases h
      · omega
  refine ⟨by simpa using this, ?_⟩
  omega
theorem check_ok {M : ManD} (h : checkF M = 0) : 1 ≤ M.frame ∧ M.frame ≤ 240 ∧ M.parts.length ≤ 8 ∧ M.chans.length ≤ 8 ∧ (∀ k (hk : k < M.parts.length), M.parts[k].regs.length ≤ 4 ∧ partErr M.frame (M.parts.take k) M.parts[k] = 0) ∧ (∀ k (hk : k < M.chans.length), chanErr M.frame M.parts.length (M.chans.take k) M.chans[k] = 0) := by
  unfold checkF at h
  split at h
  · cases h
  split at h
  · cases h
  rename_i h1 h2
  have hm : manyB M = false := by simpa using h2
  have hmany : ¬ (M.parts.length < 1 ∨ 8 < M.parts.length ∨ 8 < M.chans.length) := by
    intro hx; rw [many_true hx] at hm; cases hm
  have hw : wideB M.parts = false := by rw [← many_wide hmany]; exact hm
  split at h
  · rename_i h3; exact absurd h h3
  split at h
  · rename_i h3; exact absurd h h3
  rename_i h3 h4
  have e3 : firstNZ (partAt M) M.parts.length = 0 := by omega
  have e4 : firstNZ (chanAt M) M.chans.length = 0 := by omega
  refine ⟨by omega, by omega, by omega, by omega, fun k hk => ⟨wide_len hw k hk, ?_⟩, fun k hk => ?_⟩
  · have := firstNZ_all e3 hk
    unfold partAt at this; rw [dif_pos hk] at this; exact this
  · have := firstNZ_all e4 hk
    unfold chanAt at this; rw [dif_pos hk] at this; exact this
end Go.Proofs.YteioennfpkoagabGreatDoor.C
namespace Go.Proofs.YteioennfpkoagabGreatDoor.C
open Go.RowKit
attribute [local go_sem ↓] Go.wp_at_zero Go.wp_at_succ

/- the text of a manifest -/
def actW : Nat → List UInt8
  | 1 => [105, 103, 110, 111, 114, 101]
  | 2 => [115, 116, 111, 112]
  | 3 => [114, 101, 115, 116, 97, 114, 116]
  | _ => []
def rightW : Nat → List UInt8
  | 1 => [108, 111, 111, 107]
  | 2 => [99, 104, 97, 110, 103, 101]
  | _ => []
def kindW : Nat → List UInt8
  | 1 => [113, 117, 101, 117, 101]
  | 2 => [115, 97, 109, 112, 108, 101]
  | _ => []
def regT (r : RegD) : List UInt8 := [32, 32, 109, 101, 109, 111, 114, 121, 32] ++ decF r.page ++ [32] ++ decF r.pages ++ [32] ++ rightW r.rights.toNat ++ [59, 10]
def partT (x : PartD) : List UInt8 := [112, 97, 114, 116, 105, 116, 105, 111, 110, 32] ++ x.name.data.toList ++ [32, 123, 10, 32, 32, 112, 101, 114, 105, 111, 100, 32] ++ decF x.period ++ [59, 10, 32, 32, 100, 117, 114, 97, 116, 105, 111, 110, 32] ++ decF x.duration ++ [59, 10, 32, 32, 102, 97, 117, 108, 116, 32] ++ actW x.action.toNat ++ [59, 10] ++ x.regs.flatMap regT ++ [125, 10]
def nameAt (ps : List PartD) (i : Int) : List UInt8 := (ps[i.toNat]?.map fun p => p.name.data.toList).getD []
def chanT (ps : List PartD) (c : ChanD) : List UInt8 := [99, 104, 97, 110, 110, 101, 108, 32] ++ c.name.data.toList ++ [32] ++ nameAt ps c.source ++ [32, 45, 62, 32] ++ nameAt ps c.target ++ [32] ++ kindW c.kind.toNat ++ [32] ++ decF c.size ++ [32] ++ decF c.depth ++ [59, 10]
def headT (f : Int) : List UInt8 := [109, 111, 100, 117, 108, 101, 32] ++ decF f ++ [59, 10]
def printL (M : ManD) : List UInt8 := headT M.frame ++ M.parts.flatMap partT ++ M.chans.flatMap (chanT M.parts)

theorem ba_data (l : List UInt8) : (ba l).data.toList = l := by simp [ba]
theorem flat_step {α : Type} (l : List α) (g : α → List UInt8) (k : Nat) (hk : k < l.length) : (l.take (k + 1)).flatMap g = (l.take k).flatMap g ++ g l[k] := by
  rw [take_snocD l k hk, List.flatMap_append]; simp
end Go.Proofs.YteioennfpkoagabGreatDoor.C
namespace Go.Proofs.YteioennfpkoagabGreatDoor.C
open Go.RowKit
attribute [local go_sem ↓] Go.wp_at_zero Go.wp_at_succ

set_option maxRecDepth 100000 in
set_option maxHeartbeats 4000000 in
theorem manCheck_any (f : Int) (ps : List PartD) (cs : List ChanD) (pv cv : Value) (w : World) (hp : PartsV w pv ps) (hpc : PartsC w pv ps.length) (hc : ChansV w cv cs) (hcc : capV cv) (hl : ps.length ≤ 4611686018427387903) (hrl : ∀ k (h : k < ps.length), ps[k].regs.length ≤ 4611686018427387903) (hcl : cs.length ≤ 4611686018427387903) :
    Calls Tryz.prog 16 #[.agg #[.int .i64 f, pv, cv]] w fun e w' => e = .returned (.int .i64 (checkF ⟨f, ps, cs⟩)) ∧ Below w.heap.size w w' := by
  have HP : Hid (PartsV w pv ps) := hp
  have HPC : Hid (PartsC w pv ps.length) := hpc
  have HCV : Hid (ChansV w cv cs) := hc
  have HCC : Hid (capV cv) := hcc
  have HRL : Hid _ := hrl
  clear hpc hcc hrl
  obtain ⟨va, cap, rfl, hx⟩ := hp
  clear hx
  obtain ⟨ca, ck, rfl, hx⟩ := hc
  clear hx
  have b0 : Below w.heap.size w (w.alloc (.cells #[.int .i64 f, .slice va ps.length cap, .slice ca cs.length ck] 31)) := (Below.refl _ w).alloc (Nat.le_refl _) _
  have h0 := heap_new w (.cells #[.int .i64 f, .slice va ps.length cap, .slice ca cs.length ck] 31)
  have HE : Hid (checkF ⟨f, ps, cs⟩ = checkF ⟨f, ps, cs⟩) := rfl
  conv at HE => arg 1; rhs; unfold checkF
  go_enter Tryz.func16, Tryz.ntmps16
  go_wp2_with fail
  generalize w.alloc (.cells #[.int .i64 f, .slice va ps.length cap, .slice ca cs.length ck] 31) = W0 at *
  refine (within_any _ _ _ _).mono ?_
  rintro e w1 ⟨rfl, rfl⟩
  cases hA : (decide (1 ≤ f) && decide (f ≤ 240))
  · have HX : Hid (checkF ⟨f, ps, cs⟩ = 5) := by
      rw [Bool.and_eq_false_iff] at hA
      simp only [decide_eq_false_iff_not] at hA
      show _ = _
      rw [HE.out, if_pos (by omega)]
    clear hA
    go_wp2_with fail
    go_ret
    exact ⟨by rw [HX.out]; rfl, b0⟩
  have hf : 1 ≤ f ∧ f ≤ 240 := by simp only [Bool.and_eq_true, decide_eq_true_eq] at hA; exact hA
  clear hA
  have y0 : w1.cell? ⟨w.heap.size, 0, none⟩ = some (.int .i64 f) := by rw [cell_of_blk h0]; rfl
  have y1 : w1.cell? ⟨w.heap.size, 1, none⟩ = some (.slice va ps.length cap) := by rw [cell_of_blk h0]; rfl
  have y2 : w1.cell? ⟨w.heap.size, 2, none⟩ = some (.slice ca cs.length ck) := by rw [cell_of_blk h0]; rfl
  go_wp2_with fail
  refine (tooMany_any f ps cs _ _ w1 (PartsV.below HP.out b0) ⟨_, _, rfl⟩ hl).mono ?_
  rintro e w2 ⟨rfl, hb⟩
  have h2 := (hb.block _ (lt_of_blk h0)).trans h0
  have b2 := b0.trans (hb.mono b0.size)
  clear y0 y1 y2 h0 hb b0
  cases hM : manyB ⟨f, ps, cs⟩
  · have HM : Hid _ := hM
    clear hM
    have HW : Hid (∀ k (hk : k < ps.length), ps[k].regs.length ≤ 4) := by
      have h := HM.out
      have hn : ¬ (ps.length < 1 ∨ 8 < ps.length ∨ 8 < cs.length) := fun hh => by rw [many_true (M := ⟨f, ps, cs⟩) hh] at h; cases h
      rw [many_wide (M := ⟨f, ps, cs⟩) hn] at h
      exact fun k hk => wide_len h k hk
    have hps8 : ps.length ≤ 8 := by
      rcases Nat.lt_or_ge 8 ps.length with h | h
      · have := many_true (M := ⟨f, ps, cs⟩) (.inr (.inl h)); rw [HM.out] at this; cases this
      · exact h
    have y0 : w2.cell? ⟨w.heap.size, 0, none⟩ = some (.int .i64 f) := by rw [cell_of_blk h2]; rfl
    have y1 : w2.cell? ⟨w.heap.size, 1, none⟩ = some (.slice va ps.length cap) := by rw [cell_of_blk h2]; rfl
    have y2 : w2.cell? ⟨w.heap.size, 2, none⟩ = some (.slice ca cs.length ck) := by rw [cell_of_blk h2]; rfl
    go_wp2_with fail
    refine (checkPartitions_any f ps cs _ _ w2 (PartsV.below HP.out b2) (PartsC.below HP.out HPC.out b2) ⟨_, _, _, rfl⟩ hf hl HRL.out).mono ?_
    rintro e w3 ⟨rfl, hb⟩
    have h3 := (hb.block _ (lt_of_blk h2)).trans h2
    have b3 := b2.trans (hb.mono b2.size)
    clear y0 y1 y2 h2 hb b2
    by_cases hz : firstNZ (partAt ⟨f, ps, cs⟩) ps.length = 0
    · rw [hz]
      have HZ : Hid _ := hz
      clear hz
      have y0 : w3.cell? ⟨w.heap.size, 0, none⟩ = some (.int .i64 f) := by rw [cell_of_blk h3]; rfl
      have y1 : w3.cell? ⟨w.heap.size, 1, none⟩ = some (.slice va ps.length cap) := by rw [cell_of_blk h3]; rfl
      have y2 : w3.cell? ⟨w.heap.size, 2, none⟩ = some (.slice ca cs.length ck) := by rw [cell_of_blk h3]; rfl
      go_wp2_with fail
      refine (checkChannels_any f ps cs _ _ w3 ⟨_, _, rfl⟩ (ChansV.below HCV.out b3) HCC.out hl hcl).mono ?_
      rintro e w4 ⟨rfl, hb⟩
      have h4 := (hb.block _ (lt_of_blk h3)).trans h3
      have b4 := b3.trans (hb.mono b3.size)
      clear y0 y1 y2 h3 hb b3
      have HAT : Hid (∀ k (hk : k < ps.length), partErr f (ps.take k) ps[k] = 0) := fun k hk => by
        have := firstNZ_all HZ.out hk
        unfold partAt at this
        rw [dif_pos hk] at this; exact this
      by_cases hy : firstNZ (chanAt ⟨f, ps, cs⟩) cs.length = 0
      · rw [hy]
        have HY : Hid _ := hy
        clear hy
        have HX : Hid (checkF ⟨f, ps, cs⟩ = if f < ticksF f ps then 16 else if 64 < pagesF ps then 17 else 0) := by
          show _ = _
          rw [HE.out, if_neg (by omega), if_neg (by rw [HM.out]; simp), if_neg (by rw [HZ.out]; simp), if_neg (by rw [HY.out]; simp)]
        have y0 : w4.cell? ⟨w.heap.size, 0, none⟩ = some (.int .i64 f) := by rw [cell_of_blk h4]; rfl
        have y1 : w4.cell? ⟨w.heap.size, 1, none⟩ = some (.slice va ps.length cap) := by rw [cell_of_blk h4]; rfl
        have y2 : w4.cell? ⟨w.heap.size, 2, none⟩ = some (.slice ca cs.length ck) := by rw [cell_of_blk h4]; rfl
        cases hT : decide (f < ticksF f ps)
        all_goals go_wp2_with fail
        all_goals (go_region_held3 (fun w' => w'.cell? ⟨w.heap.size, 0, none⟩ = some (.int .i64 f) ∧ w'.cell? ⟨w.heap.size, 1, none⟩ = some (.slice va ps.length cap) ∧ w'.cell? ⟨w.heap.size, 2, none⟩ = some (.slice ca cs.length ck) ∧ Below w.heap.size w w') (first | assumption | exact ⟨y0, y1, y2, b4.drew⟩ | exact keep3 (by assumption) hb2 (Nat.le_refl _)) ((first
          | (go_at_call 36; refine (load_any f ps _ _ _ (PartsV.below HP.out (by first | exact b4 | (exact (‹World.cell? _ ⟨w.heap.size, 0, none⟩ = _ ∧ _ ∧ _ ∧ Below w.heap.size w _›).2.2.2) | exact b4.drew)) ⟨_, _, _, rfl⟩ hf hps8 (fun k hk => have h := partErr_ok (HAT.out k hk); ⟨h.1, h.2.1, h.2.2.1, h.2.2.2.1⟩)).mono ?_; rintro e w5 ⟨rfl, hb2⟩))))
        all_goals (have hS := ‹World.cell? _ ⟨w.heap.size, 0, none⟩ = _ ∧ _ ∧ _ ∧ Below w.heap.size w _›)
        all_goals (obtain ⟨x0, x1, x2, b5⟩ := hS)
        all_goals clear y0 y1 y2 h4 b4
        · have hT' : ¬ f < ticksF f ps := by simpa using hT
          clear hT
          go_wp2_with fail
          refine (pages_any f ps _ _ _ (PartsV.below HP.out b5) ⟨_, _, _, rfl⟩ hps8 (fun k hk => ⟨HW.out k hk, (partErr_ok (HAT.out k hk)).2.2.2.2.2.2⟩)).mono ?_
          rintro e w6 ⟨rfl, hb6⟩
          have b6 := b5.trans (hb6.mono b5.size)
          cases hQ : decide (64 < pagesF ps)
          · go_wp2_with fail
            go_ret
            exact ⟨by rw [HX.out, if_neg (by omega), if_neg (by simpa using hQ)]; rfl, b6⟩
          · go_wp2_with fail
            go_ret
            exact ⟨by rw [HX.out, if_neg (by omega), if_pos (by simpa using hQ)]; rfl, b6⟩
        · have hT' : f < ticksF f ps := by simpa using hT
          go_wp2_with fail
          go_ret
          exact ⟨by rw [HX.out, if_pos hT']; rfl, b5⟩
      · have hyy : (firstNZ (chanAt ⟨f, ps, cs⟩) cs.length != 0) = true := by simp [hy]
        have HX : Hid (checkF ⟨f, ps, cs⟩ = firstNZ (chanAt ⟨f, ps, cs⟩) cs.length) := by
          show _ = _
          rw [HE.out, if_neg (by omega), if_neg (by rw [HM.out]; simp), if_neg (by rw [HZ.out]; simp), if_pos hy]
        go_wp2_with fail
        go_ret
        exact ⟨by rw [HX.out]; rfl, b4⟩
    · have hzz : (firstNZ (partAt ⟨f, ps, cs⟩) ps.length != 0) = true := by simp [hz]
      have HX : Hid (checkF ⟨f, ps, cs⟩ = firstNZ (partAt ⟨f, ps, cs⟩) ps.length) := by
        show _ = _
        rw [HE.out, if_neg (by omega), if_neg (by rw [HM.out]; simp), if_pos hz]
      go_wp2_with fail
      go_ret
      exact ⟨by rw [HX.out]; rfl, b3⟩
  · have HX : Hid (checkF ⟨f, ps, cs⟩ = 6) := by show _ = _; rw [HE.out, if_neg (by omega), if_pos hM]
    clear hM
    go_wp2_with fail
    go_ret
    exact ⟨by rw [HX.out]; rfl, b2⟩
end Go.Proofs.YteioennfpkoagabGreatDoor.C
namespace Go.Proofs.YteioennfpkoagabGreatDoor.C
open Go.RowKit
attribute [local go_sem ↓] Go.wp_at_zero Go.wp_at_succ

theorem cat_ok {a b : ByteArray} {n m : Nat} (h1 : a.size ≤ n) (h2 : b.size ≤ m) (h : n + m ≤ 9223372036854775807) : ¬ 9223372036854775807 < a.size + b.size := by omega
theorem cat_run (a b : ByteArray) (h : ¬ 9223372036854775807 < a.size + b.size) (w : World) : (binOp .add 9 (.string a) (.string b)).run Tryz.prog w = .ok (.string (a ++ b)) w := by simp [go_sem, h]
theorem cat_le {a b : ByteArray} {n m : Nat} (h1 : a.size ≤ n) (h2 : b.size ≤ m) : (a ++ b).size ≤ n + m := by
  rw [ByteArray.size_append]; omega
theorem dec_sz (n : Int) : (ba (decF n)).size ≤ 3 := by rw [ba_size]; exact decF_len n
theorem actW_len (a : Nat) : (ba (actW a)).size ≤ 7 := by rw [ba_size]; unfold actW; split <;> simp
theorem rightW_len (a : Nat) : (ba (rightW a)).size ≤ 7 := by rw [ba_size]; unfold rightW; split <;> simp
theorem kindW_len (a : Nat) : (ba (kindW a)).size ≤ 7 := by rw [ba_size]; unfold kindW; split <;> simp
theorem act_cell {w : World} {g : Nat} (h : w.heap[g]? = some (.cells #[.string { data := #[] }, .string { data := #[105, 103, 110, 111, 114, 101] }, .string { data := #[115, 116, 111, 112] }, .string { data := #[114, 101, 115, 116, 97, 114, 116] }] 9 (0, 0))) (a : Nat) (ha : a ≤ 3) : w.cell? ⟨g, a, none⟩ = some (.string (ba (actW a))) := by
  rw [cell_of_blk h]
  rcases (show a = 0 ∨ a = 1 ∨ a = 2 ∨ a = 3 by omega) with rfl | rfl | rfl | rfl <;> rfl
theorem right_cell {w : World} {g : Nat} (h : w.heap[g]? = some (.cells #[.string { data := #[] }, .string { data := #[108, 111, 111, 107] }, .string { data := #[99, 104, 97, 110, 103, 101] }] 9 (0, 0))) (a : Nat) (ha : a ≤ 2) : w.cell? ⟨g, a, none⟩ = some (.string (ba (rightW a))) := by
  rw [cell_of_blk h]
  rcases (show a = 0 ∨ a = 1 ∨ a = 2 by omega) with rfl | rfl | rfl <;> rfl
theorem kind_cell {w : World} {g : Nat} (h : w.heap[g]? = some (.cells #[.string { data := #[] }, .string { data := #[113, 117, 101, 117, 101] }, .string { data := #[115, 97, 109, 112, 108, 101] }] 9 (0, 0))) (a : Nat) (ha : a ≤ 2) : w.cell? ⟨g, a, none⟩ = some (.string (ba (kindW a))) := by
  rw [cell_of_blk h]
  rcases (show a = 0 ∨ a = 1 ∨ a = 2 by omega) with rfl | rfl | rfl <;> rfl
theorem keep5 {B : Nat} {W w1 w2 : World} {a0 a1 a2 a3 a4 : Addr} {v0 v1 v2 v3 v4 : Value} (h : w1.cell? a0 = some v0 ∧ w1.cell? a1 = some v1 ∧ w1.cell? a2 = some v2 ∧ w1.cell? a3 = some v3 ∧ w1.cell? a4 = some v4 ∧ Below B W w1) (hb : Below w1.heap.size w1 w2) (hB : B ≤ W.heap.size) : w2.cell? a0 = some v0 ∧ w2.cell? a1 = some v1 ∧ w2.cell? a2 = some v2 ∧ w2.cell? a3 = some v3 ∧ w2.cell? a4 = some v4 ∧ Below B W w2 := by
  obtain ⟨h0, h1, h2, h3, h4, hx⟩ := h
  exact ⟨keepC h0 hb, keepC h1 hb, keepC h2 hb, keepC h3 hb, keepC h4 hb, hx.trans (hb.mono (Nat.le_trans hB hx.size))⟩
theorem keep4 {B : Nat} {W w1 w2 : World} {a0 a1 a2 a3 : Addr} {v0 v1 v2 v3 : Value} (h : w1.cell? a0 = some v0 ∧ w1.cell? a1 = some v1 ∧ w1.cell? a2 = some v2 ∧ w1.cell? a3 = some v3 ∧ Below B W w1) (hb : Below w1.heap.size w1 w2) (hB : B ≤ W.heap.size) : w2.cell? a0 = some v0 ∧ w2.cell? a1 = some v1 ∧ w2.cell? a2 = some v2 ∧ w2.cell? a3 = some v3 ∧ Below B W w2 := by
  obtain ⟨h0, h1, h2, h3, hx⟩ := h
  exact ⟨keepC h0 hb, keepC h1 hb, keepC h2 hb, keepC h3 hb, hx.trans (hb.mono (Nat.le_trans hB hx.size))⟩
theorem keep10 {B : Nat} {W w1 w2 : World} {a0 a1 a2 a3 a4 a5 a6 a7 a8 a9 : Addr} {v0 v1 v2 v3 v4 v5 v6 v7 v8 v9 : Value} (h : w1.cell? a0 = some v0 ∧ w1.cell? a1 = some v1 ∧ w1.cell? a2 = some v2 ∧ w1.cell? a3 = some v3 ∧ w1.cell? a4 = some v4 ∧ w1.cell? a5 = some v5 ∧ w1.cell? a6 = some v6 ∧ w1.cell? a7 = some v7 ∧ w1.cell? a8 = some v8 ∧ w1.cell? a9 = some v9 ∧ Below B W w1) (hb : Below w1.heap.size w1 w2) (hB : B ≤ W.heap.size) : w2.cell? a0 = some v0 ∧ w2.cell? a1 = some v1 ∧ w2.cell? a2 = some v2 ∧ w2.cell? a3 = some v3 ∧ w2.cell? a4 = some v4 ∧ w2.cell? a5 = some v5 ∧ w2.cell? a6 = some v6 ∧ w2.cell? a7 = some v7 ∧ w2.cell? a8 = some v8 ∧ w2.cell? a9 = some v9 ∧ Below B W w2 := by
  obtain ⟨h0, h1, h2, h3, h4, h5, h6, h7, h8, h9, hx⟩ := h
  exact ⟨keepC h0 hb, keepC h1 hb, keepC h2 hb, keepC h3 hb, keepC h4 hb, keepC h5 hb, keepC h6 hb, keepC h7 hb, keepC h8 hb, keepC h9 hb, hx.trans (hb.mono (Nat.le_trans hB hx.size))⟩
theorem ba_of {s : ByteArray} {l : List UInt8} (h : s.data.toList = l) : s = ba l := by
  subst h; cases s; simp [ba]
theorem keepW {w V : World} {a : Addr} {v : Value} (h : w.cell? a = some v) (hb : Below w.heap.size w V) : V.cell? a = some v := keepC h hb
/- what stands while Print goes on -/
def PrB (w : World) (f : Int) (pa ca : Option Addr) (n pcap m ccap ab : Nat) (V : World) : Prop :=
  V.heap[w.heap.size]? = some (.cells #[.int .i64 f, .slice pa n pcap, .slice ca m ccap] 31 (0, 0)) ∧ V.heap[ab]? = some (.cells #[.string { data := #[] }, .string { data := #[105, 103, 110, 111, 114, 101] }, .string { data := #[115, 116, 111, 112] }, .string { data := #[114, 101, 115, 116, 97, 114, 116] }] 9 (0, 0)) ∧ V.heap[ab + 1]? = some (.cells #[.string { data := #[] }, .string { data := #[108, 111, 111, 107] }, .string { data := #[99, 104, 97, 110, 103, 101] }] 9 (0, 0)) ∧ V.heap[ab + 1 + 1]? = some (.cells #[.string { data := #[] }, .string { data := #[113, 117, 101, 117, 101] }, .string { data := #[115, 97, 109, 112, 108, 101] }] 9 (0, 0)) ∧ Below w.heap.size w V
theorem PrB.below {w V V' : World} {f : Int} {pa ca : Option Addr} {n pcap m ccap ab : Nat} (h : PrB w f pa ca n pcap m ccap ab V) (hb : Below V.heap.size V V') : PrB w f pa ca n pcap m ccap ab V' := by
  obtain ⟨h1, h2, h3, h4, h5⟩ := h
  exact ⟨(hb.block _ (lt_of_blk h1)).trans h1, (hb.block _ (lt_of_blk h2)).trans h2, (hb.block _ (lt_of_blk h3)).trans h3, (hb.block _ (lt_of_blk h4)).trans h4, h5.trans (hb.mono h5.size)⟩
end Go.Proofs.YteioennfpkoagabGreatDoor.C
