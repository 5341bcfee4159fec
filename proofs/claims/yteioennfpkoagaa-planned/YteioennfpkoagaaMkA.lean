import Derived.Test.YteioennfpkoagaaKpA
import Derived.Test.YteioennfpkoagaaCdfE
import Derived.Test.YteioennfpkoagaaCdfF
namespace Go.Proofs.Yteioennfpkoagaa.C
open Go.RowKit

/- what holds of a manifest while it is made -/
theorem mk_data (l : List UInt8) : (ba l).data.toList = l := by simp [ba]
theorem mk_of {s : ByteArray} {l : List UInt8} (h : s.data.toList = l) : s = ba l := by
  subst h
  cases s
  simp [ba]
theorem nm_all : ((List.range 26).all fun j => nameF (nmL j)) = true := by decide
theorem nm_ok {j : Nat} (h : j < 26) : nameF (nmL j) = true := List.all_eq_true.1 nm_all j (List.mem_range.2 h)
theorem nm_inj_all : ((List.range 26).all fun i => (List.range 26).all fun j => decide (nmL i = nmL j → i = j)) = true := by decide
theorem nm_inj {i j : Nat} (hi : i < 26) (hj : j < 26) (h : nmL i = nmL j) : i = j := by
  have h1 := List.all_eq_true.1 nm_inj_all i (List.mem_range.2 hi)
  have h2 := List.all_eq_true.1 h1 j (List.mem_range.2 hj)
  simp only [decide_eq_true_eq] at h2
  exact h2 h
theorem data_inj {a b : ByteArray} (h : a.data.toList = b.data.toList) : a = b := by
  have h1 := mk_of h
  have h2 := mk_of (s := b) rfl
  rw [h1, ← h2]
structure PartM (F : Int) (x : PartD) : Prop where
  per : 1 ≤ x.period ∧ x.period ≤ F ∧ F % x.period = 0
  dur : 1 ≤ x.duration ∧ x.duration ≤ x.period
  act : 1 ≤ x.action ∧ x.action ≤ 3
  reg : RegsOK x.regs
  few : x.regs.length ≤ 2 ∧ regPages x.regs ≤ 4 ∧ ∀ r, x.regs.head? = some r → r.rights = 2
structure LI (F : Int) (i : Nat) (left : Int) (acc : List PartD) : Prop where
  all : ∀ x ∈ acc, PartM F x
  nam : ∀ x ∈ acc, ∃ j, j < i ∧ x.name = ba (nmL j)
  dif : acc.Pairwise (fun x y => x.name ≠ y.name)
  tic : left = F - ticksF F acc
  pos : 0 ≤ left
  len : acc.length ≤ i
theorem LI.skip {F left : Int} {i : Nat} {acc : List PartD} (h : LI F i left acc) : LI F (i + 1) left acc :=
  ⟨h.all, fun x hx => by obtain ⟨j, hj, e⟩ := h.nam x hx; exact ⟨j, by omega, e⟩, h.dif, h.tic, h.pos, by have := h.len; omega⟩
theorem LI.add {F left : Int} {i : Nat} {acc : List PartD} (h : LI F i left acc) (hi : i < 26) {x : PartD} (hn : x.name = ba (nmL i)) (hx : PartM F x) (hl : F / x.period * x.duration ≤ left) : LI F (i + 1) (left - F / x.period * x.duration) (acc ++ [x]) := by
  refine ⟨fun y hy => ?_, fun y hy => ?_, ?_, ?_, by omega, by have := h.len; simp; omega⟩
  · rcases List.mem_append.1 hy with hy | hy
    · exact h.all y hy
    · rw [List.mem_singleton.1 hy]; exact hx
  · rcases List.mem_append.1 hy with hy | hy
    · obtain ⟨j, hj, e⟩ := h.nam y hy; exact ⟨j, by omega, e⟩
    · rw [List.mem_singleton.1 hy]; exact ⟨i, by omega, hn⟩
  · rw [List.pairwise_append]
    refine ⟨h.dif, by simp, fun a ha b hb => ?_⟩
    rw [List.mem_singleton.1 hb]
    obtain ⟨j, hj, e⟩ := h.nam a ha
    rw [e, hn]
    intro e2
    have e3 : nmL j = nmL i := by rw [← mk_data (nmL j), e2, mk_data]
    have := nm_inj (by omega) hi e3
    omega
  · have := h.tic
    unfold ticksF at *
    rw [List.map_append, List.sum_append, this]
    simp
    omega
structure ChanM (n : Nat) (F : Int) (c : ChanD) : Prop where
  src : 0 ≤ c.source ∧ c.source < n
  tgt : 0 ≤ c.target ∧ c.target < n
  two : c.source ≠ c.target
  knd : c.kind = 1 ∨ c.kind = 2
  siz : c.size = 8
  dep : 1 ≤ c.depth ∧ c.depth ≤ 4
structure CI (n : Nat) (F : Int) (cs : List ChanD) : Prop where
  all : ∀ x ∈ cs, ChanM n F x
  nam : ∀ i (h : i < cs.length), cs[i].name = ba (nmL i)
theorem CI.nil (n : Nat) (F : Int) : CI n F [] := ⟨by simp, fun i h => absurd h (by simp)⟩
theorem CI.add {n : Nat} {F : Int} {cs : List ChanD} (h : CI n F cs) {c : ChanD} (hn : c.name = ba (nmL cs.length)) (hc : ChanM n F c) : CI n F (cs ++ [c]) := by
  refine ⟨fun y hy => ?_, fun i hi => ?_⟩
  · rcases List.mem_append.1 hy with hy | hy
    · exact h.all y hy
    · rw [List.mem_singleton.1 hy]; exact hc
  · by_cases e : i < cs.length
    · rw [List.getElem_append_left e]; exact h.nam i e
    · have : i = cs.length := by simp at hi; omega
      subst this
      simp [hn]
theorem first_zero {f : Nat → Int} {n : Nat} (h : ∀ i, i < n → f i = 0) : firstNZ f n = 0 := by
  induction n with
  | zero => rfl
  | succ n ih => simp only [firstNZ]; rw [if_pos (ih fun i hi => h i (by omega)), h n (by omega)]
theorem made_chk {F left : Int} {i : Nat} {ps : List PartD} {cs : List ChanD} (hF : 24 ≤ F ∧ F ≤ 240) (h : LI F i left ps) (hi : i ≤ 6) (hne : ps ≠ []) (hc : CI ps.length F cs) (hcl : cs.length ≤ 7) : checkF ⟨F, ps, cs⟩ = 0 := by
  have hnm : ∀ x ∈ ps, nameF x.name.data.toList = true := fun x hx => by
    obtain ⟨j, hj, e⟩ := h.nam x hx
    rw [e, mk_data]; exact nm_ok (by omega)
  have hlen := h.len
  have hpl : 1 ≤ ps.length := by have := List.length_pos_iff.2 hne; omega
  have hfew : ∀ x ∈ ps, x.regs.length ≤ 2 := fun x hx => (h.all x hx).few.1
  unfold checkF
  simp only []
  have hmany : manyB ⟨F, ps, cs⟩ = false := by
    unfold manyB wideB
    simp only [Bool.or_eq_false_iff, decide_eq_false_iff_not, List.any_eq_false]
    refine ⟨⟨⟨by omega, by omega⟩, by omega⟩, fun x hx => ?_⟩
    have := hfew x hx
    simp; omega
  have hparts : firstNZ (partAt ⟨F, ps, cs⟩) ps.length = 0 := by
    apply first_zero
    intro k hk
    unfold partAt
    simp only []
    rw [dif_pos hk]
    have hm := h.all _ (List.getElem_mem hk)
    have h1 := hm.per; have h2 := hm.dur; have h3 := hm.act
    unfold partErr
    have hfr : freshP (ps.take k) ps[k] = true := by
      unfold freshP
      rw [List.all_eq_true]
      intro p hp
      obtain ⟨a, ha, e⟩ := List.getElem_of_mem hp
      have ha' : a < k := by simp at ha; omega
      rw [List.getElem_take] at e
      have := List.pairwise_iff_getElem.1 h.dif a k (by omega) hk ha'
      rw [e] at this
      simp only [bne_iff_ne, ne_eq]
      intro e2
      apply this
      rw [ByteArray.toList_eq, ByteArray.toList_eq] at e2
      exact data_inj e2
    rw [if_neg (by rw [hnm _ (List.getElem_mem hk), hfr]; simp), if_neg (by omega), if_neg (by omega), if_neg (by omega), if_neg (by rw [(regsF_iff _).2 hm.reg]; simp)]
  have hchans : firstNZ (chanAt ⟨F, ps, cs⟩) cs.length = 0 := by
    apply first_zero
    intro k hk
    unfold chanAt
    simp only []
    rw [dif_pos hk]
    have hm := hc.all _ (List.getElem_mem hk)
    have h1 := hm.src; have h2 := hm.tgt; have h3 := hm.two; have h4 := hm.knd; have h5 := hm.siz; have h6 := hm.dep
    have hnk := hc.nam k hk
    unfold chanErr
    have hfr : freshC (cs.take k) cs[k] = true := by
      unfold freshC
      rw [List.all_eq_true]
      intro p hp
      obtain ⟨a, ha, e⟩ := List.getElem_of_mem hp
      have ha' : a < k := by simp at ha; omega
      rw [List.getElem_take] at e
      have hna := hc.nam a (by omega)
      rw [e] at hna
      rw [hna, hnk]
      simp only [bne_iff_ne, ne_eq]
      intro e2
      have e3 : nmL a = nmL k := by rw [ByteArray.toList_eq, ByteArray.toList_eq, mk_data, mk_data] at e2; exact e2
      have := nm_inj (by omega) (by omega) e3
      omega
    have hnf : nameF cs[k].name.data.toList = true := by rw [hnk, mk_data]; exact nm_ok (by omega)
    rw [if_neg (by rw [hnf, hfr]; simp), if_neg (by omega), if_neg (by omega), if_neg (by omega), if_neg (by split <;> omega)]
  have hpages : pagesF ps ≤ 64 := by
    have key : ∀ qs : List PartD, (∀ x ∈ qs, regPages x.regs ≤ 4) → pagesF qs ≤ 4 * qs.length := by
      intro qs
      induction qs with
      | nil => intro _; simp [pagesF]
      | cons x qs ih =>
        intro hq
        have h1 := hq x (by simp)
        have h2 := ih (fun y hy => hq y (by simp [hy]))
        unfold pagesF at *
        simp only [List.map_cons, List.sum_cons, List.length_cons]
        omega
    have := key ps (fun x hx => (h.all x hx).few.2.1)
    omega
  have htic := h.tic
  have hpos := h.pos
  rw [if_neg (by omega), if_neg (by rw [hmany]; simp), if_neg (by rw [hparts]; simp), if_neg (by rw [hchans]; simp), if_neg (by omega), if_neg (by omega)]
end Go.Proofs.Yteioennfpkoagaa.C
