import Derived.Test.YteioennfpkoagaaPlnI
namespace Go.Proofs.Yteioennfpkoagaa.C
open Go.RowKit

/- a heap by the end and the place -/
structure TurnD where
  place : Int
  fin : Int
  left : Int
def zT : TurnD := ⟨0, 0, 0⟩
def atQ (q : List TurnD) (i : Nat) : TurnD := q.getD i zT
def lessB (a b : TurnD) : Bool := if a.fin = b.fin then decide (a.place < b.place) else decide (a.fin < b.fin)
theorem lessB_iff (a b : TurnD) : lessB a b = true ↔ a.fin < b.fin ∨ a.fin = b.fin ∧ a.place < b.place := by
  unfold lessB
  split
  · rename_i h; simp [h]
  · rename_i h; simp [h]
theorem lessB_not (a b : TurnD) : lessB a b = false ↔ b.fin < a.fin ∨ a.fin = b.fin ∧ b.place ≤ a.place := by
  unfold lessB
  split
  · rename_i h; simp [h]
  · rename_i h; simp; omega
def swapQ (q : List TurnD) (i j : Nat) : List TurnD := (q.set i (atQ q j)).set j (atQ q i)
theorem swapQ_len (q : List TurnD) (i j : Nat) : (swapQ q i j).length = q.length := by simp [swapQ]
theorem atQ_eq {q : List TurnD} {i : Nat} (h : i < q.length) : atQ q i = q[i] := by simp [atQ, List.getD, List.getElem?_eq_getElem h]
theorem swapQ_perm {q : List TurnD} {i j : Nat} (hi : i < q.length) (hj : j < q.length) : (swapQ q i j).Perm q := by
  unfold swapQ
  rw [atQ_eq hi, atQ_eq hj]
  exact List.set_set_perm hi hj
theorem atQ_swap {q : List TurnD} {i j : Nat} (hi : i < q.length) (hj : j < q.length) (k : Nat) : atQ (swapQ q i j) k = if k = j then atQ q i else if k = i then atQ q j else atQ q k := by
  unfold swapQ
  conv => lhs; unfold atQ
  simp only [List.getD, List.getElem?_set, List.length_set]
  by_cases h1 : k = j
  · subst h1; simp [hj]; rfl
  · rw [if_neg (Ne.symm h1), if_neg h1]
    by_cases h2 : k = i
    · subst h2; simp [hi]; rfl
    · rw [if_neg (Ne.symm h2), if_neg h2]; rfl
def HeapQ (q : List TurnD) (n : Nat) : Prop := ∀ k, 0 < k → k < n → lessB (atQ q k) (atQ q ((k - 1) / 2)) = false
structure UpI (q : List TurnD) (j : Nat) : Prop where
  lt : j < q.length
  ord : ∀ k, 0 < k → k < q.length → k ≠ j → lessB (atQ q k) (atQ q ((k - 1) / 2)) = false
  jmp : 0 < j → ∀ k, 0 < k → k < q.length → (k - 1) / 2 = j → lessB (atQ q k) (atQ q ((j - 1) / 2)) = false
theorem UpI.stop {q : List TurnD} {j : Nat} (h : UpI q j) (hs : j = 0 ∨ lessB (atQ q j) (atQ q ((j - 1) / 2)) = false) : HeapQ q q.length := by
  intro k h0 hk
  by_cases e : k = j
  · subst e
    rcases hs with hs | hs
    · omega
    · exact hs
  · exact h.ord k h0 hk e
theorem UpI.step {q : List TurnD} {j : Nat} (h : UpI q j) (hj : 0 < j) (hs : lessB (atQ q j) (atQ q ((j - 1) / 2)) = true) : UpI (swapQ q ((j - 1) / 2) j) ((j - 1) / 2) := by
  have hlt := h.lt
  have hi : (j - 1) / 2 < q.length := by omega
  have hij : (j - 1) / 2 < j := by omega
  rw [lessB_iff] at hs
  refine ⟨by rw [swapQ_len]; exact hi, fun k h0 hk hne => ?_, fun hp k h0 hk hkp => ?_⟩
  · rw [swapQ_len] at hk
    rw [atQ_swap hi hlt, atQ_swap hi hlt]
    by_cases e1 : k = j
    · subst e1
      rw [if_pos rfl, if_neg (by omega), if_pos rfl, lessB_not]; omega
    · have ho := h.ord k h0 hk e1
      rw [if_neg e1, if_neg hne]
      by_cases e2 : (k - 1) / 2 = j
      · rw [if_pos e2]; exact h.jmp hj k h0 hk e2
      · rw [if_neg e2]
        by_cases e3 : (k - 1) / 2 = (j - 1) / 2
        · rw [if_pos e3]; rw [e3] at ho; rw [lessB_not] at ho ⊢; omega
        · rw [if_neg e3]; exact ho
  · rw [swapQ_len] at hk
    have hoi := h.ord ((j - 1) / 2) hp hi (by omega)
    rw [atQ_swap hi hlt, atQ_swap hi hlt]
    have e4 : ((j - 1) / 2 - 1) / 2 ≠ j := by omega
    have e5 : ((j - 1) / 2 - 1) / 2 ≠ (j - 1) / 2 := by omega
    rw [if_neg e4, if_neg e5]
    by_cases e1 : k = j
    · rw [if_pos e1]; exact hoi
    · have ho := h.ord k h0 hk e1
      rw [if_neg e1, if_neg (by omega)]
      rw [hkp] at ho
      rw [lessB_not] at ho hoi ⊢; omega
theorem UpI.push {q : List TurnD} (h : HeapQ q q.length) (x : TurnD) : UpI (q ++ [x]) q.length := by
  have hat : ∀ k, k < q.length → atQ (q ++ [x]) k = atQ q k := fun k hk => by simp [atQ, List.getD, List.getElem?_append_left hk]
  refine ⟨by simp, fun k h0 hk hne => ?_, fun hp k h0 hk hkp => ?_⟩
  · simp at hk
    rw [hat _ (by omega), hat _ (by omega)]
    exact h k h0 (by omega)
  · simp at hk; omega
structure DnI (q : List TurnD) (n i : Nat) : Prop where
  le : n ≤ q.length
  ord : ∀ k, 0 < k → k < n → (k - 1) / 2 ≠ i → lessB (atQ q k) (atQ q ((k - 1) / 2)) = false
  jmp : 0 < i → i < n ∧ ∀ k, 0 < k → k < n → (k - 1) / 2 = i → lessB (atQ q k) (atQ q ((i - 1) / 2)) = false
theorem DnI.stop0 {q : List TurnD} {n i : Nat} (h : DnI q n i) (hs : n ≤ 2 * i + 1) : HeapQ q n :=
  fun k h0 hk => h.ord k h0 hk (by omega)
/- the lesser child -/
def kidQ (q : List TurnD) (n i : Nat) : Nat := if 2 * i + 2 < n ∧ lessB (atQ q (2 * i + 2)) (atQ q (2 * i + 1)) = true then 2 * i + 2 else 2 * i + 1
theorem kidQ_le {q : List TurnD} {n i : Nat} (h : 2 * i + 1 < n) : (kidQ q n i = 2 * i + 1 ∨ kidQ q n i = 2 * i + 2) ∧ kidQ q n i < n ∧ ∀ k, 0 < k → k < n → (k - 1) / 2 = i → lessB (atQ q k) (atQ q (kidQ q n i)) = false := by
  unfold kidQ
  split
  · rename_i hc
    refine ⟨.inr rfl, hc.1, fun k h0 hk he => ?_⟩
    rcases (show k = 2 * i + 1 ∨ k = 2 * i + 2 by omega) with rfl | rfl
    · have := hc.2
      rw [lessB_iff] at this
      rw [lessB_not]; omega
    · rw [lessB_not]; omega
  · rename_i hc
    refine ⟨.inl rfl, h, fun k h0 hk he => ?_⟩
    rcases (show k = 2 * i + 1 ∨ k = 2 * i + 2 by omega) with rfl | rfl
    · rw [lessB_not]; omega
    · cases hb : lessB (atQ q (2 * i + 2)) (atQ q (2 * i + 1))
      · rfl
      · exact absurd ⟨hk, hb⟩ hc
theorem DnI.stop {q : List TurnD} {n i : Nat} (h : DnI q n i) (hn : 2 * i + 1 < n) (hs : lessB (atQ q (kidQ q n i)) (atQ q i) = false) : HeapQ q n := by
  intro k h0 hk
  by_cases e : (k - 1) / 2 = i
  · have h1 := (kidQ_le (q := q) hn).2.2 k h0 hk e
    rw [e]
    rw [lessB_not] at h1 hs ⊢; omega
  · exact h.ord k h0 hk e
theorem DnI.step {q : List TurnD} {n i : Nat} (h : DnI q n i) (hn : 2 * i + 1 < n) (hs : lessB (atQ q (kidQ q n i)) (atQ q i) = true) : DnI (swapQ q i (kidQ q n i)) n (kidQ q n i) := by
  obtain ⟨hk0, hkn, hkl⟩ := kidQ_le (q := q) hn
  have hle := h.le
  generalize kidQ q n i = j at *
  have hi : i < q.length := by omega
  have hj : j < q.length := by omega
  rw [lessB_iff] at hs
  refine ⟨by rw [swapQ_len]; exact hle, fun k h0 hk hne => ?_, fun hp => ⟨hkn, fun k h0 hk hkp => ?_⟩⟩
  · rw [atQ_swap hi hj, atQ_swap hi hj]
    rw [if_neg hne]
    by_cases e1 : k = j
    · subst e1
      rw [if_pos rfl, if_pos (by omega), lessB_not]; omega
    · rw [if_neg e1]
      by_cases e2 : k = i
      · subst e2
        have h1 := (h.jmp h0).2 j (by omega) hkn (by omega)
        rw [if_pos rfl, if_neg (by omega)]; exact h1
      · rw [if_neg e2]
        by_cases e3 : (k - 1) / 2 = i
        · rw [if_pos e3]; exact hkl k h0 hk e3
        · rw [if_neg e3]; exact h.ord k h0 hk e3
  · have h1 := h.ord k h0 hk (by omega)
    rw [atQ_swap hi hj, atQ_swap hi hj]
    rw [if_neg (by omega), if_neg (by omega), if_neg (by omega), if_pos (by omega)]
    rw [hkp] at h1; exact h1
theorem DnI.first {q : List TurnD} {n : Nat} (h : HeapQ q (n + 1)) (hn : n + 1 = q.length) : DnI (swapQ q 0 n) n 0 := by
  refine ⟨by rw [swapQ_len]; omega, fun k h0 hk hne => ?_, fun hp => absurd hp (by omega)⟩
  rw [atQ_swap (by omega) (by omega), atQ_swap (by omega) (by omega), if_neg (by omega), if_neg (by omega), if_neg (by omega), if_neg (by omega)]
  exact h k h0 (by omega)
theorem HeapQ.least {q : List TurnD} {n : Nat} (h : HeapQ q n) (k : Nat) (hk : k < n) : lessB (atQ q k) (atQ q 0) = false := by
  induction k using Nat.strongRecOn with
  | ind k ih =>
    rcases Nat.eq_zero_or_pos k with h0 | h0
    · subst h0; rw [lessB_not]; omega
    · have h1 := h k h0 hk
      have h2 := ih ((k - 1) / 2) (by omega) (by omega)
      rw [lessB_not] at h1 h2 ⊢; omega
theorem HeapQ.take {q : List TurnD} {n : Nat} (h : HeapQ q n) (hn : n ≤ q.length) : HeapQ (q.take n) (q.take n).length := by
  intro k h0 hk
  simp at hk
  have hat : ∀ k, k < n → atQ (q.take n) k = atQ q k := fun k hk => by simp [atQ, List.getD, hk]
  rw [hat _ (by omega), hat _ (by omega)]
  exact h k h0 (by omega)

/- what the heap holds: those that have to run -/
structure QD (ps : List PartD) (t : Nat) (R : Nat → Int) (q : List TurnD) : Prop where
  nod : (q.map TurnD.place).Nodup
  mem : ∀ x, x ∈ q ↔ ∃ j, j < ps.length ∧ 0 < R j ∧ x = ⟨j, endF ps t j, R j⟩
theorem QD.perm {ps : List PartD} {t : Nat} {R : Nat → Int} {q q' : List TurnD} (h : QD ps t R q) (hp : q'.Perm q) : QD ps t R q' :=
  ⟨(hp.map TurnD.place).nodup_iff.2 h.nod, fun x => by rw [hp.mem_iff]; exact h.mem x⟩
theorem QD.nil (ps : List PartD) (t : Nat) {R : Nat → Int} (h : ∀ j, j < ps.length → R j ≤ 0) : QD ps t R [] :=
  ⟨by simp, fun x => ⟨fun hx => by simp at hx, fun ⟨j, hj, hp, _⟩ => absurd hp (by have := h j hj; omega)⟩⟩
theorem QD.add {ps : List PartD} {t : Nat} {R R' : Nat → Int} {q : List TurnD} (h : QD ps t R q) {k : Nat} (hk : k < ps.length) (h0 : R k ≤ 0) (h1 : 0 < R' k) (ho : ∀ j, j < ps.length → j ≠ k → R' j = R j) : QD ps t R' (q ++ [⟨k, endF ps t k, R' k⟩]) := by
  refine ⟨?_, fun x => ?_⟩
  · rw [List.map_append, List.nodup_append]
    refine ⟨h.nod, by simp, fun a ha b hb => ?_⟩
    simp at hb
    subst hb
    obtain ⟨y, hy, rfl⟩ := List.mem_map.1 ha
    obtain ⟨j, hj, hp, rfl⟩ := (h.mem y).1 hy
    intro e
    have e2 : (j : Int) = (k : Int) := e
    have : j = k := by omega
    subst this; omega
  · rw [List.mem_append, List.mem_singleton, h.mem]
    constructor
    · rintro (⟨j, hj, hp, rfl⟩ | rfl)
      · have hne : j ≠ k := fun e => by subst e; omega
        exact ⟨j, hj, by rw [ho j hj hne]; exact hp, by rw [ho j hj hne]⟩
      · exact ⟨k, hk, h1, rfl⟩
    · rintro ⟨j, hj, hp, rfl⟩
      by_cases e : j = k
      · subst e; exact .inr rfl
      · refine .inl ⟨j, hj, ?_, ?_⟩
        · rw [← ho j hj e]; exact hp
        · rw [ho j hj e]
theorem QD.drop {ps : List PartD} {t : Nat} {R R' : Nat → Int} {q : List TurnD} {k : Nat} (h : QD ps t R (q ++ [⟨k, endF ps t k, R k⟩])) (h1 : R' k ≤ 0) (ho : ∀ j, j < ps.length → j ≠ k → R' j = R j) : QD ps t R' q := by
  have hn := h.nod
  rw [List.map_append, List.nodup_append] at hn
  refine ⟨hn.1, fun x => ?_⟩
  constructor
  · intro hx
    obtain ⟨j, hj, hp, rfl⟩ := (h.mem x).1 (List.mem_append_left _ hx)
    have hne : j ≠ k := fun e => by
      subst e
      exact hn.2.2 (j : Int) (List.mem_map.2 ⟨_, hx, rfl⟩) (j : Int) (by simp) rfl
    exact ⟨j, hj, by rw [ho j hj hne]; exact hp, by rw [ho j hj hne]⟩
  · rintro ⟨j, hj, hp, rfl⟩
    have hne : j ≠ k := fun e => by subst e; omega
    rw [ho j hj hne] at hp ⊢
    have := (h.mem _).2 ⟨j, hj, hp, rfl⟩
    rcases List.mem_append.1 this with h2 | h2
    · exact h2
    · rw [List.mem_singleton] at h2
      have h3 : (j : Int) = (k : Int) := congrArg TurnD.place h2
      omega
theorem QD.congr {ps : List PartD} {t t' : Nat} {R R' : Nat → Int} {q : List TurnD} (h : QD ps t R q) (hr : ∀ j, j < ps.length → R' j = R j) (he : ∀ j, j < ps.length → 0 < R j → endF ps t' j = endF ps t j) : QD ps t' R' q := by
  refine ⟨h.nod, fun x => ?_⟩
  rw [h.mem]
  constructor
  · rintro ⟨j, hj, hp, rfl⟩; exact ⟨j, hj, by rw [hr j hj]; exact hp, by rw [hr j hj, he j hj hp]⟩
  · rintro ⟨j, hj, hp, rfl⟩
    rw [hr j hj] at hp
    exact ⟨j, hj, hp, by rw [hr j hj, he j hj hp]⟩
/- in the midst of begin -/
def midF (ps : List PartD) (t k j : Nat) : Int := if j < k then nowF ps t j else lefF ps t j
theorem perF_pos {F : Int} {ps : List PartD} (h : PartsT F ps) {j : Nat} (hj : j < ps.length) : 1 ≤ perF ps j := by unfold perF; rw [dif_pos hj]; exact (h.per j hj).1
theorem endF_next {F : Int} {ps : List PartD} (h : PartsT F ps) {t j : Nat} (hj : j < ps.length) (hl : 0 < lefF ps (t + 1) j) : endF ps (t + 1) j = endF ps t j := by
  have h1 : ((t + 1 : Nat) : Int) % perF ps j ≠ 0 := fun e => by have := (h.done (t + 1) j hj).2 e; omega
  have hp := perF_pos h hj
  unfold endF
  have h2 := ceil_not hp h1
  rw [show ((t + 1 : Nat) : Int) + perF ps j - 1 = (t : Int) + perF ps j * 1 by omega, Int.add_mul_ediv_left _ _ (by omega)] at h2
  rw [show ((t + 1 : Nat) : Int) / perF ps j = (t : Int) / perF ps j by omega]
theorem QD.mid0 {F : Int} {ps : List PartD} (h : PartsT F ps) {t : Nat} {q : List TurnD} (hq : QD ps t (lefF ps (t + 1)) q) : QD ps (t + 1) (midF ps (t + 1) 0) q :=
  hq.congr (fun j _ => by unfold midF; rw [if_neg (by omega)]) (fun j hj hp => endF_next h hj hp)
theorem QD.begin {F : Int} {ps : List PartD} (h : PartsT F ps) {t k : Nat} (hk : k < ps.length) {q : List TurnD} (hq : QD ps t (midF ps t k) q) (hm : (t : Int) % perF ps k = 0) : QD ps t (midF ps t (k + 1)) (q ++ [⟨k, t + perF ps k, durF ps k⟩]) := by
  have hp := perF_pos h hk
  have hd : 1 ≤ durF ps k := by unfold durF; rw [dif_pos hk]; exact h.dur k hk
  have e1 : midF ps t (k + 1) k = durF ps k := by unfold midF; rw [if_pos (by omega)]; unfold nowF; rw [if_pos hm]
  have e2 : endF ps t k = t + perF ps k := by
    unfold endF
    have := Int.mul_ediv_add_emod (t : Int) (perF ps k)
    rw [Int.mul_add]; omega
  have := QD.add (R' := midF ps t (k + 1)) hq hk (by unfold midF; rw [if_neg (by omega), (h.done t k hk).2 hm]; omega) (by omega) (fun j hj hne => by
    unfold midF
    by_cases e : j < k
    · rw [if_pos e, if_pos (by omega)]
    · rw [if_neg e, if_neg (by omega)])
  rwa [e1, e2] at this
theorem QD.pass {ps : List PartD} {t k : Nat} {q : List TurnD} (hq : QD ps t (midF ps t k) q) (hm : ¬ (t : Int) % perF ps k = 0) : QD ps t (midF ps t (k + 1)) q :=
  hq.congr (fun j hj => by
    unfold midF
    by_cases e : j < k
    · rw [if_pos e, if_pos (by omega)]
    · rw [if_neg e]
      by_cases e2 : j = k
      · subst e2; rw [if_pos (by omega)]; unfold nowF; rw [if_neg hm]
      · rw [if_neg (by omega)]) (fun _ _ _ => rfl)
theorem QD.full {ps : List PartD} {t : Nat} {q : List TurnD} (hq : QD ps t (midF ps t ps.length) q) : QD ps t (nowF ps t) q :=
  hq.congr (fun j hj => by unfold midF; rw [if_pos hj]) (fun _ _ _ => rfl)
/- nobody has to run -/
theorem QD.idle {ps : List PartD} {t : Nat} (hq : QD ps t (nowF ps t) []) : tickF ps t = -1 ∧ QD ps t (lefF ps (t + 1)) [] := by
  have hz : ∀ j, j < ps.length → ¬ 0 < nowF ps t j := fun j hj hp => by have := (hq.mem _).2 ⟨j, hj, hp, rfl⟩; simp at this
  rcases run_spec ps t with ⟨h1, h2, h3⟩ | ⟨c, h1, h2, h3, h4, h5⟩
  · exact ⟨h1, QD.nil _ _ fun j hj => by rw [h3 j hj]; exact h2 j hj⟩
  · exact absurd h3 (hz c h1)
/- the first of the heap runs -/
theorem QD.runs {ps : List PartD} {t : Nat} {q q1 : List TurnD} (hq : QD ps t (nowF ps t) q) (hh : HeapQ q q.length) (h0 : 0 < q.length) (hp : (q1 ++ [atQ q 0]).Perm q) :
    tickF ps t = (atQ q 0).place ∧ 1 ≤ (atQ q 0).left ∧ ((atQ q 0).left - 1 ≤ 0 → QD ps t (lefF ps (t + 1)) q1) ∧ (0 < (atQ q 0).left - 1 → QD ps t (lefF ps (t + 1)) (q1 ++ [⟨(atQ q 0).place, (atQ q 0).fin, (atQ q 0).left - 1⟩])) := by
  have hm : atQ q 0 ∈ q := by rw [atQ_eq h0]; exact List.getElem_mem h0
  obtain ⟨c, hc, hcp, he⟩ := (hq.mem _).1 hm
  have hq1 := hq.perm hp
  rw [he] at hq1 ⊢
  rcases run_spec ps t with ⟨h1, h2, h3⟩ | ⟨d, h1, h2, h3, h4, h5⟩
  · exact absurd hcp (by have := h2 c hc; omega)
  · have hdq := (hq.mem _).2 ⟨d, h1, h3, rfl⟩
    obtain ⟨k, hk, hke⟩ := List.getElem_of_mem hdq
    have hl := hh.least k hk
    rw [atQ_eq hk, hke, he, lessB_not] at hl
    have h6 := h4 c hc hcp
    have hcd : d = c := by
      have hl' : endF ps t c < endF ps t d ∨ endF ps t d = endF ps t c ∧ (c : Int) ≤ (d : Int) := hl
      omega
    subst hcd
    have hlef : ∀ j, j < ps.length → j ≠ d → lefF ps (t + 1) j = nowF ps t j := fun j hj hne => by rw [h5 j hj, if_neg (Ne.symm hne)]
    have hled : lefF ps (t + 1) d = nowF ps t d - 1 := by rw [h5 d h1, if_pos rfl]
    refine ⟨h2, (show 1 ≤ nowF ps t d by omega), fun hz => ?_, fun hz => ?_⟩
    · exact QD.drop hq1 (by rw [hled]; exact hz) hlef
    · have hdr := QD.drop (R' := fun j => if j = d then 0 else nowF ps t j) hq1 (by simp) (fun j hj hne => by simp [hne])
      have hz' : 0 < nowF ps t d - 1 := hz
      have := QD.add (R' := lefF ps (t + 1)) hdr h1 (by simp) (by rw [hled]; exact hz') (fun j hj hne => by rw [hlef j hj hne]; simp [hne])
      rwa [hled] at this
end Go.Proofs.Yteioennfpkoagaa.C
