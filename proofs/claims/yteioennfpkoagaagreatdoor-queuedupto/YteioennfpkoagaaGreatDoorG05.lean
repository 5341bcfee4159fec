import Derived.Test.YteioennfpkoagaaGreatDoorG04
import Derived.Test.YteioennfpkoagaaGreatDoorRows
import Derived.Test.YteioennfpkoagaaGreatDoorG01
import Derived.WalkKit
import Derived.WalkSpells
import Derived.WalkLawsBesides
namespace Go.Proofs.YteioennfpkoagaaGreatDoor.C
open Go.RowKit

/- a text that is cut: read up to its end -/
theorem must_end {l : List UInt8} {k : Nat} {kw : List UInt8} (h : (tk l k).sort = 0) : mustR l (S k) [kw] = ⟨k, 1, (tk l k).line, (tk l k).col⟩ := by
  have e : lk l k = 0 := by unfold lk; rw [h]; unfold looksF; simp
  simp only [mustR]
  rw [if_neg (by rw [is_end h]; simp)]
  unfold failR
  rw [if_neg (by simp [S]), if_neg (by simp [S, e])]
  rfl
theorem regs_run {l : List UInt8} : ∀ (rs : List RegD) (F k : Nat) (acc : List Reg), TokAt l k (rs.flatMap regK) → (∀ r ∈ rs, regB r = true) → rs.length ≤ F → regsR l F (S k) acc = regsR l (F - rs.length) (S (k + 5 * rs.length)) (acc ++ rs.map regA) := by
  intro rs
  induction rs with
  | nil => intro F k acc h _ _; simp
  | cons r rs ih =>
    intro F k acc h hb hF
    rw [List.flatMap_cons] at h
    cases F with
    | zero => simp at hF
    | succ F =>
      have hr := h.left
      rw [regsR_on l F _ acc (is_yes hr.head), region_on hr (hb r (by simp))]
      simp only []
      rw [ih F (k + 5) _ h.right (fun x hx => hb x (by simp [hx])) (by simpa using hF)]
      simp only [List.map_cons, List.append_assoc, List.cons_append, List.nil_append, List.length_cons]
      rw [show k + 5 + 5 * rs.length = k + 5 * (rs.length + 1) by omega, show F + 1 - (rs.length + 1) = F - rs.length by omega]
theorem part_cut {l : List UInt8} {k F : Nat} {x : PartD} (h : TokAt l k (partK0 x ++ x.regs.flatMap regK)) (hend : (tk l (k + 12 + 5 * x.regs.length)).sort = 0) (hx : PartOK x) (hF : x.regs.length ≤ F) : partitionR l F (S k) = (partA x, mustR l (S (k + 12 + 5 * x.regs.length)) [kShut]) := by
  obtain ⟨hn, hp, hd, ha, hr⟩ := hx
  have h0 := h.left
  have h1 := h.right
  have a0 : At l k kPartition := h0.head
  have a1 := h0.tail.head
  have a2 := h0.tail.tail.head
  have a3 := h0.tail.tail.tail.head
  have a4 := h0.tail.tail.tail.tail.head
  have a5 := h0.tail.tail.tail.tail.tail.head
  have a6 := h0.tail.tail.tail.tail.tail.tail.head
  have a7 := h0.tail.tail.tail.tail.tail.tail.tail.head
  have a8 := h0.tail.tail.tail.tail.tail.tail.tail.tail.head
  have a9 := h0.tail.tail.tail.tail.tail.tail.tail.tail.tail.head
  have a10 := h0.tail.tail.tail.tail.tail.tail.tail.tail.tail.tail.head
  have a11 := h0.tail.tail.tail.tail.tail.tail.tail.tail.tail.tail.tail.head
  obtain ⟨_, n1, n2⟩ := name_tok hn
  obtain ⟨w1, w2⟩ := act_at ha.1 ha.2
  have hh : partHeadR l (S k) = ((x.name.data.toList, x.period, x.duration, x.action.toNat), S (k + 12)) := by
    unfold partHeadR
    simp only []
    rw [must_on a0, must_nil, some_on a1 n1 n2]
    simp only []
    rw [must_on a2, must_on a3, must_nil, num_on a4 hp]
    simp only []
    rw [must_on a5, must_on a6, must_nil, num_on a7 hd]
    simp only []
    rw [must_on a8, must_on a9, must_nil, oneOf_on a10 kActions 0 _ w1 w2]
    simp only []
    rw [must_on a11, must_nil, show 0 + (x.action.toNat - 1) + 1 = x.action.toNat by omega]
  unfold partitionR
  simp only []
  rw [hh]
  simp only []
  have h1' : TokAt l (k + 12) (x.regs.flatMap regK) := h1
  rw [regs_run x.regs F (k + 12) [] h1' hr hF, regsR_stop l _ _ _ (is_end hend)]
  simp only [List.nil_append, partA]
theorem parts_run {l : List UInt8} {N : Nat} : ∀ (ps : List PartD) (F k : Nat) (acc : List Part), TokAt l k (ps.flatMap partK) → (∀ x ∈ ps, PartOK x ∧ x.regs.length ≤ N) → ps.length ≤ F → partsR l N F (S k) acc = partsR l N (F - ps.length) (S (k + (ps.flatMap partK).length)) (acc ++ ps.map partA) := by
  intro ps
  induction ps with
  | nil => intro F k acc _ _ _; simp
  | cons x ps ih =>
    intro F k acc h hx hF
    rw [List.flatMap_cons] at h ⊢
    cases F with
    | zero => simp at hF
    | succ F =>
      have hp := h.left
      have h0 : At l k kPartition := hp.left.head
      rw [partsR_on l N F _ acc (is_yes h0), part_on hp (hx x (by simp)).1 (hx x (by simp)).2]
      simp only []
      rw [ih F _ _ h.right (fun y hy => hx y (by simp [hy])) (by simpa using hF)]
      simp only [List.map_cons, List.append_assoc, List.cons_append, List.nil_append, List.length_append, List.length_cons]
      rw [Nat.add_assoc, show F + 1 - (ps.length + 1) = F - ps.length by omega]
def chanK0 (ps : List PartD) (c : ChanD) : List (List UInt8) := [kChannel, c.name.data.toList, nameAt ps c.source, kArrow, nameAt ps c.target, kindW c.kind.toNat, decF c.size, decF c.depth]
theorem chan_cut {l : List UInt8} {k : Nat} {ps : List PartD} {c : ChanD} (h : TokAt l k (chanK0 ps c)) (hn : NamesOK ps) (hc : ChanOK ps c) : channelR l (namesK ps) (S k) = (chanA c, mustR l (S (k + 8)) [kSemi]) := by
  obtain ⟨c1, c2, c3, c4, c5, c6⟩ := hc
  have a0 : At l k kChannel := h.head
  have a1 := h.tail.head
  have a2 := h.tail.tail.head
  have a3 := h.tail.tail.tail.head
  have a4 := h.tail.tail.tail.tail.head
  have a5 := h.tail.tail.tail.tail.tail.head
  have a6 := h.tail.tail.tail.tail.tail.tail.head
  have a7 := h.tail.tail.tail.tail.tail.tail.tail.head
  obtain ⟨_, n1, n2⟩ := name_tok c1
  have nm : ∀ i : Int, 0 ≤ i ∧ i < ps.length → (tokF (nameAt ps i)).2 = 1 := fun i hi => by
    have e := name_at hi
    unfold namesK at e
    rw [List.getElem?_map, List.getElem?_eq_getElem (by omega)] at e
    have e2 : ps[i.toNat].name.data.toList = nameAt ps i := by simpa using e
    rw [← e2]
    exact (name_tok (hn.1 _ (List.getElem_mem _))).2.1
  have fst : ∀ i : Int, 0 ≤ i ∧ i < ps.length → ∀ j', j' < i.toNat → (namesK ps)[j']? ≠ some (nameAt ps i) := fun i hi j' hj => by
    rw [← name_at hi]
    exact hn.2 j' i.toNat hj (by omega)
  obtain ⟨w1, w2⟩ := kind_at c4.1 c4.2
  unfold channelR chanA
  simp only []
  rw [must_on a0, must_nil, some_on a1 n1 n2]
  simp only []
  rw [end_on a2 (nm _ c2) (namesK ps) _ (name_at c2) (fst _ c2)]
  simp only []
  rw [must_on a3, must_nil, end_on a4 (nm _ c3) (namesK ps) _ (name_at c3) (fst _ c3)]
  simp only []
  rw [oneOf_on a5 kKinds 0 _ w1 w2]
  simp only []
  rw [num_on a6 c5]
  simp only []
  rw [num_on a7 c6]
  simp only []
  rw [show 0 + (c.kind.toNat - 1) + 1 = c.kind.toNat by omega]
theorem chans_run {l : List UInt8} {ps : List PartD} (hn : NamesOK ps) : ∀ (cs : List ChanD) (F k : Nat) (acc : List Chan), TokAt l k (cs.flatMap (chanK ps)) → (∀ c ∈ cs, ChanOK ps c) → cs.length ≤ F → chansR l (namesK ps) F (S k) acc = chansR l (namesK ps) (F - cs.length) (S (k + 9 * cs.length)) (acc ++ cs.map chanA) := by
  intro cs
  induction cs with
  | nil => intro F k acc _ _ _; simp
  | cons c cs ih =>
    intro F k acc h hx hF
    rw [List.flatMap_cons] at h
    cases F with
    | zero => simp at hF
    | succ F =>
      have hp := h.left
      have h0 : At l k kChannel := hp.head
      rw [chansR_on l _ F _ acc (is_yes h0), chan_on hp hn (hx c (by simp))]
      simp only []
      rw [ih F (k + 9) _ h.right (fun y hy => hx y (by simp [hy])) (by simpa using hF)]
      simp only [List.map_cons, List.append_assoc, List.cons_append, List.nil_append, List.length_cons]
      rw [show k + 9 + 9 * cs.length = k + 9 * (cs.length + 1) by omega, show F + 1 - (cs.length + 1) = F - cs.length by omega]
theorem dead_no {l : List UInt8} {k : Nat} {a b : Int} {kw : List UInt8} : isR l ⟨k, 1, a, b⟩ kw = false := by simp [isR]
/- the last token but for which a text is whole -/
theorem cut_chan {l : List UInt8} {f : Int} {ps : List PartD} {cs : List ChanD} {c : ChanD} (h : Txt l ([kModule, decF f, kSemi] ++ (ps.flatMap partK ++ (cs.flatMap (chanK ps) ++ chanK0 ps c)))) (hM : ManOK ⟨f, ps, cs ++ [c]⟩) (N : Nat) (hN : N = 3 + (ps.flatMap partK).length + 9 * cs.length + 8 + 1) :
    (parseR l N).2 = ⟨N - 1, 1, (tk l (N - 1)).line, (tk l (N - 1)).col⟩ := by
  obtain ⟨hf, hp, hn, hc⟩ := hM
  have ht := TokAt.of h
  have hlen : ([kModule, decF f, kSemi] ++ (ps.flatMap partK ++ (cs.flatMap (chanK ps) ++ chanK0 ps c))).length = N - 1 := by
    rw [List.length_append, List.length_append, List.length_append, chanK_len, hN]
    show 3 + (_ + (_ + 8)) = _
    omega
  have hend := h.end_sort
  rw [hlen] at hend
  have h0 : TokAt l 0 [kModule, decF f, kSemi] := ht.left
  have h1 : TokAt l 3 (ps.flatMap partK ++ (cs.flatMap (chanK ps) ++ chanK0 ps c)) := by simpa using ht.right
  have hP := h1.left
  have hC := h1.right.left
  have hL : TokAt l (3 + (ps.flatMap partK).length + 9 * cs.length) (chanK0 ps c) := by
    have := h1.right.right
    rwa [chanK_len] at this
  have hm := partK_many ps
  have hstop1 : isR l (S (3 + (ps.flatMap partK).length)) kPartition = false := by
    cases hcs : cs with
    | nil =>
      rw [hcs] at hL
      exact is_no (show At l _ kChannel from hL.head) (by decide)
    | cons c cs =>
      rw [hcs, List.flatMap_cons] at hC
      exact is_no (show At l _ kChannel from hC.left.head) (by decide)
  unfold parseR
  simp only []
  have a0 : At l 0 kModule := h0.head
  have a1 : At l 1 (decF f) := by simpa using h0.tail.head
  have a2 : At l 2 kSemi := by simpa using h0.tail.tail.head
  rw [show (⟨0, 0, 0, 0⟩ : RS) = S 0 from rfl, must_on a0, must_nil, show (0 + 1) = 1 from rfl, num_on a1 hf]
  simp only []
  rw [show (1 + 1) = 2 from rfl, must_on a2, must_nil, show (2 + 1) = 3 from rfl]
  rw [parts_on ps _ 3 [] hP hstop1 (fun x hx => ⟨hp x hx, by have := hm.2 x hx; omega⟩) (by have := hm.1; omega)]
  simp only [List.nil_append]
  have en : (ps.map partA).map Part.name = namesK ps := by unfold namesK; rw [List.map_map]; rfl
  rw [en, chans_run hn cs _ _ [] hC (fun x hx => hc x (by simp [hx])) (by omega)]
  rw [show N - cs.length = (N - cs.length - 1) + 1 by omega, chansR_on l _ _ _ _ (is_yes hL.head), chan_cut hL hn (hc c (by simp))]
  simp only []
  rw [must_end (by rw [← hend, hN]; rfl), chansR_stop l _ _ _ _ dead_no]
  simp only []
  rw [if_neg (by simp)]
  rw [hN]; rfl
theorem cut_part {l : List UInt8} {f : Int} {ps : List PartD} {x : PartD} (h : Txt l ([kModule, decF f, kSemi] ++ (ps.flatMap partK ++ (partK0 x ++ x.regs.flatMap regK)))) (hM : ManOK ⟨f, ps ++ [x], []⟩) (N : Nat) (hN : N = 3 + (ps.flatMap partK).length + (12 + 5 * x.regs.length) + 1) :
    (parseR l N).2 = ⟨N - 1, 1, (tk l (N - 1)).line, (tk l (N - 1)).col⟩ := by
  obtain ⟨hf, hp, hn, hc⟩ := hM
  have ht := TokAt.of h
  have hlen : ([kModule, decF f, kSemi] ++ (ps.flatMap partK ++ (partK0 x ++ x.regs.flatMap regK))).length = N - 1 := by
    rw [List.length_append, List.length_append, List.length_append, regK_len, hN]
    show 3 + (_ + (12 + _)) = _
    omega
  have hend := h.end_sort
  rw [hlen] at hend
  have h0 : TokAt l 0 [kModule, decF f, kSemi] := ht.left
  have h1 : TokAt l 3 (ps.flatMap partK ++ (partK0 x ++ x.regs.flatMap regK)) := by simpa using ht.right
  have hP := h1.left
  have hL := h1.right
  have hm := partK_many ps
  unfold parseR
  simp only []
  have a0 : At l 0 kModule := h0.head
  have a1 : At l 1 (decF f) := by simpa using h0.tail.head
  have a2 : At l 2 kSemi := by simpa using h0.tail.tail.head
  rw [show (⟨0, 0, 0, 0⟩ : RS) = S 0 from rfl, must_on a0, must_nil, show (0 + 1) = 1 from rfl, num_on a1 hf]
  simp only []
  rw [show (1 + 1) = 2 from rfl, must_on a2, must_nil, show (2 + 1) = 3 from rfl]
  have e3 : partsR l N N (S 3) [] = ([] ++ ps.map partA ++ [partA x], ⟨N - 1, 1, (tk l (N - 1)).line, (tk l (N - 1)).col⟩) := by
    rw [parts_run ps _ 3 [] hP (fun x hx => ⟨hp x (by simp [hx]), by have := hm.2 x hx; omega⟩) (by have := hm.1; omega)]
    have := hm.1
    have he : (tk l (3 + (ps.flatMap partK).length + 12 + 5 * x.regs.length)).sort = 0 := by rw [← hend, hN]; congr 2; omega
    rw [show N - ps.length = (N - ps.length - 1) + 1 by omega, partsR_on l _ _ _ _ (is_yes hL.left.head), part_cut hL he (hp x (by simp)) (by omega)]
    simp only []
    rw [must_end he, partsR_stop l _ _ _ _ dead_no]
    rw [show 3 + (ps.flatMap partK).length + 12 + 5 * x.regs.length = N - 1 by omega]
  rw [e3]
  simp only []
  rw [chansR_stop l _ _ _ _ dead_no]
  simp only []
  rw [if_neg (by simp)]
end Go.Proofs.YteioennfpkoagaaGreatDoor.C
namespace Go.Proofs.YteioennfpkoagaaGreatDoor.C
open Go.RowKit

/- the cut text's answer -/
theorem tk_end {l : List UInt8} {ts : List (List UInt8)} (h : Txt l ts) : (tk l ts.length).line = (placeL l).1 ∧ (tk l ts.length).col = (placeL l).2 := by
  unfold tk tokAt
  simp only []
  rw [h.pos_end.1, List.take_length]
  exact ⟨rfl, rfl⟩
def cutL (l : List UInt8) : List UInt8 := l.take (l.length - 2)
theorem cutL_app (l : List UInt8) (a b : UInt8) : cutL (l ++ [a, b]) = l := by unfold cutL; simp
theorem cut_out {M : ManD} (h : ManOK M) (hne : M.parts ≠ []) : TokN (cutL (printL M)) (manK M).length ∧ (parseR (cutL (printL M)) (manK M).length).2 = ⟨(manK M).length - 1, 1, (placeL (cutL (printL M))).1, (placeL (cutL (printL M))).2⟩ := by
  have ht := print_txt h
  obtain ⟨f, ps, cs⟩ := M
  rcases List.eq_nil_or_concat cs with rfl | ⟨cs, c, rfl⟩
  · rcases List.eq_nil_or_concat ps with rfl | ⟨ps, x, rfl⟩
    · exact absurd rfl hne
    · simp only [List.concat_eq_append] at *
      obtain ⟨q, hq⟩ : ∃ q, partT x = q ++ [125, 10] := ⟨_, rfl⟩
      have e1 : printL ⟨f, ps ++ [x], []⟩ = (headT f ++ ps.flatMap partT ++ q) ++ [125, 10] := by
        unfold printL; simp [hq]
      have e2 : manK ⟨f, ps ++ [x], []⟩ = ([kModule, decF f, kSemi] ++ (ps.flatMap partK ++ (partK0 x ++ x.regs.flatMap regK))) ++ [[125]] := by
        unfold manK partK; simp [kShut]
      have hc := (ht.cut (b := 125) (.inr rfl) _ _ e1 e2).txt
      have el : (manK ⟨f, ps ++ [x], []⟩).length = ([kModule, decF f, kSemi] ++ (ps.flatMap partK ++ (partK0 x ++ x.regs.flatMap regK))).length + 1 := by rw [e2, List.length_append]; rfl
      have en : ([kModule, decF f, kSemi] ++ (ps.flatMap partK ++ (partK0 x ++ x.regs.flatMap regK))).length = 3 + (ps.flatMap partK).length + (12 + 5 * x.regs.length) := by
        rw [List.length_append, List.length_append, List.length_append, regK_len]
        show 3 + (_ + (12 + _)) = _
        omega
      rw [e1, cutL_app]
      refine ⟨by rw [el]; exact hc.tokN, ?_⟩
      have hp := tk_end hc
      rw [cut_part hc h _ (by rw [el, en]), el, Nat.add_sub_cancel, hp.1, hp.2]
  · simp only [List.concat_eq_append] at *
    obtain ⟨q, hq⟩ : ∃ q, chanT ps c = q ++ [59, 10] := ⟨_, rfl⟩
    have e1 : printL ⟨f, ps, cs ++ [c]⟩ = (headT f ++ ps.flatMap partT ++ cs.flatMap (chanT ps) ++ q) ++ [59, 10] := by
      unfold printL; simp [hq]
    have e2 : manK ⟨f, ps, cs ++ [c]⟩ = ([kModule, decF f, kSemi] ++ (ps.flatMap partK ++ (cs.flatMap (chanK ps) ++ chanK0 ps c))) ++ [[59]] := by
      unfold manK; simp [chanK, chanK0, kSemi]
    have hc := (ht.cut (b := 59) (.inl rfl) _ _ e1 e2).txt
    have el : (manK ⟨f, ps, cs ++ [c]⟩).length = ([kModule, decF f, kSemi] ++ (ps.flatMap partK ++ (cs.flatMap (chanK ps) ++ chanK0 ps c))).length + 1 := by rw [e2, List.length_append]; rfl
    have en : ([kModule, decF f, kSemi] ++ (ps.flatMap partK ++ (cs.flatMap (chanK ps) ++ chanK0 ps c))).length = 3 + (ps.flatMap partK).length + 9 * cs.length + 8 := by
      rw [List.length_append, List.length_append, List.length_append, chanK_len]
      show 3 + (_ + (_ + 8)) = _
      omega
    rw [e1, cutL_app]
    refine ⟨by rw [el]; exact hc.tokN, ?_⟩
    have hp := tk_end hc
    rw [cut_chan hc h _ (by rw [el, en]), el, Nat.add_sub_cancel, hp.1, hp.2]
/- how long the texts are -/
def wF : List UInt8 → Nat
  | [] => 0
  | b :: l => (if b.toNat = 32 ∨ b.toNat = 10 ∨ b.toNat = 59 then 15 else 1) + wF l
theorem wF_app (a b : List UInt8) : wF (a ++ b) = wF a + wF b := by
  induction a with
  | nil => simp [wF]
  | cons c a ih => simp only [List.cons_append, wF, ih]; omega
theorem wF_plain {t : List UInt8} (h : t = [59] ∨ plain t) : wF t ≤ t.length + 14 := by
  rcases h with rfl | h
  · decide
  · have : wF t = t.length := by
      induction t with
      | nil => rfl
      | cons b t ih =>
        have := h b (by simp)
        simp only [wF, List.length_cons]
        rw [if_neg (by omega), ih (fun c hc => h c (by simp [hc]))]; omega
    omega
theorem gapW_len (n : Nat) : (gapW n).length ≤ 13 := by unfold gapW; split <;> decide
theorem spF_len (f : Nat → Nat) : ∀ (l : List UInt8) (n : Nat), (spF f n l).length ≤ wF l := by
  intro l
  induction l with
  | nil => intro n; simp [spF, wF]
  | cons b l ih =>
    intro n
    have hg := gapW_len (f n)
    have h1 := ih (n + 1)
    have h2 := ih n
    simp only [spF, wF]
    split
    · rw [if_pos (by omega), List.length_append]; omega
    · split
      · rw [if_pos (by omega)]
        simp only [List.length_append, List.length_cons, List.length_nil]
        omega
      · rw [if_neg (by omega), List.length_cons]; omega
theorem len_wF (l : List UInt8) : l.length ≤ wF l := by
  induction l with
  | nil => simp
  | cons b l ih => simp only [wF, List.length_cons]; split <;> omega
theorem plain_w {t : List UInt8} (h : plain t) : wF t = t.length := by
  induction t with
  | nil => rfl
  | cons b t ih =>
    have := h b (by simp)
    simp only [wF, List.length_cons]
    rw [if_neg (by omega), ih (fun c hc => h c (by simp [hc]))]; omega
theorem kw_w {t : List UInt8} {n : Nat} (h : isTok t ∧ (t = [59] ∨ plain t)) (hn : t.length ≤ n) (h9 : t ≠ [59]) : wF t ≤ n := by
  rw [plain_w (h.2.resolve_left h9)]; exact hn
theorem word_ne {t : List UInt8} (h : (tokF t).2 ≠ 3) : t ≠ [59] := by
  rintro rfl
  exact h (by decide)
theorem dec_w {n : Int} (h : 0 ≤ n ∧ n ≤ 999) : wF (decF n) ≤ 3 := kw_w (dec_kw h) (decF_len n) (word_ne (by rw [(num_of h).2.1]; decide))
theorem name_len {t : List UInt8} (h : nameF t = true) : t.length ≤ 16 := by
  unfold nameF at h
  simp only [Bool.and_eq_true, decide_eq_true_eq] at h
  omega
theorem name_w {t : List UInt8} (h : nameF t = true) : wF t ≤ 16 := kw_w (name_kw h) (name_len h) (word_ne (by rw [(name_tok h).2.1]; decide))
theorem nameAt_w {ps : List PartD} (hn : NamesOK ps) {i : Int} (h : 0 ≤ i ∧ i < ps.length) : wF (nameAt ps i) ≤ 16 := by
  have h1 := name_at h
  unfold namesK at h1
  rw [List.getElem?_map, List.getElem?_eq_getElem (by omega)] at h1
  simp only [Option.map_some, Option.some.injEq] at h1
  rw [← h1]
  exact name_w (hn.1 _ (List.getElem_mem _))
theorem right_w (n : Nat) : wF (rightW n) ≤ 7 := by unfold rightW; split <;> decide
theorem kind_w (n : Nat) : wF (kindW n) ≤ 7 := by unfold kindW; split <;> decide
theorem act_w (n : Nat) : wF (actW n) ≤ 7 := by unfold actW; split <;> decide
theorem reg_w {r : RegD} (hb : regB r = true) : wF (regT r) ≤ 124 := by
  unfold regB at hb
  simp only [decide_eq_true_eq] at hb
  have h1 := dec_w (n := r.page) ⟨by omega, by omega⟩
  have h2 := dec_w (n := r.pages) ⟨by omega, by omega⟩
  have h3 := right_w r.rights.toNat
  unfold regT
  simp only [wF_app]
  have c1 : wF [32, 32, 109, 101, 109, 111, 114, 121, 32] = 51 := by decide
  have c2 : wF [32] = 15 := by decide
  have c3 : wF [59, 10] = 30 := by decide
  omega
theorem flat_w {α : Type} (l : List α) (g : α → List UInt8) (K : Nat) (h : ∀ x ∈ l, wF (g x) ≤ K) : wF (l.flatMap g) ≤ K * l.length := by
  induction l with
  | nil => simp [wF]
  | cons x l ih =>
    rw [List.flatMap_cons, wF_app, List.length_cons, Nat.mul_add]
    have h1 := h x (by simp)
    have h2 := ih (fun y hy => h y (by simp [hy]))
    omega
theorem part_w {x : PartD} (hx : PartOK x) (hr : x.regs.length ≤ 2) : wF (partT x) ≤ 750 := by
  obtain ⟨h1, h2, h3, h4, h5⟩ := hx
  have a1 := name_w h1
  have a2 := dec_w h2
  have a3 := dec_w h3
  have a4 := act_w x.action.toNat
  have a5 := flat_w x.regs regT 124 (fun r hr => reg_w (h5 r hr))
  have a6 : 124 * x.regs.length ≤ 248 := by omega
  unfold partT
  simp only [wF_app]
  have c1 : wF [112, 97, 114, 116, 105, 116, 105, 111, 110, 32] ≤ 24 := by decide
  have c2 : wF [32, 123, 10, 32, 32, 112, 101, 114, 105, 111, 100, 32] ≤ 82 := by decide
  have c3 : wF [59, 10, 32, 32, 100, 117, 114, 97, 116, 105, 111, 110, 32] ≤ 83 := by decide
  have c4 : wF [59, 10, 32, 32, 102, 97, 117, 108, 116, 32] ≤ 80 := by decide
  have c5 : wF [59, 10] ≤ 30 := by decide
  have c6 : wF [125, 10] ≤ 16 := by decide
  omega
theorem chan_w {ps : List PartD} {c : ChanD} (hn : NamesOK ps) (hc : ChanOK ps c) : wF (chanT ps c) ≤ 250 := by
  obtain ⟨h1, h2, h3, h4, h5, h6⟩ := hc
  have a1 := name_w h1
  have a2 := nameAt_w hn h2
  have a3 := nameAt_w hn h3
  have a4 := kind_w c.kind.toNat
  have a5 := dec_w h5
  have a6 := dec_w h6
  unfold chanT
  simp only [wF_app]
  have c1 : wF [99, 104, 97, 110, 110, 101, 108, 32] ≤ 22 := by decide
  have c2 : wF [32] ≤ 15 := by decide
  have c3 : wF [32, 45, 62, 32] ≤ 32 := by decide
  have c5 : wF [59, 10] ≤ 30 := by decide
  omega
theorem man_w {M : ManD} (h : ManOK M) (h1 : M.parts.length ≤ 6) (h2 : ∀ x ∈ M.parts, x.regs.length ≤ 2) (h3 : M.chans.length ≤ 7) : wF (printL M) ≤ 7000 := by
  obtain ⟨hf, hp, hn, hc⟩ := h
  have a1 := flat_w M.parts partT 750 (fun x hx => part_w (hp x hx) (h2 x hx))
  have a2 := flat_w M.chans (chanT M.parts) 250 (fun c hx => chan_w hn (hc c hx))
  have a3 := dec_w hf
  unfold printL headT
  simp only [wF_app]
  have c1 : wF [109, 111, 100, 117, 108, 101, 32] ≤ 21 := by decide
  have c5 : wF [59, 10] ≤ 30 := by decide
  omega
end Go.Proofs.YteioennfpkoagaaGreatDoor.C
namespace Go.Proofs.YteioennfpkoagaaGreatDoor
open Go.RowKit

set_option maxHeartbeats 400000 in
theorem small_any (n : Int) (w : World) :
    Calls Tryz.prog 192 #[.int .u8 n] w fun e w' => e = .returned (.bool (smallB n)) ∧ w' = w := by
  go_enter Tryz.func192, Tryz.ntmps192
  go_wp2
  · go_ret
    exact ⟨by simp [smallB, *], rfl⟩
  · go_ret
    exact ⟨by simp [smallB]; omega, rfl⟩

set_option maxHeartbeats 400000 in
theorem digit_any (n : Int) (w : World) :
    Calls Tryz.prog 193 #[.int .u8 n] w fun e w' => e = .returned (.bool (digitB n)) ∧ w' = w := by
  go_enter Tryz.func193, Tryz.ntmps193
  go_wp2
  · go_ret
    exact ⟨by simp [digitB, *], rfl⟩
  · go_ret
    exact ⟨by simp [digitB]; omega, rfl⟩

set_option maxHeartbeats 400000 in
theorem inside_any (n : Int) (w : World) :
    Calls Tryz.prog 194 #[.int .u8 n] w fun e w' => e = .returned (.bool (insideB n)) ∧ w' = w := by
  go_enter Tryz.func194, Tryz.ntmps194
  go_wp2_with (first | (go_at_call 192; refine (small_any _ _).mono ?_; rintro e w' ⟨rfl, rfl⟩) | (go_at_call 193; refine (digit_any _ _).mono ?_; rintro e w' ⟨rfl, rfl⟩))
  all_goals
    go_ret
    exact ⟨by simp [insideB, *], rfl⟩

set_option maxHeartbeats 400000 in
theorem place_any (s : ByteArray) (n : Nat) (w : World) (hs : s.size ≤ 8192) (hn : n ≤ s.size) :
    Calls Tryz.prog 130 #[.string s, .int .i64 n] w fun e w' => e = .returned (.agg #[.int .i64 (placeL (s.data.toList.take n)).1, .int .i64 (placeL (s.data.toList.take n)).2]) ∧ Below w.heap.size w w' := by
  go_enter Tryz.func130, Tryz.ntmps130
  go_wp2
  go_loopw [6] (fun i wr => ∃ k : Nat, k ≤ n ∧ i = .int .i64 k ∧ wr = (w.alloc (Obj.cells #[Value.int IntKind.i64 0, Value.int IntKind.i64 0] 36)).alloc (Obj.cells #[Value.int IntKind.i64 (placeL (s.data.toList.take k)).1, Value.int IntKind.i64 (placeL (s.data.toList.take k)).2] 36)) (fun i _ => n - (intOf i).toNat)
  case atStart => exact ⟨0, Nat.zero_le _, rfl, by simp [placeL]⟩
  case round =>
    obtain ⟨k, hk, rfl, rfl⟩ := hrel
    have hb := placeL_bd (s.data.toList.take k)
    have hl : (s.data.toList.take k).length ≤ k := List.length_take_le _ _
    by_cases hlt : k < n
    · have hks : k < s.size := by omega
      have HS : Hid _ := placeL_step s k hks
      generalize placeL (s.data.toList.take k) = q at *
      obtain ⟨q1, q2⟩ := q
      go_wp2
      · have hc : s[k].toNat = 10 := by have := ‹((s[k].toNat : Int) == 10) = true›; simp at this; omega
        go_roundw
        case rel => exact ⟨k + 1, by omega, by go_num, by rw [HS.out, if_pos hc]⟩
        case measure => simp [intOf]; omega
      · have hc : ¬ s[k].toNat = 10 := by have := ‹((s[k].toNat : Int) == 10) = false›; simp at this; omega
        go_roundw
        case rel => exact ⟨k + 1, by omega, by go_num, by rw [HS.out, if_neg hc]⟩
        case measure => simp [intOf]; omega
    · have : k = n := by omega
      subst this
      go_wp2
      exact bodyPost_ret (v := .agg #[.int .i64 (placeL (s.data.toList.take k)).1, .int .i64 (placeL (s.data.toList.take k)).2]) (by simp [results, Tryz.results130, go_sem]) rfl ⟨rfl, ((Below.refl _ _).alloc (Nat.le_refl _) _).alloc (by simp) _⟩

theorem ret_int {k : IntKind} {a b : Int} (h : a = b) : Ending.returned (.int k a) = .returned (.int k b) := by rw [h]

set_option maxHeartbeats 400000 in
theorem gap_any (s : ByteArray) (i : Nat) (w : World) (hs : s.size ≤ 8192) (hi : i ≤ s.size) :
    Calls Tryz.prog 128 #[.string s, .int .i64 i] w fun e w' => e = .returned (.int .i64 (i + gapF false (s.data.toList.drop i) : Nat)) ∧ w' = w := by
  generalize he : i + gapF false (s.data.toList.drop i) = e
  have HE : Hid _ := he
  clear he
  go_enter Tryz.func128, Tryz.ntmps128
  go_wp2
  go_loop [1] (fun t => ∃ k : Nat, k ≤ s.size ∧ t = .int .i64 k ∧ Hid (k + gapF false (s.data.toList.drop k) = e)) (fun t => s.size - (intOf t).toNat)
  case atStart => exact ⟨i, hi, rfl, HE⟩
  case round =>
    obtain ⟨k, hk, rfl, HK⟩ := hrel
    clear HE
    by_cases hlt : k < s.size
    · go_wp2
      · have hc := byteT (c := 32) ‹_›
        go_round
        case rel => exact ⟨k + 1, by omega, by go_num, gap_blank hlt HK.out hc⟩
        case measure => simp [intOf]; omega
      · have hc := byteT (c := 10) ‹_›
        go_round
        case rel => exact ⟨k + 1, by omega, by go_num, gap_line hlt HK.out hc⟩
        case measure => simp [intOf]; omega
      · have hc : Hid (s[k].toNat = 35) := byteT (c := 35) ‹_›
        go_loop [1] (fun t => ∃ m : Nat, k ≤ m ∧ m ≤ s.size ∧ t = .int .i64 m ∧ Hid (m + gapF true (s.data.toList.drop m) = e)) (fun t => s.size - (intOf t).toNat)
        case atStart => exact ⟨k, Nat.le_refl _, hk, rfl, gap_hash hlt HK.out hc.out⟩
        case round =>
          obtain ⟨m, hkm, hm, rfl, HM⟩ := hrel
          clear HK
          by_cases hlm : m < s.size
          · go_wp2
            · have h1 : ¬ s[m].toNat = 10 := by have := ‹((s[m].toNat : Int) != 10) = true›; simp at this; omega
              go_round
              case rel => exact ⟨m + 1, by omega, by omega, by go_num, gap_in hlm HM.out h1⟩
              case measure => simp [intOf]; omega
            · have h1 : s[m].toNat = 10 := by have := ‹((s[m].toNat : Int) != 10) = false›; simp at this; omega
              have h2 : k ≠ m := by intro h; subst h; have := hc.out; omega
              go_round
              case rel => exact ⟨m, by omega, rfl, gap_out hlm HM.out h1⟩
              case measure => simp [intOf]; omega
          · go_wp2
            have h1 : m = s.size := by omega
            go_round
            case rel => exact ⟨m, by omega, rfl, by have := HM.out; rw [gapF_end _ _ _ (by omega)] at this ⊢; exact this⟩
            case measure => simp [intOf]; omega
      · go_ret
        exact ⟨ret_int (by rw [gap_stop hlt HK.out (byteF (c := 10) ‹_›) (byteF (c := 35) ‹_›) (byteF (c := 32) ‹_›)]), rfl⟩
    · go_wp2
      go_ret
      have := HK.out
      rw [gapF_end _ _ _ (by omega)] at this
      exact ⟨ret_int (by omega), rfl⟩

theorem pair_ret {q : Nat × Nat} {a b : Nat} (h : q = (a, b)) {x y : Int} (hx : x = a) (hy : y = b) : Ending.returned (.tuple #[.int .i64 x, .int .i64 y]) = .returned (.tuple #[.int .i64 q.1, .int .i64 q.2]) := by
  subst hx hy h; rfl

set_option maxHeartbeats 400000 in
theorem length_any (s : ByteArray) (i : Nat) (w : World) (hs : s.size ≤ 8192) (hi : i < s.size) :
    Calls Tryz.prog 129 #[.string s, .int .i64 i] w fun e w' => e = .returned (.tuple #[.int .i64 (tokF (s.data.toList.drop i)).1, .int .i64 (tokF (s.data.toList.drop i)).2]) ∧ w' = w := by
  have HT : Hid (tokF (s.data.toList.drop i) = _) := congrArg tokF (drop_cons s i hi)
  generalize tokF (s.data.toList.drop i) = q at *
  cases hsm : smallB s[i].toNat
  · cases hdg : digitB s[i].toNat
    · go_enter Tryz.func129, Tryz.ntmps129
      go_wp2_with (first | (go_at_call 192; refine (small_any _ _).mono ?_; rintro e w' ⟨rfl, rfl⟩) | (go_at_call 193; refine (digit_any _ _).mono ?_; rintro e w' ⟨rfl, rfl⟩))
      · go_ret2
        exact ⟨pair_ret (HT.out.trans (tok_sign hsm hdg (by omega))) rfl rfl, rfl⟩
      · go_ret2
        exact ⟨pair_ret (HT.out.trans (tok_sign hsm hdg (by omega))) rfl rfl, rfl⟩
      · have hh : ((((s[i].toNat : Int) == 123) = true ∨ ((s[i].toNat : Int) == 125) = true) ∨ ((s[i].toNat : Int) == 59) = true) := by assumption
        go_ret2
        exact ⟨pair_ret (HT.out.trans (tok_sign hsm hdg (by simp at hh; omega))) rfl rfl, rfl⟩
      · have hh : ((s[i + 1].toNat : Int) == 62) = true := by assumption
        have h0 : ((((s[i].toNat : Int) == 123) = false ∧ ((s[i].toNat : Int) == 125) = false) ∧ ((s[i].toNat : Int) == 59) = false) := by assumption
        go_ret2
        exact ⟨pair_ret (HT.out.trans (tok_arrow hsm hdg (by rw [head_at (by omega)]; simp at hh; exact ⟨by omega, by simp; omega⟩))) rfl rfl, rfl⟩
      · have hh : ((s[i + 1].toNat : Int) == 62) = false := by assumption
        have h0 : ((((s[i].toNat : Int) == 123) = false ∧ ((s[i].toNat : Int) == 125) = false) ∧ ((s[i].toNat : Int) == 59) = false) := by assumption
        go_ret2
        exact ⟨pair_ret (HT.out.trans (tok_odd hsm hdg (by simp at h0; omega) (by rw [head_at (by omega)]; simp at hh; simp; omega))) rfl rfl, rfl⟩
      · have h0 : ((((s[i].toNat : Int) == 123) = false ∧ ((s[i].toNat : Int) == 125) = false) ∧ ((s[i].toNat : Int) == 59) = false) := by assumption
        go_ret2
        exact ⟨pair_ret (HT.out.trans (tok_odd hsm hdg (by simp at h0; omega) (by rw [head_end (by omega)]; simp))) rfl rfl, rfl⟩
      · have h0 : ((((s[i].toNat : Int) == 123) = false ∧ ((s[i].toNat : Int) == 125) = false) ∧ ((s[i].toNat : Int) == 59) = false) := by assumption
        go_ret2
        exact ⟨pair_ret (HT.out.trans (tok_odd hsm hdg (by simp at h0; omega) (by omega))) rfl rfl, rfl⟩
    · go_enter Tryz.func129, Tryz.ntmps129
      go_wp2_with (first | (go_at_call 192; refine (small_any _ _).mono ?_; rintro e w' ⟨rfl, rfl⟩) | (go_at_call 193; refine (digit_any _ _).mono ?_; rintro e w' ⟨rfl, rfl⟩))
      go_loop [8] (fun t => ∃ m : Nat, 1 ≤ m ∧ i + m ≤ s.size ∧ t = .int .i64 m ∧ Hid (m + runF (s.data.toList.drop (i + m)) = runF (s.data.toList.drop (i + 1)) + 1)) (fun t => s.size - (intOf t).toNat)
      case atStart => exact ⟨1, by omega, by omega, rfl, by show _ = _; omega⟩
      case round =>
        obtain ⟨m, hm1, hm2, rfl, HM⟩ := hrel
        by_cases hlt : i + m < s.size
        · cases hin : insideB s[i + m].toNat
          · go_wp2_with (go_at_call 194; refine (inside_any _ _).mono ?_; rintro e w' ⟨rfl, rfl⟩)
            go_ret2
            exact ⟨pair_ret (HT.out.trans (tok_number hsm hdg)) (by have := HM.out; rw [runF_out hlt hin] at this; omega) rfl, rfl⟩
          · go_wp2_with (go_at_call 194; refine (inside_any _ _).mono ?_; rintro e w' ⟨rfl, rfl⟩)
            go_round
            case rel => exact ⟨m + 1, by omega, by omega, by go_num, by have := HM.out; rw [runF_in hlt hin] at this; show _ = _; rw [← Nat.add_assoc]; omega⟩
            case measure => simp [intOf]; omega
        · go_wp2
          go_ret2
          exact ⟨pair_ret (HT.out.trans (tok_number hsm hdg)) (by have := HM.out; rw [runF_end (by omega)] at this; omega) rfl, rfl⟩
  · have hdg : digitB s[i].toNat = false := by simp [smallB, digitB] at hsm ⊢; omega
    go_enter Tryz.func129, Tryz.ntmps129
    go_wp2_with (first | (go_at_call 192; refine (small_any _ _).mono ?_; rintro e w' ⟨rfl, rfl⟩) | (go_at_call 193; refine (digit_any _ _).mono ?_; rintro e w' ⟨rfl, rfl⟩))
    go_loop [8] (fun t => ∃ m : Nat, 1 ≤ m ∧ i + m ≤ s.size ∧ t = .int .i64 m ∧ Hid (m + runF (s.data.toList.drop (i + m)) = runF (s.data.toList.drop (i + 1)) + 1)) (fun t => s.size - (intOf t).toNat)
    case atStart => exact ⟨1, by omega, by omega, rfl, by show _ = _; omega⟩
    case round =>
      obtain ⟨m, hm1, hm2, rfl, HM⟩ := hrel
      by_cases hlt : i + m < s.size
      · cases hin : insideB s[i + m].toNat
        · go_wp2_with (go_at_call 194; refine (inside_any _ _).mono ?_; rintro e w' ⟨rfl, rfl⟩)
          go_ret2
          exact ⟨pair_ret (HT.out.trans (tok_word hsm)) (by have := HM.out; rw [runF_out hlt hin] at this; omega) rfl, rfl⟩
        · go_wp2_with (go_at_call 194; refine (inside_any _ _).mono ?_; rintro e w' ⟨rfl, rfl⟩)
          go_round
          case rel => exact ⟨m + 1, by omega, by omega, by go_num, by have := HM.out; rw [runF_in hlt hin] at this; show _ = _; rw [← Nat.add_assoc]; omega⟩
          case measure => simp [intOf]; omega
      · go_wp2
        go_ret2
        exact ⟨pair_ret (HT.out.trans (tok_word hsm)) (by have := HM.out; rw [runF_end (by omega)] at this; omega) rfl, rfl⟩
end Go.Proofs.YteioennfpkoagaaGreatDoor
