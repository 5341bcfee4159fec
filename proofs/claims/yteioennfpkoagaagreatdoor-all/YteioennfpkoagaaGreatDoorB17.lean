import Derived.Test.YteioennfpkoagaaGreatDoorB16
import Derived.Test.YteioennfpkoagaaGreatDoorB05
import Derived.Deep.RegionLaw
import Derived.Deep.DeepCutAuto
namespace Go.Proofs.YteioennfpkoagaaGreatDoor.C
open Go.RowKit K

theorem num_enc {x : Int} (h : 0 ≤ x ∧ x ≤ 255) (l : List UInt8) : numI (encB x :: l) = (x.toNat, l) := by
  have := encB_nat x
  show ((encB x).toNat, l) = _
  congr 1
  omega
theorem read_all {α β : Type} {f : List UInt8 → β × List UInt8} {enc : α → List UInt8} {g : α → β} (xs : List α) (hf : ∀ x ∈ xs, ∀ r, f (enc x ++ r) = (g x, r)) (r : List UInt8) :
    readN f xs.length (xs.flatMap enc ++ r) = (xs.map g, r) := by
  induction xs with
  | nil => rfl
  | cons x xs ih =>
    rw [List.flatMap_cons, List.append_assoc, List.length_cons]
    unfold readN
    rw [hf x (by simp), ih fun y hy => hf y (by simp [hy])]
    rfl
theorem list_all {α β : Type} {f : List UInt8 → β × List UInt8} {enc : α → List UInt8} {g : α → β} (xs : List α) (hl : xs.length ≤ 255) (hf : ∀ x ∈ xs, ∀ r, f (enc x ++ r) = (g x, r)) (r : List UInt8) :
    listI f (encB xs.length :: (xs.flatMap enc ++ r)) = (xs.map g, r) := by
  unfold listI
  rw [num_enc (by omega)]
  simp only [Int.toNat_natCast]
  exact read_all xs hf r
def bareP (x : PartD) : PartD := ⟨noName, 0, 0, x.action, x.regs⟩
def bareC (x : ChanD) : ChanD := ⟨noName, x.source, x.target, x.kind, x.size, x.depth⟩
def regR (r : RegD) : Prop := (0 ≤ r.page ∧ r.page ≤ 255) ∧ (0 ≤ r.pages ∧ r.pages ≤ 255) ∧ 0 ≤ r.rights ∧ r.rights ≤ 255
theorem reg_enc {x : RegD} (h : regR x) (r : List UInt8) : regI (encReg x ++ r) = (x, r) := by
  obtain ⟨h1, h2, h3⟩ := h
  unfold regI encReg
  simp only [List.cons_append, List.nil_append]
  rw [num_enc h1]
  simp only []
  rw [num_enc h2]
  simp only []
  rw [num_enc h3]
  simp only []
  cases x
  simp only [] at h1 h2 h3 ⊢
  rw [Int.toNat_of_nonneg h1.1, Int.toNat_of_nonneg h2.1, Int.toNat_of_nonneg h3.1]
theorem part_enc {x : PartD} (ha : 0 ≤ x.action ∧ x.action ≤ 255) (hl : x.regs.length ≤ 255) (hr : ∀ r ∈ x.regs, regR r) (r : List UInt8) : partI (encPart x ++ r) = (bareP x, r) := by
  unfold partI encPart
  simp only [List.cons_append]
  rw [num_enc ha]
  simp only []
  have := list_all (f := regI) (enc := encReg) (g := id) x.regs hl (fun y hy r => reg_enc (hr y hy) r) r
  unfold regsI
  rw [this]
  simp only [List.map_id]
  unfold bareP
  rw [Int.toNat_of_nonneg ha.1]
def chanR (x : ChanD) : Prop := (0 ≤ x.source ∧ x.source ≤ 255) ∧ (0 ≤ x.target ∧ x.target ≤ 255) ∧ (0 ≤ x.kind ∧ x.kind ≤ 255) ∧ (0 ≤ x.size ∧ x.size ≤ 255) ∧ 0 ≤ x.depth ∧ x.depth ≤ 255
theorem chan_enc {x : ChanD} (h : chanR x) (r : List UInt8) : chanI (encChan x ++ r) = (bareC x, r) := by
  obtain ⟨h1, h2, h3, h4, h5⟩ := h
  unfold chanI encChan
  simp only [List.cons_append, List.nil_append]
  rw [num_enc h1]
  simp only []
  rw [num_enc h2]
  simp only []
  rw [num_enc h3]
  simp only []
  rw [num_enc h4]
  simp only []
  rw [num_enc h5]
  simp only []
  unfold bareC
  rw [Int.toNat_of_nonneg h1.1, Int.toNat_of_nonneg h2.1, Int.toNat_of_nonneg h3.1, Int.toNat_of_nonneg h4.1, Int.toNat_of_nonneg h5.1]
theorem plan_enc (pl : List Int) (hl : pl.length ≤ 255) (h : ∀ x ∈ pl, -1 ≤ x ∧ x ≤ 254) (r : List UInt8) : planI (encPlan pl ++ r) = (pl, r) := by
  have e : pl.map (fun x => encB (1 + x)) = pl.flatMap fun x => [encB (1 + x)] := by
    induction pl with
    | nil => rfl
    | cons x l ih => rw [List.map_cons, List.flatMap_cons, ih (by rw [List.length_cons] at hl; omega) fun y hy => h y (by simp [hy])]; rfl
  unfold encPlan
  rw [List.cons_append, e]
  have := list_all (f := tickI) (enc := fun x => [encB (1 + x)]) (g := id) pl hl (fun y hy r => by
    have hy := h y hy
    show tickI (encB (1 + y) :: r) = _
    unfold tickI
    rw [num_enc (by omega)]
    simp only [id]
    congr 1
    omega) r
  unfold planI
  rw [this, List.map_id]
theorem regB_R {r : RegD} (h : regB r = true) : regR r := by
  unfold regB at h
  simp only [decide_eq_true_eq] at h
  unfold regR
  omega
structure NumsR (D : ManD) : Prop where
  part : ∀ x ∈ D.parts, (0 ≤ x.action ∧ x.action ≤ 255) ∧ x.regs.length ≤ 255 ∧ ∀ r ∈ x.regs, regR r
  chan : ∀ x ∈ D.chans, chanR x
  pl : D.parts.length ≤ 255
  cl : D.chans.length ≤ 255
theorem part_good {D : ManD} (hz : checkF D = 0) {k : Nat} (hk : k < D.parts.length) : (1 ≤ D.parts[k].action ∧ D.parts[k].action ≤ 3) ∧ RegsOK D.parts[k].regs ∧ D.parts[k].regs.length ≤ 4 ∧ (1 ≤ D.parts[k].duration ∧ 1 ≤ D.parts[k].period ∧ D.parts[k].period ≤ D.frame) := by
  obtain ⟨h1, h2, h3, h4, h5, h6⟩ := check_ok hz
  obtain ⟨h7, h⟩ := h5 k hk
  unfold partErr at h
  split at h
  · cases h
  split at h
  · cases h
  split at h
  · cases h
  split at h
  · cases h
  split at h
  · cases h
  rename_i a b c d e
  refine ⟨by omega, (regsF_iff _).1 (by simpa using e), h7, by omega⟩
theorem nums_good {D : ManD} (hz : checkF D = 0) : NumsR D := by
  obtain ⟨h1, h2, h3, h4, h5, h6⟩ := check_ok hz
  refine ⟨fun x hx => ?_, fun x hx => ?_, by omega, by omega⟩
  · obtain ⟨k, hk, rfl⟩ := List.getElem_of_mem hx
    obtain ⟨ha, hb, hc, _⟩ := part_good hz hk
    exact ⟨by omega, by omega, fun r hr => regB_R (hb.1 r hr)⟩
  · obtain ⟨k, hk, rfl⟩ := List.getElem_of_mem hx
    have := chanErr_ok (h6 k hk) (by omega)
    unfold chanR
    omega
theorem planF_in {D : ManD} : ∀ x ∈ planF D, -1 ≤ x ∧ x < D.parts.length := by
  intro x hx
  obtain ⟨i, hi, rfl⟩ := List.getElem_of_mem hx
  have hl : (planF D).length = D.frame.toNat := (planN_len D.parts D.frame.toNat).1
  have h1 : (planF D).getD i 0 = tickF D.parts i := plan_at D.parts D.frame.toNat i (by omega)
  have h2 := tick_in D.parts i
  rw [List.getD, List.getElem?_eq_getElem hi, Option.getD_some] at h1
  rw [h1]; exact h2
theorem img_read {D : ManD} (hz : checkF D = 0) : (numI (imgF D)).1 = 255 ∧ (r1 (imgF D)).1 = planF D ∧ (r2 (imgF D)).1 = D.parts.map bareP ∧ r3 (imgF D) = (D.chans.map bareC, sumB (sumL (bodyL D (planF D)))) := by
  have hn := nums_good hz
  obtain ⟨h1, h2, h3, h4, _⟩ := check_ok hz
  have hl : (planF D).length = D.frame.toNat := (planN_len D.parts D.frame.toNat).1
  have e : imgF D = 255 :: (encPlan (planF D) ++ (encParts D.parts ++ (encChans D.chans ++ sumB (sumL (bodyL D (planF D)))))) := by
    unfold imgF imgL sealL
    show bodyL D (planF D) ++ _ = _
    conv => lhs; lhs; unfold bodyL
    simp only [List.cons_append, List.append_assoc]
  have e0 : (numI (imgF D)).2 = encPlan (planF D) ++ (encParts D.parts ++ (encChans D.chans ++ sumB (sumL (bodyL D (planF D))))) := by rw [e]; rfl
  have e1 : r1 (imgF D) = (planF D, encParts D.parts ++ (encChans D.chans ++ sumB (sumL (bodyL D (planF D))))) := by
    unfold r1
    rw [e0, plan_enc _ (by omega) fun x hx => by have := planF_in x hx; omega]
  have e2 : r2 (imgF D) = (D.parts.map bareP, encChans D.chans ++ sumB (sumL (bodyL D (planF D)))) := by
    unfold r2
    rw [e1]
    simp only []
    unfold encParts
    rw [List.cons_append]
    exact list_all (f := partI) (enc := encPart) (g := bareP) D.parts hn.pl (fun x hx r => part_enc (hn.part x hx).1 (hn.part x hx).2.1 (hn.part x hx).2.2 r) _
  refine ⟨by rw [e]; rfl, by rw [e1], by rw [e2], ?_⟩
  unfold r3
  rw [e2]
  simp only []
  unfold encChans
  rw [List.cons_append]
  exact list_all (f := chanI) (enc := encChan) (g := bareC) D.chans hn.cl (fun x hx r => chan_enc (hn.chan x hx) r) _

/- its numbers, with something in the place of what is left out, are right -/
theorem countP_cons (x : Int) (pl : List Int) (i : Nat) : countP (x :: pl) i = countP pl i + if x = (i : Int) then 1 else 0 := by
  unfold countP
  rw [List.filter_cons]
  by_cases h : x = (i : Int)
  · rw [if_pos (by simp [h]), if_pos h, List.length_cons]; omega
  · rw [if_neg (by simp [h]), if_neg h]; omega
def cntS (pl : List Int) (j : Nat) : Nat → Int
  | 0 => 0
  | n + 1 => countP pl j + cntS pl (j + 1) n
theorem cntS_cons (x : Int) (pl : List Int) : ∀ n j, cntS (x :: pl) j n ≤ cntS pl j n + (if (j : Int) ≤ x then 1 else 0)
  | 0, j => by simp only [cntS]; split <;> omega
  | n + 1, j => by
    have h := cntS_cons x pl n (j + 1)
    simp only [cntS]
    rw [countP_cons]
    split at h <;> split <;> split <;> omega
theorem cntS_le : ∀ (pl : List Int) (j n : Nat), 0 ≤ cntS pl j n ∧ cntS pl j n ≤ pl.length
  | [], j, n => by
    have : ∀ n j, cntS [] j n = 0 := by
      intro n
      induction n with
      | zero => intro j; rfl
      | succ n ih => intro j; simp only [cntS]; rw [ih]; rfl
    rw [this]; simp
  | x :: pl, j, n => by
    have h := cntS_le pl j n
    have h2 := cntS_cons x pl n j
    refine ⟨?_, ?_⟩
    · clear h h2
      induction n generalizing j with
      | zero => simp [cntS]
      | succ n ih =>
        simp only [cntS]
        have := ih (j + 1)
        have h3 : 0 ≤ countP (x :: pl) j := by unfold countP; omega
        omega
    · rw [List.length_cons]
      split at h2 <;> omega
theorem ticks_whole (f : Int) (hf : 1 ≤ f) (pl : List Int) : ∀ (ps : List PartD) (j : Nat), ticksF f (ps.mapIdx fun i x => wholeP f pl (j + i) x) = cntS pl j ps.length
  | [], j => rfl
  | x :: ps, j => by
    rw [List.mapIdx_cons]
    have h := ticks_whole f hf pl ps (j + 1)
    unfold ticksF at h ⊢
    rw [List.map_cons, List.sum_cons, List.length_cons]
    simp only [cntS]
    have e : (List.mapIdx (fun i x => wholeP f pl (j + (i + 1)) x) ps) = List.mapIdx (fun i x => wholeP f pl (j + 1 + i) x) ps := by
      congr 1
      funext i x
      rw [show j + (i + 1) = j + 1 + i by omega]
    rw [e, h]
    congr 1
    show f / f * countP pl (j + 0) = _
    rw [Int.ediv_self (by omega), Int.one_mul, Nat.add_zero]
theorem pages_whole (f : Int) (pl : List Int) : ∀ (ps : List PartD) (j : Nat), pagesF (ps.mapIdx fun i x => wholeP f pl (j + i) x) = pagesF ps
  | [], j => rfl
  | x :: ps, j => by
    rw [List.mapIdx_cons]
    have h := pages_whole f pl ps (j + 1)
    unfold pagesF at h ⊢
    rw [List.map_cons, List.sum_cons, List.map_cons, List.sum_cons]
    have e : (List.mapIdx (fun i x => wholeP f pl (j + (i + 1)) x) ps) = List.mapIdx (fun i x => wholeP f pl (j + 1 + i) x) ps := by
      congr 1
      funext i x
      rw [show j + (i + 1) = j + 1 + i by omega]
    rw [e, h]
    rfl
theorem someN_ok_all : ((List.range 8).all fun i => nameF (110 :: decF i)) = true := by decide
theorem someN_inj_all : ((List.range 8).all fun i => (List.range 8).all fun j => decide (decF i = decF j → i = j)) = true := by decide
theorem someN_ok {i : Nat} (h : i < 8) : nameF (someN i).data.toList = true := by
  unfold someN
  rw [mk_data]
  exact List.all_eq_true.1 someN_ok_all i (List.mem_range.2 h)
theorem someN_ne {i j : Nat} (hi : i < 8) (hj : j < 8) (h : i ≠ j) : ((someN i).toList != (someN j).toList) = true := by
  have h1 := List.all_eq_true.1 someN_inj_all i (List.mem_range.2 hi)
  have h2 := List.all_eq_true.1 h1 j (List.mem_range.2 hj)
  simp only [decide_eq_true_eq] at h2
  simp only [bne_iff_ne, ne_eq]
  intro e
  rw [ByteArray.toList_eq, ByteArray.toList_eq] at e
  unfold someN at e
  rw [mk_data, mk_data] at e
  exact h (h2 (List.cons.inj e).2)
theorem count_some {pl : List Int} {i t : Nat} (ht : t < pl.length) (h : pl[t] = (i : Int)) : 1 ≤ countP pl i := by
  unfold countP
  have : (pl.filter fun x => x == (i : Int)) ≠ [] := List.ne_nil_of_mem (List.mem_filter.2 ⟨List.getElem_mem ht, by simp [h]⟩)
  have := List.length_pos_iff.2 this
  omega
theorem count_le (pl : List Int) (i : Nat) : countP pl i ≤ pl.length := by
  unfold countP
  have := List.length_filter_le (fun x => x == (i : Int)) pl
  omega
theorem cnt_hit {ps : List PartD} {i a : Nat} : ∀ r, 1 ≤ cntQ ps i a r → ∃ t, t < r ∧ tickF ps (a + t) = (i : Int)
  | 0, h => by simp [cntQ] at h
  | r + 1, h => by
    by_cases e : tickF ps (a + r) = (i : Int)
    · exact ⟨r, by omega, e⟩
    · simp only [cntQ] at h
      rw [if_neg e] at h
      obtain ⟨t, h1, h2⟩ := cnt_hit (ps := ps) (i := i) (a := a) r (by omega)
      exact ⟨t, by omega, h2⟩
theorem count_good {D : ManD} (hz : checkF D = 0) {k : Nat} (hk : k < D.parts.length) : 1 ≤ countP (planF D) k := by
  obtain ⟨h1, h2, h3, h4, h5, h6⟩ := check_ok hz
  obtain ⟨_, _, _, hd, hp1, hp2⟩ := part_good hz hk
  have hT := (check_fit hz).1
  have e1 : perF D.parts k = ((D.parts[k].period.toNat : Nat) : Int) := by
    unfold perF
    rw [dif_pos hk]
    omega
  have e2 : durF D.parts k = D.parts[k].duration := by
    unfold durF
    rw [dif_pos hk]
  have h7 := cnt_whole hT hk e1 0
  rw [e2, Nat.zero_mul] at h7
  obtain ⟨t, ht, htk⟩ := cnt_hit _ (by rw [h7]; exact hd)
  rw [Nat.zero_add] at htk
  have hl : (planF D).length = D.frame.toNat := (planN_len D.parts D.frame.toNat).1
  refine count_some (t := t) (by omega) ?_
  have h8 : (planF D).getD t 0 = tickF D.parts t := plan_at D.parts D.frame.toNat t (by omega)
  rw [List.getD, List.getElem?_eq_getElem (by omega), Option.getD_some] at h8
  rw [h8, htk]
end Go.Proofs.YteioennfpkoagaaGreatDoor.C
namespace Go.Proofs.YteioennfpkoagaaGreatDoor.C
open Go.RowKit K

theorem whole_good {D : ManD} (hz : checkF D = 0) : checkF (wholeM (planF D) (D.parts.map bareP) (D.chans.map bareC)) = 0 := by
  obtain ⟨h1, h2, h3, h4, h5, h6⟩ := check_ok hz
  have hl : (planF D).length = D.frame.toNat := (planN_len D.parts D.frame.toNat).1
  have hf : ((planF D).length : Int) = D.frame := by omega
  have hne : 1 ≤ D.parts.length := by
    unfold checkF at hz
    split at hz
    · cases hz
    split at hz
    · cases hz
    · rename_i hm
      rcases Nat.lt_or_ge D.parts.length 1 with h | h
      · exact absurd (many_true (.inl h)) hm
      · exact h
  have hpg : ¬ 64 < pagesF D.parts := by
    unfold checkF at hz
    split at hz
    · cases hz
    split at hz
    · cases hz
    split at hz
    · rename_i h; exact absurd hz h
    split at hz
    · rename_i h; exact absurd hz h
    split at hz
    · cases hz
    split at hz
    · cases hz
    · assumption
  have hpl : ((D.parts.map bareP).mapIdx (wholeP D.frame (planF D))).length = D.parts.length := by simp
  have hcl : ((D.chans.map bareC).mapIdx wholeC).length = D.chans.length := by simp
  have hpk : ∀ k (hk : k < D.parts.length) (h : k < ((D.parts.map bareP).mapIdx (wholeP D.frame (planF D))).length), ((D.parts.map bareP).mapIdx (wholeP D.frame (planF D)))[k] = ⟨someN k, D.frame, countP (planF D) k, D.parts[k].action, D.parts[k].regs⟩ := fun k hk _ => by
    rw [List.getElem_mapIdx, List.getElem_map]; rfl
  have hck : ∀ k (hk : k < D.chans.length) (h : k < ((D.chans.map bareC).mapIdx wholeC).length), ((D.chans.map bareC).mapIdx wholeC)[k] = ⟨someN k, D.chans[k].source, D.chans[k].target, D.chans[k].kind, D.chans[k].size, D.chans[k].depth⟩ := fun k hk _ => by
    rw [List.getElem_mapIdx, List.getElem_map]; rfl
  have htk : ticksF D.frame ((D.parts.map bareP).mapIdx (wholeP D.frame (planF D))) ≤ D.frame := by
    have := ticks_whole D.frame h1 (planF D) (D.parts.map bareP) 0
    simp only [Nat.zero_add] at this
    rw [this]
    have := (cntS_le (planF D) 0 (D.parts.map bareP).length).2
    omega
  have hpg2 : pagesF ((D.parts.map bareP).mapIdx (wholeP D.frame (planF D))) = pagesF D.parts := by
    have := pages_whole D.frame (planF D) (D.parts.map bareP) 0
    simp only [Nat.zero_add] at this
    rw [this]
    unfold pagesF
    rw [List.map_map]
    rfl
  unfold wholeM
  rw [hf]
  generalize (D.parts.map bareP).mapIdx (wholeP D.frame (planF D)) = qs at *
  generalize (D.chans.map bareC).mapIdx wholeC = ds at *
  unfold checkF
  simp only []
  have hmany : manyB ⟨D.frame, qs, ds⟩ = false := by
    unfold manyB wideB
    simp only [Bool.or_eq_false_iff, decide_eq_false_iff_not, List.any_eq_false]
    refine ⟨⟨⟨by omega, by omega⟩, by omega⟩, fun x hx => ?_⟩
    obtain ⟨k, hk, rfl⟩ := List.getElem_of_mem hx
    rw [hpk k (by omega) (by omega)]
    have := (h5 k (by omega)).1
    simp; omega
  have hparts : firstNZ (partAt ⟨D.frame, qs, ds⟩) qs.length = 0 := by
    apply first_zero
    intro k hk
    unfold partAt
    simp only []
    rw [dif_pos hk]
    obtain ⟨ha, hr, _, _⟩ := part_good hz (k := k) (by omega)
    have hc1 := count_good hz (k := k) (by omega)
    have hc2 := count_le (planF D) k
    have hfr : freshP (qs.take k) qs[k] = true := by
      unfold freshP
      rw [List.all_eq_true]
      intro p hp
      obtain ⟨a, ha, e⟩ := List.getElem_of_mem hp
      have ha' : a < k := by simp at ha; omega
      rw [List.getElem_take] at e
      rw [← e, hpk a (by omega) (by omega), hpk k (by omega) (by omega)]
      exact someN_ne (by omega) (by omega) (by omega)
    unfold partErr
    rw [hfr, hpk k (by omega) (by omega)]
    simp only []
    rw [if_neg (by rw [someN_ok (by omega)]; simp), if_neg (by rw [Int.emod_self]; omega), if_neg (by omega), if_neg (by omega), if_neg (by rw [(regsF_iff _).2 hr]; simp)]
  have hchans : firstNZ (chanAt ⟨D.frame, qs, ds⟩) ds.length = 0 := by
    apply first_zero
    intro k hk
    unfold chanAt
    simp only []
    rw [dif_pos hk]
    have hce := h6 k (by omega)
    have hfr : freshC (ds.take k) ds[k] = true := by
      unfold freshC
      rw [List.all_eq_true]
      intro p hp
      obtain ⟨a, ha, e⟩ := List.getElem_of_mem hp
      have ha' : a < k := by simp at ha; omega
      rw [List.getElem_take] at e
      rw [← e, hck a (by omega) (by omega), hck k (by omega) (by omega)]
      exact someN_ne (by omega) (by omega) (by omega)
    unfold chanErr at hce ⊢
    rw [hfr, hck k (by omega) (by omega), hpl]
    simp only []
    rw [if_neg (by rw [someN_ok (by omega)]; simp)]
    split at hce
    · cases hce
    exact hce
  rw [if_neg (by omega), if_neg (by rw [hmany]; decide), if_neg (by rw [hparts]; omega), if_neg (by rw [hchans]; omega), if_neg (by omega), if_neg (by omega)]
theorem acc_img {D : ManD} (hz : checkF D = 0) : accL (imgF D) = true := by
  obtain ⟨h1, h2, h3, h4⟩ := img_read hz
  have hu : usedI (imgF D) = bodyL D (planF D) := by
    unfold usedI
    rw [h4]
    unfold imgF imgL
    rw [sealL_len]
    unfold sealL
    simp only []
    rw [show (sumB (sumL (bodyL D (planF D)))).length = 4 from rfl, Nat.add_sub_cancel, List.take_left]
  unfold accL atSumB rightB strange
  rw [h1, hu, h2, h3, h4]
  simp only [Bool.and_eq_true, decide_eq_true_eq, Bool.not_eq_true', List.any_eq_false]
  refine ⟨trivial, rfl, fun x hx => ?_, whole_good hz⟩
  have := planF_in x hx
  simp only [List.length_map]
  omega
theorem accF_img (D : ManD) (hz : checkF D = 0) : accF (ba (imgF D)) = true := by rw [accF_ba]; exact acc_img hz
theorem accF_cut (D : ManD) (k : Nat) (hz : checkF D = 0) (hk : k < (imgF D).length) : accF (ba ((imgF D).take k)) = false := by rw [accF_ba]; exact acc_cut (acc_img hz) hk
end Go.Proofs.YteioennfpkoagaaGreatDoor.C
namespace Go.Proofs.YteioennfpkoagaaGreatDoor.C
open Go.RowKit K
attribute [local go_sem ↓] Go.wp_at_zero Go.wp_at_succ

section
variable {w : World} {L : Lay} {pl : List Int} {ps : List PartD} {cs : List ChanD} {S : KS} {tm : Nat}
theorem KVs.cPlan (h : KVs w L pl ps cs S tm) : ∃ va cap, L.pv = .slice va pl.length cap ∧ w.cell? ⟨L.kb, 0, none⟩ = some (.slice va pl.length cap) ∧ ∀ t, t < pl.length → ∃ g, va = some ⟨g, 0, none⟩ ∧ w.cell? ⟨g, t, none⟩ = some (.int .i64 (pl.getD t 0)) := by
  obtain ⟨va, cap, e, hr⟩ := h.plan
  refine ⟨va, cap, e, by rw [cell_of_blk h.kerB, ← e]; rfl, fun t ht => ?_⟩
  obtain ⟨g, h1, _, h3⟩ := hr t ht
  exact ⟨g, h1, h3⟩
theorem KVs.cTick (h : KVs w L pl ps cs S tm) : w.cell? ⟨L.kb, 1, none⟩ = some (.int .i64 ((tm % pl.length : Nat) : Int)) := by rw [cell_of_blk h.kerB]; rfl
theorem KVs.cParts (h : KVs w L pl ps cs S tm) : ∃ va cap, w.cell? ⟨L.kb, 2, none⟩ = some (.slice va ps.length cap) ∧ ∀ i, i < ps.length → ∃ g, va = some ⟨g, 0, none⟩ ∧ w.cell? ⟨g, i, none⟩ = some (ptrV (L.pb i)) := by
  obtain ⟨va, cap, e, hr⟩ := h.parts
  refine ⟨va, cap, by rw [cell_of_blk h.kerB, ← e]; rfl, fun t ht => ?_⟩
  obtain ⟨g, h1, _, h3⟩ := hr t ht
  exact ⟨g, h1, h3⟩
theorem KVs.cChans (h : KVs w L pl ps cs S tm) : ∃ va cap, w.cell? ⟨L.kb, 3, none⟩ = some (.slice va cs.length cap) ∧ ∀ i, i < cs.length → ∃ g, va = some ⟨g, 0, none⟩ ∧ w.cell? ⟨g, i, none⟩ = some (ptrV (L.cb i)) := by
  obtain ⟨va, cap, e, hr⟩ := h.chans
  refine ⟨va, cap, by rw [cell_of_blk h.kerB, ← e]; rfl, fun t ht => ?_⟩
  obtain ⟨g, h1, _, h3⟩ := hr t ht
  exact ⟨g, h1, h3⟩
end
section
variable {w : World} {L : Lay} {D : ManD} {S : KS} {pl : List Int} {ps : List PartD} {cs : List ChanD} {tm : Nat}
set_option maxRecDepth 100000 in
set_option maxHeartbeats 1000000 in
theorem has_any (h : KVs w L pl ps cs S tm) (p : Int) (hp : inR p) (_hn : ps.length ≤ 255) :
    Calls Tryz.prog 66 #[ptrV L.kb, .int .i64 p] w fun e w' => e = .returned (.bool (decide (0 ≤ p ∧ p < (ps.length : Int)))) ∧ w' = w := by
  obtain ⟨va, cap, c2, _⟩ := h.cParts
  clear h
  unfold ptrV
  obtain ⟨hp1, hp2⟩ := hp
  generalize L.kb = kb at *
  rcases (show p < 0 ∨ (0 ≤ p ∧ (ps.length : Int) ≤ p) ∨ (0 ≤ p ∧ p < (ps.length : Int)) by omega) with h1 | h1 | h1
  · have e1 : ¬ (0 : Int) ≤ p := by omega
    go_enter Tryz.func66, Tryz.ntmps66
    go_wp2_with fail
    go_ret
    exact ⟨by simp; omega, rfl⟩
  · obtain ⟨e0, e1⟩ := h1
    have e2 : ¬ p < (ps.length : Int) := by omega
    go_enter Tryz.func66, Tryz.ntmps66
    go_wp2_with fail
    go_ret
    exact ⟨by simp [e2], rfl⟩
  · obtain ⟨e0, e1⟩ := h1
    go_enter Tryz.func66, Tryz.ntmps66
    go_wp2_with fail
    go_ret
    exact ⟨by simp [e0, e1], rfl⟩
theorem who_plan (hz : checkF D = 0) : (planF D).length = D.frame.toNat ∧ 1 ≤ (planF D).length ∧ (planF D).length ≤ 240 ∧ (planF D).getD (S.time % (planF D).length) 0 = whoF D S ∧ S.time % (planF D).length < (planF D).length := by
  obtain ⟨h1, h2, h3, h4, _⟩ := check_ok hz
  have e : (planF D).length = D.frame.toNat := (planN_len D.parts D.frame.toNat).1
  have hlt : S.time % D.frame.toNat < D.frame.toNat := Nat.mod_lt _ (by omega)
  refine ⟨e, by omega, by omega, ?_, by rw [e]; exact hlt⟩
  rw [e]
  exact plan_at D.parts D.frame.toNat _ hlt
def ActA (D : ManD) (S : KS) (L : Lay) (p : Int) (e : Ending) : Prop :=
  (turnF D S p ≠ 0 ∧ e = .returned (.tuple #[.pointer none, .int .i64 (turnF D S p)])) ∨ (turnF D S p = 0 ∧ ∃ i : Nat, p = i ∧ i < D.parts.length ∧ e = .returned (.tuple #[ptrV (L.pb i), .int .i64 0]))
set_option maxRecDepth 100000 in
set_option maxHeartbeats 2000000 in
theorem acting_any (hz : checkF D = 0) (h : KVi w L (planF D) D.parts D.chans S) (p : Int) (hp : inR p) :
    Calls Tryz.prog 67 #[ptrV L.kb, .int .i64 p] w fun e w' => ActA D S L p e ∧ Below w.heap.size w w' := by
  have hco := check_ok hz
  have hn : D.parts.length ≤ 8 := hco.2.2.1
  have HHAS : Hid _ := has_any h.s p hp (by omega)
  obtain ⟨hl, hl1, hl2, hwho, hlt⟩ := who_plan (S := S) hz
  obtain ⟨va, cap, _, c0, cp⟩ := h.s.cPlan
  obtain ⟨g, rfl, ct⟩ := cp _ hlt
  rw [hwho] at ct
  have c1 := h.s.cTick
  obtain ⟨vb, capb, c2, cq⟩ := h.s.cParts
  have HPT : Hid (∀ i, i < D.parts.length → w.cell? ⟨L.pb i, 0, none⟩ = some (.bool (S.sts i).stopped)) := fun i hi => by
    have h1 := (h.s.part i _ (List.getElem?_eq_getElem hi)).2
    rw [cell_of_blk h1]; rfl
  have HCQ : Hid _ := cq
  clear cp cq h hco hz hwho
  obtain ⟨n, hnn⟩ : ∃ n, D.parts.length = n := ⟨_, rfl⟩
  generalize hwv : whoF D S = wv at *
  have HWV : Hid (whoF D S = wv) := hwv
  clear hwv
  generalize hk : S.time % (planF D).length = k at *
  clear hk
  generalize (planF D).length = plen at *
  rcases (show (p < 0 ∨ (D.parts.length : Int) ≤ p) ∨ (0 ≤ p ∧ p < (D.parts.length : Int)) by omega) with h1 | ⟨h1, h2⟩
  · have ht : turnF D S p = 19 := by unfold turnF; rw [if_pos h1]
    have hb : decide (0 ≤ p ∧ p < (D.parts.length : Int)) = false := by simp; omega
    have HT : Hid _ := ht
    clear ht hnn
    rw [hb] at HHAS
    go_enter Tryz.func67, Tryz.ntmps67
    unfold ptrV at *
    go_wp2_with fail
    refine Calls.mono HHAS.out ?_
    rintro e w' ⟨rfl, rfl⟩
    go_wp2_with fail
    go_ret2
    exact ⟨.inl ⟨by rw [HT.out]; decide, by rw [HT.out]; rfl⟩, Below.refl _ _⟩
  · obtain ⟨i, rfl⟩ : ∃ i : Nat, p = i := ⟨p.toNat, by omega⟩
    have hi : i < D.parts.length := by omega
    have hb : decide (0 ≤ (i : Int) ∧ (i : Int) < (D.parts.length : Int)) = true := by simp; omega
    rw [hb] at HHAS
    have s0 := HPT.out i hi
    obtain ⟨gb, rfl, cb⟩ := HCQ.out i hi
    have HT : Hid (turnF D S i = if (S.sts i).stopped = true then 20 else if wv ≠ (i : Int) then 21 else 0) := by
      show _ = _
      unfold turnF
      rw [if_neg (by omega), HWV.out, Int.toNat_natCast]
    clear HPT HCQ hb hp hnn
    generalize (S.sts i).stopped = st at *
    have hi0 : (0 : Int) ≤ (i : Int) := by omega
    have hk0 : (0 : Int) ≤ (k : Int) := by omega
    have hk1 : (k : Int) < (plen : Int) := by omega
    unfold ptrV at *
    cases st
    · by_cases hw : wv = (i : Int)
      · subst hw
        go_enter Tryz.func67, Tryz.ntmps67
        go_wp2_with fail
        refine Calls.mono HHAS.out ?_
        rintro e w' ⟨rfl, rfl⟩
        go_wp2_with fail
        go_quiet (fail)
        go_wp2_with fail
        go_ret2
        have ht : turnF D S i = 0 := by rw [HT.out]; simp
        exact ⟨.inr ⟨ht, i, rfl, hi, rfl⟩, below_drewN (Below.refl _ _) _⟩
      · go_enter Tryz.func67, Tryz.ntmps67
        go_wp2_with fail
        refine Calls.mono HHAS.out ?_
        rintro e w' ⟨rfl, rfl⟩
        go_wp2_with fail
        go_quiet (fail)
        go_wp2_with fail
        go_ret2
        have ht : turnF D S i = 21 := by rw [HT.out]; simp [hw]
        exact ⟨.inl ⟨by rw [ht]; decide, by rw [ht]; rfl⟩, below_drewN (Below.refl _ _) _⟩
    · go_enter Tryz.func67, Tryz.ntmps67
      go_wp2_with fail
      refine Calls.mono HHAS.out ?_
      rintro e w' ⟨rfl, rfl⟩
      go_wp2_with fail
      go_ret2
      have ht : turnF D S i = 20 := by rw [HT.out]; simp
      exact ⟨.inl ⟨by rw [ht]; decide, by rw [ht]; rfl⟩, Below.refl _ _⟩
end
end Go.Proofs.YteioennfpkoagaaGreatDoor.C
namespace Go.Proofs.YteioennfpkoagaaGreatDoor.C
open Go.RowKit K
attribute [local go_sem ↓] Go.wp_at_zero Go.wp_at_succ

def hitA (r : RegD) (a : Int) : Prop := 64 * r.page ≤ a ∧ a < 64 * (r.page + r.pages)
instance (r : RegD) (a : Int) : Decidable (hitA r a) := by unfold hitA; exact inferInstance
theorem rights_cons (r : RegD) (rs : List RegD) (a : Int) : rightsF (r :: rs) a = if hitA r a then r.rights else rightsF rs a := rfl
structure RegG (r : RegD) : Prop where
  page : 0 ≤ r.page ∧ r.page ≤ 63
  pages : 1 ≤ r.pages ∧ r.pages ≤ 64
  top : r.page + r.pages ≤ 64
  rights : r.rights = 1 ∨ r.rights = 2
theorem regG_of {r : RegD} (h : regB r = true) : RegG r := by
  unfold regB at h
  simp only [decide_eq_true_eq] at h
  exact ⟨by omega, by omega, by omega, by omega⟩
theorem part_regs {D : ManD} (hz : checkF D = 0) {i : Nat} {x : PartD} (hx : D.parts[i]? = some x) : (1 ≤ x.action ∧ x.action ≤ 3) ∧ RegsOK x.regs ∧ x.regs.length ≤ 4 := by
  obtain ⟨hi, rfl⟩ := List.getElem?_eq_some_iff.1 hx
  obtain ⟨h1, h2⟩ := (check_ok hz).2.2.2.2.1 i hi
  unfold partErr at h2
  split at h2
  · cases h2
  split at h2
  · cases h2
  split at h2
  · cases h2
  split at h2
  · cases h2
  split at h2
  · cases h2
  rename_i a b c d e
  exact ⟨by omega, (regsF_iff _).1 (by simpa using e), h1⟩
section
variable {w : World} {L : Lay} {D : ManD} {S : KS} {pl : List Int} {ps : List PartD} {cs : List ChanD} {tm : Nat}
theorem KVs.cReg (h : KVs w L pl ps cs S tm) {i j : Nat} {x : PartD} {r : RegD} (hx : ps[i]? = some x) (hr : x.regs[j]? = some r) :
    w.cell? ⟨L.rb i j, 0, none⟩ = some (.int .i64 (64 * r.page)) ∧ w.cell? ⟨L.rb i j, 1, none⟩ = some (.slice (some ⟨L.mb i j, 0, none⟩) (64 * r.pages).toNat (L.mc i j)) ∧ w.cell? ⟨L.rb i j, 2, none⟩ = some (.bool (decide (r.rights = 2))) := by
  have h2 := (h.reg i x hx j r hr).2.1
  refine ⟨?_, ?_, ?_⟩ <;> rw [cell_of_blk h2] <;> rfl
set_option maxRecDepth 100000 in
set_option maxHeartbeats 1000000 in
theorem rhas_any (b m c : Nat) (r : RegD) (hg : RegG r) (a : Int) (ha : inR a) (c0 : w.cell? ⟨b, 0, none⟩ = some (.int .i64 (64 * r.page))) (c1 : w.cell? ⟨b, 1, none⟩ = some (.slice (some ⟨m, 0, none⟩) (64 * r.pages).toNat c)) :
    Calls Tryz.prog 125 #[ptrV b, .int .i64 a] w fun e w' => e = .returned (.bool (decide (hitA r a))) ∧ Below w.heap.size w w' := by
  obtain ⟨h1, h2, h3, _⟩ := hg
  obtain ⟨ha1, ha2⟩ := ha
  unfold ptrV
  have e0 : (((64 * r.pages).toNat : Nat) : Int) = 64 * r.pages := by omega
  generalize (64 * r.pages).toNat = ln at *
  rcases (show a < 64 * r.page ∨ (64 * r.page ≤ a ∧ 64 * (r.page + r.pages) ≤ a) ∨ hitA r a by unfold hitA; omega) with h | h | h
  · have e1 : decide (64 * r.page ≤ a) = false := decide_eq_false (by omega)
    have HF : Hid (decide (hitA r a) = false) := decide_eq_false (by unfold hitA; omega)
    go_enter Tryz.func125, Tryz.ntmps125
    go_wp2_with fail
    go_quiet (fail)
    go_wp2_with fail
    go_ret
    exact ⟨by rw [HF.out]; rfl, below_drewN (Below.refl _ _) _⟩
  · obtain ⟨e1, e3⟩ := h
    have e1 : decide (64 * r.page ≤ a) = true := decide_eq_true e1
    have e2 : decide (a < 64 * r.page + 64 * r.pages) = false := decide_eq_false (by omega)
    have HF : Hid (decide (hitA r a) = false) := decide_eq_false (by unfold hitA; omega)
    go_enter Tryz.func125, Tryz.ntmps125
    go_wp2_with fail
    go_quiet (fail)
    go_wp2_with fail
    go_ret
    exact ⟨by rw [HF.out]; rfl, below_drewN (Below.refl _ _) _⟩
  · obtain ⟨e1, e3⟩ := h
    have e2 : decide (a < 64 * r.page + 64 * r.pages) = true := decide_eq_true (by omega)
    have HF : Hid (decide (hitA r a) = true) := decide_eq_true (by unfold hitA; omega)
    have e1 : decide (64 * r.page ≤ a) = true := decide_eq_true e1
    go_enter Tryz.func125, Tryz.ntmps125
    go_wp2_with fail
    go_quiet (fail)
    go_wp2_with fail
    go_ret
    exact ⟨by rw [HF.out]; rfl, below_drewN (Below.refl _ _) _⟩
theorem rights_none {rs : List RegD} {a : Int} (h : ∀ r ∈ rs, RegG r) (h0 : rightsF rs a = 0) : ∀ r ∈ rs, ¬ hitA r a := by
  induction rs with
  | nil => intro r hr; cases hr
  | cons x rs ih =>
    intro r hr
    rw [rights_cons] at h0
    by_cases hx : hitA x a
    · rw [if_pos hx] at h0
      have := (h x (by simp)).rights
      omega
    · rw [if_neg hx] at h0
      rcases List.mem_cons.1 hr with rfl | hr
      · exact hx
      · exact ih (fun y hy => h y (by simp [hy])) h0 r hr
def RegA (L : Lay) (i : Nat) (rs : List RegD) (a : Int) (e : Ending) : Prop :=
  (rightsF rs a = 0 ∧ e = .returned (.pointer none)) ∨ ∃ j r, rs[j]? = some r ∧ hitA r a ∧ rightsF rs a = r.rights ∧ e = .returned (ptrV (L.rb i j))
set_option maxRecDepth 100000 in
set_option maxHeartbeats 2000000 in
theorem regionOf_any (h : KVs w L pl ps cs S tm) {i : Nat} {x : PartD} (hx : ps[i]? = some x) (hok : RegsOK x.regs) (hrl : x.regs.length ≤ 4) (a : Int) (ha : inR a) :
    Calls Tryz.prog 68 #[ptrV (L.pb i), .int .i64 a] w fun e w' => RegA L i x.regs a e ∧ Below w.heap.size w w' := by
  have c3 : w.cell? ⟨L.pb i, 3, none⟩ = some (L.rv i) := by rw [cell_of_blk (h.part i x hx).2]; rfl
  obtain ⟨va, cap, erv, hrow⟩ := h.regs i x hx
  rw [erv] at c3
  have HROW : Hid (∀ j, j < x.regs.length → ∃ g, va = some ⟨g, 0, none⟩ ∧ w.cell? ⟨g, j, none⟩ = some (ptrV (L.rb i j))) := fun j hj => by
    obtain ⟨g, h1, _, h3⟩ := hrow j hj
    exact ⟨g, h1, h3⟩
  have HREG : Hid (∀ j (hj : j < x.regs.length), w.cell? ⟨L.rb i j, 0, none⟩ = some (.int .i64 (64 * x.regs[j].page)) ∧ w.cell? ⟨L.rb i j, 1, none⟩ = some (.slice (some ⟨L.mb i j, 0, none⟩) (64 * x.regs[j].pages).toNat (L.mc i j))) := fun j hj => by
    have := h.cReg hx (List.getElem?_eq_getElem hj)
    exact ⟨this.1, this.2.1⟩
  have HG : Hid (∀ j (hj : j < x.regs.length), RegG x.regs[j]) := fun j hj => regG_of (hok.1 _ (List.getElem_mem hj))
  obtain ⟨rs, hrs⟩ : ∃ rs, x.regs = rs := ⟨_, rfl⟩
  rw [hrs] at hrl HROW HREG c3
  have HG2 : Hid (∀ j (hj : j < rs.length), RegG rs[j]) := fun j hj => by subst hrs; exact HG.out j hj
  rw [hrs]
  clear hrow erv h hok hx hrs HG
  unfold ptrV at *
  generalize L.pb i = pb at *
  go_enter Tryz.func68, Tryz.ntmps68
  go_wp2_with fail
  go_loopw [12] (fun v wr => ∃ (k : Nat), v = .int .i64 k ∧ k ≤ rs.length ∧ Hid (rightsF rs a = rightsF (rs.drop k) a) ∧ Below w.heap.size w wr) (fun v _ => rs.length - (intOf v).toNat)
  case atStart => exact ⟨0, rfl, by omega, rfl, Below.refl _ _⟩
  case round =>
    obtain ⟨k, rfl, hk, HK, hbel⟩ := hrel
    by_cases hlt : k < rs.length
    · have hlt' : (k : Int) < (rs.length : Int) := by omega
      have hk0 : (0 : Int) ≤ (k : Int) := by omega
      obtain ⟨g, rfl, hcell⟩ := HROW.out k hlt
      obtain ⟨r0, r1⟩ := HREG.out k hlt
      have d0 := (hbel.cell (by exact World.block_lt_of_cell? w _ hcell)).trans hcell
      have d1 := (hbel.cell (by exact World.block_lt_of_cell? w _ r0)).trans r0
      have d2 := (hbel.cell (by exact World.block_lt_of_cell? w _ r1)).trans r1
      have HHAS : Hid _ := rhas_any (w := wr) (L.rb i k) (L.mb i k) (L.mc i k) rs[k] (HG2.out k hlt) a ha d1 d2
      have HD : Hid (rightsF (rs.drop k) a = if hitA rs[k] a then rs[k].rights else rightsF (rs.drop (k + 1)) a) := by
        show _ = _
        rw [List.drop_eq_getElem_cons hlt, rights_cons]
      have HAT : Hid (rs[k]? = some rs[k]) := List.getElem?_eq_getElem hlt
      have HBE : Hid (Below w.heap.size w wr) := hbel
      clear hcell r0 r1 d1 d2 hbel
      generalize rs[k] = r at *
      unfold ptrV at HHAS
      go_wp2_with fail
      refine Calls.mono HHAS.out ?_
      rintro e w2 ⟨rfl, hb2⟩
      by_cases hh : hitA r a
      · have HX : Hid (rightsF rs a = r.rights) := by show _ = _; rw [HK.out, HD.out, if_pos hh]
        have e1 : decide (hitA r a) = true := decide_eq_true hh
        rw [e1]
        go_wp2_with fail
        go_ret
        exact ⟨.inr ⟨k, r, HAT.out, hh, HX.out, rfl⟩, HBE.out.trans (hb2.mono HBE.out.size)⟩
      · have HX : Hid (rightsF rs a = rightsF (rs.drop (k + 1)) a) := by show _ = _; rw [HK.out, HD.out, if_neg hh]
        have e1 : decide (hitA r a) = false := decide_eq_false hh
        rw [e1]
        go_wp2_with fail
        exact ⟨⟨k + 1, by go_num, by omega, HX, HBE.out.trans (hb2.mono HBE.out.size)⟩, by simp [intOf]; omega⟩
    · have hlt' : ¬ (k : Int) < (rs.length : Int) := by omega
      go_wp2_with fail
      go_ret
      refine ⟨.inl ⟨?_, rfl⟩, hbel⟩
      rw [HK.out, List.drop_of_length_le (by omega)]
      rfl
end
end Go.Proofs.YteioennfpkoagaaGreatDoor.C
namespace Go.Proofs.YteioennfpkoagaaGreatDoor.C
open Go.RowKit K
attribute [local go_sem ↓] Go.wp_at_zero Go.wp_at_succ

/- a new block -/
structure NewB (w w' : World) (b : Nat) (o : Obj) : Prop where
  bel : Below w.heap.size w w'
  at' : w'.heap[b]? = some o
  lo : w.heap.size ≤ b
theorem NewB.lt {w w' : World} {b : Nat} {o : Obj} (h : NewB w w' b o) : b < w'.heap.size := lt_of_blk h.at'
theorem NewB.two (w : World) (o1 o2 : Obj) : NewB w ((w.alloc o1).alloc o2) (w.heap.size + 1) o2 := by
  have h := heap_new (w.alloc o1) o2
  have e : (w.alloc o1).heap.size = w.heap.size + 1 := by simp
  rw [e] at h
  exact ⟨(newB w o1).trans ((newB (w.alloc o1) o2).mono (newB w o1).size), h, by omega⟩
theorem made_bytes (n : Nat) : madeCells #[Value.int .u8 0] n = (byC (List.replicate n 0)).toArray := by
  apply Array.ext_getElem?
  intro i
  simp only [madeCells, byC, List.getElem?_toArray, List.getElem?_map, List.getElem?_replicate, Array.getElem?_map, Array.getElem?_range]
  by_cases h : i < n
  · have e : i % 1 = 0 := Nat.mod_one i
    simp [h, e]
  · simp [h]

theorem make_bytes (w : World) (c : Nat) (hc : c ≤ 2000000) :
    (Instr.makeSlice 63 (.int .i64 (c : Int)) (.int .i64 (c : Int))).run Tryz.prog w = .ok (.slice (some ⟨w.heap.size, 0, none⟩) c c) (w.alloc (.cells (byC (List.replicate c 0)).toArray 5)) := by
  obtain ⟨i, hi, hz, hs, hby⟩ := parts_of infoByte
  have hbi : (i.bytes : Int) * (c : Int) ≤ 281474976710656 := by rw [hby]; omega
  have hr := run_make (P := Tryz.prog) w 63 5 i (.int .u8 0) Tryz.underlying63 hi hz .i64 .i64 c c (by omega) (by omega) hbi (by omega)
  simp only [Int.toNat_natCast, hs, Nat.mul_one] at hr
  rw [show (Value.int IntKind.u8 0).cells = #[Value.int .u8 0] from rfl, made_bytes] at hr
  exact hr
set_option maxRecDepth 100000 in
set_option maxHeartbeats 1000000 in
theorem newChannel_any (w : World) (y : ChanD) :
    Calls Tryz.prog 122 #[.agg #[.string y.name, .int .i64 y.source, .int .i64 y.target, .int .i64 y.kind, .int .i64 y.size, .int .i64 y.depth]] w fun e w' => ∃ b, e = .returned (ptrV b) ∧ NewB w w' b (.cells (chanB y (.slice none 0 0) 0) 153) := by
  unfold ptrV chanB
  by_cases h : y.kind = 1
  · have e1 : decide (y.kind = 1) = true := decide_eq_true h
    rw [e1]
    go_enter Tryz.func122, Tryz.ntmps122
    go_wp2_with fail
    go_ret
    exact ⟨_, rfl, NewB.two w _ _⟩
  · have e1 : decide (y.kind = 1) = false := decide_eq_false h
    have e2 : (y.kind == 1) = false := by simpa using h
    rw [e1]
    go_enter Tryz.func122, Tryz.ntmps122
    go_wp2_with fail
    go_ret
    exact ⟨_, rfl, NewB.two w _ _⟩
set_option maxRecDepth 100000 in
set_option maxHeartbeats 1000000 in
theorem newRegion_any (w : World) (r : RegD) (hg : RegG r) :
    Calls Tryz.prog 190 #[.agg #[.int .i64 r.page, .int .i64 r.pages, .int .i64 r.rights]] w fun e w' => ∃ b m, e = .returned (ptrV b) ∧ NewB w w' b (.cells #[.int .i64 (64 * r.page), .slice (some ⟨m, 0, none⟩) (64 * r.pages).toNat (64 * r.pages).toNat, .bool (decide (r.rights = 2))] 147) ∧ NewB w w' m (.cells (byC (List.replicate (64 * r.pages).toNat 0)).toArray 5) ∧ b ≠ m := by
  obtain ⟨h1, h2, h3, h4⟩ := hg
  have e0 : (((64 * r.pages).toNat : Nat) : Int) = r.pages * 64 := by omega
  have e1 : r.page * 64 = 64 * r.page := by omega
  obtain ⟨ln, hln⟩ : ∃ ln, (64 * r.pages).toNat = ln := ⟨_, rfl⟩
  rw [hln] at e0 ⊢
  have hw1 : IntKind.i64.wrap (r.page * 64) = 64 * r.page := by rw [e1]; exact wrap_small _ (by omega) (by omega)
  have hw2 : IntKind.i64.wrap (r.pages * 64) = (ln : Int) := by rw [← e0]; exact wrap_small _ (by omega) (by omega)
  have hmk := make_bytes (w.alloc (.cells #[.int .i64 r.page, .int .i64 r.pages, .int .i64 r.rights] 90)).drew ln (by omega)
  have hsz : (w.alloc (.cells #[.int .i64 r.page, .int .i64 r.pages, .int .i64 r.rights] 90)).drew.heap.size = w.heap.size + 1 := by simp
  rw [hsz] at hmk
  have y0 : (w.alloc (.cells #[.int .i64 r.page, .int .i64 r.pages, .int .i64 r.rights] 90)).cell? ⟨w.heap.size, 0, none⟩ = some (.int .i64 r.page) := by rw [cell_of_blk (heap_new w _)]; rfl
  have y1 : (w.alloc (.cells #[.int .i64 r.page, .int .i64 r.pages, .int .i64 r.rights] 90)).cell? ⟨w.heap.size, 1, none⟩ = some (.int .i64 r.pages) := by rw [cell_of_blk (heap_new w _)]; rfl
  have y2 : (w.alloc (.cells #[.int .i64 r.page, .int .i64 r.pages, .int .i64 r.rights] 90)).cell? ⟨w.heap.size, 2, none⟩ = some (.int .i64 r.rights) := by rw [cell_of_blk (heap_new w _)]; rfl
  have z0 : ∀ o, ((w.alloc (.cells #[.int .i64 r.page, .int .i64 r.pages, .int .i64 r.rights] 90)).alloc o).cell? ⟨w.heap.size, 0, none⟩ = some (.int .i64 r.page) := fun o => by rw [cell_of_blk (heap_old _ o (heap_new w _))]; rfl
  have z2 : ∀ o, ((w.alloc (.cells #[.int .i64 r.page, .int .i64 r.pages, .int .i64 r.rights] 90)).alloc o).cell? ⟨w.heap.size, 2, none⟩ = some (.int .i64 r.rights) := fun o => by rw [cell_of_blk (heap_old _ o (heap_new w _))]; rfl
  have HFB : Hid (NewB w (((w.alloc (.cells #[.int .i64 r.page, .int .i64 r.pages, .int .i64 r.rights] 90)).alloc (.cells (byC (List.replicate ln 0)).toArray 5)).alloc (.cells #[.int .i64 (64 * r.page), .slice (some ⟨w.heap.size + 1, 0, none⟩) ln ln, .bool (decide (r.rights = 2))] 147)).drew (w.heap.size + 2) (.cells #[.int .i64 (64 * r.page), .slice (some ⟨w.heap.size + 1, 0, none⟩) ln ln, .bool (decide (r.rights = 2))] 147)) := by
    have h := heap_new ((w.alloc (.cells #[.int .i64 r.page, .int .i64 r.pages, .int .i64 r.rights] 90)).alloc (.cells (byC (List.replicate ln 0)).toArray 5)) (.cells #[.int .i64 (64 * r.page), .slice (some ⟨w.heap.size + 1, 0, none⟩) ln ln, .bool (decide (r.rights = 2))] 147)
    have e : ((w.alloc (.cells #[.int .i64 r.page, .int .i64 r.pages, .int .i64 r.rights] 90)).alloc (.cells (byC (List.replicate ln 0)).toArray 5)).heap.size = w.heap.size + 2 := by simp
    rw [e] at h
    exact ⟨below_drewN ((NewB.two w _ _).bel.trans ((newB _ _).mono (NewB.two w _ _).bel.size)) 1, h, by omega⟩
  have HFM : Hid (NewB w (((w.alloc (.cells #[.int .i64 r.page, .int .i64 r.pages, .int .i64 r.rights] 90)).alloc (.cells (byC (List.replicate ln 0)).toArray 5)).alloc (.cells #[.int .i64 (64 * r.page), .slice (some ⟨w.heap.size + 1, 0, none⟩) ln ln, .bool (decide (r.rights = 2))] 147)).drew (w.heap.size + 1) (.cells (byC (List.replicate ln 0)).toArray 5)) := ⟨HFB.out.bel, heap_old _ _ (NewB.two w _ _).at', by omega⟩
  unfold ptrV
  rcases h4 with h4 | h4
  · have e2 : (r.rights == 2) = false := by simp [h4]
    have e3 : decide (r.rights = 2) = false := decide_eq_false (by omega)
    rw [e3] at HFB HFM ⊢
    clear e0 e1 hsz h4
    go_enter Tryz.func190, Tryz.ntmps190
    go_upto_region 1 with fail
    go_region_law (fail)
    all_goals go_wp2_with fail
    all_goals go_ret
    all_goals exact ⟨_, _, rfl, HFB.out, HFM.out, by omega⟩
  · have e2 : (r.rights == 2) = true := by simp [h4]
    have e3 : decide (r.rights = 2) = true := decide_eq_true h4
    rw [e3] at HFB HFM ⊢
    clear e0 e1 hsz h4
    go_enter Tryz.func190, Tryz.ntmps190
    go_upto_region 1 with fail
    go_region_law (fail)
    all_goals go_wp2_with fail
    all_goals go_ret
    all_goals exact ⟨_, _, rfl, HFB.out, HFM.out, by omega⟩
set_option maxRecDepth 100000 in
set_option maxHeartbeats 1000000 in
theorem reactionOf_any (w : World) (pb : Nat) (a : Int) (iv : Value) (ha : 1 ≤ a ∧ a ≤ 3) (hiv : ∃ va n c, iv = .slice va n c) :
    Calls Tryz.prog 191 #[ptrV pb, .int .i64 a, iv] w fun e w' => e = .returned (if a = 2 then .func (Fn.func 231) #[] #[ptrV w.heap.size] else if a = 3 then .func (Fn.func 232) #[] #[ptrV w.heap.size, ptrV (w.heap.size + 1)] else .func (Fn.func 234) #[] #[]) ∧ w' = (w.alloc (.cells #[ptrV pb] 137)).alloc (.cells #[iv] 139) := by
  obtain ⟨va, n, c, rfl⟩ := hiv
  unfold ptrV
  rcases (show a = 1 ∨ a = 2 ∨ a = 3 by omega) with rfl | rfl | rfl
  · go_enter Tryz.func191, Tryz.ntmps191
    go_wp2_with fail
    go_ret
    exact ⟨rfl, rfl⟩
  · go_enter Tryz.func191, Tryz.ntmps191
    go_wp2_with fail
    go_ret
    exact ⟨rfl, rfl⟩
  · go_enter Tryz.func191, Tryz.ntmps191
    go_wp2_with fail
    go_ret
    exact ⟨rfl, rfl⟩
end Go.Proofs.YteioennfpkoagaaGreatDoor.C
