import Derived.Test.YteioennfpkoagabGreatDoorH24
namespace Go.Proofs.YteioennfpkoagabGreatDoor.C
open Go.RowKit K
attribute [local go_sem ↓] Go.wp_at_zero Go.wp_at_succ

/- no more is read than this -/
def Cons {α : Type} (f : List UInt8 → α × List UInt8) (c : Nat) : Prop := ∀ l, l.length ≤ (f l).2.length + c
theorem cons_num : Cons numI 1 := fun l => by cases l <;> simp [numI]
theorem cons_readN {α : Type} {f : List UInt8 → α × List UInt8} {c : Nat} (h : Cons f c) : ∀ n, Cons (readN f n) (n * c)
  | 0, l => by simp [readN]
  | n + 1, l => by
    have h1 := h l
    have h2 := cons_readN h n (f l).2
    show l.length ≤ (readN f n (f l).2).2.length + (n + 1) * c
    rw [Nat.succ_mul]
    omega
theorem cons_list {α : Type} {f : List UInt8 → α × List UInt8} {c : Nat} (h : Cons f c) : Cons (listI f) (1 + 255 * c) := fun l => by
  have h1 := cons_num l
  have h2 := cons_readN h (numI l).1 (numI l).2
  have h3 : (numI l).1 * c ≤ 255 * c := Nat.mul_le_mul_right c (num_lt l)
  show l.length ≤ (readN f (numI l).1 (numI l).2).2.length + _
  omega
theorem cons_tick : Cons tickI 1 := cons_num
theorem cons_reg : Cons regI 3 := fun l => by
  have h1 := cons_num l
  have h2 := cons_num (numI l).2
  have h3 := cons_num (numI (numI l).2).2
  show l.length ≤ (numI (numI (numI l).2).2).2.length + 3
  omega
theorem cons_part : Cons partI (1 + (1 + 255 * 3)) := fun l => by
  have h1 := cons_num l
  have h2 := cons_list cons_reg (numI l).2
  show l.length ≤ (listI regI (numI l).2).2.length + _
  omega
theorem cons_chan : Cons chanI 5 := fun l => by
  have h1 := cons_num l
  have h2 := cons_num (numI l).2
  have h3 := cons_num (numI (numI l).2).2
  have h4 := cons_num (numI (numI (numI l).2).2).2
  have h5 := cons_num (numI (numI (numI (numI l).2).2).2).2
  show l.length ≤ (numI (numI (numI (numI (numI l).2).2).2).2).2.length + 5
  omega
theorem cons_r3 (l : List UInt8) : l.length ≤ (r3 l).2.length + 1000000 := by
  have h1 := cons_num l
  have h2 := cons_list cons_tick (numI l).2
  have h3 := cons_list cons_part (r1 l).2
  have h4 := cons_list cons_chan (r2 l).2
  have e1 : (listI tickI (numI l).2).2 = (r1 l).2 := rfl
  have e2 : (listI partI (r1 l).2).2 = (r2 l).2 := rfl
  have e3 : (listI chanI (r2 l).2).2 = (r3 l).2 := rfl
  rw [e1] at h2
  rw [e2] at h3
  rw [e3] at h4
  omega
theorem readN_len {α : Type} (f : List UInt8 → α × List UInt8) : ∀ n l, (readN f n l).1.length = n
  | 0, l => rfl
  | n + 1, l => by
    show ((f l).1 :: (readN f n (f l).2).1).length = n + 1
    rw [List.length_cons, readN_len f n]
theorem list_len {α : Type} (f : List UInt8 → α × List UInt8) (l : List UInt8) : (listI f l).1.length ≤ 255 := by
  unfold listI
  rw [readN_len]
  exact num_lt l
theorem readN_mem {α : Type} {f : List UInt8 → α × List UInt8} {P : α → Prop} (h : ∀ l, P (f l).1) : ∀ n l, ∀ x ∈ (readN f n l).1, P x
  | 0, l, x, hx => by cases hx
  | n + 1, l, x, hx => by
    rcases List.mem_cons.1 hx with rfl | hx
    · exact h l
    · exact readN_mem h n _ x hx
theorem parts_few (l : List UInt8) : ∀ x ∈ (r2 l).1, x.regs.length ≤ 255 := readN_mem (P := fun x : PartD => x.regs.length ≤ 255) (fun _l => list_len regI _) _ _
/- where the reader stands when all is read -/
theorem used_at {s : ByteArray} {k : Nat} (hk : k ≤ s.size) (hd : s.data.toList.drop k = (r3 s.data.toList).2) (h1 : (numI s.data.toList).1 = 255) : 1 ≤ k ∧ k ≤ 1000000 ∧ s.data.toList.take k = usedI s.data.toList := by
  have hl : s.data.toList.length = s.size := by simp
  have e : (r3 s.data.toList).2.length = s.size - k := by rw [← hd, List.length_drop, hl]
  have hc := cons_r3 s.data.toList
  have hu : usedI s.data.toList = s.data.toList.take k := by
    unfold usedI
    rw [e, hl]
    congr 1
    omega
  refine ⟨?_, by omega, hu.symm⟩
  rcases Nat.eq_zero_or_pos k with h0 | h0
  · exfalso
    subst h0
    have hne : s.data.toList ≠ [] := fun e => by rw [e] at h1; simp [numI] at h1
    obtain ⟨x, hx⟩ := rdr_chans.suf (r2 s.data.toList).2
    obtain ⟨x2, hx2⟩ := rdr_parts.suf (r1 s.data.toList).2
    obtain ⟨x3, hx3⟩ := rdr_plan.suf (numI s.data.toList).2
    have l1 := congrArg List.length hx
    have l2 := congrArg List.length hx2
    have l3 := congrArg List.length hx3
    rw [List.length_append] at l1 l2 l3
    have e1 : (chansI (r2 s.data.toList).2).2 = (r3 s.data.toList).2 := rfl
    have e2 : (partsI (r1 s.data.toList).2).2 = (r2 s.data.toList).2 := rfl
    have e3 : (planI (numI s.data.toList).2).2 = (r1 s.data.toList).2 := rfl
    rw [e1] at l1
    rw [e2] at l2
    rw [e3] at l3
    cases hc2 : s.data.toList with
    | nil => exact hne hc2
    | cons b l =>
      have e4 : (numI s.data.toList).2.length = s.data.toList.length - 1 := by rw [hc2]; simp [numI]
      have : 0 < s.data.toList.length := by rw [hc2]; simp
      omega
  · exact h0
set_option maxRecDepth 100000 in
set_option maxHeartbeats 8000000 in
theorem iread_any (w : World) (s : ByteArray) (hs : s.size ≤ 9223372036854775807) (htb : TB w) :
    Calls Tryz.prog 28 #[.string s] w fun e w' => Below w.heap.size w w' ∧ ((accF s = false ∧ e = .returned (.tuple #[.agg #[.int .i64 0, .slice none 0 0, .slice none 0 0], .slice none 0 0, .bool false])) ∨
      (accF s = true ∧ ∃ pv cv qv ys, e = .returned (.tuple #[.agg #[.int .i64 ((r1 s.data.toList).1.length : Int), pv, cv], qv, .bool true]) ∧ ys.map Prod.fst = (r2 s.data.toList).1 ∧ PA w' w.heap.size pv ys ∧ w'.ownsRow w.heap.size 58 6 cv (r3 s.data.toList).1.length (cC (r3 s.data.toList).1) ∧ w'.ownsRow w.heap.size 3 1 qv (r1 s.data.toList).1.length (intsC (r1 s.data.toList).1))) := by
  have HTB : Hid (TB w) := htb
  clear htb
  go_enter Tryz.func28, Tryz.ntmps28
  go_wp2_with fail
  have hF0 : Below w.heap.size w ((w.alloc (.cells #[.int .i64 0, .slice none 0 0, .slice none 0 0] 31)).alloc (.cells #[.string s, .int .i64 0] 115)) := (newB w _).trans ((newB (w.alloc (.cells #[.int .i64 0, .slice none 0 0, .slice none 0 0] 31)) _).mono (newB w _).size)
  have hres0 : ((w.alloc (.cells #[.int .i64 0, .slice none 0 0, .slice none 0 0] 31)).alloc (.cells #[.string s, .int .i64 0] 115)).heap[w.heap.size]? = some (.cells #[.int .i64 0, .slice none 0 0, .slice none 0 0] 31) := heap_old _ _ (heap_new w _)
  have hrd0 : RD ((w.alloc (.cells #[.int .i64 0, .slice none 0 0, .slice none 0 0] 31)).alloc (.cells #[.string s, .int .i64 0] 115)) (w.heap.size + 1) s s.data.toList := ⟨0, Nat.zero_le _, rfl, by
    have h := heap_new (w.alloc (.cells #[.int .i64 0, .slice none 0 0, .slice none 0 0] 31)) (.cells #[.string s, .int .i64 0] 115)
    have e : (w.alloc (.cells #[.int .i64 0, .slice none 0 0, .slice none 0 0] 31)).heap.size = w.heap.size + 1 := by simp
    rw [e] at h
    exact h⟩
  have hsz0 : ((w.alloc (.cells #[.int .i64 0, .slice none 0 0, .slice none 0 0] 31)).alloc (.cells #[.string s, .int .i64 0] 115)).heap.size = w.heap.size + 2 := by simp
  have HF0 : Hid (Below w.heap.size w ((w.alloc (.cells #[.int .i64 0, .slice none 0 0, .slice none 0 0] 31)).alloc (.cells #[.string s, .int .i64 0] 115))) := hF0
  have HRES0 : Hid (((w.alloc (.cells #[.int .i64 0, .slice none 0 0, .slice none 0 0] 31)).alloc (.cells #[.string s, .int .i64 0] 115)).heap[w.heap.size]? = some (.cells #[.int .i64 0, .slice none 0 0, .slice none 0 0] 31)) := hres0
  have HRD0 : Hid (RD ((w.alloc (.cells #[.int .i64 0, .slice none 0 0, .slice none 0 0] 31)).alloc (.cells #[.string s, .int .i64 0] 115)) (w.heap.size + 1) s s.data.toList) := hrd0
  clear hF0 hres0 hrd0
  generalize (w.alloc (.cells #[.int .i64 0, .slice none 0 0, .slice none 0 0] 31)).alloc (.cells #[.string s, .int .i64 0] 115) = W0 at *
  have HFIN : Hid (∀ V, Frm (isB (w.heap.size + 1)) W0 V → Below w.heap.size w V ∧ V.heap[w.heap.size]? = some (.cells #[.int .i64 0, .slice none 0 0, .slice none 0 0] 31)) := fun V hV => ⟨HF0.out.trans (hV.below (by omega) (fun k hk => by unfold isB at hk; omega)), (hV.block _ (by omega) (fun e => by unfold isB at e; omega)).trans HRES0.out⟩
  have HBAD : Hid (∀ V, Frm (isB (w.heap.size + 1)) W0 V → accF s = false → (Below w.heap.size w (((V.setCell ⟨w.heap.size, 0, none⟩ (.int .i64 0)).setCell ⟨w.heap.size, 1, none⟩ (.slice none 0 0)).setCell ⟨w.heap.size, 2, none⟩ (.slice none 0 0)) ∧ (((V.setCell ⟨w.heap.size, 0, none⟩ (.int .i64 0)).setCell ⟨w.heap.size, 1, none⟩ (.slice none 0 0)).setCell ⟨w.heap.size, 2, none⟩ (.slice none 0 0)).heap[w.heap.size]? = some (.cells #[.int .i64 0, .slice none 0 0, .slice none 0 0] 31))) := fun V hV _ => by
    obtain ⟨h1, h2⟩ := HFIN.out V hV
    exact ⟨((h1.setCell (p := ⟨w.heap.size, 0, none⟩) (Nat.le_refl _) _).setCell (p := ⟨w.heap.size, 1, none⟩) (Nat.le_refl _) _).setCell (p := ⟨w.heap.size, 2, none⟩) (Nat.le_refl _) _, blk_set 2 _ (blk_set 1 _ (blk_set 0 _ h2))⟩
  refine Calls.mono (number_any W0 (w.heap.size + 1) s _ hs HRD0.out) ?_
  rintro e w1 ⟨rfl, hr1, hf1⟩
  have HF1 : Hid (Frm (isB (w.heap.size + 1)) W0 w1) := hf1
  have HR1 : Hid (RD w1 (w.heap.size + 1) s (numI s.data.toList).2) := hr1
  clear hr1 hf1
  have HACC : Hid (accF s = (decide ((numI s.data.toList).1 = 255) && (atSumB s.data.toList && rightB (r1 s.data.toList).1 (r2 s.data.toList).1 (r3 s.data.toList).1))) := rfl
  by_cases hmk : (numI s.data.toList).1 = 255
  · rw [hmk]
    have HMK : Hid ((numI s.data.toList).1 = 255) := hmk
    have HACC2 : Hid (accF s = (atSumB s.data.toList && rightB (r1 s.data.toList).1 (r2 s.data.toList).1 (r3 s.data.toList).1)) := by
      show _ = _
      rw [HACC.out, decide_eq_true hmk, Bool.true_and]
    clear HACC hmk
    have hsz1 := HF1.out.size
    go_wp2_with fail
    refine Calls.mono (iplan_any w1 (w.heap.size + 1) s _ hs HR1.out) ?_
    rintro e w2 ⟨qv, rfl, hown2, hr2, hf2⟩
    obtain ⟨qa, qk, rfl⟩ := own_slice hown2
    have HQ2 : Hid (w2.ownsRow w1.heap.size 3 1 (.slice qa (r1 s.data.toList).1.length qk) (r1 s.data.toList).1.length (intsC (r1 s.data.toList).1)) := hown2
    have e2 : (planI (numI s.data.toList).2).1.length = (r1 s.data.toList).1.length := rfl
    rw [e2]
    have HR2 : Hid (RD w2 (w.heap.size + 1) s (r1 s.data.toList).2) := hr2
    have HF2 : Hid (Frm (isB (w.heap.size + 1)) W0 w2) := HF1.out.trans hf2 (newO.refl _ _)
    have hpl := list_len tickI (numI s.data.toList).2
    have e3 : (listI tickI (numI s.data.toList).2).1.length = (r1 s.data.toList).1.length := rfl
    rw [e3] at hpl
    have hsz2 := hf2.size
    clear hown2 hr2 hf2 e2 e3 HR1 HF1
    obtain ⟨pn, hpn⟩ : ∃ pn, (r1 s.data.toList).1.length = pn := ⟨_, rfl⟩
    have HPN : Hid ((r1 s.data.toList).1.length = pn) := hpn
    rw [hpn] at HQ2 hpl ⊢
    clear hpn
    have hm0 := heap_new w2 (.cells #[.int .i64 (pn : Int), .slice none 0 0, .slice none 0 0] 31)
    have HM0 : Hid ((w2.alloc (.cells #[.int .i64 (pn : Int), .slice none 0 0, .slice none 0 0] 31)).heap[w2.heap.size]? = some (.cells #[.int .i64 (pn : Int), .slice none 0 0, .slice none 0 0] 31 (0, 0))) := hm0
    have HF3 : Hid (Frm (isB (w.heap.size + 1)) W0 (w2.alloc (.cells #[.int .i64 (pn : Int), .slice none 0 0, .slice none 0 0] 31))) := HF2.out.alloc _
    have HQ3 : Hid ((w2.alloc (.cells #[.int .i64 (pn : Int), .slice none 0 0, .slice none 0 0] 31)).ownsRow w1.heap.size 3 1 (.slice qa pn qk) pn (intsC (r1 s.data.toList).1)) := HQ2.out.alloc _
    have HR3 : Hid (RD (w2.alloc (.cells #[.int .i64 (pn : Int), .slice none 0 0, .slice none 0 0] 31)) (w.heap.size + 1) s (r1 s.data.toList).2) := HR2.out.below (newB w2 _)
    have hszW : (w2.alloc (.cells #[.int .i64 (pn : Int), .slice none 0 0, .slice none 0 0] 31)).heap.size = w2.heap.size + 1 := by simp
    clear hm0 HQ2 HR2 HF2
    go_wp2_with fail
    generalize w2.alloc (.cells #[.int .i64 (pn : Int), .slice none 0 0, .slice none 0 0] 31) = W3 at *
    generalize w2.heap.size = mb at *
    refine Calls.mono (iparts_any W3 (w.heap.size + 1) s _ hs HR3.out) ?_
    rintro e w4 ⟨pv, ys, rfl, hys, hpa, hr4, hf4⟩
    obtain ⟨pa, pk, rfl⟩ := own_slice hpa.own
    have HYS : Hid (ys.map Prod.fst = (r2 s.data.toList).1) := hys
    have HPA4 : Hid (PA w4 (mb + 1) (.slice pa ys.length pk) ys) := by rw [← hszW]; exact hpa
    have HR4 : Hid (RD w4 (w.heap.size + 1) s (r2 s.data.toList).2) := hr4
    have HF4 : Hid (Frm (isB (w.heap.size + 1)) W0 w4) := HF3.out.trans hf4 (newO.refl _ _)
    have HQ4 : Hid (w4.ownsRow w1.heap.size 3 1 (.slice qa pn qk) pn (intsC (r1 s.data.toList).1)) := own_far HQ3.out (by omega) hf4
    have HM4 : Hid (w4.heap[mb]? = some (.cells #[.int .i64 (pn : Int), .slice none 0 0, .slice none 0 0] 31 (0, 0))) := (hf4.block mb (by omega) (fun e => by unfold isB at e; omega)).trans HM0.out
    have hsz4 := hf4.size
    clear hys hpa hr4 hf4 HF3 HQ3 HR3 HM0
    have c1 : w4.cell? ⟨mb, 1, none⟩ = some (.slice none 0 0) := by rw [cell_of_blk HM4.out]; rfl
    have f1 : w4.frozen? ⟨mb, 1, none⟩ = false := frozen_of_blk HM4.out
    have HF5 : Hid (Frm (isB (w.heap.size + 1)) W0 (w4.setCell ⟨mb, 1, none⟩ (.slice pa ys.length pk))) := HF4.out.set (.inr (by omega)) 1 _
    have HM5 : Hid ((w4.setCell ⟨mb, 1, none⟩ (.slice pa ys.length pk)).heap[mb]? = some (.cells #[.int .i64 (pn : Int), .slice pa ys.length pk, .slice none 0 0] 31 (0, 0))) := blk_set 1 _ HM4.out
    have HR5 : Hid (RD (w4.setCell ⟨mb, 1, none⟩ (.slice pa ys.length pk)) (w.heap.size + 1) s (r2 s.data.toList).2) := HR4.out.keep (blk_far 1 _ (by omega))
    have HQ5 : Hid ((w4.setCell ⟨mb, 1, none⟩ (.slice pa ys.length pk)).ownsRow w1.heap.size 3 1 (.slice qa pn qk) pn (intsC (r1 s.data.toList).1)) := owns_keep HQ4.out fun k hk => blk_far 1 _ (fun e => own_not_blk HQ4.out HM4.out (by decide) (e ▸ hk).symm)
    have HPA5 : Hid (PA (w4.setCell ⟨mb, 1, none⟩ (.slice pa ys.length pk)) (mb + 1) (.slice pa ys.length pk) ys) :=
      ⟨owns_keep HPA4.out.own fun k hk => blk_far 1 _ (fun e => own_not_blk HPA4.out.own HM4.out (by decide) (e ▸ hk).symm), fun y hy => owns_keep (HPA4.out.reg y hy) fun k hk => blk_far 1 _ (fun e => own_not_blk (HPA4.out.reg y hy) HM4.out (by decide) (e ▸ hk).symm)⟩
    have hsz5 : (w4.setCell ⟨mb, 1, none⟩ (.slice pa ys.length pk)).heap.size = w4.heap.size := by simp
    clear HF4 HM4 HR4 HQ4 HPA4
    go_wp2_with fail
    clear c1 f1
    generalize w4.setCell ⟨mb, 1, none⟩ (.slice pa ys.length pk) = W5 at *
    refine Calls.mono (ichans_any W5 (w.heap.size + 1) s _ hs HR5.out) ?_
    rintro e w6 ⟨cv, rfl, hc6, hr6, hf6⟩
    obtain ⟨ca, ck, rfl⟩ := own_slice hc6
    have HC6 : Hid (w6.ownsRow W5.heap.size 58 6 (.slice ca (r3 s.data.toList).1.length ck) (r3 s.data.toList).1.length (cC (r3 s.data.toList).1)) := hc6
    have e6 : (chansI (r2 s.data.toList).2).1.length = (r3 s.data.toList).1.length := rfl
    rw [e6]
    have HR6 : Hid (RD w6 (w.heap.size + 1) s (r3 s.data.toList).2) := hr6
    have HF6 : Hid (Frm (isB (w.heap.size + 1)) W0 w6) := HF5.out.trans hf6 (newO.refl _ _)
    have HQ6 : Hid (w6.ownsRow w1.heap.size 3 1 (.slice qa pn qk) pn (intsC (r1 s.data.toList).1)) := own_far HQ5.out (by omega) hf6
    have HM6 : Hid (w6.heap[mb]? = some (.cells #[.int .i64 (pn : Int), .slice pa ys.length pk, .slice none 0 0] 31 (0, 0))) := (hf6.block mb (by omega) (fun e => by unfold isB at e; omega)).trans HM5.out
    have HPA6 : Hid (PA w6 (mb + 1) (.slice pa ys.length pk) ys) := HPA5.out.far (by omega) hf6
    have hcl := list_len chanI (r2 s.data.toList).2
    have e7 : (listI chanI (r2 s.data.toList).2).1.length = (r3 s.data.toList).1.length := rfl
    rw [e7] at hcl
    have hsz6 := hf6.size
    clear hc6 hr6 hf6 e6 e7 HF5 HM5 HR5 HQ5 HPA5
    obtain ⟨cn, hcn⟩ : ∃ cn, (r3 s.data.toList).1.length = cn := ⟨_, rfl⟩
    have HCN : Hid ((r3 s.data.toList).1.length = cn) := hcn
    rw [hcn] at HC6 hcl ⊢
    clear hcn
    have c2 : w6.cell? ⟨mb, 2, none⟩ = some (.slice none 0 0) := by rw [cell_of_blk HM6.out]; rfl
    have f2 : w6.frozen? ⟨mb, 2, none⟩ = false := frozen_of_blk HM6.out
    have HF7 : Hid (Frm (isB (w.heap.size + 1)) W0 (w6.setCell ⟨mb, 2, none⟩ (.slice ca cn ck))) := HF6.out.set (.inr (by omega)) 2 _
    have HM7 : Hid ((w6.setCell ⟨mb, 2, none⟩ (.slice ca cn ck)).heap[mb]? = some (.cells #[.int .i64 (pn : Int), .slice pa ys.length pk, .slice ca cn ck] 31 (0, 0))) := blk_set 2 _ HM6.out
    have HR7 : Hid (RD (w6.setCell ⟨mb, 2, none⟩ (.slice ca cn ck)) (w.heap.size + 1) s (r3 s.data.toList).2) := HR6.out.keep (blk_far 2 _ (by omega))
    have HQ7 : Hid ((w6.setCell ⟨mb, 2, none⟩ (.slice ca cn ck)).ownsRow w1.heap.size 3 1 (.slice qa pn qk) pn (intsC (r1 s.data.toList).1)) := owns_keep HQ6.out fun k hk => blk_far 2 _ (fun e => own_not_blk HQ6.out HM6.out (by decide) (e ▸ hk).symm)
    have HC7 : Hid ((w6.setCell ⟨mb, 2, none⟩ (.slice ca cn ck)).ownsRow W5.heap.size 58 6 (.slice ca cn ck) cn (cC (r3 s.data.toList).1)) := owns_keep HC6.out fun k hk => blk_far 2 _ (fun e => own_not_blk HC6.out HM6.out (by decide) (e ▸ hk).symm)
    have HPA7 : Hid (PA (w6.setCell ⟨mb, 2, none⟩ (.slice ca cn ck)) (mb + 1) (.slice pa ys.length pk) ys) :=
      ⟨owns_keep HPA6.out.own fun k hk => blk_far 2 _ (fun e => own_not_blk HPA6.out.own HM6.out (by decide) (e ▸ hk).symm), fun y hy => owns_keep (HPA6.out.reg y hy) fun k hk => blk_far 2 _ (fun e => own_not_blk (HPA6.out.reg y hy) HM6.out (by decide) (e ▸ hk).symm)⟩
    clear HF6 HM6 HR6 HQ6 HPA6 HC6
    obtain ⟨kk, hkk1, hkk2, hkk3⟩ := HR7.out
    obtain ⟨hu1, hu2, hu3⟩ := used_at hkk1 hkk2 HMK.out
    have HAT : Hid _ := atSum_any (w6.setCell ⟨mb, 2, none⟩ (.slice ca cn ck)) (w.heap.size + 1) kk s hs hkk1 hu2 hu1 hkk3
    rw [hu3] at HAT
    clear hkk1 hkk2 hkk3 hu1 hu2 hu3
    go_wp2_with fail
    clear c2 f2
    generalize w6.setCell ⟨mb, 2, none⟩ (.slice ca cn ck) = W7 at *
    refine Calls.mono HAT.out ?_
    rintro e w8 ⟨rfl, hb8⟩
    have HF8 : Hid (Frm (isB (w.heap.size + 1)) W0 w8) := HF7.out.trans (Frm.all _ hb8) (newO.refl _ _)
    have HM8 : Hid (w8.heap[mb]? = some (.cells #[.int .i64 (pn : Int), .slice pa ys.length pk, .slice ca cn ck] 31 (0, 0))) := keepN HM7.out hb8
    have HQ8 : Hid (w8.ownsRow w1.heap.size 3 1 (.slice qa pn qk) pn (intsC (r1 s.data.toList).1)) := own_stays HQ7.out hb8
    have HC8 : Hid (w8.ownsRow W5.heap.size 58 6 (.slice ca cn ck) cn (cC (r3 s.data.toList).1)) := own_stays HC7.out hb8
    have HPA8 : Hid (PA w8 (mb + 1) (.slice pa ys.length pk) ys) := HPA7.out.below hb8
    clear hb8 HF7 HM7 HR7 HQ7 HC7 HPA7 HAT
    have HSB : Hid (atSumB s.data.toList = decide (s.data.toList = sealL (usedI s.data.toList))) := rfl
    cases hsb : decide (s.data.toList = sealL (usedI s.data.toList))
    · have HA : Hid (accF s = false) := by show _ = _; rw [HACC2.out, HSB.out, hsb]; rfl
      clear hsb
      obtain ⟨k1, k2⟩ := HBAD.out w8 HF8.out HA.out
      obtain ⟨_, k3⟩ := HFIN.out w8 HF8.out
      have n0 : w8.cell? ⟨w.heap.size, 0, none⟩ = some (.int .i64 0) := by rw [cell_of_blk k3]; rfl
      have n1 : w8.cell? ⟨w.heap.size, 1, none⟩ = some (.slice none 0 0) := by rw [cell_of_blk k3]; rfl
      have n2 : w8.cell? ⟨w.heap.size, 2, none⟩ = some (.slice none 0 0) := by rw [cell_of_blk k3]; rfl
      have g0 : w8.frozen? ⟨w.heap.size, 0, none⟩ = false := frozen_of_blk k3
      have g1 : w8.frozen? ⟨w.heap.size, 1, none⟩ = false := frozen_of_blk k3
      have g2 : w8.frozen? ⟨w.heap.size, 2, none⟩ = false := frozen_of_blk k3
      have K1 : Hid _ := k1
      have K2 : Hid _ := k2
      clear k1 k2 k3
      go_wp2_with fail
      clear n0 n1 n2 g0 g1 g2
      generalize ((w8.setCell ⟨w.heap.size, 0, none⟩ (.int .i64 0)).setCell ⟨w.heap.size, 1, none⟩ (.slice none 0 0)).setCell ⟨w.heap.size, 2, none⟩ (.slice none 0 0) = WF at *
      have n0 : WF.cell? ⟨w.heap.size, 0, none⟩ = some (.int .i64 0) := by rw [cell_of_blk K2.out]; rfl
      have n1 : WF.cell? ⟨w.heap.size, 1, none⟩ = some (.slice none 0 0) := by rw [cell_of_blk K2.out]; rfl
      have n2 : WF.cell? ⟨w.heap.size, 2, none⟩ = some (.slice none 0 0) := by rw [cell_of_blk K2.out]; rfl
      exact bodyPost_ret (v := .tuple #[.agg #[.int .i64 0, .slice none 0 0, .slice none 0 0], .slice none 0 0, .bool false]) (by simp [results, Tryz.results28, go_sem, n0, n1, n2]) rfl ⟨K1.out, .inl ⟨HA.out, rfl⟩⟩
    · have HA : Hid (accF s = rightB (r1 s.data.toList).1 (r2 s.data.toList).1 (r3 s.data.toList).1) := by show _ = _; rw [HACC2.out, HSB.out, hsb, Bool.true_and]
      clear hsb
      have m0 : w8.cell? ⟨mb, 0, none⟩ = some (.int .i64 (pn : Int)) := by rw [cell_of_blk HM8.out]; rfl
      have m1 : w8.cell? ⟨mb, 1, none⟩ = some (.slice pa ys.length pk) := by rw [cell_of_blk HM8.out]; rfl
      have m2 : w8.cell? ⟨mb, 2, none⟩ = some (.slice ca cn ck) := by rw [cell_of_blk HM8.out]; rfl
      have hsee := HPA8.out.see
      rw [HYS.out] at hsee
      have hyl : ys.length = (r2 s.data.toList).1.length := by rw [← HYS.out]; simp
      have hpl2 := list_len partI (r1 s.data.toList).2
      have e8 : (listI partI (r1 s.data.toList).2).1.length = (r2 s.data.toList).1.length := rfl
      rw [e8] at hpl2
      have HIR : Hid _ := isRight_any w8 (r1 s.data.toList).1 (r2 s.data.toList).1 (r3 s.data.toList).1 (.slice pa ys.length pk) (.slice ca cn ck) (.slice qa pn qk) hsee.1 hsee.2 (chans_see (by rw [HCN.out]; exact HC8.out)) (own_cap HC8.out) (plan_see (by rw [HPN.out]; exact HQ8.out)) hpl2 (by rw [HCN.out]; exact hcl) (by rw [HPN.out]; exact hpl) (parts_few _) (HTB.out.below (HFIN.out w8 HF8.out).1)
      rw [HPN.out] at HIR
      clear hsee hyl hpl2 e8
      go_wp2_with fail
      refine Calls.mono HIR.out ?_
      rintro e w9 ⟨rfl, hb9⟩
      have HF9 : Hid (Frm (isB (w.heap.size + 1)) W0 w9) := HF8.out.trans (Frm.all _ hb9) (newO.refl _ _)
      have HM9 : Hid (w9.heap[mb]? = some (.cells #[.int .i64 (pn : Int), .slice pa ys.length pk, .slice ca cn ck] 31 (0, 0))) := keepN HM8.out hb9
      have HQ9 : Hid (w9.ownsRow w1.heap.size 3 1 (.slice qa pn qk) pn (intsC (r1 s.data.toList).1)) := own_stays HQ8.out hb9
      have HC9 : Hid (w9.ownsRow W5.heap.size 58 6 (.slice ca cn ck) cn (cC (r3 s.data.toList).1)) := own_stays HC8.out hb9
      have HPA9 : Hid (PA w9 (mb + 1) (.slice pa ys.length pk) ys) := HPA8.out.below hb9
      clear hb9 HF8 HM8 HQ8 HC8 HPA8 HIR m0 m1 m2
      cases hrt : rightB (r1 s.data.toList).1 (r2 s.data.toList).1 (r3 s.data.toList).1
      · have HA2 : Hid (accF s = false) := by show _ = _; rw [HA.out, hrt]
        clear hrt
        obtain ⟨k1, k2⟩ := HBAD.out w9 HF9.out HA2.out
        obtain ⟨_, k3⟩ := HFIN.out w9 HF9.out
        have n0 : w9.cell? ⟨w.heap.size, 0, none⟩ = some (.int .i64 0) := by rw [cell_of_blk k3]; rfl
        have n1 : w9.cell? ⟨w.heap.size, 1, none⟩ = some (.slice none 0 0) := by rw [cell_of_blk k3]; rfl
        have n2 : w9.cell? ⟨w.heap.size, 2, none⟩ = some (.slice none 0 0) := by rw [cell_of_blk k3]; rfl
        have g0 : w9.frozen? ⟨w.heap.size, 0, none⟩ = false := frozen_of_blk k3
        have g1 : w9.frozen? ⟨w.heap.size, 1, none⟩ = false := frozen_of_blk k3
        have g2 : w9.frozen? ⟨w.heap.size, 2, none⟩ = false := frozen_of_blk k3
        have K1 : Hid _ := k1
        have K2 : Hid _ := k2
        clear k1 k2 k3
        go_wp2_with fail
        clear n0 n1 n2 g0 g1 g2
        generalize ((w9.setCell ⟨w.heap.size, 0, none⟩ (.int .i64 0)).setCell ⟨w.heap.size, 1, none⟩ (.slice none 0 0)).setCell ⟨w.heap.size, 2, none⟩ (.slice none 0 0) = WF at *
        have n0 : WF.cell? ⟨w.heap.size, 0, none⟩ = some (.int .i64 0) := by rw [cell_of_blk K2.out]; rfl
        have n1 : WF.cell? ⟨w.heap.size, 1, none⟩ = some (.slice none 0 0) := by rw [cell_of_blk K2.out]; rfl
        have n2 : WF.cell? ⟨w.heap.size, 2, none⟩ = some (.slice none 0 0) := by rw [cell_of_blk K2.out]; rfl
        exact bodyPost_ret (v := .tuple #[.agg #[.int .i64 0, .slice none 0 0, .slice none 0 0], .slice none 0 0, .bool false]) (by simp [results, Tryz.results28, go_sem, n0, n1, n2]) rfl ⟨K1.out, .inl ⟨HA2.out, rfl⟩⟩
      · have HA2 : Hid (accF s = true) := by show _ = _; rw [HA.out, hrt]
        clear hrt
        obtain ⟨k1, k3⟩ := HFIN.out w9 HF9.out
        have m0 : w9.cell? ⟨mb, 0, none⟩ = some (.int .i64 (pn : Int)) := by rw [cell_of_blk HM9.out]; rfl
        have m1 : w9.cell? ⟨mb, 1, none⟩ = some (.slice pa ys.length pk) := by rw [cell_of_blk HM9.out]; rfl
        have m2 : w9.cell? ⟨mb, 2, none⟩ = some (.slice ca cn ck) := by rw [cell_of_blk HM9.out]; rfl
        have n0 : w9.cell? ⟨w.heap.size, 0, none⟩ = some (.int .i64 0) := by rw [cell_of_blk k3]; rfl
        have n1 : w9.cell? ⟨w.heap.size, 1, none⟩ = some (.slice none 0 0) := by rw [cell_of_blk k3]; rfl
        have n2 : w9.cell? ⟨w.heap.size, 2, none⟩ = some (.slice none 0 0) := by rw [cell_of_blk k3]; rfl
        have g0 : w9.frozen? ⟨w.heap.size, 0, none⟩ = false := frozen_of_blk k3
        have g1 : w9.frozen? ⟨w.heap.size, 1, none⟩ = false := frozen_of_blk k3
        have g2 : w9.frozen? ⟨w.heap.size, 2, none⟩ = false := frozen_of_blk k3
        have K2 : Hid ((((w9.setCell ⟨w.heap.size, 0, none⟩ (.int .i64 (pn : Int))).setCell ⟨w.heap.size, 1, none⟩ (.slice pa ys.length pk)).setCell ⟨w.heap.size, 2, none⟩ (.slice ca cn ck)).heap[w.heap.size]? = some (.cells #[.int .i64 (pn : Int), .slice pa ys.length pk, .slice ca cn ck] 31 (0, 0))) := blk_set 2 _ (blk_set 1 _ (blk_set 0 _ k3))
        have K1 : Hid (Below w.heap.size w (((w9.setCell ⟨w.heap.size, 0, none⟩ (.int .i64 (pn : Int))).setCell ⟨w.heap.size, 1, none⟩ (.slice pa ys.length pk)).setCell ⟨w.heap.size, 2, none⟩ (.slice ca cn ck))) := ((k1.setCell (p := ⟨w.heap.size, 0, none⟩) (Nat.le_refl _) _).setCell (p := ⟨w.heap.size, 1, none⟩) (Nat.le_refl _) _).setCell (p := ⟨w.heap.size, 2, none⟩) (Nat.le_refl _) _
        have HFAR : Hid (∀ b, b ≠ w.heap.size → (((w9.setCell ⟨w.heap.size, 0, none⟩ (.int .i64 (pn : Int))).setCell ⟨w.heap.size, 1, none⟩ (.slice pa ys.length pk)).setCell ⟨w.heap.size, 2, none⟩ (.slice ca cn ck)).heap[b]? = w9.heap[b]?) := fun b hb => by rw [blk_far 2 _ hb, blk_far 1 _ hb, blk_far 0 _ hb]
        clear k1 k3
        go_wp2_with fail
        clear n0 n1 n2 g0 g1 g2 m0 m1 m2
        generalize ((w9.setCell ⟨w.heap.size, 0, none⟩ (.int .i64 (pn : Int))).setCell ⟨w.heap.size, 1, none⟩ (.slice pa ys.length pk)).setCell ⟨w.heap.size, 2, none⟩ (.slice ca cn ck) = WF at *
        have n0 : WF.cell? ⟨w.heap.size, 0, none⟩ = some (.int .i64 (pn : Int)) := by rw [cell_of_blk K2.out]; rfl
        have n1 : WF.cell? ⟨w.heap.size, 1, none⟩ = some (.slice pa ys.length pk) := by rw [cell_of_blk K2.out]; rfl
        have n2 : WF.cell? ⟨w.heap.size, 2, none⟩ = some (.slice ca cn ck) := by rw [cell_of_blk K2.out]; rfl
        have hkeep : ∀ {B e sz n : Nat} {v : Value} {xs : List Value}, w9.ownsRow B e sz v n xs → w.heap.size < B → WF.ownsRow w.heap.size e sz v n xs := fun h hB => own_base (owns_keep h fun k hk => HFAR.out k (by have := (h.lt k hk).1; omega)) (by omega)
        refine bodyPost_ret (v := .tuple #[.agg #[.int .i64 (pn : Int), .slice pa ys.length pk, .slice ca cn ck], .slice qa pn qk, .bool true]) (by simp [results, Tryz.results28, go_sem, n0, n1, n2]) rfl ⟨K1.out, .inr ⟨HA2.out, _, _, _, ys, by rw [HPN.out], HYS.out, ⟨hkeep HPA9.out.own (by omega), fun y hy => hkeep (HPA9.out.reg y hy) (by omega)⟩, by rw [HCN.out]; exact hkeep HC9.out (by omega), by rw [HPN.out]; exact hkeep HQ9.out (by omega)⟩⟩
  · have hmk2 : ¬ (((numI s.data.toList).1 : Nat) : Int) = 255 := by omega
    have HA : Hid (accF s = false) := by show _ = _; rw [HACC.out, decide_eq_false hmk, Bool.false_and]
    obtain ⟨k1, k2⟩ := HBAD.out w1 HF1.out HA.out
    obtain ⟨_, k3⟩ := HFIN.out w1 HF1.out
    generalize (numI s.data.toList).1 = mk at *
    have n0 : w1.cell? ⟨w.heap.size, 0, none⟩ = some (.int .i64 0) := by rw [cell_of_blk k3]; rfl
    have n1 : w1.cell? ⟨w.heap.size, 1, none⟩ = some (.slice none 0 0) := by rw [cell_of_blk k3]; rfl
    have n2 : w1.cell? ⟨w.heap.size, 2, none⟩ = some (.slice none 0 0) := by rw [cell_of_blk k3]; rfl
    have g0 : w1.frozen? ⟨w.heap.size, 0, none⟩ = false := frozen_of_blk k3
    have g1 : w1.frozen? ⟨w.heap.size, 1, none⟩ = false := frozen_of_blk k3
    have g2 : w1.frozen? ⟨w.heap.size, 2, none⟩ = false := frozen_of_blk k3
    have K1 : Hid _ := k1
    have K2 : Hid _ := k2
    clear k1 k2 k3
    go_wp2_with fail
    clear n0 n1 n2 g0 g1 g2
    generalize ((w1.setCell ⟨w.heap.size, 0, none⟩ (.int .i64 0)).setCell ⟨w.heap.size, 1, none⟩ (.slice none 0 0)).setCell ⟨w.heap.size, 2, none⟩ (.slice none 0 0) = WF at *
    have n0 : WF.cell? ⟨w.heap.size, 0, none⟩ = some (.int .i64 0) := by rw [cell_of_blk K2.out]; rfl
    have n1 : WF.cell? ⟨w.heap.size, 1, none⟩ = some (.slice none 0 0) := by rw [cell_of_blk K2.out]; rfl
    have n2 : WF.cell? ⟨w.heap.size, 2, none⟩ = some (.slice none 0 0) := by rw [cell_of_blk K2.out]; rfl
    exact bodyPost_ret (v := .tuple #[.agg #[.int .i64 0, .slice none 0 0, .slice none 0 0], .slice none 0 0, .bool false]) (by simp [results, Tryz.results28, go_sem, n0, n1, n2]) rfl ⟨K1.out, .inl ⟨HA.out, rfl⟩⟩
end Go.Proofs.YteioennfpkoagabGreatDoor.C
