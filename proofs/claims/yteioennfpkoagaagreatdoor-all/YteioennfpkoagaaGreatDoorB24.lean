import Derived.Test.YteioennfpkoagaaGreatDoorB23
import Derived.Test.YteioennfpkoagaaGreatDoorB15
namespace Go.Proofs.YteioennfpkoagaaGreatDoor.C
open Go.RowKit K
attribute [local go_sem ↓] Go.wp_at_zero Go.wp_at_succ

/- no more is read than this -/
def Cons {α : Type} (f : List UInt8 → α × List UInt8) (c : Nat) : Prop := ∀ l, l.length ≤ (f l).2.length + c
theorem cons_num : Cons numI 1 := fun l => by cases l <;> simp [numI]
theorem cons_readN {α : Type} {f : List UInt8 → α × List UInt8} {c : Nat} (h : Cons f c) : ∀ n, Cons (readN f n) (n * c)
  | 0, l => by simp [readN]
  | n + 1, l => by
    have h1 := h l
    have h2 := cons_readN h n (f l).2
    show l.length ≤ (readN f n (f l).2).2.length + (n + 1) * c
    rw [Nat.succ_mul]
    omega
theorem cons_list {α : Type} {f : List UInt8 → α × List UInt8} {c : Nat} (h : Cons f c) : Cons (listI f) (1 + 255 * c) := fun l => by
  have h1 := cons_num l
  have h2 := cons_readN h (numI l).1 (numI l).2
  have h3 : (numI l).1 * c ≤ 255 * c := Nat.mul_le_mul_right c (num_lt l)
  show l.length ≤ (readN f (numI l).1 (numI l).2).2.length + _
  omega
theorem cons_tick : Cons tickI 1 := cons_num
theorem cons_reg : Cons regI 3 := fun l => by
  have h1 := cons_num l
  have h2 := cons_num (numI l).2
  have h3 := cons_num (numI (numI l).2).2
  show l.length ≤ (numI (numI (numI l).2).2).2.length + 3
  omega
theorem cons_part : Cons partI (1 + (1 + 255 * 3)) := fun l => by
  have h1 := cons_num l
  have h2 := cons_list cons_reg (numI l).2
  show l.length ≤ (listI regI (numI l).2).2.length + _
  omega
theorem cons_chan : Cons chanI 5 := fun l => by
  have h1 := cons_num l
  have h2 := cons_num (numI l).2
  have h3 := cons_num (numI (numI l).2).2
  have h4 := cons_num (numI (numI (numI l).2).2).2
  have h5 := cons_num (numI (numI (numI (numI l).2).2).2).2
  show l.length ≤ (numI (numI (numI (numI (numI l).2).2).2).2).2.length + 5
  omega
theorem cons_r3 (l : List UInt8) : l.length ≤ (r3 l).2.length + 1000000 := by
  have h1 := cons_num l
  have h2 := cons_list cons_tick (numI l).2
  have h3 := cons_list cons_part (r1 l).2
  have h4 := cons_list cons_chan (r2 l).2
  have e1 : (listI tickI (numI l).2).2 = (r1 l).2 := rfl
  have e2 : (listI partI (r1 l).2).2 = (r2 l).2 := rfl
  have e3 : (listI chanI (r2 l).2).2 = (r3 l).2 := rfl
  rw [e1] at h2
  rw [e2] at h3
  rw [e3] at h4
  omega
theorem readN_len {α : Type} (f : List UInt8 → α × List UInt8) : ∀ n l, (readN f n l).1.length = n
  | 0, l => rfl
  | n + 1, l => by
    show ((f l).1 :: (readN f n (f l).2).1).length = n + 1
    rw [List.length_cons, readN_len f n]
theorem list_len {α : Type} (f : List UInt8 → α × List UInt8) (l : List UInt8) : (listI f l).1.length ≤ 255 := by
  unfold listI
  rw [readN_len]
  exact num_lt l
theorem readN_mem {α : Type} {f : List UInt8 → α × List UInt8} {P : α → Prop} (h : ∀ l, P (f l).1) : ∀ n l, ∀ x ∈ (readN f n l).1, P x
  | 0, l, x, hx => by cases hx
  | n + 1, l, x, hx => by
    rcases List.mem_cons.1 hx with rfl | hx
    · exact h l
    · exact readN_mem h n _ x hx
theorem parts_few (l : List UInt8) : ∀ x ∈ (r2 l).1, x.regs.length ≤ 255 := readN_mem (P := fun x : PartD => x.regs.length ≤ 255) (fun _l => list_len regI _) _ _
/- where the reader stands when all is read -/
theorem used_at {s : ByteArray} {k : Nat} (hk : k ≤ s.size) (hd : s.data.toList.drop k = (r3 s.data.toList).2) (h1 : (numI s.data.toList).1 = 255) : 1 ≤ k ∧ k ≤ 1000000 ∧ s.data.toList.take k = usedI s.data.toList := by
  have hl : s.data.toList.length = s.size := by simp
  have e : (r3 s.data.toList).2.length = s.size - k := by rw [← hd, List.length_drop, hl]
  have hc := cons_r3 s.data.toList
  have hu : usedI s.data.toList = s.data.toList.take k := by
    unfold usedI
    rw [e, hl]
    congr 1
    omega
  refine ⟨?_, by omega, hu.symm⟩
  rcases Nat.eq_zero_or_pos k with h0 | h0
  · exfalso
    subst h0
    have hne : s.data.toList ≠ [] := fun e => by rw [e] at h1; simp [numI] at h1
    obtain ⟨x, hx⟩ := rdr_chans.suf (r2 s.data.toList).2
    obtain ⟨x2, hx2⟩ := rdr_parts.suf (r1 s.data.toList).2
    obtain ⟨x3, hx3⟩ := rdr_plan.suf (numI s.data.toList).2
    have l1 := congrArg List.length hx
    have l2 := congrArg List.length hx2
    have l3 := congrArg List.length hx3
    rw [List.length_append] at l1 l2 l3
    have e1 : (chansI (r2 s.data.toList).2).2 = (r3 s.data.toList).2 := rfl
    have e2 : (partsI (r1 s.data.toList).2).2 = (r2 s.data.toList).2 := rfl
    have e3 : (planI (numI s.data.toList).2).2 = (r1 s.data.toList).2 := rfl
    rw [e1] at l1
    rw [e2] at l2
    rw [e3] at l3
    cases hc2 : s.data.toList with
    | nil => exact hne hc2
    | cons b l =>
      have e4 : (numI s.data.toList).2.length = s.data.toList.length - 1 := by rw [hc2]; simp [numI]
      have : 0 < s.data.toList.length := by rw [hc2]; simp
      omega
  · exact h0
set_option maxRecDepth 100000 in
set_option maxHeartbeats 8000000 in
theorem iread_any (w : World) (s : ByteArray) (hs : s.size ≤ 9223372036854775807) (htb : TB w) :
    Calls Tryz.prog 121 #[.string s] w fun e w' => Below w.heap.size w w' ∧ ((accF s = false ∧ e = .returned (.tuple #[.agg #[.int .i64 0, .slice none 0 0, .slice none 0 0], .slice none 0 0, .bool false])) ∨
      (accF s = true ∧ ∃ pv cv qv ys, e = .returned (.tuple #[.agg #[.int .i64 ((r1 s.data.toList).1.length : Int), pv, cv], qv, .bool true]) ∧ ys.map Prod.fst = (r2 s.data.toList).1 ∧ PA w' w.heap.size pv ys ∧ w'.ownsRow w.heap.size 92 6 cv (r3 s.data.toList).1.length (cC (r3 s.data.toList).1) ∧ w'.ownsRow w.heap.size 3 1 qv (r1 s.data.toList).1.length (intsC (r1 s.data.toList).1))) := by
  have HTB : Hid (TB w) := htb
  clear htb
  go_enter Tryz.func121, Tryz.ntmps121
  go_wp2_with fail
  have hF0 : Below w.heap.size w ((w.alloc (.cells #[.int .i64 0, .slice none 0 0, .slice none 0 0] 34)).alloc (.cells #[.string s, .int .i64 0] 270)) := (newB w _).trans ((newB (w.alloc (.cells #[.int .i64 0, .slice none 0 0, .slice none 0 0] 34)) _).mono (newB w _).size)
  have hres0 : ((w.alloc (.cells #[.int .i64 0, .slice none 0 0, .slice none 0 0] 34)).alloc (.cells #[.string s, .int .i64 0] 270)).heap[w.heap.size]? = some (.cells #[.int .i64 0, .slice none 0 0, .slice none 0 0] 34) := heap_old _ _ (heap_new w _)
  have hrd0 : RD ((w.alloc (.cells #[.int .i64 0, .slice none 0 0, .slice none 0 0] 34)).alloc (.cells #[.string s, .int .i64 0] 270)) (w.heap.size + 1) s s.data.toList := ⟨0, Nat.zero_le _, rfl, by
    have h := heap_new (w.alloc (.cells #[.int .i64 0, .slice none 0 0, .slice none 0 0] 34)) (.cells #[.string s, .int .i64 0] 270)
    have e : (w.alloc (.cells #[.int .i64 0, .slice none 0 0, .slice none 0 0] 34)).heap.size = w.heap.size + 1 := by simp
    rw [e] at h
    exact h⟩
  have hsz0 : ((w.alloc (.cells #[.int .i64 0, .slice none 0 0, .slice none 0 0] 34)).alloc (.cells #[.string s, .int .i64 0] 270)).heap.size = w.heap.size + 2 := by simp
  have HF0 : Hid (Below w.heap.size w ((w.alloc (.cells #[.int .i64 0, .slice none 0 0, .slice none 0 0] 34)).alloc (.cells #[.string s, .int .i64 0] 270))) := hF0
  have HRES0 : Hid (((w.alloc (.cells #[.int .i64 0, .slice none 0 0, .slice none 0 0] 34)).alloc (.cells #[.string s, .int .i64 0] 270)).heap[w.heap.size]? = some (.cells #[.int .i64 0, .slice none 0 0, .slice none 0 0] 34)) := hres0
  have HRD0 : Hid (RD ((w.alloc (.cells #[.int .i64 0, .slice none 0 0, .slice none 0 0] 34)).alloc (.cells #[.string s, .int .i64 0] 270)) (w.heap.size + 1) s s.data.toList) := hrd0
  clear hF0 hres0 hrd0
  generalize (w.alloc (.cells #[.int .i64 0, .slice none 0 0, .slice none 0 0] 34)).alloc (.cells #[.string s, .int .i64 0] 270) = W0 at *
  have HFIN : Hid (∀ V, Frm (isB (w.heap.size + 1)) W0 V → Below w.heap.size w V ∧ V.heap[w.heap.size]? = some (.cells #[.int .i64 0, .slice none 0 0, .slice none 0 0] 34)) := fun V hV => ⟨HF0.out.trans (hV.below (by omega) (fun k hk => by unfold isB at hk; omega)), (hV.block _ (by omega) (fun e => by unfold isB at e; omega)).trans HRES0.out⟩
  have HBAD : Hid (∀ V, Frm (isB (w.heap.size + 1)) W0 V → accF s = false → (Below w.heap.size w (((V.setCell ⟨w.heap.size, 0, none⟩ (.int .i64 0)).setCell ⟨w.heap.size, 1, none⟩ (.slice none 0 0)).setCell ⟨w.heap.size, 2, none⟩ (.slice none 0 0)) ∧ (((V.setCell ⟨w.heap.size, 0, none⟩ (.int .i64 0)).setCell ⟨w.heap.size, 1, none⟩ (.slice none 0 0)).setCell ⟨w.heap.size, 2, none⟩ (.slice none 0 0)).heap[w.heap.size]? = some (.cells #[.int .i64 0, .slice none 0 0, .slice none 0 0] 34))) := fun V hV _ => by
    obtain ⟨h1, h2⟩ := HFIN.out V hV
    exact ⟨((h1.setCell (p := ⟨w.heap.size, 0, none⟩) (Nat.le_refl _) _).setCell (p := ⟨w.heap.size, 1, none⟩) (Nat.le_refl _) _).setCell (p := ⟨w.heap.size, 2, none⟩) (Nat.le_refl _) _, blk_set 2 _ (blk_set 1 _ (blk_set 0 _ h2))⟩
  refine Calls.mono (number_any W0 (w.heap.size + 1) s _ hs HRD0.out) ?_
  rintro e w1 ⟨rfl, hr1, hf1⟩
  have HF1 : Hid (Frm (isB (w.heap.size + 1)) W0 w1) := hf1
  have HR1 : Hid (RD w1 (w.heap.size + 1) s (numI s.data.toList).2) := hr1
  clear hr1 hf1
  have HACC : Hid (accF s = (decide ((numI s.data.toList).1 = 255) && (atSumB s.data.toList && rightB (r1 s.data.toList).1 (r2 s.data.toList).1 (r3 s.data.toList).1))) := rfl
  by_cases hmk : (numI s.data.toList).1 = 255
  · rw [hmk]
    have HMK : Hid ((numI s.data.toList).1 = 255) := hmk
    have HACC2 : Hid (accF s = (atSumB s.data.toList && rightB (r1 s.data.toList).1 (r2 s.data.toList).1 (r3 s.data.toList).1)) := by
      show _ = _
      rw [HACC.out, decide_eq_true hmk, Bool.true_and]
    clear HACC hmk
    have hsz1 := HF1.out.size
    go_wp2_with fail
    refine Calls.mono (iplan_any w1 (w.heap.size + 1) s _ hs HR1.out) ?_
    rintro e w2 ⟨qv, rfl, hown2, hr2, hf2⟩
    obtain ⟨qa, qk, rfl⟩ := own_slice hown2
    have HQ2 : Hid (w2.ownsRow w1.heap.size 3 1 (.slice qa (r1 s.data.toList).1.length qk) (r1 s.data.toList).1.length (intsC (r1 s.data.toList).1)) := hown2
    have e2 : (planI (numI s.data.toList).2).1.length = (r1 s.data.toList).1.length := rfl
    rw [e2]
    have HR2 : Hid (RD w2 (w.heap.size + 1) s (r1 s.data.toList).2) := hr2
    have HF2 : Hid (Frm (isB (w.heap.size + 1)) W0 w2) := HF1.out.trans hf2 (newO.refl _ _)
    have hpl := list_len tickI (numI s.data.toList).2
    have e3 : (listI tickI (numI s.data.toList).2).1.length = (r1 s.data.toList).1.length := rfl
    rw [e3] at hpl
    have hsz2 := hf2.size
    clear hown2 hr2 hf2 e2 e3 HR1 HF1
    obtain ⟨pn, hpn⟩ : ∃ pn, (r1 s.data.toList).1.length = pn := ⟨_, rfl⟩
    have HPN : Hid ((r1 s.data.toList).1.length = pn) := hpn
    rw [hpn] at HQ2 hpl ⊢
    clear hpn
    have hm0 := heap_new w2 (.cells #[.int .i64 (pn : Int), .slice none 0 0, .slice none 0 0] 34)
    have HM0 : Hid ((w2.alloc (.cells #[.int .i64 (pn : Int), .slice none 0 0, .slice none 0 0] 34)).heap[w2.heap.size]? = some (.cells #[.int .i64 (pn : Int), .slice none 0 0, .slice none 0 0] 34 (0, 0))) := hm0
    have HF3 : Hid (Frm (isB (w.heap.size + 1)) W0 (w2.alloc (.cells #[.int .i64 (pn : Int), .slice none 0 0, .slice none 0 0] 34))) := HF2.out.alloc _
    have HQ3 : Hid ((w2.alloc (.cells #[.int .i64 (pn : Int), .slice none 0 0, .slice none 0 0] 34)).ownsRow w1.heap.size 3 1 (.slice qa pn qk) pn (intsC (r1 s.data.toList).1)) := HQ2.out.alloc _
    have HR3 : Hid (RD (w2.alloc (.cells #[.int .i64 (pn : Int), .slice none 0 0, .slice none 0 0] 34)) (w.heap.size + 1) s (r1 s.data.toList).2) := HR2.out.below (newB w2 _)
    have hszW : (w2.alloc (.cells #[.int .i64 (pn : Int), .slice none 0 0, .slice none 0 0] 34)).heap.size = w2.heap.size + 1 := by simp
    clear hm0 HQ2 HR2 HF2
    go_wp2_with fail
    generalize w2.alloc (.cells #[.int .i64 (pn : Int), .slice none 0 0, .slice none 0 0] 34) = W3 at *
    generalize w2.heap.size = mb at *
    refine Calls.mono (iparts_any W3 (w.heap.size + 1) s _ hs HR3.out) ?_
    rintro e w4 ⟨pv, ys, rfl, hys, hpa, hr4, hf4⟩
    obtain ⟨pa, pk, rfl⟩ := own_slice hpa.own
    have HYS : Hid (ys.map Prod.fst = (r2 s.data.toList).1) := hys
    have HPA4 : Hid (PA w4 (mb + 1) (.slice pa ys.length pk) ys) := by rw [← hszW]; exact hpa
    have HR4 : Hid (RD w4 (w.heap.size + 1) s (r2 s.data.toList).2) := hr4
    have HF4 : Hid (Frm (isB (w.heap.size + 1)) W0 w4) := HF3.out.trans hf4 (newO.refl _ _)
    have HQ4 : Hid (w4.ownsRow w1.heap.size 3 1 (.slice qa pn qk) pn (intsC (r1 s.data.toList).1)) := own_far HQ3.out (by omega) hf4
    have HM4 : Hid (w4.heap[mb]? = some (.cells #[.int .i64 (pn : Int), .slice none 0 0, .slice none 0 0] 34 (0, 0))) := (hf4.block mb (by omega) (fun e => by unfold isB at e; omega)).trans HM0.out
    have hsz4 := hf4.size
    clear hys hpa hr4 hf4 HF3 HQ3 HR3 HM0
    have c1 : w4.cell? ⟨mb, 1, none⟩ = some (.slice none 0 0) := by rw [cell_of_blk HM4.out]; rfl
    have f1 : w4.frozen? ⟨mb, 1, none⟩ = false := frozen_of_blk HM4.out
    have HF5 : Hid (Frm (isB (w.heap.size + 1)) W0 (w4.setCell ⟨mb, 1, none⟩ (.slice pa ys.length pk))) := HF4.out.set (.inr (by omega)) 1 _
    have HM5 : Hid ((w4.setCell ⟨mb, 1, none⟩ (.slice pa ys.length pk)).heap[mb]? = some (.cells #[.int .i64 (pn : Int), .slice pa ys.length pk, .slice none 0 0] 34 (0, 0))) := blk_set 1 _ HM4.out
    have HR5 : Hid (RD (w4.setCell ⟨mb, 1, none⟩ (.slice pa ys.length pk)) (w.heap.size + 1) s (r2 s.data.toList).2) := HR4.out.keep (blk_far 1 _ (by omega))
    have HQ5 : Hid ((w4.setCell ⟨mb, 1, none⟩ (.slice pa ys.length pk)).ownsRow w1.heap.size 3 1 (.slice qa pn qk) pn (intsC (r1 s.data.toList).1)) := owns_keep HQ4.out fun k hk => blk_far 1 _ (fun e => own_not_blk HQ4.out HM4.out (by decide) (e ▸ hk).symm)
    have HPA5 : Hid (PA (w4.setCell ⟨mb, 1, none⟩ (.slice pa ys.length pk)) (mb + 1) (.slice pa ys.length pk) ys) :=
      ⟨owns_keep HPA4.out.own fun k hk => blk_far 1 _ (fun e => own_not_blk HPA4.out.own HM4.out (by decide) (e ▸ hk).symm), fun y hy => owns_keep (HPA4.out.reg y hy) fun k hk => blk_far 1 _ (fun e => own_not_blk (HPA4.out.reg y hy) HM4.out (by decide) (e ▸ hk).symm)⟩
    have hsz5 : (w4.setCell ⟨mb, 1, none⟩ (.slice pa ys.length pk)).heap.size = w4.heap.size := by simp
    clear HF4 HM4 HR4 HQ4 HPA4
    go_wp2_with fail
    clear c1 f1
    generalize w4.setCell ⟨mb, 1, none⟩ (.slice pa ys.length pk) = W5 at *
    refine Calls.mono (ichans_any W5 (w.heap.size + 1) s _ hs HR5.out) ?_
    rintro e w6 ⟨cv, rfl, hc6, hr6, hf6⟩
    obtain ⟨ca, ck, rfl⟩ := own_slice hc6
    have HC6 : Hid (w6.ownsRow W5.heap.size 92 6 (.slice ca (r3 s.data.toList).1.length ck) (r3 s.data.toList).1.length (cC (r3 s.data.toList).1)) := hc6
    have e6 : (chansI (r2 s.data.toList).2).1.length = (r3 s.data.toList).1.length := rfl
    rw [e6]
    have HR6 : Hid (RD w6 (w.heap.size + 1) s (r3 s.data.toList).2) := hr6
    have HF6 : Hid (Frm (isB (w.heap.size + 1)) W0 w6) := HF5.out.trans hf6 (newO.refl _ _)
    have HQ6 : Hid (w6.ownsRow w1.heap.size 3 1 (.slice qa pn qk) pn (intsC (r1 s.data.toList).1)) := own_far HQ5.out (by omega) hf6
    have HM6 : Hid (w6.heap[mb]? = some (.cells #[.int .i64 (pn : Int), .slice pa ys.length pk, .slice none 0 0] 34 (0, 0))) := (hf6.block mb (by omega) (fun e => by unfold isB at e; omega)).trans HM5.out
    have HPA6 : Hid (PA w6 (mb + 1) (.slice pa ys.length pk) ys) := HPA5.out.far (by omega) hf6
    have hcl := list_len chanI (r2 s.data.toList).2
    have e7 : (listI chanI (r2 s.data.toList).2).1.length = (r3 s.data.toList).1.length := rfl
    rw [e7] at hcl
    have hsz6 := hf6.size
    clear hc6 hr6 hf6 e6 e7 HF5 HM5 HR5 HQ5 HPA5
    obtain ⟨cn, hcn⟩ : ∃ cn, (r3 s.data.toList).1.length = cn := ⟨_, rfl⟩
    have HCN : Hid ((r3 s.data.toList).1.length = cn) := hcn
    rw [hcn] at HC6 hcl ⊢
    clear hcn
    have c2 : w6.cell? ⟨mb, 2, none⟩ = some (.slice none 0 0) := by rw [cell_of_blk HM6.out]; rfl
    have f2 : w6.frozen? ⟨mb, 2, none⟩ = false := frozen_of_blk HM6.out
    have HF7 : Hid (Frm (isB (w.heap.size + 1)) W0 (w6.setCell ⟨mb, 2, none⟩ (.slice ca cn ck))) := HF6.out.set (.inr (by omega)) 2 _
    have HM7 : Hid ((w6.setCell ⟨mb, 2, none⟩ (.slice ca cn ck)).heap[mb]? = some (.cells #[.int .i64 (pn : Int), .slice pa ys.length pk, .slice ca cn ck] 34 (0, 0))) := blk_set 2 _ HM6.out
    have HR7 : Hid (RD (w6.setCell ⟨mb, 2, none⟩ (.slice ca cn ck)) (w.heap.size + 1) s (r3 s.data.toList).2) := HR6.out.keep (blk_far 2 _ (by omega))
    have HQ7 : Hid ((w6.setCell ⟨mb, 2, none⟩ (.slice ca cn ck)).ownsRow w1.heap.size 3 1 (.slice qa pn qk) pn (intsC (r1 s.data.toList).1)) := owns_keep HQ6.out fun k hk => blk_far 2 _ (fun e => own_not_blk HQ6.out HM6.out (by decide) (e ▸ hk).symm)
    have HC7 : Hid ((w6.setCell ⟨mb, 2, none⟩ (.slice ca cn ck)).ownsRow W5.heap.size 92 6 (.slice ca cn ck) cn (cC (r3 s.data.toList).1)) := owns_keep HC6.out fun k hk => blk_far 2 _ (fun e => own_not_blk HC6.out HM6.out (by decide) (e ▸ hk).symm)
    have HPA7 : Hid (PA (w6.setCell ⟨mb, 2, none⟩ (.slice ca cn ck)) (mb + 1) (.slice pa ys.length pk) ys) :=
      ⟨owns_keep HPA6.out.own fun k hk => blk_far 2 _ (fun e => own_not_blk HPA6.out.own HM6.out (by decide) (e ▸ hk).symm), fun y hy => owns_keep (HPA6.out.reg y hy) fun k hk => blk_far 2 _ (fun e => own_not_blk (HPA6.out.reg y hy) HM6.out (by decide) (e ▸ hk).symm)⟩
    clear HF6 HM6 HR6 HQ6 HPA6 HC6
    obtain ⟨kk, hkk1, hkk2, hkk3⟩ := HR7.out
    obtain ⟨hu1, hu2, hu3⟩ := used_at hkk1 hkk2 HMK.out
    have HAT : Hid _ := atSum_any (w6.setCell ⟨mb, 2, none⟩ (.slice ca cn ck)) (w.heap.size + 1) kk s hs hkk1 hu2 hu1 hkk3
    rw [hu3] at HAT
    clear hkk1 hkk2 hkk3 hu1 hu2 hu3
    go_wp2_with fail
    clear c2 f2
    generalize w6.setCell ⟨mb, 2, none⟩ (.slice ca cn ck) = W7 at *
    refine Calls.mono HAT.out ?_
    rintro e w8 ⟨rfl, hb8⟩
    have HF8 : Hid (Frm (isB (w.heap.size + 1)) W0 w8) := HF7.out.trans (Frm.all _ hb8) (newO.refl _ _)
    have HM8 : Hid (w8.heap[mb]? = some (.cells #[.int .i64 (pn : Int), .slice pa ys.length pk, .slice ca cn ck] 34 (0, 0))) := keepN HM7.out hb8
    have HQ8 : Hid (w8.ownsRow w1.heap.size 3 1 (.slice qa pn qk) pn (intsC (r1 s.data.toList).1)) := own_stays HQ7.out hb8
    have HC8 : Hid (w8.ownsRow W5.heap.size 92 6 (.slice ca cn ck) cn (cC (r3 s.data.toList).1)) := own_stays HC7.out hb8
    have HPA8 : Hid (PA w8 (mb + 1) (.slice pa ys.length pk) ys) := HPA7.out.below hb8
    clear hb8 HF7 HM7 HR7 HQ7 HC7 HPA7 HAT
    have HSB : Hid (atSumB s.data.toList = decide (s.data.toList = sealL (usedI s.data.toList))) := rfl
    cases hsb : decide (s.data.toList = sealL (usedI s.data.toList))
    · have HA : Hid (accF s = false) := by show _ = _; rw [HACC2.out, HSB.out, hsb]; rfl
      clear hsb
      obtain ⟨k1, k2⟩ := HBAD.out w8 HF8.out HA.out
      obtain ⟨_, k3⟩ := HFIN.out w8 HF8.out
      have n0 : w8.cell? ⟨w.heap.size, 0, none⟩ = some (.int .i64 0) := by rw [cell_of_blk k3]; rfl
      have n1 : w8.cell? ⟨w.heap.size, 1, none⟩ = some (.slice none 0 0) := by rw [cell_of_blk k3]; rfl
      have n2 : w8.cell? ⟨w.heap.size, 2, none⟩ = some (.slice none 0 0) := by rw [cell_of_blk k3]; rfl
      have g0 : w8.frozen? ⟨w.heap.size, 0, none⟩ = false := frozen_of_blk k3
      have g1 : w8.frozen? ⟨w.heap.size, 1, none⟩ = false := frozen_of_blk k3
      have g2 : w8.frozen? ⟨w.heap.size, 2, none⟩ = false := frozen_of_blk k3
      have K1 : Hid _ := k1
      have K2 : Hid _ := k2
      clear k1 k2 k3
      go_wp2_with fail
      clear n0 n1 n2 g0 g1 g2
      generalize ((w8.setCell ⟨w.heap.size, 0, none⟩ (.int .i64 0)).setCell ⟨w.heap.size, 1, none⟩ (.slice none 0 0)).setCell ⟨w.heap.size, 2, none⟩ (.slice none 0 0) = WF at *
      have n0 : WF.cell? ⟨w.heap.size, 0, none⟩ = some (.int .i64 0) := by rw [cell_of_blk K2.out]; rfl
      have n1 : WF.cell? ⟨w.heap.size, 1, none⟩ = some (.slice none 0 0) := by rw [cell_of_blk K2.out]; rfl
      have n2 : WF.cell? ⟨w.heap.size, 2, none⟩ = some (.slice none 0 0) := by rw [cell_of_blk K2.out]; rfl
      exact bodyPost_ret (v := .tuple #[.agg #[.int .i64 0, .slice none 0 0, .slice none 0 0], .slice none 0 0, .bool false]) (by simp [results, Tryz.results121, go_sem, n0, n1, n2]) rfl ⟨K1.out, .inl ⟨HA.out, rfl⟩⟩
    · have HA : Hid (accF s = rightB (r1 s.data.toList).1 (r2 s.data.toList).1 (r3 s.data.toList).1) := by show _ = _; rw [HACC2.out, HSB.out, hsb, Bool.true_and]
      clear hsb
      have m0 : w8.cell? ⟨mb, 0, none⟩ = some (.int .i64 (pn : Int)) := by rw [cell_of_blk HM8.out]; rfl
      have m1 : w8.cell? ⟨mb, 1, none⟩ = some (.slice pa ys.length pk) := by rw [cell_of_blk HM8.out]; rfl
      have m2 : w8.cell? ⟨mb, 2, none⟩ = some (.slice ca cn ck) := by rw [cell_of_blk HM8.out]; rfl
      have hsee := HPA8.out.see
      rw [HYS.out] at hsee
      have hyl : ys.length = (r2 s.data.toList).1.length := by rw [← HYS.out]; simp
      have hpl2 := list_len partI (r1 s.data.toList).2
      have e8 : (listI partI (r1 s.data.toList).2).1.length = (r2 s.data.toList).1.length := rfl
      rw [e8] at hpl2
      have HIR : Hid _ := isRight_any w8 (r1 s.data.toList).1 (r2 s.data.toList).1 (r3 s.data.toList).1 (.slice pa ys.length pk) (.slice ca cn ck) (.slice qa pn qk) hsee.1 hsee.2 (chans_see (by rw [HCN.out]; exact HC8.out)) (own_cap HC8.out) (plan_see (by rw [HPN.out]; exact HQ8.out)) hpl2 (by rw [HCN.out]; exact hcl) (by rw [HPN.out]; exact hpl) (parts_few _) (HTB.out.below (HFIN.out w8 HF8.out).1)
      rw [HPN.out] at HIR
      clear hsee hyl hpl2 e8
      go_wp2_with fail
      refine Calls.mono HIR.out ?_
      rintro e w9 ⟨rfl, hb9⟩
      have HF9 : Hid (Frm (isB (w.heap.size + 1)) W0 w9) := HF8.out.trans (Frm.all _ hb9) (newO.refl _ _)
      have HM9 : Hid (w9.heap[mb]? = some (.cells #[.int .i64 (pn : Int), .slice pa ys.length pk, .slice ca cn ck] 34 (0, 0))) := keepN HM8.out hb9
      have HQ9 : Hid (w9.ownsRow w1.heap.size 3 1 (.slice qa pn qk) pn (intsC (r1 s.data.toList).1)) := own_stays HQ8.out hb9
      have HC9 : Hid (w9.ownsRow W5.heap.size 92 6 (.slice ca cn ck) cn (cC (r3 s.data.toList).1)) := own_stays HC8.out hb9
      have HPA9 : Hid (PA w9 (mb + 1) (.slice pa ys.length pk) ys) := HPA8.out.below hb9
      clear hb9 HF8 HM8 HQ8 HC8 HPA8 HIR m0 m1 m2
      cases hrt : rightB (r1 s.data.toList).1 (r2 s.data.toList).1 (r3 s.data.toList).1
      · have HA2 : Hid (accF s = false) := by show _ = _; rw [HA.out, hrt]
        clear hrt
        obtain ⟨k1, k2⟩ := HBAD.out w9 HF9.out HA2.out
        obtain ⟨_, k3⟩ := HFIN.out w9 HF9.out
        have n0 : w9.cell? ⟨w.heap.size, 0, none⟩ = some (.int .i64 0) := by rw [cell_of_blk k3]; rfl
        have n1 : w9.cell? ⟨w.heap.size, 1, none⟩ = some (.slice none 0 0) := by rw [cell_of_blk k3]; rfl
        have n2 : w9.cell? ⟨w.heap.size, 2, none⟩ = some (.slice none 0 0) := by rw [cell_of_blk k3]; rfl
        have g0 : w9.frozen? ⟨w.heap.size, 0, none⟩ = false := frozen_of_blk k3
        have g1 : w9.frozen? ⟨w.heap.size, 1, none⟩ = false := frozen_of_blk k3
        have g2 : w9.frozen? ⟨w.heap.size, 2, none⟩ = false := frozen_of_blk k3
        have K1 : Hid _ := k1
        have K2 : Hid _ := k2
        clear k1 k2 k3
        go_wp2_with fail
        clear n0 n1 n2 g0 g1 g2
        generalize ((w9.setCell ⟨w.heap.size, 0, none⟩ (.int .i64 0)).setCell ⟨w.heap.size, 1, none⟩ (.slice none 0 0)).setCell ⟨w.heap.size, 2, none⟩ (.slice none 0 0) = WF at *
        have n0 : WF.cell? ⟨w.heap.size, 0, none⟩ = some (.int .i64 0) := by rw [cell_of_blk K2.out]; rfl
        have n1 : WF.cell? ⟨w.heap.size, 1, none⟩ = some (.slice none 0 0) := by rw [cell_of_blk K2.out]; rfl
        have n2 : WF.cell? ⟨w.heap.size, 2, none⟩ = some (.slice none 0 0) := by rw [cell_of_blk K2.out]; rfl
        exact bodyPost_ret (v := .tuple #[.agg #[.int .i64 0, .slice none 0 0, .slice none 0 0], .slice none 0 0, .bool false]) (by simp [results, Tryz.results121, go_sem, n0, n1, n2]) rfl ⟨K1.out, .inl ⟨HA2.out, rfl⟩⟩
      · have HA2 : Hid (accF s = true) := by show _ = _; rw [HA.out, hrt]
        clear hrt
        obtain ⟨k1, k3⟩ := HFIN.out w9 HF9.out
        have m0 : w9.cell? ⟨mb, 0, none⟩ = some (.int .i64 (pn : Int)) := by rw [cell_of_blk HM9.out]; rfl
        have m1 : w9.cell? ⟨mb, 1, none⟩ = some (.slice pa ys.length pk) := by rw [cell_of_blk HM9.out]; rfl
        have m2 : w9.cell? ⟨mb, 2, none⟩ = some (.slice ca cn ck) := by rw [cell_of_blk HM9.out]; rfl
        have n0 : w9.cell? ⟨w.heap.size, 0, none⟩ = some (.int .i64 0) := by rw [cell_of_blk k3]; rfl
        have n1 : w9.cell? ⟨w.heap.size, 1, none⟩ = some (.slice none 0 0) := by rw [cell_of_blk k3]; rfl
        have n2 : w9.cell? ⟨w.heap.size, 2, none⟩ = some (.slice none 0 0) := by rw [cell_of_blk k3]; rfl
        have g0 : w9.frozen? ⟨w.heap.size, 0, none⟩ = false := frozen_of_blk k3
        have g1 : w9.frozen? ⟨w.heap.size, 1, none⟩ = false := frozen_of_blk k3
        have g2 : w9.frozen? ⟨w.heap.size, 2, none⟩ = false := frozen_of_blk k3
        have K2 : Hid ((((w9.setCell ⟨w.heap.size, 0, none⟩ (.int .i64 (pn : Int))).setCell ⟨w.heap.size, 1, none⟩ (.slice pa ys.length pk)).setCell ⟨w.heap.size, 2, none⟩ (.slice ca cn ck)).heap[w.heap.size]? = some (.cells #[.int .i64 (pn : Int), .slice pa ys.length pk, .slice ca cn ck] 34 (0, 0))) := blk_set 2 _ (blk_set 1 _ (blk_set 0 _ k3))
        have K1 : Hid (Below w.heap.size w (((w9.setCell ⟨w.heap.size, 0, none⟩ (.int .i64 (pn : Int))).setCell ⟨w.heap.size, 1, none⟩ (.slice pa ys.length pk)).setCell ⟨w.heap.size, 2, none⟩ (.slice ca cn ck))) := ((k1.setCell (p := ⟨w.heap.size, 0, none⟩) (Nat.le_refl _) _).setCell (p := ⟨w.heap.size, 1, none⟩) (Nat.le_refl _) _).setCell (p := ⟨w.heap.size, 2, none⟩) (Nat.le_refl _) _
        have HFAR : Hid (∀ b, b ≠ w.heap.size → (((w9.setCell ⟨w.heap.size, 0, none⟩ (.int .i64 (pn : Int))).setCell ⟨w.heap.size, 1, none⟩ (.slice pa ys.length pk)).setCell ⟨w.heap.size, 2, none⟩ (.slice ca cn ck)).heap[b]? = w9.heap[b]?) := fun b hb => by rw [blk_far 2 _ hb, blk_far 1 _ hb, blk_far 0 _ hb]
        clear k1 k3
        go_wp2_with fail
        clear n0 n1 n2 g0 g1 g2 m0 m1 m2
        generalize ((w9.setCell ⟨w.heap.size, 0, none⟩ (.int .i64 (pn : Int))).setCell ⟨w.heap.size, 1, none⟩ (.slice pa ys.length pk)).setCell ⟨w.heap.size, 2, none⟩ (.slice ca cn ck) = WF at *
        have n0 : WF.cell? ⟨w.heap.size, 0, none⟩ = some (.int .i64 (pn : Int)) := by rw [cell_of_blk K2.out]; rfl
        have n1 : WF.cell? ⟨w.heap.size, 1, none⟩ = some (.slice pa ys.length pk) := by rw [cell_of_blk K2.out]; rfl
        have n2 : WF.cell? ⟨w.heap.size, 2, none⟩ = some (.slice ca cn ck) := by rw [cell_of_blk K2.out]; rfl
        have hkeep : ∀ {B e sz n : Nat} {v : Value} {xs : List Value}, w9.ownsRow B e sz v n xs → w.heap.size < B → WF.ownsRow w.heap.size e sz v n xs := fun h hB => own_base (owns_keep h fun k hk => HFAR.out k (by have := (h.lt k hk).1; omega)) (by omega)
        refine bodyPost_ret (v := .tuple #[.agg #[.int .i64 (pn : Int), .slice pa ys.length pk, .slice ca cn ck], .slice qa pn qk, .bool true]) (by simp [results, Tryz.results121, go_sem, n0, n1, n2]) rfl ⟨K1.out, .inr ⟨HA2.out, _, _, _, ys, by rw [HPN.out], HYS.out, ⟨hkeep HPA9.out.own (by omega), fun y hy => hkeep (HPA9.out.reg y hy) (by omega)⟩, by rw [HCN.out]; exact hkeep HC9.out (by omega), by rw [HPN.out]; exact hkeep HQ9.out (by omega)⟩⟩
  · have hmk2 : ¬ (((numI s.data.toList).1 : Nat) : Int) = 255 := by omega
    have HA : Hid (accF s = false) := by show _ = _; rw [HACC.out, decide_eq_false hmk, Bool.false_and]
    obtain ⟨k1, k2⟩ := HBAD.out w1 HF1.out HA.out
    obtain ⟨_, k3⟩ := HFIN.out w1 HF1.out
    generalize (numI s.data.toList).1 = mk at *
    have n0 : w1.cell? ⟨w.heap.size, 0, none⟩ = some (.int .i64 0) := by rw [cell_of_blk k3]; rfl
    have n1 : w1.cell? ⟨w.heap.size, 1, none⟩ = some (.slice none 0 0) := by rw [cell_of_blk k3]; rfl
    have n2 : w1.cell? ⟨w.heap.size, 2, none⟩ = some (.slice none 0 0) := by rw [cell_of_blk k3]; rfl
    have g0 : w1.frozen? ⟨w.heap.size, 0, none⟩ = false := frozen_of_blk k3
    have g1 : w1.frozen? ⟨w.heap.size, 1, none⟩ = false := frozen_of_blk k3
    have g2 : w1.frozen? ⟨w.heap.size, 2, none⟩ = false := frozen_of_blk k3
    have K1 : Hid _ := k1
    have K2 : Hid _ := k2
    clear k1 k2 k3
    go_wp2_with fail
    clear n0 n1 n2 g0 g1 g2
    generalize ((w1.setCell ⟨w.heap.size, 0, none⟩ (.int .i64 0)).setCell ⟨w.heap.size, 1, none⟩ (.slice none 0 0)).setCell ⟨w.heap.size, 2, none⟩ (.slice none 0 0) = WF at *
    have n0 : WF.cell? ⟨w.heap.size, 0, none⟩ = some (.int .i64 0) := by rw [cell_of_blk K2.out]; rfl
    have n1 : WF.cell? ⟨w.heap.size, 1, none⟩ = some (.slice none 0 0) := by rw [cell_of_blk K2.out]; rfl
    have n2 : WF.cell? ⟨w.heap.size, 2, none⟩ = some (.slice none 0 0) := by rw [cell_of_blk K2.out]; rfl
    exact bodyPost_ret (v := .tuple #[.agg #[.int .i64 0, .slice none 0 0, .slice none 0 0], .slice none 0 0, .bool false]) (by simp [results, Tryz.results121, go_sem, n0, n1, n2]) rfl ⟨K1.out, .inl ⟨HA.out, rfl⟩⟩
end Go.Proofs.YteioennfpkoagaaGreatDoor.C
namespace Go.Proofs.YteioennfpkoagaaGreatDoor.C
open Go.RowKit
attribute [local go_sem ↓] Go.wp_at_zero Go.wp_at_succ

section
variable {wA w : World} {lb pb hb : Nat} {f : Int} {pv cv : Value} {ps : List PartD} {cs : List ChanD} {rgv ctv : Value} {G : List Nat}
theorem LO.rg (h : LO wA w lb pb hb f pv cv ps cs rgv ctv G) : ∃ ga gc, rgv = .slice ga ps.length gc ∧ ∀ k (_ : k < ps.length) (hg : k < G.length), ∃ g, ga = some ⟨g, 0, none⟩ ∧ w.cell? ⟨g, k, none⟩ = some (.slice (some ⟨G[k], 0, none⟩) (ps[k].regs.length + 8) (ps[k].regs.length + 8)) := by
  have hr := h.rr
  have hG := h.gl
  rcases own_nil_or hr with ⟨h0, rfl⟩ | ⟨g, cap, rfl⟩
  · exact ⟨none, 0, by rw [← hG, h0], fun k hk => absurd hk (by omega)⟩
  · refine ⟨some ⟨g, 0, none⟩, cap, by rw [hG], fun k hk hg => ⟨g, rfl, ?_⟩⟩
    rw [own_cells hr k (by omega)]
    exact rgL_at ps G k hg (by omega)
theorem LO.ct (h : LO wA w lb pb hb f pv cv ps cs rgv ctv G) : ∃ ga gc, ctv = .slice ga ps.length gc ∧ ∀ k (_ : k < ps.length), ∃ g, ga = some ⟨g, 0, none⟩ ∧ w.cell? ⟨g, k, none⟩ = some (.int .i64 ps[k].regs.length) := by
  have hr := h.rc
  have hG := h.gl
  rcases own_nil_or hr with ⟨h0, rfl⟩ | ⟨g, cap, rfl⟩
  · exact ⟨none, 0, by rw [← hG, h0], fun k hk => absurd hk (by omega)⟩
  · refine ⟨some ⟨g, 0, none⟩, cap, by rw [hG], fun k hk => ⟨g, rfl, ?_⟩⟩
    rw [own_cells hr k (by omega)]
    exact ctL_at ps G k (by omega) (by omega)
theorem LO.gr (h : LO wA w lb pb hb f pv cv ps cs rgv ctv G) (k : Nat) (hk : k < ps.length) (hg : k < G.length) (q : Nat) (hq : q < ps[k].regs.length) (j : Nat) (hj : j < 3) : w.cell? ⟨G[k], q * 3 + j, none⟩ = (regC ps[k].regs[q])[j]? := by
  rw [cell_of_blk (h.blk k hg hk)]
  rw [List.getElem?_toArray, List.getElem?_append_left (by rw [regsC_len]; omega)]
  exact regsC_at _ q j hq hj
theorem LO.gb (h : LO wA w lb pb hb f pv cv ps cs rgv ctv G) (k : Nat) (hk : k < ps.length) (hg : k < G.length) (q : Nat) (hq : ¬ q < ps[k].regs.length) (hq2 : q < ps[k].regs.length + 8) (j : Nat) (hj : j < 3) : w.cell? ⟨G[k], q * 3 + j, none⟩ = badRC[j]? := by
  rw [cell_of_blk (h.blk k hg hk)]
  rw [List.getElem?_toArray, List.getElem?_append_right (by rw [regsC_len]; omega), regsC_len]
  have := rep_at badRC 8 (q - ps[k].regs.length) j (by omega) (by exact hj)
  rw [show q * 3 + j - ps[k].regs.length * 3 = (q - ps[k].regs.length) * badRC.length + j by show _ = (q - ps[k].regs.length) * 3 + j; omega]
  exact this
theorem LO.pbad (h : LO wA w lb pb hb f pv cv ps cs rgv ctv G) (i : Nat) (hi : ps.length ≤ i) (hi2 : i < ps.length + 8) (j : Nat) (hj : j < 5) : w.cell? ⟨pb, i * 5 + j, none⟩ = badPC[j]? := by
  have hlen : (partsC ps G).length = ps.length * 5 := by rw [partsC_len _ _ (by rw [h.gl]; exact Nat.le_refl _), h.gl]
  rw [cell_of_blk h.part]
  rw [List.getElem?_toArray, List.getElem?_append_right (by rw [hlen]; omega), hlen]
  have := rep_at badPC 8 (i - ps.length) j (by omega) (by exact hj)
  rw [show i * 5 + j - ps.length * 5 = (i - ps.length) * badPC.length + j by show _ = (i - ps.length) * 5 + j; omega]
  exact this
theorem LO.cr (h : LO wA w lb pb hb f pv cv ps cs rgv ctv G) (q : Nat) (hq : q < cs.length) (j : Nat) (hj : j < 6) : w.cell? ⟨hb, q * 6 + j, none⟩ = (chanC cs[q])[j]? := by
  rw [cell_of_blk h.chan]
  rw [List.getElem?_toArray, List.getElem?_append_left (by rw [chansC_len]; omega)]
  exact chansC_at cs q j hq hj
theorem LO.cb (h : LO wA w lb pb hb f pv cv ps cs rgv ctv G) (q : Nat) (hq : ¬ q < cs.length) (hq2 : q < cs.length + 8) (j : Nat) (hj : j < 6) : w.cell? ⟨hb, q * 6 + j, none⟩ = badCC[j]? := by
  rw [cell_of_blk h.chan]
  rw [List.getElem?_toArray, List.getElem?_append_right (by rw [chansC_len]; omega), chansC_len]
  have := rep_at badCC 8 (q - cs.length) j (by omega) (by exact hj)
  rw [show q * 6 + j - cs.length * 6 = (q - cs.length) * badCC.length + j by show _ = (q - cs.length) * 6 + j; omega]
  exact this
end
theorem newC {w1 w2 : World} {a : Addr} {v : Value} (h : w1.cell? a = some v) (hb : Below w1.heap.size w1 w2) (o : Obj) : (w2.alloc o).cell? a = some v := by
  have h2 : w2.cell? a = some v := (hb.cell (World.block_lt_of_cell? w1 _ h)).trans h
  exact (((Below.refl _ w2).alloc (Nat.le_refl _) o).cell (World.block_lt_of_cell? w2 _ h2)).trans h2
theorem keepD {w1 w2 : World} {a : Addr} {v : Value} (h : w1.cell? a = some v) (hb : Below w1.heap.size w1 w2) : w2.cell? a = some v := (hb.cell (World.block_lt_of_cell? w1 _ h)).trans h
set_option maxRecDepth 100000 in
set_option maxHeartbeats 4000000 in
theorem kept_any (wA w : World) (lb pb hb : Nat) (f : Int) (pv cv : Value) (ps : List PartD) (cs : List ChanD) (rgv ctv : Value) (G : List Nat) (h : LO wA w lb pb hb f pv cv ps cs rgv ctv G) (hp : PartsV wA pv ps) (hc : ChansV wA cv cs)
    (hn : ps.length ≤ 1048576) (hm : cs.length ≤ 1048576) (hr : ∀ i (hi : i < ps.length), ps[i].regs.length ≤ 1048576) :
    Calls Tryz.prog 96 #[.pointer (some ⟨lb, 0, none⟩)] w fun e w' => e = .returned (.bool true) ∧ Below w.heap.size w w' := by
  have HL : Hid _ := h
  obtain ⟨ga, gc, rfl, hrg⟩ := h.rg
  obtain ⟨ta, tc, rfl, hct⟩ := h.ct
  have HRG : Hid _ := hrg
  have HCT : Hid _ := hct
  have HR : Hid _ := hr
  have hG := h.gl
  have HG : Hid _ := hG
  clear hrg hct hr hG
  have hpw := PartsV.below hp h.low
  have hcw := ChansV.below hc h.low
  have HPW : Hid (PartsV w pv ps) := hpw
  have HCW : Hid (ChansV w cv cs) := hcw
  obtain ⟨va, cap, rfl, hpx⟩ := hpw
  obtain ⟨ca, ck, rfl, hcx⟩ := hcw
  have HPX : Hid _ := hpx
  have HCX : Hid _ := hcx
  have l0 : w.cell? ⟨lb, 0, none⟩ = some (.slice ga ps.length gc) := by rw [cell_of_blk h.loan]; rfl
  have l1 : w.cell? ⟨lb, 1, none⟩ = some (.slice ta ps.length tc) := by rw [cell_of_blk h.loan]; rfl
  have l2 : w.cell? ⟨lb, 2, none⟩ = some (.slice (some ⟨pb, 0, none⟩) (ps.length + 8) (ps.length + 8)) := by rw [cell_of_blk h.loan]; rfl
  have l3 : w.cell? ⟨lb, 3, none⟩ = some (.slice (some ⟨hb, 0, none⟩) (cs.length + 8) (cs.length + 8)) := by rw [cell_of_blk h.loan]; rfl
  have l5 : w.cell? ⟨lb, 5, none⟩ = some (.slice va ps.length cap) := by rw [cell_of_blk h.loan]; rfl
  have l6 : w.cell? ⟨lb, 6, none⟩ = some (.slice ca cs.length ck) := by rw [cell_of_blk h.loan]; rfl
  have L0 : Hid _ := l0
  have L1 : Hid _ := l1
  have L2 : Hid _ := l2
  have L3 : Hid _ := l3
  have L5 : Hid _ := l5
  have L6 : Hid _ := l6
  clear l0 l1 l2 l3 l5 l6 hpx hcx hp hc h
  go_enter Tryz.func96, Tryz.ntmps96
  go_wp2_with fail
  go_loopw [3] (fun i wr => ∃ (k : Nat), i = .int .i64 k ∧ k ≤ ps.length ∧ Below w.heap.size w wr) (fun i _ => ps.length - (intOf i).toNat)
  case atStart => exact ⟨0, rfl, by omega, Below.refl _ _⟩
  case round =>
    obtain ⟨k, rfl, hk, hbel⟩ := hrel
    have m0 := keepD L0.out hbel
    by_cases hlt : k < ps.length
    · have hlt' : (k : Int) < (ps.length : Int) := by omega
      have hk0 : (0 : Int) ≤ (k : Int) := by omega
      have hgk : k < G.length := by have := HG.out; omega
      obtain ⟨g, rfl, cg⟩ := HRG.out k hlt hgk
      obtain ⟨t, rfl, ctt⟩ := HCT.out k hlt
      obtain ⟨b, off, rv, rfl, _, _, _, _, c4, hrv⟩ := HPX.out k hlt
      have hRk := HR.out k hlt
      have HGR : Hid _ := HL.out.gr k hlt hgk
      have HGB : Hid _ := HL.out.gb k hlt hgk
      obtain ⟨ra, rcap, rfl, hrx⟩ := hrv
      have HRX : Hid _ := hrx
      have CG : Hid _ := cg
      have CT : Hid _ := ctt
      have C4 : Hid _ := c4
      clear hrx cg ctt c4
      generalize G[k] = gk at *
      generalize ps[k].regs = rs at *
      go_wp2_with fail
      clear m0
      generalize wr = wz at *
      go_loopw [4] (fun j wx => ∃ (q : Nat), j = .int .i64 q ∧ q ≤ rs.length + 8 ∧ Below w.heap.size w wx) (fun j _ => rs.length + 8 - (intOf j).toNat)
      case atStart => exact ⟨0, rfl, by omega, hbel⟩
      case round =>
        obtain ⟨q, rfl, hq, hbx⟩ := hrel
        have m0 := keepD L0.out hbx
        have mg := keepD CG.out hbx
        by_cases hql : q < rs.length + 8
        · have hql' : (q : Int) < ((rs.length + 8 : Nat) : Int) := by omega
          have hql2 : (q : Int) < (rs.length : Int) + 8 := by omega
          have hq0 : (0 : Int) ≤ (q : Int) := by omega
          go_wp2_with fail
          refine (badR_0 _).mono ?_
          rintro e w2 ⟨rfl, hb2⟩
          have b2 := hbx.trans (hb2.mono hbx.size)
          clear m0 mg hb2
          have n0 := newC L0.out b2
          have n1 := newC L1.out b2
          have n5 := newC L5.out b2
          have ng := newC CG.out b2
          have nt := newC CT.out b2
          have n4 := newC C4.out b2
          by_cases hqr : q < rs.length
          · have hqr' : (q : Int) < (rs.length : Int) := by omega
            obtain ⟨rb, ro, rfl, r0, r1, r2⟩ := HRX.out q hqr
            have x0 := newC r0 b2
            have x1 := newC r1 b2
            have x2 := newC r2 b2
            have g0 := newC (HGR.out q hqr 0 (by omega)) b2
            have g1 := newC (HGR.out q hqr 1 (by omega)) b2
            have g2 := newC (HGR.out q hqr 2 (by omega)) b2
            simp only [Nat.add_zero] at g0 g1 g2
            clear r0 r1 r2
            generalize rs[q] = r at *
            go_wp2_with fail
            go_quiet (fail)
            go_wp2_with fail
            go_roundw
            case rel => exact ⟨q + 1, by go_num, by omega, below_drewN (b2.alloc b2.size _) _⟩
            case measure => simp [intOf]; omega
          · have hqr' : ¬ (q : Int) < (rs.length : Int) := by omega
            have g0 := newC (HGB.out q hqr hql 0 (by omega)) b2
            have g1 := newC (HGB.out q hqr hql 1 (by omega)) b2
            have g2 := newC (HGB.out q hqr hql 2 (by omega)) b2
            simp only [Nat.add_zero] at g0
            go_wp2_with fail
            go_quiet (fail)
            go_wp2_with fail
            go_roundw
            case rel => exact ⟨q + 1, by go_num, by omega, below_drewN (b2.alloc b2.size _) _⟩
            case measure => simp [intOf]; omega
        · have hql' : ¬ (q : Int) < ((rs.length + 8 : Nat) : Int) := by omega
          have hql2 : ¬ (q : Int) < (rs.length : Int) + 8 := by omega
          go_wp2_with fail
          go_roundw
          case rel => exact ⟨k + 1, by go_num, by omega, hbx⟩
          case measure => simp [intOf]; omega
    · have hlt' : ¬ (k : Int) < (ps.length : Int) := by omega
      have m5 := keepD L5.out hbel
      go_wp2_with fail
      clear m0 m5
      generalize wr = wz at *
      go_loopw [7] (fun i wx => ∃ (k : Nat), i = .int .i64 k ∧ ps.length ≤ k ∧ k ≤ ps.length + 8 ∧ Below w.heap.size w wx) (fun i _ => ps.length + 8 - (intOf i).toNat)
      case atStart => exact ⟨ps.length, rfl, by omega, by omega, hbel⟩
      case round =>
        obtain ⟨i, rfl, hi1, hi2, hbx⟩ := hrel
        have m2 := keepD L2.out hbx
        by_cases hil : i < ps.length + 8
        · have hil' : (i : Int) < ((ps.length + 8 : Nat) : Int) := by omega
          have hil2 : (i : Int) < (ps.length : Int) + 8 := by omega
          have hi0 : (0 : Int) ≤ (i : Int) := by omega
          have g0 := keepD (HL.out.pbad i hi1 hil 0 (by omega)) hbx
          have g1 := keepD (HL.out.pbad i hi1 hil 1 (by omega)) hbx
          have g2 := keepD (HL.out.pbad i hi1 hil 2 (by omega)) hbx
          have g3 := keepD (HL.out.pbad i hi1 hil 3 (by omega)) hbx
          have g4 := keepD (HL.out.pbad i hi1 hil 4 (by omega)) hbx
          simp only [Nat.add_zero] at g0
          go_wp2_with fail
          refine (isBad_0 _).mono ?_
          rintro e w2 ⟨rfl, hb2⟩
          have b2 := hbx.trans (hb2.mono hbx.size)
          clear m2 g0 g1 g2 g3 g4 hb2
          go_wp2_with fail
          go_roundw
          case rel => exact ⟨i + 1, by go_num, by omega, by omega, b2⟩
          case measure => simp [intOf]; omega
        · have hil' : ¬ (i : Int) < ((ps.length + 8 : Nat) : Int) := by omega
          have hil2 : ¬ (i : Int) < (ps.length : Int) + 8 := by omega
          go_wp2_with fail
          clear m2
          generalize wr = wy at *
          go_loopw [9] (fun j wx => ∃ (q : Nat), j = .int .i64 q ∧ q ≤ cs.length + 8 ∧ Below w.heap.size w wx) (fun j _ => cs.length + 8 - (intOf j).toNat)
          case atStart => exact ⟨0, rfl, by omega, hbx⟩
          case round =>
            obtain ⟨q, rfl, hq, hby⟩ := hrel
            have m3 := keepD L3.out hby
            by_cases hql : q < cs.length + 8
            · have hql' : (q : Int) < ((cs.length + 8 : Nat) : Int) := by omega
              have hql2 : (q : Int) < (cs.length : Int) + 8 := by omega
              have hq0 : (0 : Int) ≤ (q : Int) := by omega
              go_wp2_with fail
              refine (badC_0 _).mono ?_
              rintro e w2 ⟨rfl, hb2⟩
              have b2 := hby.trans (hb2.mono hby.size)
              clear m3 hb2
              have n3 := newC L3.out b2
              have n6 := newC L6.out b2
              by_cases hqr : q < cs.length
              · have hqr' : (q : Int) < (cs.length : Int) := by omega
                obtain ⟨rb, ro, rfl, r0, r1, r2, r3, r4, r5⟩ := HCX.out q hqr
                have x0 := newC r0 b2
                have x1 := newC r1 b2
                have x2 := newC r2 b2
                have x3 := newC r3 b2
                have x4 := newC r4 b2
                have x5 := newC r5 b2
                have g0 := newC (HL.out.cr q hqr 0 (by omega)) b2
                have g1 := newC (HL.out.cr q hqr 1 (by omega)) b2
                have g2 := newC (HL.out.cr q hqr 2 (by omega)) b2
                have g3 := newC (HL.out.cr q hqr 3 (by omega)) b2
                have g4 := newC (HL.out.cr q hqr 4 (by omega)) b2
                have g5 := newC (HL.out.cr q hqr 5 (by omega)) b2
                simp only [Nat.add_zero] at g0 g1 g2 g3 g4 g5
                clear r0 r1 r2 r3 r4 r5
                generalize cs[q] = c at *
                go_wp2_with fail
                go_quiet (fail)
                go_wp2_with fail
                go_roundw
                case rel => exact ⟨q + 1, by go_num, by omega, below_drewN (b2.alloc b2.size _) _⟩
                case measure => simp [intOf]; omega
              · have hqr' : ¬ (q : Int) < (cs.length : Int) := by omega
                have g0 := newC (HL.out.cb q hqr hql 0 (by omega)) b2
                have g1 := newC (HL.out.cb q hqr hql 1 (by omega)) b2
                have g2 := newC (HL.out.cb q hqr hql 2 (by omega)) b2
                have g3 := newC (HL.out.cb q hqr hql 3 (by omega)) b2
                have g4 := newC (HL.out.cb q hqr hql 4 (by omega)) b2
                have g5 := newC (HL.out.cb q hqr hql 5 (by omega)) b2
                simp only [Nat.add_zero] at g0
                go_wp2_with fail
                go_quiet (fail)
                go_wp2_with fail
                go_roundw
                case rel => exact ⟨q + 1, by go_num, by omega, below_drewN (b2.alloc b2.size _) _⟩
                case measure => simp [intOf]; omega
            · have hql' : ¬ (q : Int) < ((cs.length + 8 : Nat) : Int) := by omega
              have hql2 : ¬ (q : Int) < (cs.length : Int) + 8 := by omega
              go_wp2_with fail
              clear m3
              have hB : Below w.heap.size w wr.drew := hby.drew
              have hnn : (ps.length : Int) ≤ ((ps.length + 8 : Nat) : Int) := by omega
              have hnn2 : (ps.length : Int) ≤ (ps.length : Int) + 8 := by omega
              have hn0 : (0 : Int) ≤ (ps.length : Int) := by omega
              have HS : ∀ w' : World, Below w.heap.size w w' → (w'.cell? ⟨lb, 2, none⟩ = some (.slice (some ⟨pb, 0, none⟩) (ps.length + 8) (ps.length + 8)) ∧ w'.cell? ⟨lb, 5, none⟩ = some (.slice va ps.length cap) ∧ Below w.heap.size w w') := fun w' hw => ⟨keepD L2.out hw, keepD L5.out hw, hw⟩
              go_region_held3 (fun w' => w'.cell? ⟨lb, 2, none⟩ = some (.slice (some ⟨pb, 0, none⟩) (ps.length + 8) (ps.length + 8)) ∧ w'.cell? ⟨lb, 5, none⟩ = some (.slice va ps.length cap) ∧ Below w.heap.size w w') (first | exact HS _ hB) ((first
                | (go_at_call 85; refine (samePartitions_any ps _ _ _ (PartsV.below HL.out.parts hB) (PartsV.below HPW.out hB) (by omega) (fun k hk => by have := HR.out k hk; omega)).mono ?_; rintro e w2 ⟨rfl, hb2⟩; have hB := hB.trans (hb2.mono hB.size))))
              go_wp2_with fail
              go_ret
              exact ⟨rfl, hB⟩
end Go.Proofs.YteioennfpkoagaaGreatDoor.C
namespace Go.Proofs.YteioennfpkoagaaGreatDoor.C
open Go.RowKit

theorem KerI.below (I : KerI) {w w' : World} {v : Value} {D : ManD} {S : KS} {o : Nat → Prop} (h : I.KV w v D S o) (hb : Below w.heap.size w w') : I.KV w' v D S o :=
  I.keep h fun b ho => hb.block b (I.low h b ho)
theorem KerI.lowB (I : KerI) {w w' : World} {v : Value} {D : ManD} {S : KS} {o : Nat → Prop} (h : I.KV w v D S o) {B : Nat} (hB : w.heap.size ≤ B) (hb : Below B w w') : I.KV w' v D S o :=
  I.keep h fun b ho => hb.block b (by have := I.low h b ho; omega)
theorem KerI.apart (I : KerI) {w w' : World} {v : Value} {D : ManD} {S : KS} {o p : Nat → Prop} (h : I.KV w v D S o) (hf : Frm p w w') (hd : ∀ b, o b → ¬ p b) : I.KV w' v D S o :=
  I.keep h fun b ho => hf.block b (I.low h b ho) (hd b ho)
theorem Aft.pre {KV : World → Value → ManD → KS → (Nat → Prop) → Prop} {v : Value} {D : ManD} {S : KS} {o : Nat → Prop} {w0 w w' : World} (hb : Below w0.heap.size w0 w) (h : Aft KV v D S o w w') : Aft KV v D S o w0 w' := by
  obtain ⟨⟨o', h1, h2⟩, hf⟩ := h
  refine ⟨⟨o', h1, fun b hb' => ?_⟩, (Frm.all o hb).trans hf (newO.refl _ _)⟩
  rcases h2 b hb' with h3 | h3
  · exact .inl h3
  · exact .inr (by have := hb.size; omega)
theorem Aft.post (I : KerI) {v : Value} {D : ManD} {S : KS} {o : Nat → Prop} {w w' w2 : World} (h : Aft I.KV v D S o w w') (hb : Below w'.heap.size w' w2) : Aft I.KV v D S o w w2 := by
  obtain ⟨⟨o', h1, h2⟩, hf⟩ := h
  exact ⟨⟨o', I.below h1 hb, h2⟩, hf.trans (Frm.all o hb) (newO.refl _ _)⟩
theorem Aft.same (I : KerI) {v : Value} {D : ManD} {S : KS} {o : Nat → Prop} {w w' : World} (h : I.KV w v D S o) (hb : Below w.heap.size w w') : Aft I.KV v D S o w w' :=
  ⟨⟨o, I.below h hb, newO.refl _ _⟩, Frm.all o hb⟩
theorem Aft.trans (I : KerI) {v : Value} {D : ManD} {S T : KS} {o : Nat → Prop} {w w' w2 : World} (h : Aft I.KV v D S o w w') (h' : ∀ o', I.KV w' v D S o' → Aft I.KV v D T o' w' w2) : Aft I.KV v D T o w w2 := by
  obtain ⟨⟨o', h1, h2⟩, hf⟩ := h
  obtain ⟨⟨o2, h3, h4⟩, hf2⟩ := h' o' h1
  exact ⟨⟨o2, h3, h2.trans h4 hf.size⟩, hf.trans hf2 h2⟩
theorem Aft.bel {KV : World → Value → ManD → KS → (Nat → Prop) → Prop} {v : Value} {D : ManD} {S : KS} {o : Nat → Prop} {w w' : World} (h : Aft KV v D S o w w') {B : Nat} (hB : B ≤ w.heap.size) (ho : ∀ k, o k → B ≤ k) : Below B w w' := h.frm.below hB ho
/- locals of the caller lie between the two worlds w and wc -/
structure Aft3 (KV : World → Value → ManD → KS → (Nat → Prop) → Prop) (v : Value) (D : ManD) (S : KS) (o : Nat → Prop) (w wc w1 : World) : Prop where
  out : ∃ o', KV w1 v D S o' ∧ newO o o' wc
  frm : Frm o w w1
  lo : w.heap.size ≤ wc.heap.size
theorem Aft3.of {KV : World → Value → ManD → KS → (Nat → Prop) → Prop} {v : Value} {D : ManD} {S : KS} {o : Nat → Prop} {w wc w1 : World} (hb : Below w.heap.size w wc) (h : Aft KV v D S o wc w1) : Aft3 KV v D S o w wc w1 :=
  ⟨h.out, (Frm.all o hb).trans h.frm (newO.refl _ _), hb.size⟩
theorem Aft3.set (I : KerI) {v : Value} {D : ManD} {S : KS} {o : Nat → Prop} {w wc w1 : World} (h : Aft3 I.KV v D S o w wc w1) (ho : ∀ k, o k → k < w.heap.size) {b : Nat} (hb : w.heap.size ≤ b) (hb2 : b < wc.heap.size) (i : Nat) (u : Value) : Aft3 I.KV v D S o w wc (w1.setCell ⟨b, i, none⟩ u) := by
  obtain ⟨⟨o', h1, h2⟩, hf, hl⟩ := h
  refine ⟨⟨o', I.keep h1 fun c hc => ?_, h2⟩, hf.set (.inr hb) i u, hl⟩
  refine Below.heap_setCell _ _ _ _ (show c ≠ b from fun e => ?_)
  subst e
  rcases h2 c hc with h3 | h3
  · have := ho c h3; omega
  · omega
theorem Aft3.bel (I : KerI) {v : Value} {D : ManD} {S : KS} {o : Nat → Prop} {w wc w1 w2 : World} (h : Aft3 I.KV v D S o w wc w1) (hb : Below w1.heap.size w1 w2) : Aft3 I.KV v D S o w wc w2 := by
  obtain ⟨⟨o', h1, h2⟩, hf, hl⟩ := h
  exact ⟨⟨o', I.below h1 hb, h2⟩, hf.trans (Frm.all o hb) (newO.refl _ _), hl⟩
theorem Aft3.fin {KV : World → Value → ManD → KS → (Nat → Prop) → Prop} {v : Value} {D : ManD} {S : KS} {o : Nat → Prop} {w wc w1 : World} (h : Aft3 KV v D S o w wc w1) : Aft KV v D S o w w1 := by
  obtain ⟨⟨o', h1, h2⟩, hf, hl⟩ := h
  refine ⟨⟨o', h1, fun b hb => ?_⟩, hf⟩
  rcases h2 b hb with h3 | h3
  · exact .inl h3
  · exact .inr (by omega)
/- what a local holds behind the call -/
theorem Aft.far {KV : World → Value → ManD → KS → (Nat → Prop) → Prop} {v : Value} {D : ManD} {S : KS} {o : Nat → Prop} {w wc w1 : World} (h : Aft KV v D S o wc w1) (ho : ∀ k, o k → k < w.heap.size) {b : Nat} {x : Obj} (hb : w.heap.size ≤ b) (hx : wc.heap[b]? = some x) : w1.heap[b]? = some x :=
  (h.frm.block b (lt_of_blk hx) (fun e => by have := ho b e; omega)).trans hx
end Go.Proofs.YteioennfpkoagaaGreatDoor.C
