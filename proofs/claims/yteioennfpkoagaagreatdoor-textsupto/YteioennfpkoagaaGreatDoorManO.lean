import Derived.Test.YteioennfpkoagaaGreatDoorManN
namespace Go.Proofs.YteioennfpkoagaaGreatDoor
open Go.RowKit
attribute [local go_sem ↓] Go.wp_at_zero Go.wp_at_succ

/- options lie in block ob: the word, and its number -/
def OptB (w : World) (ob : Nat) (kws : List (List UInt8)) : Prop :=
  ∃ cur t fr, w.heap[ob]? = some (.cells cur t fr) ∧ ∀ j (hj : j < kws.length), cur[j * 2]? = some (.string ⟨kws[j].toArray⟩) ∧ cur[j * 2 + 1]? = some (.int .i64 ((j : Int) + 1))
theorem OptB.at {w : World} {sb : Nat} {kws : List (List UInt8)} (h : OptB w sb kws) (j : Nat) (hj : j < kws.length) : w.cell? ⟨sb, j * 2, none⟩ = some (.string ⟨kws[j].toArray⟩) ∧ w.cell? ⟨sb, j * 2 + 1, none⟩ = some (.int .i64 ((j : Int) + 1)) := by
  obtain ⟨cur, t, fr, h1, h2⟩ := h
  rw [cell_of_blk h1, cell_of_blk h1]; exact h2 j hj
theorem OptB.below {w w' : World} {sb : Nat} {kws : List (List UInt8)} (h : OptB w sb kws) (hb : Below w.heap.size w w') : OptB w' sb kws := by
  obtain ⟨cur, t, fr, h1, h2⟩ := h
  exact ⟨cur, t, fr, by rw [hb.block _ (lt_of_blk h1)]; exact h1, h2⟩
theorem PR.lt {w : World} {pb c B : Nat} {ew en eu es ex : Addr} {l : List UInt8} {st : St} {pv : Value} (h : PR w pb c B ew en eu es ex l st pv) : pb < w.heap.size := by
  have ha := h.at'
  rcases st with k | ⟨er, ln, cl⟩
  · exact lt_of_blk ha.2.2
  · obtain ⟨k, tt, v, a, b, mb, eb, h1, _⟩ := ha
    exact lt_of_blk h1
theorem choP_step (l : List UInt8) (st : St) (kws : List (List UInt8)) (k : Nat) (hk : k < kws.length) : choP l st k (kws.drop k) = if atP l kws[k] st = true then (k + 1, advP l st) else choP l st (k + 1) (kws.drop (k + 1)) := by
  rw [List.drop_eq_getElem_cons hk]; rfl

set_option maxRecDepth 100000 in
set_option maxHeartbeats 1000000 in
theorem choice_any (w : World) (pb c B : Nat) (ew en eu es ex : Addr) (ob oc : Nat) (l : List UInt8) (st : St) (pv : Value) (kws : List (List UInt8)) (h : PR w pb c B ew en eu es ex l st pv) (hst : OptB w ob kws) (hm : kws.length ≤ 100) :
    Calls Tryz.prog 203 #[.pointer (some ⟨pb, 0, none⟩), .slice (some ⟨ob, 0, none⟩) kws.length oc] w fun e w' => e = .returned (.int .i64 (choP l st 0 kws).1) ∧ PR w' pb c B ew en eu es ex l (choP l st 0 kws).2 pv ∧ KP pb c w w' := by
  generalize hfin : choP l st 0 kws = fin
  have HF : Hid (fin = choP l st 0 (kws.drop 0)) := hfin.symm
  clear hfin
  have HNO : Hid (noOf ew en eu es = 1) := by
    have := h.gl.ne
    show noOf ew en eu es = 1
    unfold noOf
    rw [if_neg (fun e => this.2.2.1 e.symm), if_neg (fun e => this.2.2.2.2.1 e.symm), if_neg (fun e => this.2.2.2.2.2 e.symm)]
  go_enter Tryz.func203, Tryz.ntmps203
  go_wp2_with fail
  go_loopw [9] (fun i wr => ∃ (k : Nat), i = .int .i64 k ∧ k ≤ kws.length ∧ Hid (fin = choP l st k (kws.drop k)) ∧ Below w.heap.size w wr) (fun i _ => kws.length - (intOf i).toNat)
  case atStart => exact ⟨0, rfl, by omega, HF, Below.refl _ _⟩
  case round =>
    obtain ⟨k, rfl, hk, HK, hbel⟩ := hrel
    clear HF
    have h' := h.aside hbel
    have hst' := hst.below hbel
    have hkw : KP pb c w wr := KP.below hbel
    have hpb : pb < wr.heap.size := by have := h'.lt; omega
    have hord := h.ord
    have cS := h'.gl.cS
    unfold errV at cS
    clear h hst
    by_cases hlt : k < kws.length
    · obtain ⟨d0, d1⟩ := hst'.at k hlt
      have hlt' : (k : Int) < (kws.length : Int) := by omega
      have hk0 : (0 : Int) ≤ (k : Int) := by omega
      have HSS : Hid _ := choP_step l st kws k hlt
      generalize kws[k] = kw at *
      have hb1 : Below wr.heap.size wr (wr.alloc (.cells #[.string ⟨kw.toArray⟩, .int .i64 ((k : Int) + 1)] 310)) := (Below.refl _ _).alloc (Nat.le_refl _) _
      have h1 := h'.aside hb1
      have hat := at_any _ pb c B ew en eu es ex l st pv ⟨kw.toArray⟩ h1
      simp only [] at hat
      go_wp2_with fail
      have hn := heap_new wr (.cells #[.string ⟨kw.toArray⟩, .int .i64 ((k : Int) + 1)] 310)
      generalize wr.alloc (.cells #[.string ⟨kw.toArray⟩, .int .i64 ((k : Int) + 1)] 310) = W1 at *
      refine hat.mono ?_
      rintro e w2 ⟨rfl, rfl⟩
      clear d0 d1
      rcases hi : atP l kw st with _ | _
      · have HX : Hid (fin = choP l st (k + 1) (kws.drop (k + 1))) := HK.out.trans (HSS.out.trans (if_neg (by simp [hi])))
        go_wp2_with fail
        go_roundw
        case rel => exact ⟨k + 1, by go_num, by omega, HX, hbel.trans (hb1.mono hbel.size)⟩
        case measure => simp [intOf]; omega
      · have HX : Hid (fin = (k + 1, advP l st)) := HK.out.trans (HSS.out.trans (if_pos hi))
        go_wp2_with fail
        refine (advance_any w2 pb c B ew en eu es ex l st pv h1).mono ?_
        rintro e w3 ⟨rfl, h3, hk3⟩
        have hn3 := KP.kp hn hk3 (by omega) (by omega) (by omega)
        have q1 : w3.cell? ⟨wr.heap.size, 1, none⟩ = some (.int .i64 ((k : Int) + 1)) := by rw [cell_of_blk hn3]; rfl
        go_wp2_with fail
        go_ret
        rw [HX.out]
        exact ⟨ret_int (by simp), h3, (hkw.trans (KP.below hb1)).trans hk3⟩
    · have HX : Hid (fin = (0, refP l 1 st)) := by have := HK.out; rw [List.drop_eq_nil_of_le (by omega)] at this; exact this
      go_wp2_with fail
      refine (refuse_any wr pb c B ew en eu es ex l st pv es 1 h' (by simp) HNO.out).mono ?_
      rintro e w3 ⟨rfl, h3, hk3⟩
      go_wp2_with fail
      go_ret
      rw [HX.out]
      exact ⟨rfl, h3, hkw.trans hk3⟩

set_option maxRecDepth 100000 in
set_option maxHeartbeats 1000000 in
theorem setting_any (w : World) (pb c B : Nat) (ew en eu es ex : Addr) (l : List UInt8) (st : St) (pv : Value) (s : ByteArray) (h : PR w pb c B ew en eu es ex l st pv) :
    Calls Tryz.prog 143 #[.pointer (some ⟨pb, 0, none⟩), .string s] w fun e w' => ∃ v, e = .returned (.int .i64 v) ∧ NumR l (expP l s.data.toList st) v ∧ PR w' pb c B ew en eu es ex l (expP l kSemi (numP l (expP l s.data.toList st)).2) pv ∧ KP pb c w w' := by
  go_enter Tryz.func143, Tryz.ntmps143
  go_wp2_with fail
  refine (expect_any w pb c B ew en eu es ex l st pv s h).mono ?_
  rintro e w1 ⟨rfl, h1, hk1⟩
  go_wp2_with fail
  refine (pnumber_any w1 pb c B ew en eu es ex l _ pv h1).mono ?_
  rintro e w2 ⟨v, rfl, hv, h2, hk2⟩
  go_wp2_with fail
  refine (expect_any w2 pb c B ew en eu es ex l _ pv ⟨#[59]⟩ h2).mono ?_
  rintro e w3 ⟨rfl, h3, hk3⟩
  go_wp2_with fail
  go_ret
  exact ⟨v, rfl, hv, h3, (hk1.trans hk2).trans hk3⟩

theorem optB_new (w : World) (cs : Array Value) (t : TypeId) (kws : List (List UInt8)) (h : ∀ j (hj : j < kws.length), cs[j * 2]? = some (.string ⟨kws[j].toArray⟩) ∧ cs[j * 2 + 1]? = some (.int .i64 ((j : Int) + 1))) : OptB (w.alloc (.cells cs t)) w.heap.size kws := ⟨cs, t, (0, 0), heap_new _ _, h⟩
set_option maxRecDepth 100000 in
set_option maxHeartbeats 1000000 in
theorem actions_any (w : World) : Calls Tryz.prog 169 #[] w fun e w' => ∃ ob oc, e = .returned (.slice (some ⟨ob, 0, none⟩) 3 oc) ∧ OptB w' ob kActions ∧ Below w.heap.size w w' := by
  go_enter Tryz.func169, Tryz.ntmps169
  go_wp2_with fail
  go_ret
  exact ⟨_, _, rfl, optB_new _ _ _ _ (by intro j hj; match j, hj with | 0, _ => exact ⟨rfl, rfl⟩ | 1, _ => exact ⟨rfl, rfl⟩ | 2, _ => exact ⟨rfl, rfl⟩), (Below.refl _ w).alloc (Nat.le_refl _) _⟩
set_option maxRecDepth 100000 in
set_option maxHeartbeats 1000000 in
theorem rights_any (w : World) : Calls Tryz.prog 170 #[] w fun e w' => ∃ ob oc, e = .returned (.slice (some ⟨ob, 0, none⟩) 2 oc) ∧ OptB w' ob kRights ∧ Below w.heap.size w w' := by
  go_enter Tryz.func170, Tryz.ntmps170
  go_wp2_with fail
  go_ret
  exact ⟨_, _, rfl, optB_new _ _ _ _ (by intro j hj; match j, hj with | 0, _ => exact ⟨rfl, rfl⟩ | 1, _ => exact ⟨rfl, rfl⟩), (Below.refl _ w).alloc (Nat.le_refl _) _⟩
set_option maxRecDepth 100000 in
set_option maxHeartbeats 1000000 in
theorem kinds_any (w : World) : Calls Tryz.prog 171 #[] w fun e w' => ∃ ob oc, e = .returned (.slice (some ⟨ob, 0, none⟩) 2 oc) ∧ OptB w' ob kKinds ∧ Below w.heap.size w w' := by
  go_enter Tryz.func171, Tryz.ntmps171
  go_wp2_with fail
  go_ret
  exact ⟨_, _, rfl, optB_new _ _ _ _ (by intro j hj; match j, hj with | 0, _ => exact ⟨rfl, rfl⟩ | 1, _ => exact ⟨rfl, rfl⟩), (Below.refl _ w).alloc (Nat.le_refl _) _⟩
end Go.Proofs.YteioennfpkoagaaGreatDoor
