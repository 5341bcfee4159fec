import Derived.Test.YteioennfpkoagaaGreatDoorG20
import Derived.Test.YteioennfpkoagaaGreatDoorG06
namespace Go.Proofs.YteioennfpkoagaaGreatDoor
open Go.RowKit
attribute [local go_sem ↓] Go.wp_at_zero Go.wp_at_succ

theorem PartT.below {w w' : World} {v : Value} {names : List (List UInt8)} (h : PartT w v names) (hb : Below w.heap.size w w') : PartT w' v names := by
  rcases h with h | ⟨pb, c, h1, h2⟩
  · exact .inl h
  · exact .inr ⟨pb, c, h1, h2.below hb⟩
set_option maxRecDepth 100000 in
set_option maxHeartbeats 1000000 in
theorem index_nil (w : World) (f : Value) :
    Calls Tryz.prog 175 #[.slice none 0 0, f] w fun e w' => e = .returned (.int .i64 (-1)) ∧ w' = w := by
  go_enter Tryz.func175, Tryz.ntmps175
  go_wp2_with fail
  go_rounds 1
  go_ret
  exact ⟨rfl, rfl⟩
theorem index_any (w : World) (pb bx : Nat) (v : Value) (tt : List UInt8) (names : List (List UInt8)) (hst : PartT w v names) (hm : names.length ≤ 10000) (hbx : w.cell? ⟨bx, 0, none⟩ = some (.pointer (some ⟨pb, 0, none⟩))) (c2 : w.cell? ⟨pb, 2, none⟩ = some (.string (ba tt))) :
    Calls Tryz.prog 175 #[v, .func (Fn.func 242) #[] #[.pointer (some ⟨bx, 0, none⟩)]] w fun e w' => e = .returned (.int .i64 (idxF tt 0 names)) ∧ Below w.heap.size w w' := by
  rcases hst with ⟨rfl, rfl⟩ | ⟨sb, c, rfl, hp⟩
  · refine (index_nil w _).mono ?_
    rintro e w' ⟨rfl, rfl⟩
    exact ⟨rfl, Below.refl _ _⟩
  · exact index_live w pb bx sb c tt names hp hm hbx c2

def PlcR (l : List UInt8) (names : List (List UInt8)) (st : St) (v : Nat) : Prop := ∀ k, st = .inl k → v = (plcP l names st).1
set_option maxRecDepth 100000 in
set_option maxHeartbeats 1000000 in
theorem pplace_any (w : World) (pb c B : Nat) (ew en eu es ex : Addr) (l : List UInt8) (st : St) (pv : Value) (names : List (List UInt8)) (h : PR w pb c B ew en eu es ex l st pv) (hst : PartT w pv names) (hm : names.length ≤ 10000) :
    Calls Tryz.prog 205 #[.pointer (some ⟨pb, 0, none⟩)] w fun e w' => ∃ v : Nat, e = .returned (.int .i64 v) ∧ PlcR l names st v ∧ PR w' pb c B ew en eu es ex l (plcP l names st).2 pv ∧ KP pb c w w' := by
  have HNO : Hid (noOf ew en eu es = 1) := by
    have := h.gl.ne
    show noOf ew en eu es = 1
    unfold noOf
    rw [if_neg (fun e => this.2.2.1 e.symm), if_neg (fun e => this.2.2.2.2.1 e.symm), if_neg (fun e => this.2.2.2.2.2 e.symm)]
  have HNU : Hid (noOf ew en eu eu = 4) := by
    have := h.gl.ne
    show noOf ew en eu eu = 4
    unfold noOf
    rw [if_neg (fun e => this.2.1 e.symm), if_neg (fun e => this.2.2.2.1 e.symm), if_pos rfl]
  obtain ⟨s1, s2, s3, rfl⟩ := h.shape
  have hsh : ∃ k tt v a b ev, w.heap[pb]? = some (.cells (prCells c k (ba tt) v a b ev (.slice s1 s2 s3)) 177 (0, 0)) ∧ (∀ j, st = .inl j → k = kindT (tk l j) ∧ tt = (tk l j).text) := by
    have ha := h.at'
    rcases st with j | ⟨er, ln, cl⟩
    · exact ⟨_, _, _, _, _, _, ha.2.2, fun j' hj => by cases hj; exact ⟨rfl, rfl⟩⟩
    · obtain ⟨k, tt, v, a, b, mb, eb, h1, _⟩ := ha
      exact ⟨k, tt.data.toList, v, a, b, _, by rw [← ba_eq rfl]; exact h1, fun j' hj => by cases hj⟩
  obtain ⟨kk, tt, v0, a0, b0, ev, hblk, hlive⟩ := hsh
  have HL : Hid _ := hlive
  clear hlive
  have hpb := lt_of_blk hblk
  have c1 : w.cell? ⟨pb, 1, none⟩ = some (.int .i64 kk) := by rw [cell_of_blk hblk]; rfl
  have c7 : w.cell? ⟨pb, 7, none⟩ = some (.slice s1 s2 s3) := by rw [cell_of_blk hblk]; rfl
  have c2 : w.cell? ⟨pb, 2, none⟩ = some (.string (ba tt)) := by rw [cell_of_blk hblk]; rfl
  clear hblk
  have hb0 : Below w.heap.size w (w.alloc (.cells #[.pointer (some ⟨pb, 0, none⟩)] 170)) := (Below.refl _ w).alloc (Nat.le_refl _) _
  have h0 := h.aside hb0
  have hst0 := hst.below hb0
  have hk0 : KP pb c w _ := KP.below hb0
  have e1 := (hb0.cell (p := ⟨pb, 1, none⟩) hpb).trans c1
  have e2 := (hb0.cell (p := ⟨pb, 2, none⟩) hpb).trans c2
  have e7 := (hb0.cell (p := ⟨pb, 7, none⟩) hpb).trans c7
  have eb : (w.alloc (.cells #[.pointer (some ⟨pb, 0, none⟩)] 170)).cell? ⟨w.heap.size, 0, none⟩ = some (.pointer (some ⟨pb, 0, none⟩)) := by rw [cell_of_blk (heap_new _ _)]; rfl
  have hbx : w.heap.size < (w.alloc (.cells #[.pointer (some ⟨pb, 0, none⟩)] 170)).heap.size := by simp
  have hbp : w.heap.size ≠ pb ∧ w.heap.size ≠ c ∧ w.heap.size ≠ c + 1 := by have := h.ord; omega
  clear hb0 c1 c2 c7 hst
  go_enter Tryz.func205, Tryz.ntmps205
  by_cases hk1 : kk = 1
  · subst hk1
    go_wp2_with fail
    generalize w.alloc (.cells #[.pointer (some ⟨pb, 0, none⟩)] 170) = W0 at *
    refine (index_any W0 pb w.heap.size _ tt names hst0 hm eb e2).mono ?_
    rintro e W1 ⟨rfl, hb1⟩
    have h1 := h0.aside hb1
    have hk1 : KP pb c w W1 := hk0.trans (KP.below hb1)
    have eb1 : W1.cell? ⟨w.heap.size, 0, none⟩ = some (.pointer (some ⟨pb, 0, none⟩)) := (hb1.cell (by exact hbx)).trans eb
    have cU := h1.gl.cU
    unfold errV at cU
    clear h0 hk0 hb1 e1 e2 e7 eb
    generalize hix : idxF tt 0 names = ix at *
    have HIX : Hid _ := hix
    clear hix
    by_cases hneg : ix < 0
    · have hd : decide (ix < 0) = true := by simp [hneg]
      go_wp2_with fail
      refine (refuse_any W1 pb c B ew en eu es ex l st _ eu 4 h1 (by simp) HNU.out).mono ?_
      rintro e W2 ⟨rfl, h2, hk2⟩
      go_wp2_with fail
      go_ret
      have hq : ∀ j, st = .inl j → plcP l names st = (0, badP l j 4) := by
        intro j hj
        obtain ⟨g1, g2⟩ := HL.out j hj
        subst hj
        simp only [plcP]
        rw [if_pos (by omega), plcGo_idx, ← g2, HIX.out, if_pos hneg]
      refine ⟨0, rfl, fun j hj => by rw [hq j hj], ?_, hk1.trans hk2⟩
      rcases st with j | x
      · rw [hq j rfl]; exact h2
      · exact h2
    · have hd : decide (ix < 0) = false := by simp [hneg]
      go_wp2_with fail
      refine (advance_any W1 pb c B ew en eu es ex l st _ h1).mono ?_
      rintro e W2 ⟨rfl, h2, hk2⟩
      go_wp2_with fail
      go_ret
      have hq : ∀ j, st = .inl j → plcP l names st = (ix.toNat, normP l (j + 1)) := by
        intro j hj
        obtain ⟨g1, g2⟩ := HL.out j hj
        subst hj
        simp only [plcP]
        rw [if_pos (by omega), plcGo_idx, ← g2, HIX.out, if_neg (by omega)]
      refine ⟨ix.toNat, ret_int (by omega), fun j hj => by rw [hq j hj], ?_, hk1.trans hk2⟩
      rcases st with j | x
      · rw [hq j rfl]; exact h2
      · exact h2
  · have hz : ((kk : Int) != 1) = true := by simp; omega
    have cS := h0.gl.cS
    unfold errV at cS
    go_wp2_with fail
    generalize w.alloc (.cells #[.pointer (some ⟨pb, 0, none⟩)] 170) = W0 at *
    refine (refuse_any W0 pb c B ew en eu es ex l st _ es 1 h0 (by simp) HNO.out).mono ?_
    rintro e W2 ⟨rfl, h2, hk2⟩
    go_wp2_with fail
    go_ret
    have hq : ∀ j, st = .inl j → plcP l names st = (0, badP l j 1) := by
      intro j hj
      obtain ⟨g1, g2⟩ := HL.out j hj
      subst hj
      simp only [plcP]
      rw [if_neg (by omega)]
    refine ⟨0, rfl, fun j hj => by rw [hq j hj], ?_, hk0.trans hk2⟩
    rcases st with j | x
    · rw [hq j rfl]; exact h2
    · exact h2
end Go.Proofs.YteioennfpkoagaaGreatDoor
namespace Go.Proofs.YteioennfpkoagaaGreatDoor
open Go.RowKit
attribute [local go_sem ↓] Go.wp_at_zero Go.wp_at_succ

/- options lie in block ob: the word, and its number -/
def OptB (w : World) (ob : Nat) (kws : List (List UInt8)) : Prop :=
  ∃ cur t fr, w.heap[ob]? = some (.cells cur t fr) ∧ ∀ j (hj : j < kws.length), cur[j * 2]? = some (.string ⟨kws[j].toArray⟩) ∧ cur[j * 2 + 1]? = some (.int .i64 ((j : Int) + 1))
theorem OptB.at {w : World} {sb : Nat} {kws : List (List UInt8)} (h : OptB w sb kws) (j : Nat) (hj : j < kws.length) : w.cell? ⟨sb, j * 2, none⟩ = some (.string ⟨kws[j].toArray⟩) ∧ w.cell? ⟨sb, j * 2 + 1, none⟩ = some (.int .i64 ((j : Int) + 1)) := by
  obtain ⟨cur, t, fr, h1, h2⟩ := h
  rw [cell_of_blk h1, cell_of_blk h1]; exact h2 j hj
theorem OptB.below {w w' : World} {sb : Nat} {kws : List (List UInt8)} (h : OptB w sb kws) (hb : Below w.heap.size w w') : OptB w' sb kws := by
  obtain ⟨cur, t, fr, h1, h2⟩ := h
  exact ⟨cur, t, fr, by rw [hb.block _ (lt_of_blk h1)]; exact h1, h2⟩
theorem PR.lt {w : World} {pb c B : Nat} {ew en eu es ex : Addr} {l : List UInt8} {st : St} {pv : Value} (h : PR w pb c B ew en eu es ex l st pv) : pb < w.heap.size := by
  have ha := h.at'
  rcases st with k | ⟨er, ln, cl⟩
  · exact lt_of_blk ha.2.2
  · obtain ⟨k, tt, v, a, b, mb, eb, h1, _⟩ := ha
    exact lt_of_blk h1
theorem choP_step (l : List UInt8) (st : St) (kws : List (List UInt8)) (k : Nat) (hk : k < kws.length) : choP l st k (kws.drop k) = if atP l kws[k] st = true then (k + 1, advP l st) else choP l st (k + 1) (kws.drop (k + 1)) := by
  rw [List.drop_eq_getElem_cons hk]; rfl

set_option maxRecDepth 100000 in
set_option maxHeartbeats 1000000 in
theorem choice_any (w : World) (pb c B : Nat) (ew en eu es ex : Addr) (ob oc : Nat) (l : List UInt8) (st : St) (pv : Value) (kws : List (List UInt8)) (h : PR w pb c B ew en eu es ex l st pv) (hst : OptB w ob kws) (hm : kws.length ≤ 100) :
    Calls Tryz.prog 203 #[.pointer (some ⟨pb, 0, none⟩), .slice (some ⟨ob, 0, none⟩) kws.length oc] w fun e w' => e = .returned (.int .i64 (choP l st 0 kws).1) ∧ PR w' pb c B ew en eu es ex l (choP l st 0 kws).2 pv ∧ KP pb c w w' := by
  generalize hfin : choP l st 0 kws = fin
  have HF : Hid (fin = choP l st 0 (kws.drop 0)) := hfin.symm
  clear hfin
  have HNO : Hid (noOf ew en eu es = 1) := by
    have := h.gl.ne
    show noOf ew en eu es = 1
    unfold noOf
    rw [if_neg (fun e => this.2.2.1 e.symm), if_neg (fun e => this.2.2.2.2.1 e.symm), if_neg (fun e => this.2.2.2.2.2 e.symm)]
  go_enter Tryz.func203, Tryz.ntmps203
  go_wp2_with fail
  go_loopw [9] (fun i wr => ∃ (k : Nat), i = .int .i64 k ∧ k ≤ kws.length ∧ Hid (fin = choP l st k (kws.drop k)) ∧ Below w.heap.size w wr) (fun i _ => kws.length - (intOf i).toNat)
  case atStart => exact ⟨0, rfl, by omega, HF, Below.refl _ _⟩
  case round =>
    obtain ⟨k, rfl, hk, HK, hbel⟩ := hrel
    clear HF
    have h' := h.aside hbel
    have hst' := hst.below hbel
    have hkw : KP pb c w wr := KP.below hbel
    have hpb : pb < wr.heap.size := by have := h'.lt; omega
    have hord := h.ord
    have cS := h'.gl.cS
    unfold errV at cS
    clear h hst
    by_cases hlt : k < kws.length
    · obtain ⟨d0, d1⟩ := hst'.at k hlt
      have hlt' : (k : Int) < (kws.length : Int) := by omega
      have hk0 : (0 : Int) ≤ (k : Int) := by omega
      have HSS : Hid _ := choP_step l st kws k hlt
      generalize kws[k] = kw at *
      have hb1 : Below wr.heap.size wr (wr.alloc (.cells #[.string ⟨kw.toArray⟩, .int .i64 ((k : Int) + 1)] 310)) := (Below.refl _ _).alloc (Nat.le_refl _) _
      have h1 := h'.aside hb1
      have hat := at_any _ pb c B ew en eu es ex l st pv ⟨kw.toArray⟩ h1
      simp only [] at hat
      go_wp2_with fail
      have hn := heap_new wr (.cells #[.string ⟨kw.toArray⟩, .int .i64 ((k : Int) + 1)] 310)
      generalize wr.alloc (.cells #[.string ⟨kw.toArray⟩, .int .i64 ((k : Int) + 1)] 310) = W1 at *
      refine hat.mono ?_
      rintro e w2 ⟨rfl, rfl⟩
      clear d0 d1
      rcases hi : atP l kw st with _ | _
      · have HX : Hid (fin = choP l st (k + 1) (kws.drop (k + 1))) := HK.out.trans (HSS.out.trans (if_neg (by simp [hi])))
        go_wp2_with fail
        go_roundw
        case rel => exact ⟨k + 1, by go_num, by omega, HX, hbel.trans (hb1.mono hbel.size)⟩
        case measure => simp [intOf]; omega
      · have HX : Hid (fin = (k + 1, advP l st)) := HK.out.trans (HSS.out.trans (if_pos hi))
        go_wp2_with fail
        refine (advance_any w2 pb c B ew en eu es ex l st pv h1).mono ?_
        rintro e w3 ⟨rfl, h3, hk3⟩
        have hn3 := KP.kp hn hk3 (by omega) (by omega) (by omega)
        have q1 : w3.cell? ⟨wr.heap.size, 1, none⟩ = some (.int .i64 ((k : Int) + 1)) := by rw [cell_of_blk hn3]; rfl
        go_wp2_with fail
        go_ret
        rw [HX.out]
        exact ⟨ret_int (by simp), h3, (hkw.trans (KP.below hb1)).trans hk3⟩
    · have HX : Hid (fin = (0, refP l 1 st)) := by have := HK.out; rw [List.drop_eq_nil_of_le (by omega)] at this; exact this
      go_wp2_with fail
      refine (refuse_any wr pb c B ew en eu es ex l st pv es 1 h' (by simp) HNO.out).mono ?_
      rintro e w3 ⟨rfl, h3, hk3⟩
      go_wp2_with fail
      go_ret
      rw [HX.out]
      exact ⟨rfl, h3, hkw.trans hk3⟩

set_option maxRecDepth 100000 in
set_option maxHeartbeats 1000000 in
theorem setting_any (w : World) (pb c B : Nat) (ew en eu es ex : Addr) (l : List UInt8) (st : St) (pv : Value) (s : ByteArray) (h : PR w pb c B ew en eu es ex l st pv) :
    Calls Tryz.prog 143 #[.pointer (some ⟨pb, 0, none⟩), .string s] w fun e w' => ∃ v, e = .returned (.int .i64 v) ∧ NumR l (expP l s.data.toList st) v ∧ PR w' pb c B ew en eu es ex l (expP l kSemi (numP l (expP l s.data.toList st)).2) pv ∧ KP pb c w w' := by
  go_enter Tryz.func143, Tryz.ntmps143
  go_wp2_with fail
  refine (expect_any w pb c B ew en eu es ex l st pv s h).mono ?_
  rintro e w1 ⟨rfl, h1, hk1⟩
  go_wp2_with fail
  refine (pnumber_any w1 pb c B ew en eu es ex l _ pv h1).mono ?_
  rintro e w2 ⟨v, rfl, hv, h2, hk2⟩
  go_wp2_with fail
  refine (expect_any w2 pb c B ew en eu es ex l _ pv ⟨#[59]⟩ h2).mono ?_
  rintro e w3 ⟨rfl, h3, hk3⟩
  go_wp2_with fail
  go_ret
  exact ⟨v, rfl, hv, h3, (hk1.trans hk2).trans hk3⟩

theorem optB_new (w : World) (cs : Array Value) (t : TypeId) (kws : List (List UInt8)) (h : ∀ j (hj : j < kws.length), cs[j * 2]? = some (.string ⟨kws[j].toArray⟩) ∧ cs[j * 2 + 1]? = some (.int .i64 ((j : Int) + 1))) : OptB (w.alloc (.cells cs t)) w.heap.size kws := ⟨cs, t, (0, 0), heap_new _ _, h⟩
set_option maxRecDepth 100000 in
set_option maxHeartbeats 1000000 in
theorem actions_any (w : World) : Calls Tryz.prog 169 #[] w fun e w' => ∃ ob oc, e = .returned (.slice (some ⟨ob, 0, none⟩) 3 oc) ∧ OptB w' ob kActions ∧ Below w.heap.size w w' := by
  go_enter Tryz.func169, Tryz.ntmps169
  go_wp2_with fail
  go_ret
  exact ⟨_, _, rfl, optB_new _ _ _ _ (by intro j hj; match j, hj with | 0, _ => exact ⟨rfl, rfl⟩ | 1, _ => exact ⟨rfl, rfl⟩ | 2, _ => exact ⟨rfl, rfl⟩), (Below.refl _ w).alloc (Nat.le_refl _) _⟩
set_option maxRecDepth 100000 in
set_option maxHeartbeats 1000000 in
theorem rights_any (w : World) : Calls Tryz.prog 170 #[] w fun e w' => ∃ ob oc, e = .returned (.slice (some ⟨ob, 0, none⟩) 2 oc) ∧ OptB w' ob kRights ∧ Below w.heap.size w w' := by
  go_enter Tryz.func170, Tryz.ntmps170
  go_wp2_with fail
  go_ret
  exact ⟨_, _, rfl, optB_new _ _ _ _ (by intro j hj; match j, hj with | 0, _ => exact ⟨rfl, rfl⟩ | 1, _ => exact ⟨rfl, rfl⟩), (Below.refl _ w).alloc (Nat.le_refl _) _⟩
set_option maxRecDepth 100000 in
set_option maxHeartbeats 1000000 in
theorem kinds_any (w : World) : Calls Tryz.prog 171 #[] w fun e w' => ∃ ob oc, e = .returned (.slice (some ⟨ob, 0, none⟩) 2 oc) ∧ OptB w' ob kKinds ∧ Below w.heap.size w w' := by
  go_enter Tryz.func171, Tryz.ntmps171
  go_wp2_with fail
  go_ret
  exact ⟨_, _, rfl, optB_new _ _ _ _ (by intro j hj; match j, hj with | 0, _ => exact ⟨rfl, rfl⟩ | 1, _ => exact ⟨rfl, rfl⟩), (Below.refl _ w).alloc (Nat.le_refl _) _⟩
end Go.Proofs.YteioennfpkoagaaGreatDoor
namespace Go.Proofs.YteioennfpkoagaaGreatDoor
open Go.RowKit
attribute [local go_sem ↓] Go.wp_at_zero Go.wp_at_succ

theorem LeR.back {a b : RS} (h : LeR a b) : b.e = 0 → a.e = 0 := fun hb => by
  rcases Nat.eq_zero_or_pos a.e with h0 | h0
  · exact h0
  · exact absurd hb (h.2 (by omega))
theorem ba_kw (kw : List UInt8) : (⟨kw.toArray⟩ : ByteArray).data.toList = kw := rfl
theorem expect_r (w : World) (pb c B : Nat) (ew en eu es ex : Addr) (l : List UInt8) (r : RS) (pv : Value) (s : ByteArray) (kw : List UInt8) (h : PR w pb c B ew en eu es ex l (absS l r) pv) (hk : okK kw = true) (hs : s.data.toList = kw) :
    Calls Tryz.prog 147 #[.pointer (some ⟨pb, 0, none⟩), .string s] w fun e w' => e = .returned (.tuple #[]) ∧ PR w' pb c B ew en eu es ex l (absS l (mustR l r [kw])) pv ∧ KP pb c w w' := by
  have := expect_any w pb c B ew en eu es ex l (absS l r) pv s h
  rw [hs, exp_abs l r kw hk] at this
  exact this
theorem at_r (w : World) (pb c B : Nat) (ew en eu es ex : Addr) (l : List UInt8) (r : RS) (pv : Value) (s : ByteArray) (kw : List UInt8) (h : PR w pb c B ew en eu es ex l (absS l r) pv) (hk : okK kw = true) (hs : s.data.toList = kw) :
    Calls Tryz.prog 144 #[.pointer (some ⟨pb, 0, none⟩), .string s] w fun e w' => e = .returned (.bool (isR l r kw)) ∧ w' = w := by
  have := at_any w pb c B ew en eu es ex l (absS l r) pv s h
  rw [hs, at_abs l r kw hk] at this
  exact this
theorem number_r (w : World) (pb c B : Nat) (ew en eu es ex : Addr) (l : List UInt8) (r : RS) (pv : Value) (h : PR w pb c B ew en eu es ex l (absS l r) pv) :
    Calls Tryz.prog 201 #[.pointer (some ⟨pb, 0, none⟩)] w fun e w' => ∃ v, e = .returned (.int .i64 v) ∧ Hid ((numberR l r).2.e = 0 → v = (numberR l r).1) ∧ PR w' pb c B ew en eu es ex l (absS l (numberR l r).2) pv ∧ KP pb c w w' := by
  refine (pnumber_any w pb c B ew en eu es ex l (absS l r) pv h).mono ?_
  rintro e w' ⟨v, rfl, hv, hp, hk⟩
  have ha := num_abs l r
  rw [ha.1] at hp
  refine ⟨v, rfl, fun he => ?_, hp, hk⟩
  obtain ⟨k, h1, h2⟩ := ha.2 he
  rw [hv k h1, h2]
theorem name_r (w : World) (pb c B : Nat) (ew en eu es ex : Addr) (l : List UInt8) (r : RS) (pv : Value) (h : PR w pb c B ew en eu es ex l (absS l r) pv) :
    Calls Tryz.prog 202 #[.pointer (some ⟨pb, 0, none⟩)] w fun e w' => ∃ v : List UInt8, e = .returned (.string ⟨v.toArray⟩) ∧ Hid ((someR l r 1).2.e = 0 → v = (someR l r 1).1) ∧ PR w' pb c B ew en eu es ex l (absS l (someR l r 1).2) pv ∧ KP pb c w w' := by
  refine (name_any w pb c B ew en eu es ex l (absS l r) pv h).mono ?_
  rintro e w' ⟨v, rfl, hv, hp, hk⟩
  have ha := word_abs l r
  rw [ha.1] at hp
  refine ⟨v, rfl, fun he => ?_, hp, hk⟩
  obtain ⟨k, h1, h2⟩ := ha.2 he
  rw [hv k h1, h2]
theorem place_r (w : World) (pb c B : Nat) (ew en eu es ex : Addr) (l : List UInt8) (r : RS) (pv : Value) (names : List (List UInt8)) (h : PR w pb c B ew en eu es ex l (absS l r) pv) (hst : PartT w pv names) (hm : names.length ≤ 10000) (hn : ∀ nm ∈ names, nm.length ≤ 16) :
    Calls Tryz.prog 205 #[.pointer (some ⟨pb, 0, none⟩)] w fun e w' => ∃ v : Nat, e = .returned (.int .i64 v) ∧ Hid ((endR l r names).2.e = 0 → v = (endR l r names).1) ∧ PR w' pb c B ew en eu es ex l (absS l (endR l r names).2) pv ∧ KP pb c w w' := by
  refine (pplace_any w pb c B ew en eu es ex l (absS l r) pv names h hst hm).mono ?_
  rintro e w' ⟨v, rfl, hv, hp, hk⟩
  have ha := plc_abs l r names hn
  rw [ha.1] at hp
  refine ⟨v, rfl, fun he => ?_, hp, hk⟩
  obtain ⟨k, h1, h2⟩ := ha.2 he
  rw [hv k h1, h2]
theorem choice_r (w : World) (pb c B : Nat) (ew en eu es ex : Addr) (ob oc n : Nat) (l : List UInt8) (r : RS) (pv : Value) (kws : List (List UInt8)) (h : PR w pb c B ew en eu es ex l (absS l r) pv) (hst : OptB w ob kws) (hn : n = kws.length) (hm : kws.length ≤ 100) (hk : ∀ kw ∈ kws, okK kw = true) :
    Calls Tryz.prog 203 #[.pointer (some ⟨pb, 0, none⟩), .slice (some ⟨ob, 0, none⟩) n oc] w fun e w' => e = .returned (.int .i64 (oneOfR l r 0 kws).1) ∧ PR w' pb c B ew en eu es ex l (absS l (oneOfR l r 0 kws).2) pv ∧ KP pb c w w' := by
  subst hn
  have := choice_any w pb c B ew en eu es ex ob oc l (absS l r) pv kws h hst hm
  rw [cho_abs l r 0 kws hk] at this
  exact this
theorem setting_r (w : World) (pb c B : Nat) (ew en eu es ex : Addr) (l : List UInt8) (r : RS) (pv : Value) (s : ByteArray) (kw : List UInt8) (h : PR w pb c B ew en eu es ex l (absS l r) pv) (hk : okK kw = true) (hs : s.data.toList = kw) :
    Calls Tryz.prog 143 #[.pointer (some ⟨pb, 0, none⟩), .string s] w fun e w' => ∃ v, e = .returned (.int .i64 v) ∧ Hid ((numberR l (mustR l r [kw])).2.e = 0 → v = (numberR l (mustR l r [kw])).1) ∧ PR w' pb c B ew en eu es ex l (absS l (mustR l (numberR l (mustR l r [kw])).2 [kSemi])) pv ∧ KP pb c w w' := by
  refine (setting_any w pb c B ew en eu es ex l (absS l r) pv s h).mono ?_
  rintro e w' ⟨v, rfl, hv, hp, hk'⟩
  rw [hs, exp_abs l r kw hk] at hv hp
  have ha := num_abs l (mustR l r [kw])
  rw [ha.1, exp_abs l _ kSemi (by decide)] at hp
  refine ⟨v, rfl, fun he => ?_, hp, hk'⟩
  obtain ⟨k, h1, h2⟩ := ha.2 he
  rw [hv k h1, h2]

/- In the midst of a method of the parser: the result's block, a local variable's block behind it, the parser. -/
structure QW (w0 wr : World) (pb c B : Nat) (ew en eu es ex : Addr) (l : List UInt8) (r : RS) (pv : Value) (T : Nat) (z xs : Array Value) : Prop where
  rd : PR wr pb c B ew en eu es ex l (absS l r) pv
  kp : KP pb c w0 wr
  res : wr.heap[w0.heap.size]? = some (.cells z T (0, 0))
  loc : wr.heap[w0.heap.size + 1]? = some (.cells xs T (0, 0))
  lt : pb < w0.heap.size
  ty : T ≠ 182
theorem QW.step {w0 wr wr' : World} {pb c B : Nat} {ew en eu es ex : Addr} {l : List UInt8} {r r' : RS} {pv : Value} {T : Nat} {z xs : Array Value} (h : QW w0 wr pb c B ew en eu es ex l r pv T z xs) (hr : PR wr' pb c B ew en eu es ex l (absS l r') pv) (hk : KP pb c wr wr') : QW w0 wr' pb c B ew en eu es ex l r' pv T z xs := by
  have h1 := h.lt; have h2 := hr.ord
  exact ⟨hr, h.kp.trans hk, KP.kp h.res hk (by omega) (by omega) (by omega), KP.kp h.loc hk (by omega) (by omega) (by omega), h.lt, h.ty⟩
theorem PR.setFar {w : World} {pb c B : Nat} {ew en eu es ex : Addr} {l : List UInt8} {st : St} {pv : Value} {T K : Nat} {xs : Array Value} (h : PR w pb c B ew en eu es ex l st pv) (hK : w.heap[K]? = some (.cells xs T (0, 0))) (hT : T ≠ 182) (hp : pb < K) (i : Nat) (v : Value) : PR (w.setCell ⟨K, i, none⟩ v) pb c B ew en eu es ex l st pv := by
  have h2 := h.ord; have h3 := h.hBp
  refine h.kept (by simp [World.setCell]) (h.gl.grown (grown_set w K i v) (by intro k hk; injection hk; omega)) ?_
  intro k hk hc
  refine Below.heap_setCell _ _ _ _ ?_
  rintro rfl
  rcases hc with hc | hc | hc | hc | ⟨o, hc⟩
  · omega
  · omega
  · omega
  · omega
  · rw [hK] at hc; simp at hc; exact hT hc.2
theorem QW.set {w0 wr : World} {pb c B : Nat} {ew en eu es ex : Addr} {l : List UInt8} {r : RS} {pv : Value} {T : Nat} {z xs : Array Value} (h : QW w0 wr pb c B ew en eu es ex l r pv T z xs) (i : Nat) (v : Value) : QW w0 (wr.setCell ⟨w0.heap.size + 1, i, none⟩ v) pb c B ew en eu es ex l r pv T z (xs.setIfInBounds i v) := by
  have h1 := h.lt; have h2 := h.rd.ord
  exact ⟨h.rd.setFar h.loc h.ty (by omega) i v, h.kp.setNew i v (by omega), by rw [blk_far _ _ (by omega)]; exact h.res, blk_set i v h.loc, h.lt, h.ty⟩
theorem QW.setz {w0 wr : World} {pb c B : Nat} {ew en eu es ex : Addr} {l : List UInt8} {r : RS} {pv : Value} {T : Nat} {z xs : Array Value} (h : QW w0 wr pb c B ew en eu es ex l r pv T z xs) (i : Nat) (v : Value) : QW w0 (wr.setCell ⟨w0.heap.size, i, none⟩ v) pb c B ew en eu es ex l r pv T (z.setIfInBounds i v) xs := by
  have h1 := h.lt; have h2 := h.rd.ord
  exact ⟨h.rd.setFar h.res h.ty (by omega) i v, h.kp.setNew i v (Nat.le_refl _), blk_set i v h.res, by rw [blk_far _ _ (by omega)]; exact h.loc, h.lt, h.ty⟩
theorem QW.aside {w0 wr wr' : World} {pb c B : Nat} {ew en eu es ex : Addr} {l : List UInt8} {r : RS} {pv : Value} {T : Nat} {z xs : Array Value} {row : Option Nat} (h : QW w0 wr pb c B ew en eu es ex l r pv T z xs) (hg : wr.grownBy wr' row) (hrow : ∀ k, row = some k → w0.heap.size + 1 < k ∧ ∀ o, wr.heap[k]? ≠ some (.cells o 182 (0, 0))) : QW w0 wr' pb c B ew en eu es ex l r pv T z xs := by
  have h1 := h.lt; have h2 := h.rd.ord; have h3 := h.rd.hBp
  have ne : ∀ k, k ≤ w0.heap.size + 1 → some k ≠ row := fun k hk e => by have := (hrow k e.symm).1; omega
  refine ⟨h.rd.kept hg.size (h.rd.gl.grown hg (fun k hk => by have := (hrow k hk).1; omega)) ?_, ?_, by rw [hg.block _ (lt_of_blk h.res) (ne _ (by omega))]; exact h.res, by rw [hg.block _ (lt_of_blk h.loc) (ne _ (by omega))]; exact h.loc, h1, h.ty⟩
  · intro k hk hc
    rcases hc with hc | hc | hc | hc | ⟨o, hc⟩
    · exact hg.block k hk (ne k (by omega))
    · exact hg.block k hk (ne k (by omega))
    · exact hg.block k hk (ne k (by omega))
    · exact hg.block k hk (ne k (by omega))
    · exact hg.block k hk (fun e => (hrow k e.symm).2 o hc)
  · exact ⟨hg.os.trans h.kp.os, hg.tape.trans h.kp.tape, hg.output.trans h.kp.output, Nat.le_trans h.kp.size hg.size, fun k hk a1 a2 a3 => by rw [hg.block k (Nat.lt_of_lt_of_le hk h.kp.size) (ne k (by omega))]; exact h.kp.block k hk a1 a2 a3⟩
theorem QW.below {w0 wr wr' : World} {pb c B : Nat} {ew en eu es ex : Addr} {l : List UInt8} {r : RS} {pv : Value} {T : Nat} {z xs : Array Value} (h : QW w0 wr pb c B ew en eu es ex l r pv T z xs) (hb : Below wr.heap.size wr wr') : QW w0 wr' pb c B ew en eu es ex l r pv T z xs := h.aside (grown_below hb none) (by simp)
theorem QW.start {w : World} {pb c B : Nat} {ew en eu es ex : Addr} {l : List UInt8} {r : RS} {pv : Value} (h : PR w pb c B ew en eu es ex l (absS l r) pv) (T : Nat) (hT : T ≠ 182) (z xs : Array Value) : QW w ((w.alloc (.cells z T)).alloc (.cells xs T)) pb c B ew en eu es ex l r pv T z xs := by
  have hb : Below w.heap.size w ((w.alloc (.cells z T)).alloc (.cells xs T)) := ((Below.refl _ _).alloc (Nat.le_refl _) _).alloc (by simp) _
  refine ⟨h.aside hb, KP.below hb, ?_, ?_, h.lt, hT⟩
  · rw [Below.heap_alloc _ _ _ (by simp), heap_new]
  · have := heap_new (w.alloc (.cells z T)) (.cells xs T)
    simpa using this
theorem QW.cell {w0 wr : World} {pb c B : Nat} {ew en eu es ex : Addr} {l : List UInt8} {r : RS} {pv : Value} {T : Nat} {z xs : Array Value} (h : QW w0 wr pb c B ew en eu es ex l r pv T z xs) (i : Nat) : wr.cell? ⟨w0.heap.size + 1, i, none⟩ = xs[i]? := cell_of_blk h.loc
theorem QW.fz {w0 wr : World} {pb c B : Nat} {ew en eu es ex : Addr} {l : List UInt8} {r : RS} {pv : Value} {T : Nat} {z xs : Array Value} (h : QW w0 wr pb c B ew en eu es ex l r pv T z xs) (i : Nat) : wr.frozen? ⟨w0.heap.size + 1, i, none⟩ = false := frozen_of_blk h.loc
theorem QW.cellz {w0 wr : World} {pb c B : Nat} {ew en eu es ex : Addr} {l : List UInt8} {r : RS} {pv : Value} {T : Nat} {z xs : Array Value} (h : QW w0 wr pb c B ew en eu es ex l r pv T z xs) (i : Nat) : wr.cell? ⟨w0.heap.size, i, none⟩ = z[i]? := cell_of_blk h.res
theorem QW.fzz {w0 wr : World} {pb c B : Nat} {ew en eu es ex : Addr} {l : List UInt8} {r : RS} {pv : Value} {T : Nat} {z xs : Array Value} (h : QW w0 wr pb c B ew en eu es ex l r pv T z xs) (i : Nat) : wr.frozen? ⟨w0.heap.size, i, none⟩ = false := frozen_of_blk h.res
end Go.Proofs.YteioennfpkoagaaGreatDoor
namespace Go.Proofs.YteioennfpkoagaaGreatDoor
open Go.RowKit
attribute [local go_sem ↓] Go.wp_at_zero Go.wp_at_succ

set_option maxRecDepth 100000 in
set_option maxHeartbeats 1000000 in
theorem region_r (w : World) (pb c B : Nat) (ew en eu es ex : Addr) (l : List UInt8) (r : RS) (pv : Value) (h : PR w pb c B ew en eu es ex l (absS l r) pv) (hi : isR l r kMemory = true) :
    Calls Tryz.prog 204 #[.pointer (some ⟨pb, 0, none⟩)] w fun e w' => ∃ g : Reg, e = .returned (.agg #[.int .i64 g.page, .int .i64 g.pages, .int .i64 g.rights]) ∧ Hid ((regionR l r).2.e = 0 → g = (regionR l r).1) ∧ PR w' pb c B ew en eu es ex l (absS l (regionR l r).2) pv ∧ KP pb c w w' := by
  have HI : Hid (mustR l r [kMemory] = nextR r) := mustR_one hi
  clear hi
  generalize hfinal : regionR l r = final
  have HFN : Hid _ := hfinal
  clear hfinal
  have h0 := QW.start h 90 (by decide) #[.int .i64 0, .int .i64 0, .int .i64 0] #[.int .i64 0, .int .i64 0, .int .i64 0]
  clear h
  go_enter Tryz.func204, Tryz.ntmps204
  go_wp2_with fail
  generalize (w.alloc (Obj.cells #[.int .i64 0, .int .i64 0, .int .i64 0] 90)).alloc (Obj.cells #[.int .i64 0, .int .i64 0, .int .i64 0] 90) = W0 at *
  refine (expect_r W0 pb c B ew en eu es ex l r pv _ kMemory h0.rd (by decide) rfl).mono ?_
  rintro e W1 ⟨rfl, hr, hk⟩
  have h1 := h0.step hr hk
  clear hr hk h0
  have L1 : Hid (LeR r (mustR l r [kMemory])) := mustR_le _ _ _
  generalize hq : mustR l r [kMemory] = r1 at *
  have Q1 : Hid _ := hq
  clear hq
  go_wp2_with fail
  refine (number_r W1 pb c B ew en eu es ex l r1 pv h1.rd).mono ?_
  rintro e W2 ⟨pg, rfl, V2, hr, hk⟩
  have h2 := h1.step hr hk
  clear hr hk h1
  have L2 : Hid (LeR r1 (numberR l r1).2) := numberR_le _ _
  generalize hq : numberR l r1 = q at *
  obtain ⟨y2, r2⟩ := q
  have Q2 : Hid _ := hq
  clear hq
  simp only [] at h2 V2 L2
  have x0 := h2.cell 0
  have f0 := h2.fz 0
  simp at x0
  go_wp2_with fail
  have h3 : QW w _ pb c B ew en eu es ex l r2 pv 90 _ #[.int .i64 pg, .int .i64 0, .int .i64 0] := h2.set 0 (.int .i64 pg)
  generalize W2.setCell ⟨w.heap.size + 1, 0, none⟩ (.int .i64 pg) = W3 at *
  clear h2 x0 f0
  refine (number_r W3 pb c B ew en eu es ex l r2 pv h3.rd).mono ?_
  rintro e W4 ⟨ps, rfl, V3, hr, hk⟩
  have h4 := h3.step hr hk
  clear hr hk h3
  have L3 : Hid (LeR r2 (numberR l r2).2) := numberR_le _ _
  generalize hq : numberR l r2 = q at *
  obtain ⟨y3, r3⟩ := q
  have Q3 : Hid _ := hq
  clear hq
  simp only [] at h4 V3 L3
  have x0 := h4.cell 1
  have f0 := h4.fz 1
  simp at x0
  go_wp2_with fail
  have h5 : QW w _ pb c B ew en eu es ex l r3 pv 90 _ #[.int .i64 pg, .int .i64 ps, .int .i64 0] := h4.set 1 (.int .i64 ps)
  generalize W4.setCell ⟨w.heap.size + 1, 1, none⟩ (.int .i64 ps) = W5 at *
  clear h4 x0 f0
  refine (rights_any W5).mono ?_
  rintro e W6 ⟨ob, oc, rfl, hob, hbb⟩
  have h6 := h5.below hbb
  clear hbb h5
  go_wp2_with fail
  refine (choice_r W6 pb c B ew en eu es ex ob oc 2 l r3 pv kRights h6.rd hob rfl (by decide) (by decide)).mono ?_
  rintro e W7 ⟨rfl, hr, hk⟩
  have h7 := h6.step hr hk
  clear hr hk h6
  clear hob
  have L4 : Hid (LeR r3 (oneOfR l r3 0 kRights).2) := oneOfR_le _ _ _ _
  generalize hq : oneOfR l r3 0 kRights = q at *
  obtain ⟨rv, r4⟩ := q
  have Q4 : Hid _ := hq
  clear hq
  simp only [] at h7 L4
  have x0 := h7.cell 2
  have f0 := h7.fz 2
  simp at x0
  go_wp2_with fail
  have h8 : QW w _ pb c B ew en eu es ex l r4 pv 90 _ #[.int .i64 pg, .int .i64 ps, .int .i64 rv] := h7.set 2 (.int .i64 rv)
  generalize W7.setCell ⟨w.heap.size + 1, 2, none⟩ (.int .i64 rv) = W8 at *
  clear h7 x0 f0
  refine (expect_r W8 pb c B ew en eu es ex l r4 pv _ kSemi h8.rd (by decide) rfl).mono ?_
  rintro e W9 ⟨rfl, hr, hk⟩
  have h9 := h8.step hr hk
  clear hr hk h8
  have L5 : Hid (LeR r4 (mustR l r4 [kSemi])) := mustR_le _ _ _
  generalize hq : mustR l r4 [kSemi] = r5 at *
  have Q5 : Hid _ := hq
  clear hq
  have HZ : Hid (final = (⟨y2, y3, rv⟩, r5)) := by
    rw [← HFN.out]
    show _ = _
    simp only [regionR, ← HI.out, Q2.out, Q3.out, Q4.out, Q5.out]
  have HV : Hid (r5.e = 0 → pg = y2 ∧ ps = y3) := by
    show r5.e = 0 → pg = y2 ∧ ps = y3
    intro E5
    have E4 : r4.e = 0 := L5.out.back E5
    have E3 : r3.e = 0 := L4.out.back E4
    have E2 : r2.e = 0 := L3.out.back E3
    exact ⟨V2.out E2, V3.out E3⟩
  clear HFN Q1 Q2 Q3 Q4 Q5 L1 L2 L3 L4 L5 V2 V3
  have x0 := h9.cell 0
  have z0 := h9.cellz 0
  have f0 := h9.fzz 0
  have x1 := h9.cell 1
  have z1 := h9.cellz 1
  have f1 := h9.fzz 1
  have x2 := h9.cell 2
  have z2 := h9.cellz 2
  have f2 := h9.fzz 2
  simp at x0 x1 x2 z0 z1 z2
  have hB1 := lt_of_blk h9.loc
  go_wp2_with fail
  have kz : QW w _ pb c B ew en eu es ex l _ pv 90 #[.int .i64 pg, .int .i64 ps, .int .i64 rv] _ := (((h9.setz 0 (.int .i64 pg)).setz 1 (.int .i64 ps)).setz 2 (.int .i64 rv))
  generalize (((W9.setCell ⟨w.heap.size, 0, none⟩ (.int .i64 pg)).setCell ⟨w.heap.size, 1, none⟩ (.int .i64 ps)).setCell ⟨w.heap.size, 2, none⟩ (.int .i64 rv)) = WF at *
  have ya := kz.cellz 0
  have yb := kz.cellz 1
  have yc := kz.cellz 2
  simp at ya yb yc
  rw [HZ.out]
  refine bodyPost_ret (v := .agg #[.int .i64 pg, .int .i64 ps, .int .i64 rv]) (by simp [results, Tryz.results204, go_sem, ya, yb, yc]) rfl ⟨⟨pg, ps, rv⟩, rfl, ?_, kz.rd, kz.kp⟩
  intro he
  obtain ⟨rfl, rfl⟩ := HV.out he
  rfl
end Go.Proofs.YteioennfpkoagaaGreatDoor
