import Derived.Test.YteioennfpkoagaaGreatDoorT03
namespace Go.Proofs.YteioennfpkoagaaGreatDoor.C
open Go.RowKit K
attribute [local go_sem ↓] Go.wp_at_zero Go.wp_at_succ

section
variable {W w w' : World} {kb : Nat} {pv cv qv sv lv mv : Value} {D : ManD} {S T : KS} {ss : List StD} {ls : List CellD} {ms : List MsgR}
set_option maxRecDepth 100000 in
set_option maxHeartbeats 4000000 in
theorem rsend_off (hz : checkF D = 0) (h : RKv W w kb pv cv qv sv lv mv D S ss ls ms) (hs : SmallK bigK S) (p c : Int) (t : ByteArray) (hp : inR p) (ht : ¬ turnF D S p = 0) :
    Calls Tryz.prog 163 #[ptrV kb, .int .i64 p, .int .i64 c, .string t] w fun e w' => e = .returned (.int .i64 (turnF D S p)) ∧ Below w.heap.size w w' := by
  have HTU : Hid _ := rturn_any hz h hs p hp
  clear h hs hz hp
  generalize turnF D S p = e0 at *
  have hb0 : (e0 == 0) = false := by simpa using ht
  unfold ptrV at *
  go_enter Tryz.func163, Tryz.ntmps163
  go_wp2_with fail
  refine Calls.mono HTU.out ?_
  rintro e w1 ⟨rfl, hb1⟩
  go_wp2_with fail
  go_ret
  exact ⟨rfl, hb1⟩
set_option maxRecDepth 100000 in
set_option maxHeartbeats 4000000 in
theorem rrecv_off (hz : checkF D = 0) (h : RKv W w kb pv cv qv sv lv mv D S ss ls ms) (hs : SmallK bigK S) (p c : Int) (hp : inR p) (ht : ¬ turnF D S p = 0) :
    Calls Tryz.prog 164 #[ptrV kb, .int .i64 p, .int .i64 c] w fun e w' => e = .returned (.tuple #[.string ⟨#[]⟩, .bool false, .int .i64 (turnF D S p)]) ∧ Below w.heap.size w w' := by
  have HTU : Hid _ := rturn_any hz h hs p hp
  clear h hs hz hp
  generalize turnF D S p = e0 at *
  have hb0 : (e0 == 0) = false := by simpa using ht
  unfold ptrV at *
  go_enter Tryz.func164, Tryz.ntmps164
  go_wp2_with fail
  refine Calls.mono HTU.out ?_
  rintro e w1 ⟨rfl, hb1⟩
  go_wp2_with fail
  go_ret3
  exact ⟨rfl, hb1⟩
end
end Go.Proofs.YteioennfpkoagaaGreatDoor.C
namespace Go.Proofs.YteioennfpkoagaaGreatDoor.C
open Go.RowKit K
attribute [local go_sem ↓] Go.wp_at_zero Go.wp_at_succ

/- the reference's kernel, after a call: another state, its lists maybe other rows -/
def RKn (W w w' : World) (kb : Nat) (pv cv qv sv lv mv : Value) (D : ManD) (S : KS) (n m : Nat) : Prop :=
  (∃ lv' mv' ss' ls' ms', RKv W w' kb pv cv qv sv lv' mv' D S ss' ls' ms' ∧ ls'.length ≤ n ∧ ms'.length ≤ m ∧ newO (RKo kb qv sv lv mv) (RKo kb qv sv lv' mv') w) ∧ Frm (RKo kb qv sv lv mv) w w'
/- what fails does, whatever the action -/
def RFl : Prop := ∀ {W w : World} {kb : Nat} {pv cv qv sv lv mv : Value} {D : ManD} {S : KS} {ss : List StD} {ls : List CellD} {ms : List MsgR}, checkF D = 0 → RKv W w kb pv cv qv sv lv mv D S ss ls ms → SmallK bigK S → ls.length ≤ 4398046511000 → ms.length ≤ 4398046511000 → ∀ i : Nat, i < D.parts.length →
  Calls Tryz.prog 159 #[ptrV kb, .int .i64 i] w fun e w' => e = .returned (.tuple #[]) ∧ RKn W w w' kb pv cv qv sv lv mv D (failF D S i) ls.length ms.length
section
variable {W w w' : World} {kb : Nat} {pv cv qv sv lv mv : Value} {D : ManD} {S T : KS} {ss : List StD} {ls : List CellD} {ms : List MsgR} {n m : Nat}
theorem RKn.from {w1 : World} (hb : Below w.heap.size w w1) (h : RKn W w1 w' kb pv cv qv sv lv mv D S n m) : RKn W w w' kb pv cv qv sv lv mv D S n m := by
  obtain ⟨⟨lv', mv', ss', ls', ms', h1, h2, h3, h4⟩, h5⟩ := h
  exact ⟨⟨lv', mv', ss', ls', ms', h1, h2, h3, (newO.refl _ w).trans h4 hb.size⟩, (Frm.all _ hb).trans h5 (newO.refl _ _)⟩
set_option maxRecDepth 100000 in
set_option maxHeartbeats 4000000 in
theorem rraise_on (hfl : RFl) (hz : checkF D = 0) (h : RKv W w kb pv cv qv sv lv mv D S ss ls ms) (hs : SmallK bigK S) (hl : ls.length ≤ 4398046511000) (hm : ms.length ≤ 4398046511000) (i : Nat) (hi : i < D.parts.length) (ht : turnF D S i = 0) :
    Calls Tryz.prog 100 #[ptrV kb, .int .i64 i] w fun e w' => e = .returned (.int .i64 0) ∧ RKn W w w' kb pv cv qv sv lv mv D (failF D S i) ls.length ms.length := by
  have HTU : Hid _ := rturn_any hz h hs (i : Int) (by unfold inR; have := (check_ok hz).2.2.1; omega)
  have HFA : Hid (∀ w1, Below w.heap.size w w1 → Calls Tryz.prog 159 #[ptrV kb, .int .i64 i] w1 fun e w' => e = .returned (.tuple #[]) ∧ RKn W w1 w' kb pv cv qv sv lv mv D (failF D S i) ls.length ms.length) := fun w1 hb => hfl hz (h.below hb) hs hl hm i hi
  clear h hs hz hfl
  rw [ht] at HTU
  unfold ptrV at *
  go_enter Tryz.func100, Tryz.ntmps100
  go_wp2_with fail
  refine Calls.mono HTU.out ?_
  rintro e w1 ⟨rfl, hb1⟩
  go_wp2_with fail
  refine Calls.mono (HFA.out w1 hb1) ?_
  rintro e w2 ⟨rfl, hk⟩
  go_wp2_with fail
  go_ret
  exact ⟨rfl, hk.from hb1⟩
set_option maxRecDepth 100000 in
set_option maxHeartbeats 4000000 in
theorem rread_fault (hfl : RFl) (hz : checkF D = 0) (h : RKv W w kb pv cv qv sv lv mv D S ss ls ms) (hs : SmallK bigK S) (hl : ls.length ≤ 4398046511000) (hm : ms.length ≤ 4398046511000) (i : Nat) (hi : i < D.parts.length) (a : Int) (ha : inR a) (ht : turnF D S i = 0) (hr : rightsF (regsAt D i) a = 0) :
    Calls Tryz.prog 161 #[ptrV kb, .int .i64 i, .int .i64 a] w fun e w' => e = .returned (.tuple #[.int .i64 0, .int .i64 22]) ∧ RKn W w w' kb pv cv qv sv lv mv D (failF D S i) ls.length ms.length := by
  have HTU : Hid _ := rturn_any hz h hs (i : Int) (by unfold inR; have := (check_ok hz).2.2.1; omega)
  have HRI : Hid (∀ w1, Below w.heap.size w w1 → Calls Tryz.prog 211 #[ptrV kb, .int .i64 i, .int .i64 a] w1 fun e w' => e = .returned (.int .i64 (rightsF (regsAt D i) a)) ∧ Below w1.heap.size w1 w') := fun w1 hb => rrights_any hz (h.below hb) i hi a ha
  have HFA : Hid (∀ w1, Below w.heap.size w w1 → Calls Tryz.prog 159 #[ptrV kb, .int .i64 i] w1 fun e w' => e = .returned (.tuple #[]) ∧ RKn W w1 w' kb pv cv qv sv lv mv D (failF D S i) ls.length ms.length) := fun w1 hb => hfl hz (h.below hb) hs hl hm i hi
  clear h hs hz hfl
  rw [ht] at HTU
  rw [hr] at HRI
  unfold ptrV at *
  go_enter Tryz.func161, Tryz.ntmps161
  go_wp2_with fail
  refine Calls.mono HTU.out ?_
  rintro e w1 ⟨rfl, hb1⟩
  go_wp2_with fail
  refine Calls.mono (HRI.out w1 hb1) ?_
  rintro e w2 ⟨rfl, hb2⟩
  have HB2 : Hid (Below w.heap.size w w2) := hb1.trans (hb2.mono hb1.size)
  clear hb1 hb2
  go_wp2_with fail
  refine Calls.mono (HFA.out w2 HB2.out) ?_
  rintro e w3 ⟨rfl, hk⟩
  go_wp2_with fail
  go_ret2
  exact ⟨rfl, hk.from HB2.out⟩
end
end Go.Proofs.YteioennfpkoagaaGreatDoor.C
namespace Go.Proofs.YteioennfpkoagaaGreatDoor.C
open Go.RowKit K
attribute [local go_sem ↓] Go.wp_at_zero Go.wp_at_succ

section
variable {W w w' : World} {kb : Nat} {pv cv qv sv lv mv : Value} {D : ManD} {S T : KS} {ss : List StD} {ls : List CellD} {ms : List MsgR} {n m : Nat}
set_option maxRecDepth 100000 in
set_option maxHeartbeats 4000000 in
theorem rwrite_fault (hfl : RFl) (hz : checkF D = 0) (h : RKv W w kb pv cv qv sv lv mv D S ss ls ms) (hs : SmallK bigK S) (hl : ls.length ≤ 4398046511000) (hm : ms.length ≤ 4398046511000) (i : Nat) (hi : i < D.parts.length) (a b : Int) (ha : inR a) (ht : turnF D S i = 0) (hr : ¬ rightsF (regsAt D i) a = 2) :
    Calls Tryz.prog 162 #[ptrV kb, .int .i64 i, .int .i64 a, .int .i64 b] w fun e w' => e = .returned (.int .i64 22) ∧ RKn W w w' kb pv cv qv sv lv mv D (failF D S i) ls.length ms.length := by
  have HTU : Hid _ := rturn_any hz h hs (i : Int) (by unfold inR; have := (check_ok hz).2.2.1; omega)
  have HRI : Hid (∀ w1, Below w.heap.size w w1 → Calls Tryz.prog 211 #[ptrV kb, .int .i64 i, .int .i64 a] w1 fun e w' => e = .returned (.int .i64 (rightsF (regsAt D i) a)) ∧ Below w1.heap.size w1 w') := fun w1 hb => rrights_any hz (h.below hb) i hi a ha
  have HFA : Hid (∀ w1, Below w.heap.size w w1 → Calls Tryz.prog 159 #[ptrV kb, .int .i64 i] w1 fun e w' => e = .returned (.tuple #[]) ∧ RKn W w1 w' kb pv cv qv sv lv mv D (failF D S i) ls.length ms.length) := fun w1 hb => hfl hz (h.below hb) hs hl hm i hi
  clear h hs hz hfl
  rw [ht] at HTU
  generalize rightsF (regsAt D i) a = rt at *
  have hrb : (rt == 2) = false := by simpa using hr
  clear hr
  unfold ptrV at *
  go_enter Tryz.func162, Tryz.ntmps162
  go_wp2_with fail
  refine Calls.mono HTU.out ?_
  rintro e w1 ⟨rfl, hb1⟩
  go_wp2_with fail
  refine Calls.mono (HRI.out w1 hb1) ?_
  rintro e w2 ⟨rfl, hb2⟩
  have HB2 : Hid (Below w.heap.size w w2) := hb1.trans (hb2.mono hb1.size)
  clear hb1 hb2
  go_wp2_with fail
  refine Calls.mono (HFA.out w2 HB2.out) ?_
  rintro e w3 ⟨rfl, hk⟩
  go_wp2_with fail
  go_ret
  exact ⟨rfl, hk.from HB2.out⟩
end
end Go.Proofs.YteioennfpkoagaaGreatDoor.C
namespace Go.Proofs.YteioennfpkoagaaGreatDoor.C
open Go.RowKit K
attribute [local go_sem ↓] Go.wp_at_zero Go.wp_at_succ

section
variable {W w w' : World} {kb : Nat} {pv cv qv sv lv mv lv' mv' : Value} {D : ManD} {S T : KS} {ss : List StD} {ls ls' : List CellD} {ms ms' : List MsgR}
/- the list of what was written, another one -/
theorem RKv.setCel (h : RKv W w kb pv cv qv sv lv mv D S ss ls ms) (hf : Frm (fun b => some b = lv.ownBlock) w w') (hown : w'.ownsRow W.heap.size 303 3 lv' ls'.length (ls'.flatMap clC))
    (h0 : T.time = S.time) (h1 : T.sts = S.sts) (h2 : T.chs = S.chs) (h3 : ∀ p a, p < D.parts.length → T.mem p a = memOf ls' p a) :
    RKv W (w'.setCell ⟨kb, 6, none⟩ lv') kb pv cv qv sv lv' mv D T ss ls' ms := by
  have hk : w'.heap[kb]? = some (.cells #[.int .i64 D.frame, pv, cv, qv, .int .i64 (S.time : Int), sv, lv, mv] 197) :=
    (hf.block kb (lt_of_blk h.ker) (own_not_blk h.cel h.ker (by decide))).trans h.ker
  have hlow : ∀ b, some b = lv.ownBlock → W.heap.size ≤ b := fun b hb => (h.cel.lt b hb.symm).1
  have keepR : ∀ {e n : Nat} {z : Nat} {v : Value} {xs : List Value}, w.ownsRow W.heap.size e z v n xs → 303 ≠ e → 197 ≠ e → (w'.setCell ⟨kb, 6, none⟩ lv').ownsRow W.heap.size e z v n xs := fun {e n z v xs} ho ht ht2 => by
    have ho2 : w'.ownsRow W.heap.size e z v n xs := owns_keep ho fun b hb => hf.block b (ho.lt b hb).2 fun e2 => own_types h.cel ho ht e2.symm hb
    exact own_setElse ho2 (own_not_blk ho2 hk ht2) _ _
  refine ⟨(h.base.trans (hf.below h.base.size hlow)).setCell (p := ⟨kb, 6, none⟩) h.lo _, h.parts, h.chans, h.lo, ?_, keepR h.pln (by decide) (by decide), keepR h.sts (by decide) (by decide), own_setElse hown (own_not_blk hown hk (by decide)) _ _, keepR h.msg (by decide) (by decide), h.slen, ?_, h3, ?_, ?_⟩
  · rw [blk_set _ _ hk, h0]; rfl
  · rw [h1]; exact h.sst
  · rw [h2]; exact h.chs
  · rw [h0]; exact h.mr
theorem RKv.setMsg (h : RKv W w kb pv cv qv sv lv mv D S ss ls ms) (hf : Frm (fun b => some b = mv.ownBlock) w w') (hown : w'.ownsRow W.heap.size 305 3 mv' ms'.length (ms'.flatMap mgC))
    (h0 : T.time = S.time) (h1 : T.sts = S.sts) (h2 : T.mem = S.mem) (h3 : ∀ c, c < D.chans.length → T.chs c = chsOf ms' c) (h4 : ∀ m ∈ ms', 0 ≤ m.c ∧ m.c < D.chans.length ∧ m.time ≤ S.time) :
    RKv W (w'.setCell ⟨kb, 7, none⟩ mv') kb pv cv qv sv lv mv' D T ss ls ms' := by
  have hk : w'.heap[kb]? = some (.cells #[.int .i64 D.frame, pv, cv, qv, .int .i64 (S.time : Int), sv, lv, mv] 197) :=
    (hf.block kb (lt_of_blk h.ker) (own_not_blk h.msg h.ker (by decide))).trans h.ker
  have hlow : ∀ b, some b = mv.ownBlock → W.heap.size ≤ b := fun b hb => (h.msg.lt b hb.symm).1
  have keepR : ∀ {e n : Nat} {z : Nat} {v : Value} {xs : List Value}, w.ownsRow W.heap.size e z v n xs → 305 ≠ e → 197 ≠ e → (w'.setCell ⟨kb, 7, none⟩ mv').ownsRow W.heap.size e z v n xs := fun {e n z v xs} ho ht ht2 => by
    have ho2 : w'.ownsRow W.heap.size e z v n xs := owns_keep ho fun b hb => hf.block b (ho.lt b hb).2 fun e2 => own_types h.msg ho ht e2.symm hb
    exact own_setElse ho2 (own_not_blk ho2 hk ht2) _ _
  refine ⟨(h.base.trans (hf.below h.base.size hlow)).setCell (p := ⟨kb, 7, none⟩) h.lo _, h.parts, h.chans, h.lo, ?_, keepR h.pln (by decide) (by decide), keepR h.sts (by decide) (by decide), keepR h.cel (by decide) (by decide), own_setElse hown (own_not_blk hown hk (by decide)) _ _, h.slen, ?_, ?_, h3, ?_⟩
  · rw [blk_set _ _ hk, h0]; rfl
  · rw [h1]; exact h.sst
  · rw [h2]; exact h.mem
  · rw [h0]; exact h4
/- the time goes on -/
theorem RKv.setTime (h : RKv W w kb pv cv qv sv lv mv D S ss ls ms) : RKv W (w.setCell ⟨kb, 4, none⟩ (.int .i64 ((S.time : Int) + 1))) kb pv cv qv sv lv mv D (tickK S) ss ls ms := by
  have keepR : ∀ {e n : Nat} {z : Nat} {v : Value} {xs : List Value} (u : Value), w.ownsRow W.heap.size e z v n xs → 197 ≠ e → (w.setCell ⟨kb, 4, none⟩ u).ownsRow W.heap.size e z v n xs := fun u ho ht => own_setElse ho (own_not_blk ho h.ker ht) _ _
  refine ⟨h.base.setCell (p := ⟨kb, 4, none⟩) h.lo _, h.parts, h.chans, h.lo, ?_, keepR _ h.pln (by decide), keepR _ h.sts (by decide), keepR _ h.cel (by decide), keepR _ h.msg (by decide), h.slen, h.sst, h.mem, h.chs, fun m hm => ?_⟩
  · rw [blk_set _ _ h.ker]
    show some (Obj.cells #[.int .i64 D.frame, pv, cv, qv, .int .i64 ((S.time : Int) + 1), sv, lv, mv] 197) = some (Obj.cells #[.int .i64 D.frame, pv, cv, qv, .int .i64 (((S.time + 1 : Nat) : Int)), sv, lv, mv] 197)
    rw [show (((S.time + 1 : Nat) : Int)) = (S.time : Int) + 1 from by omega]
  · have := h.mr m hm
    exact ⟨this.1, this.2.1, Nat.le_succ_of_le this.2.2⟩
theorem RKv.keep (h : RKv W w kb pv cv qv sv lv mv D S ss ls ms) {W' : World} (hsz : W'.heap.size = W.heap.size) (hb : Below W'.heap.size W' w') (hp : PartsV W' pv D.parts) (hc : ChansV W' cv D.chans) (hk : ∀ b, RKo kb qv sv lv mv b → w'.heap[b]? = w.heap[b]?) : RKv W' w' kb pv cv qv sv lv mv D S ss ls ms := by
  refine ⟨hb, hp, hc, hsz ▸ h.lo, (hk kb (.inl rfl)).trans h.ker, ?_, ?_, ?_, ?_, h.slen, h.sst, h.mem, h.chs, h.mr⟩
  · rw [hsz]; exact owns_keep h.pln fun b hb => hk b (.inr (.inl hb.symm))
  · rw [hsz]; exact owns_keep h.sts fun b hb => hk b (.inr (.inr (.inl hb.symm)))
  · rw [hsz]; exact owns_keep h.cel fun b hb => hk b (.inr (.inr (.inr (.inl hb.symm))))
  · rw [hsz]; exact owns_keep h.msg fun b hb => hk b (.inr (.inr (.inr (.inr hb.symm))))
theorem RKv.low (h : RKv W w kb pv cv qv sv lv mv D S ss ls ms) : ∀ b, RKo kb qv sv lv mv b → W.heap.size ≤ b ∧ b < w.heap.size := fun b hb => by
  rcases hb with rfl | hb | hb | hb | hb
  · exact ⟨h.lo, lt_of_blk h.ker⟩
  · exact h.pln.lt b hb.symm
  · exact h.sts.lt b hb.symm
  · exact h.cel.lt b hb.symm
  · exact h.msg.lt b hb.symm
end
end Go.Proofs.YteioennfpkoagaaGreatDoor.C
namespace Go.Proofs.YteioennfpkoagaaGreatDoor.C

theorem chsOf_filter (f : MsgR → Bool) (b : Bool) (c : Nat) (l : List MsgR) (hf : ∀ m ∈ l, m.c = (c : Int) → f m = b) : chsOf (l.filter f) c = if b = true then chsOf l c else [] := by
  unfold chsOf
  induction l with
  | nil => cases b <;> rfl
  | cons m l ih =>
    have ih2 := ih fun x hx => hf x (by simp [hx])
    by_cases hm : m.c = (c : Int)
    · have h1 := hf m (by simp) hm
      rw [List.filter_cons]
      cases b
      · rw [h1]
        simpa using ih2
      · rw [h1]
        simp only [↓reduceIte, List.filter_cons, hm, decide_true, List.map_cons] at ih2 ⊢
        rw [ih2]
    · rw [List.filter_cons]
      cases b <;> cases f m <;> simpa [hm] using ih2
theorem frs_spec (l : List MsgR) (c : Nat) : ∀ n k, k + n = l.length → (frsF l c n k).2 = ((chsOf (l.drop k) c).length : Int) ∧ (frsF l c n k).1 = if atF (l.drop k) c < (l.drop k).length then ((k + atF (l.drop k) c : Nat) : Int) else -1
  | 0, k, h => by
    have e : l.drop k = [] := List.drop_eq_nil_of_le (by omega)
    rw [e]
    simp [frsF, chsOf]
  | n + 1, k, h => by
    obtain ⟨h1, h2⟩ := frs_spec l c n (k + 1) (by omega)
    have hk : k < l.length := by omega
    have e : l.drop k = l[k] :: l.drop (k + 1) := (List.getElem_cons_drop (h := hk)).symm
    unfold frsF
    rw [List.getElem?_eq_getElem hk, e]
    clear e
    generalize l[k] = x at *
    generalize l.drop (k + 1) = r at *
    by_cases hc : x.c = (c : Int)
    · have e1 : atF (x :: r) c = 0 := by simp [atF, List.findIdx_cons, hc]
      have e2 : (Option.map MsgR.c (some x)) = some (c : Int) := by simp [hc]
      rw [if_pos e2, e1]
      refine ⟨?_, ?_⟩
      · simp only [h1]
        simp [chsOf, hc]
      · simp
    · have e1 : atF (x :: r) c = atF r c + 1 := by simp [atF, List.findIdx_cons, hc]
      have e2 : ¬ (Option.map MsgR.c (some x)) = some (c : Int) := by simpa using hc
      rw [if_neg e2, e1, h1, h2]
      refine ⟨?_, ?_⟩
      · simp [chsOf, hc]
      · simp only [List.length_cons, Nat.add_lt_add_iff_right]
        split <;> omega
theorem frs_all (l : List MsgR) (c : Nat) : (frsF l c l.length 0).2 = ((chsOf l c).length : Int) ∧ (frsF l c l.length 0).1 = if atF l c < l.length then ((atF l c : Nat) : Int) else -1 := by
  have h := frs_spec l c l.length 0 (by omega)
  simpa using h
theorem flat3_len {α β : Type} (f : α → List β) (hf : ∀ x, (f x).length = 3) : ∀ l : List α, (l.flatMap f).length = l.length * 3
  | [] => rfl
  | x :: l => by rw [List.flatMap_cons, List.length_append, hf, flat3_len f hf l, List.length_cons]; omega
theorem filter_snoc {α : Type} (f : α → Bool) (l : List α) {k : Nat} (hk : k < l.length) : (l.take (k + 1)).filter f = if f l[k] = true then (l.take k).filter f ++ [l[k]] else (l.take k).filter f := by
  rw [List.take_add_one, List.getElem?_eq_getElem hk, List.filter_append]
  by_cases h : f l[k] = true
  · rw [if_pos h]; simp [h]
  · rw [if_neg h]; simp [h]
theorem filter_le {α : Type} (f : α → Bool) (l : List α) (k : Nat) : ((l.take k).filter f).length ≤ k := Nat.le_trans (List.length_filter_le _ _) (by rw [List.length_take]; omega)
/- which messages stay when a partition fails -/
def stayM (D : ManD) (p : Nat) (m : MsgR) : Bool := decide (¬ (D.chans[m.c.toNat]?.map ChanD.target) = some (p : Int))
def stayC (p : Nat) (x : CellD) : Bool := decide (x.p ≠ (p : Int))
theorem stay_chs (D : ManD) (p : Nat) (l : List MsgR) (c : Nat) : chsOf (l.filter (stayM D p)) c = if (D.chans[c]?.map ChanD.target) = some (p : Int) then [] else chsOf l c := by
  rw [chsOf_filter (stayM D p) (decide (¬ (D.chans[c]?.map ChanD.target) = some (p : Int))) c l fun m _ hm => by unfold stayM; rw [hm, Int.toNat_natCast]]
  by_cases h : (D.chans[c]?.map ChanD.target) = some (p : Int)
  · simp [h]
  · simp [h]
theorem stay_mem (p q : Nat) (a : Int) (l : List CellD) : memOf (l.filter (stayC p)) q a = if q = p then 0 else memOf l q a := memOf_filter l p q a
end Go.Proofs.YteioennfpkoagaaGreatDoor.C
namespace Go.Proofs.YteioennfpkoagaaGreatDoor.C
open Go.RowKit K

/- a sample channel has one message at most -/
def OneS (D : ManD) (S : KS) : Prop := ∀ (c : Nat) (x : ChanD), D.chans[c]? = some x → ¬ x.kind = 1 → (S.chs c).length ≤ 1
theorem OneS.boot (D : ManD) : OneS D bootK := fun _ _ _ _ => by simp [bootK]
theorem OneS.tick {D : ManD} {S : KS} (h : OneS D S) : OneS D (tickK S) := h
theorem OneS.fail {D : ManD} {S : KS} (h : OneS D S) (p : Nat) : OneS D (failF D S p) := fun c x hx hk => by
  show (if actF D p = 3 ∧ (D.chans[c]?.map ChanD.target) = some (p : Int) then [] else S.chs c).length ≤ 1
  split
  · simp
  · exact h c x hx hk
theorem OneS.read {D : ManD} {S : KS} (h : OneS D S) (p a : Int) : OneS D (readF D S p a).2.2 := by
  unfold readF
  split
  · exact h
  · split
    · exact h.fail _
    · exact h
theorem OneS.write {D : ManD} {S : KS} (h : OneS D S) (p a b : Int) : OneS D (writeF D S p a b).2 := by
  unfold writeF
  split
  · exact h
  · split
    · exact h.fail _
    · exact h
theorem OneS.raise {D : ManD} {S : KS} (h : OneS D S) (p : Int) : OneS D (raiseF D S p).2 := by
  unfold raiseF
  split
  · exact h
  · exact h.fail _
theorem portF_some {D : ManD} {c : Int} {x : ChanD} (h : portF D c = some x) : 0 ≤ c ∧ D.chans[c.toNat]? = some x := by
  unfold portF at h
  split at h
  · cases h
  · exact ⟨by omega, h⟩
theorem OneS.send {D : ManD} {S : KS} (h : OneS D S) (p c : Int) (s : ByteArray) : OneS D (sendF D S p c s).2 := by
  unfold sendF
  split
  · exact h
  split
  · exact h
  rename_i x hx
  obtain ⟨_, hc⟩ := portF_some hx
  split
  · exact h
  split
  · exact h
  split
  · rename_i hk
    split
    · exact h
    · intro d y hy hky
      show (if d = c.toNat then _ else S.chs d).length ≤ 1
      split
      · rename_i e
        subst e
        rw [hc] at hy
        cases hy
        exact absurd hk hky
      · exact h d y hy hky
  · intro d y hy hky
    show (if d = c.toNat then _ else S.chs d).length ≤ 1
    split
    · simp
    · exact h d y hy hky
theorem OneS.recv {D : ManD} {S : KS} (h : OneS D S) (p c : Int) : OneS D (recvF D S p c).2 := by
  unfold recvF
  split
  · exact h
  split
  · exact h
  rename_i x hx
  obtain ⟨_, hc⟩ := portF_some hx
  split
  · exact h
  split
  · exact h
  rename_i m l hm
  split
  · rename_i hk
    intro d y hy hky
    show (if d = c.toNat then _ else S.chs d).length ≤ 1
    split
    · rename_i e
      subst e
      rw [hc] at hy
      cases hy
      exact absurd hk hky
    · exact h d y hy hky
  · exact h
/- the reference's kernel at a pointer: o its blocks, n a bound of its lists -/
structure RKd (W w : World) (y : Nat) (pv cv : Value) (D : ManD) (S : KS) (n : Nat) (o : Nat → Prop) : Prop where
  chk : checkF D = 0
  one : OneS D S
  out : ∃ qv sv lv mv ss ls ms, RKv W w y pv cv qv sv lv mv D S ss ls ms ∧ ls.length ≤ n ∧ ms.length ≤ n ∧ ∀ b, o b ↔ RKo y qv sv lv mv b
structure RAft (W : World) (y : Nat) (pv cv : Value) (D : ManD) (S : KS) (n : Nat) (o : Nat → Prop) (w w' : World) : Prop where
  out : ∃ o', RKd W w' y pv cv D S n o' ∧ newO o o' w
  frm : Frm o w w'
section
variable {W w w' : World} {y n : Nat} {pv cv qv sv lv mv : Value} {D : ManD} {S T : KS} {o : Nat → Prop} {ss : List StD} {ls : List CellD} {ms : List MsgR}
theorem RKd.low (h : RKd W w y pv cv D S n o) : ∀ b, o b → W.heap.size ≤ b ∧ b < w.heap.size := fun b hb => by
  obtain ⟨qv, sv, lv, mv, ss, ls, ms, h1, _, _, h4⟩ := h.out
  exact h1.low b ((h4 b).1 hb)
theorem RKd.keep (h : RKd W w y pv cv D S n o) {W' : World} (hsz : W'.heap.size = W.heap.size) (hb : Below W'.heap.size W' w') (hp : PartsV W' pv D.parts) (hc : ChansV W' cv D.chans) (hk : ∀ b, o b → w'.heap[b]? = w.heap[b]?) : RKd W' w' y pv cv D S n o := by
  obtain ⟨qv, sv, lv, mv, ss, ls, ms, h1, h2, h3, h4⟩ := h.out
  exact ⟨h.chk, h.one, qv, sv, lv, mv, ss, ls, ms, h1.keep hsz hb hp hc fun b hb => hk b ((h4 b).2 hb), h2, h3, h4⟩
theorem RKd.mono (h : RKd W w y pv cv D S n o) {m : Nat} (hm : n ≤ m) : RKd W w y pv cv D S m o := by
  obtain ⟨qv, sv, lv, mv, ss, ls, ms, h1, h2, h3, h4⟩ := h.out
  exact ⟨h.chk, h.one, qv, sv, lv, mv, ss, ls, ms, h1, by omega, by omega, h4⟩
theorem RAft.same (h : RKd W w y pv cv D S n o) (hb : Below w.heap.size w w') : RAft W y pv cv D S n o w w' := by
  obtain ⟨qv, sv, lv, mv, ss, ls, ms, h1, h2, h3, h4⟩ := h.out
  exact ⟨⟨o, ⟨h.chk, h.one, qv, sv, lv, mv, ss, ls, ms, h1.below hb, h2, h3, h4⟩, newO.refl _ _⟩, Frm.all o hb⟩
theorem RAft.of {a b : Nat} (hz : checkF D = 0) (ho : OneS D S) (h : RKn W w w' y pv cv qv sv lv mv D S a b) (ha : a ≤ n) (hb : b ≤ n) (hk : ∀ b, o b ↔ RKo y qv sv lv mv b) : RAft W y pv cv D S n o w w' := by
  obtain ⟨⟨lv', mv', ss', ls', ms', h1, h2, h3, h4⟩, h5⟩ := h
  have e : o = RKo y qv sv lv mv := funext fun b => propext (hk b)
  rw [e]
  exact ⟨⟨_, ⟨hz, ho, qv, sv, lv', mv', ss', ls', ms', h1, by omega, by omega, fun _ => Iff.rfl⟩, h4⟩, h5⟩
end
end Go.Proofs.YteioennfpkoagaaGreatDoor.C
