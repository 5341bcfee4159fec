import Derived.Test.YteioennfpkoagaaGreatDoorG19
namespace Go.Proofs.YteioennfpkoagaaGreatDoor
open Go.RowKit
attribute [local go_sem ↓] Go.wp_at_zero Go.wp_at_succ

theorem KP.wide {pb c : Nat} {w w' : World} (h : KP c c w w') : KP pb c w w' := ⟨h.os, h.tape, h.output, h.size, fun k hk _ h2 h3 => h.block k hk h2 h2 h3⟩
/- a misfit's block is no parser's -/
theorem mis_ne {w : World} {mb : Nat} {eb : Addr} {pb : Nat} {ln cl : Int} {o : Array Value} (h : MisAt w mb eb ln cl) (h1 : w.heap[pb]? = some (.cells o 177 (0, 0))) : mb ≠ pb := by
  intro e; subst e; unfold MisAt at h; rw [h1] at h; simp at h
theorem lk_sel (l : List UInt8) (k : Nat) (ew en eu es : Addr) (hne : ew ≠ en ∧ ew ≠ eu ∧ ew ≠ es ∧ en ≠ eu ∧ en ≠ es ∧ eu ≠ es) (h : lk l k ≠ 0) : (errB ew en (lk l k) = ew ∨ errB ew en (lk l k) = en ∨ errB ew en (lk l k) = eu ∨ errB ew en (lk l k) = es) ∧ noOf ew en eu (errB ew en (lk l k)) = lk l k := by
  rcases lk_cases l k with e | e | e
  · exact absurd e h
  · rw [e]; refine ⟨.inr (.inl rfl), ?_⟩
    show noOf ew en eu en = 2
    unfold noOf; rw [if_neg (fun e => hne.1 e.symm), if_pos rfl]
  · rw [e]; refine ⟨.inl rfl, ?_⟩
    show noOf ew en eu ew = 3
    unfold noOf; rw [if_pos rfl]

set_option maxRecDepth 100000 in
set_option maxHeartbeats 1000000 in
theorem advance_gen (w : World) (pb c B : Nat) (ew en eu es ex : Addr) (i j : Nat) (l : List UInt8) (pv : Value) (k0 : Int) (tt0 : ByteArray) (v0 a0 b0 : Int) (hgl : GL w B ew en eu es ex) (hBc : B ≤ c) (hBp : B ≤ pb) (hord : c + 1 + 1 < pb) (hlen : l.length ≤ 8192) (hshape : ∃ x y z, pv = .slice x y z) (hrv : RVi w c l i) (hblk : w.heap[pb]? = some (.cells (prCells c k0 tt0 v0 a0 b0 .nilIface pv) 177 (0, 0))) (hpos : i + gapF false (l.drop i) = pos l j) :
    Calls Tryz.prog 90 #[.pointer (some ⟨pb, 0, none⟩)] w fun e w' => e = .returned (.tuple #[]) ∧ PR w' pb c B ew en eu es ex l (normP l j) pv ∧ KP pb c w w' := by
  have hpb := lt_of_blk hblk
  have c0 : w.cell? ⟨pb, 0, none⟩ = some (nextV c) := by rw [cell_of_blk hblk]; rfl
  have c6 : w.cell? ⟨pb, 6, none⟩ = some .nilIface := by rw [cell_of_blk hblk]; rfl
  unfold nextV at c0
  have hnx := next_tok c l i w hgl hBc hrv hlen
  have HTK : Hid (tokAt l (i + gapF false (l.drop i)) = tk l j) := by show _ = _; rw [hpos]; rfl
  have HEP : Hid (i + gapF false (l.drop i) + (tokF (l.drop (i + gapF false (l.drop i)))).1 = endp l j) := by show _ = _; rw [hpos]; rfl
  rw [HTK.out, HEP.out] at hnx
  have hn : normP l j = if lk l j = 0 then .inl j else .inr (lk l j, (tk l j).line, (tk l j).col) := rfl
  have HN : Hid _ := hn
  clear hn
  generalize normP l j = st2 at *
  go_enter Tryz.func90, Tryz.ntmps90
  go_wp2_with fail
  refine hnx.mono ?_
  rintro e w2 ⟨k2, tt, v, a, b, ev, rfl, htn, hrv2, hkp⟩
  have hblk2 : w2.heap[pb]? = some (.cells (prCells c k0 tt0 v0 a0 b0 .nilIface pv) 177 (0, 0)) := KP.kp hblk hkp (by omega) (by omega) (by omega)
  have hgl2 := hgl.below (hkp.toBelow hgl.size hBc hBc)
  have d1 : w2.cell? ⟨pb, 1, none⟩ = some (.int .i64 k0) := by rw [cell_of_blk hblk2]; rfl
  have d2 : w2.cell? ⟨pb, 2, none⟩ = some (.string tt0) := by rw [cell_of_blk hblk2]; rfl
  have d3 : ∃ x, w2.cell? ⟨pb, 3, none⟩ = some (.int .i64 x) := ⟨_, by rw [cell_of_blk hblk2]; rfl⟩
  obtain ⟨x3, d3⟩ := d3
  have d4 : w2.cell? ⟨pb, 4, none⟩ = some (.int .i64 a0) := by rw [cell_of_blk hblk2]; rfl
  have d5 : w2.cell? ⟨pb, 5, none⟩ = some (.int .i64 b0) := by rw [cell_of_blk hblk2]; rfl
  have d6 : w2.cell? ⟨pb, 6, none⟩ = some .nilIface := by rw [cell_of_blk hblk2]; rfl
  have f1 : w2.frozen? ⟨pb, 1, none⟩ = false := frozen_of_blk hblk2
  have f2 : w2.frozen? ⟨pb, 2, none⟩ = false := frozen_of_blk hblk2
  have f3 : w2.frozen? ⟨pb, 3, none⟩ = false := frozen_of_blk hblk2
  have f4 : w2.frozen? ⟨pb, 4, none⟩ = false := frozen_of_blk hblk2
  have f5 : w2.frozen? ⟨pb, 5, none⟩ = false := frozen_of_blk hblk2
  have f6 : w2.frozen? ⟨pb, 6, none⟩ = false := frozen_of_blk hblk2
  have HB2 : Hid _ := hblk2
  have HBL : Hid _ := hblk
  clear hblk hblk2 hnx c0 c6
  rcases htn with ⟨g1, rfl, rfl, hv, rfl, rfl, rfl⟩ | ⟨g1, rfl, rfl, rfl, rfl, rfl, mb, rfl, hmb, hmis⟩
  · have HV : Hid _ := hv
    clear hv
    have HG1 : Hid (lk l j = 0) := g1
    clear g1
    go_wp2_with fail
    go_returns
    have hk := (((((((KP.wide (pb := pb) hkp).trans (KP.set w2 pb 1 (.int .i64 (kindT (tk l j))) (.inl rfl))).trans (KP.set _ pb 2 (.string (ba (tk l j).text)) (.inl rfl))).trans (KP.set _ pb 3 (.int .i64 v) (.inl rfl))).trans (KP.set _ pb 4 (.int .i64 (tk l j).line) (.inl rfl))).trans (KP.set _ pb 5 (.int .i64 (tk l j).col) (.inl rfl))).trans (KP.set _ pb 6 (.nilIface) (.inl rfl)))
    have hst : st2 = (.inl j : St) := HN.out.trans (if_pos HG1.out)
    clear HN
    subst hst
    refine ⟨rfl, ⟨hgl.below (hk.toBelow hgl.size hBp hBc), hBc, hBp, hord, hlen, hshape, ?_⟩, hk⟩
    refine ⟨HG1.out, (((((hrv2.far pb 1 _ hord).far pb 2 _ hord).far pb 3 _ hord).far pb 4 _ hord).far pb 5 _ hord).far pb 6 _ hord, ?_⟩
    rw [blk_set 6 _ (blk_set 5 _ (blk_set 4 _ (blk_set 3 _ (blk_set 2 _ (blk_set 1 _ HB2.out)))))]
    rw [← HV.out]
    rfl
  · have HG1 : Hid (lk l j ≠ 0) := g1
    clear g1
    unfold misV
    go_wp2_with fail
    go_returns
    have hk := (((((((KP.wide (pb := pb) hkp).trans (KP.set w2 pb 1 (.int .i64 0) (.inl rfl))).trans (KP.set _ pb 2 (.string ⟨#[]⟩) (.inl rfl))).trans (KP.set _ pb 3 (.int .i64 0) (.inl rfl))).trans (KP.set _ pb 4 (.int .i64 0) (.inl rfl))).trans (KP.set _ pb 5 (.int .i64 0) (.inl rfl))).trans (KP.set _ pb 6 (.iface 178 (.pointer (some ⟨mb, 0, none⟩))) (.inl rfl)))
    have hmp := mis_ne hmis HB2.out
    have hsel := lk_sel l j ew en eu es hgl.ne HG1.out
    have hst : st2 = (.inr (lk l j, (tk l j).line, (tk l j).col) : St) := HN.out.trans (if_neg HG1.out)
    clear HN
    subst hst
    refine ⟨rfl, ⟨hgl.below (hk.toBelow hgl.size hBp hBc), hBc, hBp, hord, hlen, hshape, ?_⟩, hk⟩
    refine ⟨0, ⟨#[]⟩, 0, 0, 0, mb, errB ew en (lk l j), ?_, ?_, hsel.1, hsel.2, by simp [ByteArray.size]⟩
    · rw [blk_set 6 _ (blk_set 5 _ (blk_set 4 _ (blk_set 3 _ (blk_set 2 _ (blk_set 1 _ HB2.out)))))]
      rfl
    · unfold MisAt at *
      rw [blk_far _ _ hmp, blk_far _ _ hmp, blk_far _ _ hmp, blk_far _ _ hmp, blk_far _ _ hmp, blk_far _ _ hmp]
      exact hmis
theorem advance_live (w : World) (pb c B : Nat) (ew en eu es ex : Addr) (k : Nat) (l : List UInt8) (pv : Value) (h : PR w pb c B ew en eu es ex l (.inl k) pv) :
    Calls Tryz.prog 90 #[.pointer (some ⟨pb, 0, none⟩)] w fun e w' => e = .returned (.tuple #[]) ∧ PR w' pb c B ew en eu es ex l (normP l (k + 1)) pv ∧ KP pb c w w' := by
  obtain ⟨hlk, hrv, hblk⟩ := h.at'
  exact advance_gen w pb c B ew en eu es ex (endp l k) (k + 1) l pv _ _ _ _ _ h.gl h.hBc h.hBp h.ord h.len h.shape hrv hblk rfl
end Go.Proofs.YteioennfpkoagaaGreatDoor
namespace Go.Proofs.YteioennfpkoagaaGreatDoor
open Go.RowKit
attribute [local go_sem ↓] Go.wp_at_zero Go.wp_at_succ

set_option maxRecDepth 100000 in
set_option maxHeartbeats 1000000 in
theorem advance_dead (w : World) (pb c B : Nat) (ew en eu es ex : Addr) (l : List UInt8) (pv : Value) (x : Nat × Int × Int) (h : PR w pb c B ew en eu es ex l (.inr x) pv) :
    Calls Tryz.prog 90 #[.pointer (some ⟨pb, 0, none⟩)] w fun e w' => e = .returned (.tuple #[]) ∧ w' = w := by
  obtain ⟨er, ln, cl⟩ := x
  obtain ⟨k, tt, v, a, b, mb, eb, hblk, _⟩ := h.at'
  have c6 : w.cell? ⟨pb, 6, none⟩ = some (misV mb) := by rw [cell_of_blk hblk]; rfl
  unfold misV at c6
  clear hblk h
  go_enter Tryz.func90, Tryz.ntmps90
  go_wp2_with fail
  go_returns
  exact ⟨rfl, rfl⟩

/- the parser is as it was where only new blocks were made -/
theorem PR.kept {w w' : World} {pb c B : Nat} {ew en eu es ex : Addr} {l : List UInt8} {st : St} {pv : Value} (h : PR w pb c B ew en eu es ex l st pv) (_hs : w.heap.size ≤ w'.heap.size) (hg : GL w' B ew en eu es ex) (hb : ∀ k, k < w.heap.size → (k = pb ∨ k = c ∨ k = c + 1 ∨ k = c + 1 + 1 ∨ (∃ o, w.heap[k]? = some (.cells o 182 (0, 0)))) → w'.heap[k]? = w.heap[k]?) : PR w' pb c B ew en eu es ex l st pv := by
  refine ⟨hg, h.hBc, h.hBp, h.ord, h.len, h.shape, ?_⟩
  have ha := h.at'
  rcases st with k | ⟨er, ln, cl⟩
  · obtain ⟨h1, h2, h3⟩ := ha
    obtain ⟨t, ht⟩ := h2.take
    exact ⟨h1, ⟨by rw [hb _ (lt_of_blk h2.rest) (by omega)]; exact h2.rest, by rw [hb _ (lt_of_blk h2.place) (by omega)]; exact h2.place, t, by rw [hb _ (lt_of_blk ht) (by omega)]; exact ht⟩, by rw [hb _ (lt_of_blk h3) (by omega)]; exact h3⟩
  · obtain ⟨k, tt, v, a, b, mb, eb, h1, h2, h3⟩ := ha
    refine ⟨k, tt, v, a, b, mb, eb, by rw [hb _ (lt_of_blk h1) (by omega)]; exact h1, ?_, h3⟩
    unfold MisAt at *
    rw [hb _ (lt_of_blk h2) (.inr (.inr (.inr (.inr ⟨_, h2⟩))))]; exact h2
theorem PR.aside {w w' : World} {pb c B : Nat} {ew en eu es ex : Addr} {l : List UInt8} {st : St} {pv : Value} (h : PR w pb c B ew en eu es ex l st pv) (hb : Below w.heap.size w w') : PR w' pb c B ew en eu es ex l st pv :=
  h.kept hb.size (h.gl.below (hb.mono h.gl.size)) (fun k hk _ => hb.block k hk)

theorem advance_any (w : World) (pb c B : Nat) (ew en eu es ex : Addr) (l : List UInt8) (st : St) (pv : Value) (h : PR w pb c B ew en eu es ex l st pv) :
    Calls Tryz.prog 90 #[.pointer (some ⟨pb, 0, none⟩)] w fun e w' => e = .returned (.tuple #[]) ∧ PR w' pb c B ew en eu es ex l (advP l st) pv ∧ KP pb c w w' := by
  rcases st with k | x
  · exact advance_live w pb c B ew en eu es ex k l pv h
  · refine (advance_dead w pb c B ew en eu es ex l pv x h).mono ?_
    rintro e w' ⟨rfl, rfl⟩
    exact ⟨rfl, h, KP.refl _ _ _⟩

set_option maxRecDepth 100000 in
set_option maxHeartbeats 1000000 in
theorem at_any (w : World) (pb c B : Nat) (ew en eu es ex : Addr) (l : List UInt8) (st : St) (pv : Value) (s : ByteArray) (h : PR w pb c B ew en eu es ex l st pv) :
    Calls Tryz.prog 144 #[.pointer (some ⟨pb, 0, none⟩), .string s] w fun e w' => e = .returned (.bool (atP l s.data.toList st)) ∧ w' = w := by
  rcases st with k | ⟨er, ln, cl⟩
  · obtain ⟨hlk, hrv, hblk⟩ := h.at'
    have c2 : w.cell? ⟨pb, 2, none⟩ = some (.string ⟨(tk l k).text.toArray⟩) := by rw [cell_of_blk hblk]; rfl
    have c6 : w.cell? ⟨pb, 6, none⟩ = some .nilIface := by rw [cell_of_blk hblk]; rfl
    have hb : atP l s.data.toList (.inl k) = ((tk l k).text == s.toList) := by rw [str_eq]; rfl
    clear hblk h hrv hlk
    rw [hb]
    clear hb
    generalize (tk l k).text = tt at *
    go_enter Tryz.func144, Tryz.ntmps144
    go_wp2_with fail
    go_ret
    exact ⟨rfl, rfl⟩
  · obtain ⟨k, tt, v, a, b, mb, eb, hblk, _⟩ := h.at'
    have c6 : w.cell? ⟨pb, 6, none⟩ = some (misV mb) := by rw [cell_of_blk hblk]; rfl
    unfold misV at c6
    clear hblk h
    show Calls _ _ _ _ fun e w' => e = .returned (.bool false) ∧ w' = w
    go_enter Tryz.func144, Tryz.ntmps144
    go_wp2_with fail
    go_ret
    exact ⟨rfl, rfl⟩

set_option maxRecDepth 100000 in
set_option maxHeartbeats 1000000 in
theorem refuse_any (w : World) (pb c B : Nat) (ew en eu es ex : Addr) (l : List UInt8) (st : St) (pv : Value) (eb : Addr) (er : Nat) (h : PR w pb c B ew en eu es ex l st pv) (heb : eb = ew ∨ eb = en ∨ eb = eu ∨ eb = es) (hno : noOf ew en eu eb = er) :
    Calls Tryz.prog 206 #[.pointer (some ⟨pb, 0, none⟩), errV eb] w fun e w' => e = .returned (.tuple #[]) ∧ PR w' pb c B ew en eu es ex l (refP l er st) pv ∧ KP pb c w w' := by
  unfold errV
  rcases st with k | ⟨er', ln, cl⟩
  · obtain ⟨hlk, hrv, hblk⟩ := h.at'
    have c4 : w.cell? ⟨pb, 4, none⟩ = some (.int .i64 (tk l k).line) := by rw [cell_of_blk hblk]; rfl
    have c5 : w.cell? ⟨pb, 5, none⟩ = some (.int .i64 (tk l k).col) := by rw [cell_of_blk hblk]; rfl
    have c6 : w.cell? ⟨pb, 6, none⟩ = some .nilIface := by rw [cell_of_blk hblk]; rfl
    have f6 : w.frozen? ⟨pb, 6, none⟩ = false := frozen_of_blk hblk
    have hpb := lt_of_blk hblk
    have HB : Hid _ := hblk
    clear hblk
    go_enter Tryz.func206, Tryz.ntmps206
    go_wp2_with fail
    go_returns
    have hk : KP pb c w ((w.setCell ⟨pb, 6, none⟩ (.iface 178 (.pointer (some ⟨w.heap.size, 0, none⟩)))).alloc (.cells #[.iface 359 (.pointer (some eb)), .int .i64 (tk l k).line, .int .i64 (tk l k).col] 182)) :=
      (KP.set w pb 6 _ (.inl rfl)).trans (KP.below ((Below.refl _ _).alloc (Nat.le_refl _) _))
    have hsz : (w.setCell ⟨pb, 6, none⟩ (.iface 178 (.pointer (some ⟨w.heap.size, 0, none⟩)))).heap.size = w.heap.size := by simp [World.setCell]
    refine ⟨rfl, ⟨h.gl.below (hk.toBelow h.gl.size h.hBp h.hBc), h.hBc, h.hBp, h.ord, h.len, h.shape, ?_⟩, hk⟩
    show ∃ k tt v a b mb eb, _
    refine ⟨kindT (tk l k), ba (tk l k).text, if kindT (tk l k) = 2 then valF (tk l k).text else 0, (tk l k).line, (tk l k).col, w.heap.size, eb, ?_, ?_, heb, hno, by rw [ba_size]; exact Nat.le_trans (tk_len l k) h.len⟩
    · rw [Below.heap_alloc _ _ _ (by rw [hsz]; exact hpb), blk_set 6 _ HB.out]; rfl
    · unfold MisAt
      have := heap_new (w.setCell ⟨pb, 6, none⟩ (.iface 178 (.pointer (some ⟨w.heap.size, 0, none⟩)))) (.cells #[.iface 359 (.pointer (some eb)), .int .i64 (tk l k).line, .int .i64 (tk l k).col] 182)
      rw [hsz] at this
      exact this
  · obtain ⟨k, tt, v, a, b, mb, eb, hblk, _⟩ := h.at'
    have c6 : w.cell? ⟨pb, 6, none⟩ = some (misV mb) := by rw [cell_of_blk hblk]; rfl
    unfold misV at c6
    clear hblk
    go_enter Tryz.func206, Tryz.ntmps206
    go_wp2_with fail
    go_returns
    exact ⟨rfl, h, KP.refl _ _ _⟩

set_option maxRecDepth 100000 in
set_option maxHeartbeats 1000000 in
theorem expect_any (w : World) (pb c B : Nat) (ew en eu es ex : Addr) (l : List UInt8) (st : St) (pv : Value) (s : ByteArray) (h : PR w pb c B ew en eu es ex l st pv) :
    Calls Tryz.prog 147 #[.pointer (some ⟨pb, 0, none⟩), .string s] w fun e w' => e = .returned (.tuple #[]) ∧ PR w' pb c B ew en eu es ex l (expP l s.data.toList st) pv ∧ KP pb c w w' := by
  have HE : Hid (expP l s.data.toList st = if atP l s.data.toList st = true then advP l st else refP l 1 st) := rfl
  generalize expP l s.data.toList st = st2 at *
  have hat := at_any w pb c B ew en eu es ex l st pv s h
  have cS := h.gl.cS
  have HNO : Hid (noOf ew en eu es = 1) := by
    have := h.gl.ne
    show noOf ew en eu es = 1
    unfold noOf
    rw [if_neg (fun e => this.2.2.1 e.symm), if_neg (fun e => this.2.2.2.2.1 e.symm), if_neg (fun e => this.2.2.2.2.2 e.symm)]
  unfold errV at cS
  rcases hb : atP l s.data.toList st with _ | _
  · rw [hb] at hat
    have he : st2 = refP l 1 st := HE.out.trans (if_neg (by rw [hb]; simp))
    subst he
    clear HE hb
    go_enter Tryz.func147, Tryz.ntmps147
    go_wp2_with fail
    refine hat.mono ?_
    rintro e w1 ⟨rfl, rfl⟩
    go_wp2_with fail
    refine (refuse_any w1 pb c B ew en eu es ex l st pv es 1 h (by simp) HNO.out).mono ?_
    rintro e w2 ⟨rfl, h2, hk⟩
    go_wp2_with fail
    go_returns
    exact ⟨rfl, h2, hk⟩
  · rw [hb] at hat
    have he : st2 = advP l st := HE.out.trans (if_pos hb)
    subst he
    clear HE hb
    go_enter Tryz.func147, Tryz.ntmps147
    go_wp2_with fail
    refine hat.mono ?_
    rintro e w1 ⟨rfl, rfl⟩
    go_wp2_with fail
    refine (advance_any w1 pb c B ew en eu es ex l st pv h).mono ?_
    rintro e w2 ⟨rfl, h2, hk⟩
    go_wp2_with fail
    go_returns
    exact ⟨rfl, h2, hk⟩

/- numbers and names: in a state that has failed the value is any -/
def NumR (l : List UInt8) (st : St) (v : Int) : Prop := ∀ k, st = .inl k → v = (numP l st).1
set_option maxRecDepth 100000 in
set_option maxHeartbeats 1000000 in
theorem pnumber_any (w : World) (pb c B : Nat) (ew en eu es ex : Addr) (l : List UInt8) (st : St) (pv : Value) (h : PR w pb c B ew en eu es ex l st pv) :
    Calls Tryz.prog 201 #[.pointer (some ⟨pb, 0, none⟩)] w fun e w' => ∃ v, e = .returned (.int .i64 v) ∧ NumR l st v ∧ PR w' pb c B ew en eu es ex l (numP l st).2 pv ∧ KP pb c w w' := by
  have cS := h.gl.cS
  have HNO : Hid (noOf ew en eu es = 1) := by
    have := h.gl.ne
    show noOf ew en eu es = 1
    unfold noOf
    rw [if_neg (fun e => this.2.2.1 e.symm), if_neg (fun e => this.2.2.2.2.1 e.symm), if_neg (fun e => this.2.2.2.2.2 e.symm)]
  unfold errV at cS
  rcases st with k | ⟨er', ln, cl⟩
  · obtain ⟨hlk, hrv, hblk⟩ := h.at'
    have c1 : w.cell? ⟨pb, 1, none⟩ = some (.int .i64 (kindT (tk l k))) := by rw [cell_of_blk hblk]; rfl
    have c3 : w.cell? ⟨pb, 3, none⟩ = some (.int .i64 (if kindT (tk l k) = 2 then valF (tk l k).text else 0)) := by rw [cell_of_blk hblk]; rfl
    clear hblk
    by_cases hk2 : kindT (tk l k) = 2
    · rw [if_pos hk2] at c3
      have hz : ((kindT (tk l k) : Int) != 2) = false := by simp; omega
      have HN : Hid (numP l (.inl k) = (valF (tk l k).text, normP l (k + 1))) := by show numP l (.inl k) = _; simp only [numP]; rw [if_pos hk2]
      clear hk2
      generalize kindT (tk l k) = kk at *
      generalize valF (tk l k).text = vv at *
      go_enter Tryz.func201, Tryz.ntmps201
      go_wp2_with fail
      refine (advance_live w pb c B ew en eu es ex k l pv h).mono ?_
      rintro e w2 ⟨rfl, h2, hk⟩
      go_wp2_with fail
      go_ret
      refine ⟨vv, rfl, ?_, ?_, hk⟩
      · intro k' _; rw [HN.out]
      · rw [HN.out]; exact h2
    · clear c3
      have hz : ((kindT (tk l k) : Int) != 2) = true := by simp; omega
      have HN : Hid (numP l (.inl k) = (0, badP l k 1)) := by show numP l (.inl k) = _; simp only [numP]; rw [if_neg hk2]
      clear hk2
      generalize kindT (tk l k) = kk at *
      go_enter Tryz.func201, Tryz.ntmps201
      go_wp2_with fail
      refine (refuse_any w pb c B ew en eu es ex l (.inl k) pv es 1 h (by simp) HNO.out).mono ?_
      rintro e w2 ⟨rfl, h2, hk⟩
      go_wp2_with fail
      go_ret
      refine ⟨0, rfl, ?_, ?_, hk⟩
      · intro k' _; rw [HN.out]
      · rw [HN.out]; exact h2
  · obtain ⟨k, tt, v, a, b, mb, eb, hblk, _⟩ := h.at'
    have c1 : w.cell? ⟨pb, 1, none⟩ = some (.int .i64 k) := by rw [cell_of_blk hblk]; rfl
    have c3 : w.cell? ⟨pb, 3, none⟩ = some (.int .i64 v) := by rw [cell_of_blk hblk]; rfl
    clear hblk
    by_cases hk2 : k = 2
    · have hz : ((k : Int) != 2) = false := by simp; omega
      clear hk2
      go_enter Tryz.func201, Tryz.ntmps201
      go_wp2_with fail
      refine (advance_dead w pb c B ew en eu es ex l pv _ h).mono ?_
      rintro e w2 ⟨rfl, rfl⟩
      go_wp2_with fail
      go_ret
      exact ⟨v, rfl, (fun k' hk => by cases hk), h, KP.refl _ _ _⟩
    · have hz : ((k : Int) != 2) = true := by simp; omega
      clear hk2
      go_enter Tryz.func201, Tryz.ntmps201
      go_wp2_with fail
      refine (refuse_any w pb c B ew en eu es ex l _ pv es 1 h (by simp) HNO.out).mono ?_
      rintro e w2 ⟨rfl, h2, hk⟩
      go_wp2_with fail
      go_ret
      exact ⟨0, rfl, (fun k' hk => by cases hk), h2, hk⟩

def WordR (l : List UInt8) (st : St) (v : List UInt8) : Prop := ∀ k, st = .inl k → v = (wordP l st).1
set_option maxRecDepth 100000 in
set_option maxHeartbeats 1000000 in
theorem name_any (w : World) (pb c B : Nat) (ew en eu es ex : Addr) (l : List UInt8) (st : St) (pv : Value) (h : PR w pb c B ew en eu es ex l st pv) :
    Calls Tryz.prog 202 #[.pointer (some ⟨pb, 0, none⟩)] w fun e w' => ∃ v, e = .returned (.string (ba v)) ∧ WordR l st v ∧ PR w' pb c B ew en eu es ex l (wordP l st).2 pv ∧ KP pb c w w' := by
  have cS := h.gl.cS
  have HNO : Hid (noOf ew en eu es = 1) := by
    have := h.gl.ne
    show noOf ew en eu es = 1
    unfold noOf
    rw [if_neg (fun e => this.2.2.1 e.symm), if_neg (fun e => this.2.2.2.2.1 e.symm), if_neg (fun e => this.2.2.2.2.2 e.symm)]
  unfold errV at cS
  rcases st with k | ⟨er', ln, cl⟩
  · obtain ⟨hlk, hrv, hblk⟩ := h.at'
    have c1 : w.cell? ⟨pb, 1, none⟩ = some (.int .i64 (kindT (tk l k))) := by rw [cell_of_blk hblk]; rfl
    have c2 : w.cell? ⟨pb, 2, none⟩ = some (.string (ba (tk l k).text)) := by rw [cell_of_blk hblk]; rfl
    have htl := Nat.le_trans (tk_len l k) h.len
    clear hblk
    by_cases hk2 : kindT (tk l k) = 1
    · have hz : ((kindT (tk l k) : Int) != 1) = false := by simp; omega
      have HN : Hid (wordP l (.inl k) = ((tk l k).text, normP l (k + 1))) := by show wordP l (.inl k) = _; simp only [wordP]; rw [if_pos hk2]
      clear hk2
      generalize kindT (tk l k) = kk at *
      generalize (tk l k).text = tt at *
      go_enter Tryz.func202, Tryz.ntmps202
      go_wp2_with fail
      refine (stringsClone_any (ba tt) w (by rw [ba_size]; exact htl)).mono ?_
      rintro e w1 ⟨rfl, hb1⟩
      have hk1 : KP pb c w w1 := KP.below hb1
      have h1 := h.aside hb1
      clear hb1
      go_wp2_with fail
      refine (advance_live w1 pb c B ew en eu es ex k l pv h1).mono ?_
      rintro e w2 ⟨rfl, h2, hk⟩
      go_wp2_with fail
      go_ret
      refine ⟨tt, rfl, ?_, ?_, hk1.trans hk⟩
      · intro k' _; rw [HN.out]
      · rw [HN.out]; exact h2
    · have hz : ((kindT (tk l k) : Int) != 1) = true := by simp; omega
      have HN : Hid (wordP l (.inl k) = ([], badP l k 1)) := by show wordP l (.inl k) = _; simp only [wordP]; rw [if_neg hk2]
      clear hk2
      generalize kindT (tk l k) = kk at *
      go_enter Tryz.func202, Tryz.ntmps202
      go_wp2_with fail
      refine (refuse_any w pb c B ew en eu es ex l (.inl k) pv es 1 h (by simp) HNO.out).mono ?_
      rintro e w2 ⟨rfl, h2, hk⟩
      go_wp2_with fail
      go_ret
      refine ⟨[], rfl, ?_, ?_, hk⟩
      · intro k' _; rw [HN.out]
      · rw [HN.out]; exact h2
  · obtain ⟨k, tt, v, a, b, mb, eb, hblk, _, _, _, hts⟩ := h.at'
    have c1 : w.cell? ⟨pb, 1, none⟩ = some (.int .i64 k) := by rw [cell_of_blk hblk]; rfl
    have c2 : w.cell? ⟨pb, 2, none⟩ = some (.string tt) := by rw [cell_of_blk hblk]; rfl
    clear hblk
    by_cases hk2 : k = 1
    · have hz : ((k : Int) != 1) = false := by simp; omega
      clear hk2
      go_enter Tryz.func202, Tryz.ntmps202
      go_wp2_with fail
      refine (stringsClone_any tt w hts).mono ?_
      rintro e w1 ⟨rfl, hb1⟩
      have hk1 : KP pb c w w1 := KP.below hb1
      have h1 := h.aside hb1
      clear hb1
      go_wp2_with fail
      refine (advance_dead w1 pb c B ew en eu es ex l pv _ h1).mono ?_
      rintro e w2 ⟨rfl, rfl⟩
      go_wp2_with fail
      go_ret
      exact ⟨tt.data.toList, by rw [← ba_eq rfl]; rfl, (fun k' hk => by cases hk), h1, hk1⟩
    · have hz : ((k : Int) != 1) = true := by simp; omega
      clear hk2
      go_enter Tryz.func202, Tryz.ntmps202
      go_wp2_with fail
      refine (refuse_any w pb c B ew en eu es ex l _ pv es 1 h (by simp) HNO.out).mono ?_
      rintro e w2 ⟨rfl, h2, hk⟩
      go_wp2_with fail
      go_ret
      exact ⟨[], rfl, (fun k' hk => by cases hk), h2, hk⟩
end Go.Proofs.YteioennfpkoagaaGreatDoor
namespace Go.Proofs.YteioennfpkoagaaGreatDoor
open Go.RowKit
attribute [local go_sem ↓] Go.wp_at_zero Go.wp_at_succ

/- Partitions lie in block sb: five cells each. -/
def PartF (w : World) (sb : Nat) (names : List (List UInt8)) : Prop :=
  ∃ cur t fr, w.heap[sb]? = some (.cells cur t fr) ∧ ∀ j (hj : j < names.length), cur[j * 5]? = some (.string ⟨names[j].toArray⟩) ∧ ∃ a b c x y z, cur[j * 5 + 1]? = some (.int .i64 a) ∧ cur[j * 5 + 2]? = some (.int .i64 b) ∧ cur[j * 5 + 3]? = some (.int .i64 c) ∧ cur[j * 5 + 4]? = some (.slice x y z)
theorem PartF.at {w : World} {sb : Nat} {names : List (List UInt8)} (h : PartF w sb names) (j : Nat) (hj : j < names.length) : w.cell? ⟨sb, j * 5, none⟩ = some (.string ⟨names[j].toArray⟩) ∧ ∃ a b c x y z, w.cell? ⟨sb, j * 5 + 1, none⟩ = some (.int .i64 a) ∧ w.cell? ⟨sb, j * 5 + 2, none⟩ = some (.int .i64 b) ∧ w.cell? ⟨sb, j * 5 + 3, none⟩ = some (.int .i64 c) ∧ w.cell? ⟨sb, j * 5 + 4, none⟩ = some (.slice x y z) := by
  obtain ⟨cur, t, fr, h1, h2⟩ := h
  obtain ⟨h3, a, b, c, x, y, z, h4, h5, h6, h7⟩ := h2 j hj
  exact ⟨by rw [cell_of_blk h1]; exact h3, a, b, c, x, y, z, by rw [cell_of_blk h1]; exact h4, by rw [cell_of_blk h1]; exact h5, by rw [cell_of_blk h1]; exact h6, by rw [cell_of_blk h1]; exact h7⟩
theorem PartF.below {w w' : World} {sb : Nat} {names : List (List UInt8)} (h : PartF w sb names) (hb : Below w.heap.size w w') : PartF w' sb names := by
  obtain ⟨cur, t, fr, h1, h2⟩ := h
  exact ⟨cur, t, fr, by rw [hb.block _ (lt_of_blk h1)]; exact h1, h2⟩
def PartT (w : World) (v : Value) (names : List (List UInt8)) : Prop :=
  (v = .slice none 0 0 ∧ names = []) ∨ ∃ pb c, v = .slice (some ⟨pb, 0, none⟩) names.length c ∧ PartF w pb names
/- the first place of a name, or -1 -/
def idxF (tt : List UInt8) (i : Nat) : List (List UInt8) → Int
  | [] => -1
  | nm :: t => if nm = tt then i else idxF tt (i + 1) t
theorem idx_step (tt : List UInt8) (kws : List (List UInt8)) (k : Nat) (hk : k < kws.length) : idxF tt k (kws.drop k) = if kws[k] = tt then (k : Int) else idxF tt (k + 1) (kws.drop (k + 1)) := by
  rw [List.drop_eq_getElem_cons hk]; rfl
theorem idx_ge (tt : List UInt8) (i : Nat) (kws : List (List UInt8)) : idxF tt i kws = -1 ∨ ((i : Int) ≤ idxF tt i kws ∧ idxF tt i kws < i + kws.length) := by
  induction kws generalizing i with
  | nil => exact .inl rfl
  | cons a t ih =>
    simp only [idxF]; split
    · right; simp; omega
    · rcases ih (i + 1) with h | h
      · exact .inl h
      · right; simp; omega
theorem plcGo_idx (l : List UInt8) (k i : Nat) (kws : List (List UInt8)) : plcGo l k i kws = if idxF (tk l k).text i kws < 0 then (0, badP l k 4) else ((idxF (tk l k).text i kws).toNat, normP l (k + 1)) := by
  induction kws generalizing i with
  | nil => rfl
  | cons a t ih =>
    by_cases h : a = (tk l k).text
    · have e1 : idxF (tk l k).text i (a :: t) = (i : Int) := by simp only [idxF]; rw [if_pos h]
      have e2 : plcGo l k i (a :: t) = (i, normP l (k + 1)) := by simp only [plcGo]; rw [if_pos h]
      rw [e1, e2, if_neg (by omega)]; simp
    · have e1 : idxF (tk l k).text i (a :: t) = idxF (tk l k).text (i + 1) t := by simp only [idxF]; rw [if_neg h]
      have e2 : plcGo l k i (a :: t) = plcGo l k (i + 1) t := by simp only [plcGo]; rw [if_neg h]
      rw [e1, e2, ih]

set_option maxRecDepth 100000 in
set_option maxHeartbeats 1000000 in
theorem clo_any (w : World) (pb bx : Nat) (tt nm : List UInt8) (a b d : Int) (x : Option Addr) (y z : Nat) (hbx : w.cell? ⟨bx, 0, none⟩ = some (.pointer (some ⟨pb, 0, none⟩))) (c2 : w.cell? ⟨pb, 2, none⟩ = some (.string (ba tt))) :
    Calls Tryz.prog 242 #[.agg #[.string ⟨nm.toArray⟩, .int .i64 a, .int .i64 b, .int .i64 d, .slice x y z], .pointer (some ⟨bx, 0, none⟩)] w fun e w' => e = .returned (.bool (decide (nm = tt))) ∧ Below w.heap.size w w' := by
  have hb : decide (nm = tt) = (nm == tt) := by rw [Bool.eq_iff_iff]; simp
  have h1 := World.block_lt_of_cell? w _ hbx
  have h2 := World.block_lt_of_cell? w _ c2
  simp only [] at h1 h2
  rw [hb]
  clear hb
  unfold ba at c2
  go_enter Tryz.func242, Tryz.ntmps242
  go_wp2_with fail
  go_quiet (fail)
  go_wp2_with fail
  go_ret
  exact ⟨rfl, (((Below.refl _ w).alloc (Nat.le_refl _) _).trans ⟨rfl, rfl, rfl, Nat.le_refl _, fun _ _ => rfl⟩)⟩

set_option maxRecDepth 100000 in
set_option maxHeartbeats 1000000 in
theorem index_live (w : World) (pb bx sb c : Nat) (tt : List UInt8) (names : List (List UInt8)) (hst : PartF w sb names) (hm : names.length ≤ 10000) (hbx : w.cell? ⟨bx, 0, none⟩ = some (.pointer (some ⟨pb, 0, none⟩))) (c2 : w.cell? ⟨pb, 2, none⟩ = some (.string (ba tt))) :
    Calls Tryz.prog 175 #[.slice (some ⟨sb, 0, none⟩) names.length c, .func (Fn.func 242) #[] #[.pointer (some ⟨bx, 0, none⟩)]] w fun e w' => e = .returned (.int .i64 (idxF tt 0 names)) ∧ Below w.heap.size w w' := by
  generalize hfin : idxF tt 0 names = fin
  have HF : Hid (fin = idxF tt 0 (names.drop 0)) := hfin.symm
  clear hfin
  have l1 := World.block_lt_of_cell? w _ hbx
  have l2 := World.block_lt_of_cell? w _ c2
  simp only [] at l1 l2
  go_enter Tryz.func175, Tryz.ntmps175
  go_wp2_with fail
  go_loopw [8] (fun i wr => ∃ (k : Nat), i = .int .i64 k ∧ k ≤ names.length ∧ Hid (fin = idxF tt k (names.drop k)) ∧ Below w.heap.size w wr) (fun i _ => names.length - (intOf i).toNat)
  case atStart => exact ⟨0, rfl, by omega, HF, Below.refl _ _⟩
  case round =>
    obtain ⟨k, rfl, hk, HK, hbel⟩ := hrel
    clear HF
    by_cases hlt : k < names.length
    · have hcells := (hst.below hbel).at k hlt
      obtain ⟨d0, x1, x2, x3, x4, x5, x6, d1, d2, d3, d4⟩ := hcells
      have hlt' : (k : Int) < (names.length : Int) := by omega
      have hk0 : (0 : Int) ≤ (k : Int) := by omega
      have HSS : Hid _ := idx_step tt names k hlt
      generalize names[k] = nm at *
      have hclo := clo_any wr pb bx tt nm x1 x2 x3 x4 x5 x6 (by rw [hbel.cell (by exact l1)]; exact hbx) (by rw [hbel.cell (by exact l2)]; exact c2)
      go_wp2_with fail
      refine hclo.mono ?_
      rintro e w2 ⟨rfl, hb2⟩
      by_cases hh : nm = tt
      · have HX : Hid (fin = (k : Int)) := HK.out.trans (HSS.out.trans (if_pos hh))
        have hd : decide (nm = tt) = true := by simp [hh]
        rw [hd]
        clear hd hh
        go_wp2_with fail
        go_ret
        exact ⟨by rw [HX.out]; rfl, hbel.trans (hb2.mono hbel.size)⟩
      · have HX : Hid (fin = idxF tt (k + 1) (names.drop (k + 1))) := HK.out.trans (HSS.out.trans (if_neg hh))
        have hd : decide (nm = tt) = false := by simp [hh]
        rw [hd]
        clear hd hh
        go_wp2_with fail
        go_roundw
        case rel => exact ⟨k + 1, by go_num, by omega, HX, hbel.trans (hb2.mono hbel.size)⟩
        case measure => simp [intOf]; omega
    · have HX : Hid (fin = -1) := by have := HK.out; rw [List.drop_eq_nil_of_le (by omega)] at this; exact this
      go_wp2_with fail
      go_ret
      exact ⟨by rw [HX.out]; rfl, hbel⟩
end Go.Proofs.YteioennfpkoagaaGreatDoor
