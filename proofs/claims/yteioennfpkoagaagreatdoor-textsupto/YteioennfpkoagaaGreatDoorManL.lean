import Derived.Test.YteioennfpkoagaaGreatDoorManK
namespace Go.Proofs.YteioennfpkoagaaGreatDoor
open Go.RowKit
attribute [local go_sem ↓] Go.wp_at_zero Go.wp_at_succ

set_option maxRecDepth 100000 in
set_option maxHeartbeats 1000000 in
theorem advance_dead (w : World) (pb c B : Nat) (ew en eu es ex : Addr) (l : List UInt8) (pv : Value) (x : Nat × Int × Int) (h : PR w pb c B ew en eu es ex l (.inr x) pv) :
    Calls Tryz.prog 90 #[.pointer (some ⟨pb, 0, none⟩)] w fun e w' => e = .returned (.tuple #[]) ∧ w' = w := by
  obtain ⟨er, ln, cl⟩ := x
  obtain ⟨k, tt, v, a, b, mb, eb, hblk, _⟩ := h.at'
  have c6 : w.cell? ⟨pb, 6, none⟩ = some (misV mb) := by rw [cell_of_blk hblk]; rfl
  unfold misV at c6
  clear hblk h
  go_enter Tryz.func90, Tryz.ntmps90
  go_wp2_with fail
  go_returns
  exact ⟨rfl, rfl⟩

/- the parser is as it was where only new blocks were made -/
theorem PR.kept {w w' : World} {pb c B : Nat} {ew en eu es ex : Addr} {l : List UInt8} {st : St} {pv : Value} (h : PR w pb c B ew en eu es ex l st pv) (_hs : w.heap.size ≤ w'.heap.size) (hg : GL w' B ew en eu es ex) (hb : ∀ k, k < w.heap.size → (k = pb ∨ k = c ∨ k = c + 1 ∨ k = c + 1 + 1 ∨ (∃ o, w.heap[k]? = some (.cells o 182 (0, 0)))) → w'.heap[k]? = w.heap[k]?) : PR w' pb c B ew en eu es ex l st pv := by
  refine ⟨hg, h.hBc, h.hBp, h.ord, h.len, h.shape, ?_⟩
  have ha := h.at'
  rcases st with k | ⟨er, ln, cl⟩
  · obtain ⟨h1, h2, h3⟩ := ha
    obtain ⟨t, ht⟩ := h2.take
    exact ⟨h1, ⟨by rw [hb _ (lt_of_blk h2.rest) (by omega)]; exact h2.rest, by rw [hb _ (lt_of_blk h2.place) (by omega)]; exact h2.place, t, by rw [hb _ (lt_of_blk ht) (by omega)]; exact ht⟩, by rw [hb _ (lt_of_blk h3) (by omega)]; exact h3⟩
  · obtain ⟨k, tt, v, a, b, mb, eb, h1, h2, h3⟩ := ha
    refine ⟨k, tt, v, a, b, mb, eb, by rw [hb _ (lt_of_blk h1) (by omega)]; exact h1, ?_, h3⟩
    unfold MisAt at *
    rw [hb _ (lt_of_blk h2) (.inr (.inr (.inr (.inr ⟨_, h2⟩))))]; exact h2
theorem PR.aside {w w' : World} {pb c B : Nat} {ew en eu es ex : Addr} {l : List UInt8} {st : St} {pv : Value} (h : PR w pb c B ew en eu es ex l st pv) (hb : Below w.heap.size w w') : PR w' pb c B ew en eu es ex l st pv :=
  h.kept hb.size (h.gl.below (hb.mono h.gl.size)) (fun k hk _ => hb.block k hk)

theorem advance_any (w : World) (pb c B : Nat) (ew en eu es ex : Addr) (l : List UInt8) (st : St) (pv : Value) (h : PR w pb c B ew en eu es ex l st pv) :
    Calls Tryz.prog 90 #[.pointer (some ⟨pb, 0, none⟩)] w fun e w' => e = .returned (.tuple #[]) ∧ PR w' pb c B ew en eu es ex l (advP l st) pv ∧ KP pb c w w' := by
  rcases st with k | x
  · exact advance_live w pb c B ew en eu es ex k l pv h
  · refine (advance_dead w pb c B ew en eu es ex l pv x h).mono ?_
    rintro e w' ⟨rfl, rfl⟩
    exact ⟨rfl, h, KP.refl _ _ _⟩

set_option maxRecDepth 100000 in
set_option maxHeartbeats 1000000 in
theorem at_any (w : World) (pb c B : Nat) (ew en eu es ex : Addr) (l : List UInt8) (st : St) (pv : Value) (s : ByteArray) (h : PR w pb c B ew en eu es ex l st pv) :
    Calls Tryz.prog 144 #[.pointer (some ⟨pb, 0, none⟩), .string s] w fun e w' => e = .returned (.bool (atP l s.data.toList st)) ∧ w' = w := by
  rcases st with k | ⟨er, ln, cl⟩
  · obtain ⟨hlk, hrv, hblk⟩ := h.at'
    have c2 : w.cell? ⟨pb, 2, none⟩ = some (.string ⟨(tk l k).text.toArray⟩) := by rw [cell_of_blk hblk]; rfl
    have c6 : w.cell? ⟨pb, 6, none⟩ = some .nilIface := by rw [cell_of_blk hblk]; rfl
    have hb : atP l s.data.toList (.inl k) = ((tk l k).text == s.toList) := by rw [str_eq]; rfl
    clear hblk h hrv hlk
    rw [hb]
    clear hb
    generalize (tk l k).text = tt at *
    go_enter Tryz.func144, Tryz.ntmps144
    go_wp2_with fail
    go_ret
    exact ⟨rfl, rfl⟩
  · obtain ⟨k, tt, v, a, b, mb, eb, hblk, _⟩ := h.at'
    have c6 : w.cell? ⟨pb, 6, none⟩ = some (misV mb) := by rw [cell_of_blk hblk]; rfl
    unfold misV at c6
    clear hblk h
    show Calls _ _ _ _ fun e w' => e = .returned (.bool false) ∧ w' = w
    go_enter Tryz.func144, Tryz.ntmps144
    go_wp2_with fail
    go_ret
    exact ⟨rfl, rfl⟩

set_option maxRecDepth 100000 in
set_option maxHeartbeats 1000000 in
theorem refuse_any (w : World) (pb c B : Nat) (ew en eu es ex : Addr) (l : List UInt8) (st : St) (pv : Value) (eb : Addr) (er : Nat) (h : PR w pb c B ew en eu es ex l st pv) (heb : eb = ew ∨ eb = en ∨ eb = eu ∨ eb = es) (hno : noOf ew en eu eb = er) :
    Calls Tryz.prog 206 #[.pointer (some ⟨pb, 0, none⟩), errV eb] w fun e w' => e = .returned (.tuple #[]) ∧ PR w' pb c B ew en eu es ex l (refP l er st) pv ∧ KP pb c w w' := by
  unfold errV
  rcases st with k | ⟨er', ln, cl⟩
  · obtain ⟨hlk, hrv, hblk⟩ := h.at'
    have c4 : w.cell? ⟨pb, 4, none⟩ = some (.int .i64 (tk l k).line) := by rw [cell_of_blk hblk]; rfl
    have c5 : w.cell? ⟨pb, 5, none⟩ = some (.int .i64 (tk l k).col) := by rw [cell_of_blk hblk]; rfl
    have c6 : w.cell? ⟨pb, 6, none⟩ = some .nilIface := by rw [cell_of_blk hblk]; rfl
    have f6 : w.frozen? ⟨pb, 6, none⟩ = false := frozen_of_blk hblk
    have hpb := lt_of_blk hblk
    have HB : Hid _ := hblk
    clear hblk
    go_enter Tryz.func206, Tryz.ntmps206
    go_wp2_with fail
    go_returns
    have hk : KP pb c w ((w.setCell ⟨pb, 6, none⟩ (.iface 178 (.pointer (some ⟨w.heap.size, 0, none⟩)))).alloc (.cells #[.iface 359 (.pointer (some eb)), .int .i64 (tk l k).line, .int .i64 (tk l k).col] 182)) :=
      (KP.set w pb 6 _ (.inl rfl)).trans (KP.below ((Below.refl _ _).alloc (Nat.le_refl _) _))
    have hsz : (w.setCell ⟨pb, 6, none⟩ (.iface 178 (.pointer (some ⟨w.heap.size, 0, none⟩)))).heap.size = w.heap.size := by simp [World.setCell]
    refine ⟨rfl, ⟨h.gl.below (hk.toBelow h.gl.size h.hBp h.hBc), h.hBc, h.hBp, h.ord, h.len, h.shape, ?_⟩, hk⟩
    show ∃ k tt v a b mb eb, _
    refine ⟨kindT (tk l k), ba (tk l k).text, if kindT (tk l k) = 2 then valF (tk l k).text else 0, (tk l k).line, (tk l k).col, w.heap.size, eb, ?_, ?_, heb, hno, by rw [ba_size]; exact Nat.le_trans (tk_len l k) h.len⟩
    · rw [Below.heap_alloc _ _ _ (by rw [hsz]; exact hpb), blk_set 6 _ HB.out]; rfl
    · unfold MisAt
      have := heap_new (w.setCell ⟨pb, 6, none⟩ (.iface 178 (.pointer (some ⟨w.heap.size, 0, none⟩)))) (.cells #[.iface 359 (.pointer (some eb)), .int .i64 (tk l k).line, .int .i64 (tk l k).col] 182)
      rw [hsz] at this
      exact this
  · obtain ⟨k, tt, v, a, b, mb, eb, hblk, _⟩ := h.at'
    have c6 : w.cell? ⟨pb, 6, none⟩ = some (misV mb) := by rw [cell_of_blk hblk]; rfl
    unfold misV at c6
    clear hblk
    go_enter Tryz.func206, Tryz.ntmps206
    go_wp2_with fail
    go_returns
    exact ⟨rfl, h, KP.refl _ _ _⟩

set_option maxRecDepth 100000 in
set_option maxHeartbeats 1000000 in
theorem expect_any (w : World) (pb c B : Nat) (ew en eu es ex : Addr) (l : List UInt8) (st : St) (pv : Value) (s : ByteArray) (h : PR w pb c B ew en eu es ex l st pv) :
    Calls Tryz.prog 147 #[.pointer (some ⟨pb, 0, none⟩), .string s] w fun e w' => e = .returned (.tuple #[]) ∧ PR w' pb c B ew en eu es ex l (expP l s.data.toList st) pv ∧ KP pb c w w' := by
  have HE : Hid (expP l s.data.toList st = if atP l s.data.toList st = true then advP l st else refP l 1 st) := rfl
  generalize expP l s.data.toList st = st2 at *
  have hat := at_any w pb c B ew en eu es ex l st pv s h
  have cS := h.gl.cS
  have HNO : Hid (noOf ew en eu es = 1) := by
    have := h.gl.ne
    show noOf ew en eu es = 1
    unfold noOf
    rw [if_neg (fun e => this.2.2.1 e.symm), if_neg (fun e => this.2.2.2.2.1 e.symm), if_neg (fun e => this.2.2.2.2.2 e.symm)]
  unfold errV at cS
  rcases hb : atP l s.data.toList st with _ | _
  · rw [hb] at hat
    have he : st2 = refP l 1 st := HE.out.trans (if_neg (by rw [hb]; simp))
    subst he
    clear HE hb
    go_enter Tryz.func147, Tryz.ntmps147
    go_wp2_with fail
    refine hat.mono ?_
    rintro e w1 ⟨rfl, rfl⟩
    go_wp2_with fail
    refine (refuse_any w1 pb c B ew en eu es ex l st pv es 1 h (by simp) HNO.out).mono ?_
    rintro e w2 ⟨rfl, h2, hk⟩
    go_wp2_with fail
    go_returns
    exact ⟨rfl, h2, hk⟩
  · rw [hb] at hat
    have he : st2 = advP l st := HE.out.trans (if_pos hb)
    subst he
    clear HE hb
    go_enter Tryz.func147, Tryz.ntmps147
    go_wp2_with fail
    refine hat.mono ?_
    rintro e w1 ⟨rfl, rfl⟩
    go_wp2_with fail
    refine (advance_any w1 pb c B ew en eu es ex l st pv h).mono ?_
    rintro e w2 ⟨rfl, h2, hk⟩
    go_wp2_with fail
    go_returns
    exact ⟨rfl, h2, hk⟩

/- numbers and names: in a state that has failed the value is any -/
def NumR (l : List UInt8) (st : St) (v : Int) : Prop := ∀ k, st = .inl k → v = (numP l st).1
set_option maxRecDepth 100000 in
set_option maxHeartbeats 1000000 in
theorem pnumber_any (w : World) (pb c B : Nat) (ew en eu es ex : Addr) (l : List UInt8) (st : St) (pv : Value) (h : PR w pb c B ew en eu es ex l st pv) :
    Calls Tryz.prog 201 #[.pointer (some ⟨pb, 0, none⟩)] w fun e w' => ∃ v, e = .returned (.int .i64 v) ∧ NumR l st v ∧ PR w' pb c B ew en eu es ex l (numP l st).2 pv ∧ KP pb c w w' := by
  have cS := h.gl.cS
  have HNO : Hid (noOf ew en eu es = 1) := by
    have := h.gl.ne
    show noOf ew en eu es = 1
    unfold noOf
    rw [if_neg (fun e => this.2.2.1 e.symm), if_neg (fun e => this.2.2.2.2.1 e.symm), if_neg (fun e => this.2.2.2.2.2 e.symm)]
  unfold errV at cS
  rcases st with k | ⟨er', ln, cl⟩
  · obtain ⟨hlk, hrv, hblk⟩ := h.at'
    have c1 : w.cell? ⟨pb, 1, none⟩ = some (.int .i64 (kindT (tk l k))) := by rw [cell_of_blk hblk]; rfl
    have c3 : w.cell? ⟨pb, 3, none⟩ = some (.int .i64 (if kindT (tk l k) = 2 then valF (tk l k).text else 0)) := by rw [cell_of_blk hblk]; rfl
    clear hblk
    by_cases hk2 : kindT (tk l k) = 2
    · rw [if_pos hk2] at c3
      have hz : ((kindT (tk l k) : Int) != 2) = false := by simp; omega
      have HN : Hid (numP l (.inl k) = (valF (tk l k).text, normP l (k + 1))) := by show numP l (.inl k) = _; simp only [numP]; rw [if_pos hk2]
      clear hk2
      generalize kindT (tk l k) = kk at *
      generalize valF (tk l k).text = vv at *
      go_enter Tryz.func201, Tryz.ntmps201
      go_wp2_with fail
      refine (advance_live w pb c B ew en eu es ex k l pv h).mono ?_
      rintro e w2 ⟨rfl, h2, hk⟩
      go_wp2_with fail
      go_ret
      refine ⟨vv, rfl, ?_, ?_, hk⟩
      · intro k' _; rw [HN.out]
      · rw [HN.out]; exact h2
    · clear c3
      have hz : ((kindT (tk l k) : Int) != 2) = true := by simp; omega
      have HN : Hid (numP l (.inl k) = (0, badP l k 1)) := by show numP l (.inl k) = _; simp only [numP]; rw [if_neg hk2]
      clear hk2
      generalize kindT (tk l k) = kk at *
      go_enter Tryz.func201, Tryz.ntmps201
      go_wp2_with fail
      refine (refuse_any w pb c B ew en eu es ex l (.inl k) pv es 1 h (by simp) HNO.out).mono ?_
      rintro e w2 ⟨rfl, h2, hk⟩
      go_wp2_with fail
      go_ret
      refine ⟨0, rfl, ?_, ?_, hk⟩
      · intro k' _; rw [HN.out]
      · rw [HN.out]; exact h2
  · obtain ⟨k, tt, v, a, b, mb, eb, hblk, _⟩ := h.at'
    have c1 : w.cell? ⟨pb, 1, none⟩ = some (.int .i64 k) := by rw [cell_of_blk hblk]; rfl
    have c3 : w.cell? ⟨pb, 3, none⟩ = some (.int .i64 v) := by rw [cell_of_blk hblk]; rfl
    clear hblk
    by_cases hk2 : k = 2
    · have hz : ((k : Int) != 2) = false := by simp; omega
      clear hk2
      go_enter Tryz.func201, Tryz.ntmps201
      go_wp2_with fail
      refine (advance_dead w pb c B ew en eu es ex l pv _ h).mono ?_
      rintro e w2 ⟨rfl, rfl⟩
      go_wp2_with fail
      go_ret
      exact ⟨v, rfl, (fun k' hk => by cases hk), h, KP.refl _ _ _⟩
    · have hz : ((k : Int) != 2) = true := by simp; omega
      clear hk2
      go_enter Tryz.func201, Tryz.ntmps201
      go_wp2_with fail
      refine (refuse_any w pb c B ew en eu es ex l _ pv es 1 h (by simp) HNO.out).mono ?_
      rintro e w2 ⟨rfl, h2, hk⟩
      go_wp2_with fail
      go_ret
      exact ⟨0, rfl, (fun k' hk => by cases hk), h2, hk⟩

def WordR (l : List UInt8) (st : St) (v : List UInt8) : Prop := ∀ k, st = .inl k → v = (wordP l st).1
set_option maxRecDepth 100000 in
set_option maxHeartbeats 1000000 in
theorem name_any (w : World) (pb c B : Nat) (ew en eu es ex : Addr) (l : List UInt8) (st : St) (pv : Value) (h : PR w pb c B ew en eu es ex l st pv) :
    Calls Tryz.prog 202 #[.pointer (some ⟨pb, 0, none⟩)] w fun e w' => ∃ v, e = .returned (.string (ba v)) ∧ WordR l st v ∧ PR w' pb c B ew en eu es ex l (wordP l st).2 pv ∧ KP pb c w w' := by
  have cS := h.gl.cS
  have HNO : Hid (noOf ew en eu es = 1) := by
    have := h.gl.ne
    show noOf ew en eu es = 1
    unfold noOf
    rw [if_neg (fun e => this.2.2.1 e.symm), if_neg (fun e => this.2.2.2.2.1 e.symm), if_neg (fun e => this.2.2.2.2.2 e.symm)]
  unfold errV at cS
  rcases st with k | ⟨er', ln, cl⟩
  · obtain ⟨hlk, hrv, hblk⟩ := h.at'
    have c1 : w.cell? ⟨pb, 1, none⟩ = some (.int .i64 (kindT (tk l k))) := by rw [cell_of_blk hblk]; rfl
    have c2 : w.cell? ⟨pb, 2, none⟩ = some (.string (ba (tk l k).text)) := by rw [cell_of_blk hblk]; rfl
    have htl := Nat.le_trans (tk_len l k) h.len
    clear hblk
    by_cases hk2 : kindT (tk l k) = 1
    · have hz : ((kindT (tk l k) : Int) != 1) = false := by simp; omega
      have HN : Hid (wordP l (.inl k) = ((tk l k).text, normP l (k + 1))) := by show wordP l (.inl k) = _; simp only [wordP]; rw [if_pos hk2]
      clear hk2
      generalize kindT (tk l k) = kk at *
      generalize (tk l k).text = tt at *
      go_enter Tryz.func202, Tryz.ntmps202
      go_wp2_with fail
      refine (stringsClone_any (ba tt) w (by rw [ba_size]; exact htl)).mono ?_
      rintro e w1 ⟨rfl, hb1⟩
      have hk1 : KP pb c w w1 := KP.below hb1
      have h1 := h.aside hb1
      clear hb1
      go_wp2_with fail
      refine (advance_live w1 pb c B ew en eu es ex k l pv h1).mono ?_
      rintro e w2 ⟨rfl, h2, hk⟩
      go_wp2_with fail
      go_ret
      refine ⟨tt, rfl, ?_, ?_, hk1.trans hk⟩
      · intro k' _; rw [HN.out]
      · rw [HN.out]; exact h2
    · have hz : ((kindT (tk l k) : Int) != 1) = true := by simp; omega
      have HN : Hid (wordP l (.inl k) = ([], badP l k 1)) := by show wordP l (.inl k) = _; simp only [wordP]; rw [if_neg hk2]
      clear hk2
      generalize kindT (tk l k) = kk at *
      go_enter Tryz.func202, Tryz.ntmps202
      go_wp2_with fail
      refine (refuse_any w pb c B ew en eu es ex l (.inl k) pv es 1 h (by simp) HNO.out).mono ?_
      rintro e w2 ⟨rfl, h2, hk⟩
      go_wp2_with fail
      go_ret
      refine ⟨[], rfl, ?_, ?_, hk⟩
      · intro k' _; rw [HN.out]
      · rw [HN.out]; exact h2
  · obtain ⟨k, tt, v, a, b, mb, eb, hblk, _, _, _, hts⟩ := h.at'
    have c1 : w.cell? ⟨pb, 1, none⟩ = some (.int .i64 k) := by rw [cell_of_blk hblk]; rfl
    have c2 : w.cell? ⟨pb, 2, none⟩ = some (.string tt) := by rw [cell_of_blk hblk]; rfl
    clear hblk
    by_cases hk2 : k = 1
    · have hz : ((k : Int) != 1) = false := by simp; omega
      clear hk2
      go_enter Tryz.func202, Tryz.ntmps202
      go_wp2_with fail
      refine (stringsClone_any tt w hts).mono ?_
      rintro e w1 ⟨rfl, hb1⟩
      have hk1 : KP pb c w w1 := KP.below hb1
      have h1 := h.aside hb1
      clear hb1
      go_wp2_with fail
      refine (advance_dead w1 pb c B ew en eu es ex l pv _ h1).mono ?_
      rintro e w2 ⟨rfl, rfl⟩
      go_wp2_with fail
      go_ret
      exact ⟨tt.data.toList, by rw [← ba_eq rfl]; rfl, (fun k' hk => by cases hk), h1, hk1⟩
    · have hz : ((k : Int) != 1) = true := by simp; omega
      clear hk2
      go_enter Tryz.func202, Tryz.ntmps202
      go_wp2_with fail
      refine (refuse_any w pb c B ew en eu es ex l _ pv es 1 h (by simp) HNO.out).mono ?_
      rintro e w2 ⟨rfl, h2, hk⟩
      go_wp2_with fail
      go_ret
      exact ⟨[], rfl, (fun k' hk => by cases hk), h2, hk⟩
end Go.Proofs.YteioennfpkoagaaGreatDoor
