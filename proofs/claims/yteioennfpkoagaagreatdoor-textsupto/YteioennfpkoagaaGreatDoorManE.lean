import Derived.Test.YteioennfpkoagaaGreatDoorManD
import Derived.Laws.EntriesVeiled
import Derived.Deep.DeepCutAuto
namespace Go.Proofs.YteioennfpkoagaaGreatDoor
open Go.RowKit
attribute [local go_sem ↓] Go.wp_at_zero Go.wp_at_succ

/- a number's value; another token has none -/
def tvalF (l : List UInt8) : Int := if kindF l = 2 then valF l else 0
/- which of the two errors -/
def errB (ew en : Addr) (k : Nat) : Addr := if k = 3 then ew else en
theorem newToken_any (s : ByteArray) (ln cl : Int) (w : World) {B : Nat} {ew en eu es ex : Addr} (hg : GL w B ew en eu es ex) (hs : s.size ≤ 8192) :
    Calls Tryz.prog 141 #[.string s, .agg #[.int .i64 ln, .int .i64 cl]] w fun e w' => Below w.heap.size w w' ∧
      (looksF (kindF s.data.toList) s.data.toList = 0 ∧ e = .returned (.tuple #[.agg #[.int .i64 (kindF s.data.toList), .string s, .int .i64 (tvalF s.data.toList), .int .i64 ln, .int .i64 cl], .nilIface]) ∨
       looksF (kindF s.data.toList) s.data.toList ≠ 0 ∧ ∃ mb, e = .returned (.tuple #[zTok, misV mb]) ∧ w.heap.size ≤ mb ∧ MisAt w' mb (errB ew en (looksF (kindF s.data.toList) s.data.toList)) ln cl) := by
  by_cases h0 : s.size = 0
  · have he : s = ⟨#[]⟩ := by apply ByteArray.ext; apply Array.eq_empty_of_size_eq_zero; exact h0
    subst he
    refine (newToken_end ln cl w).mono ?_
    rintro e w' ⟨hb, rfl⟩
    exact ⟨hb, .inl ⟨by decide, by simp [tvalF, kindF]⟩⟩
  have hz : 0 < s.size := by omega
  have hk := kind_at s hz
  have hlen : s.data.toList.length = s.size := by simp
  cases h1 : smallB s[0].toNat
  · cases h2 : digitB s[0].toNat
    · have k0 : kindF s.data.toList = 0 := by rw [hk, h1, h2]; rfl
      have kv : tvalF s.data.toList = 0 := by unfold tvalF; rw [k0]; rfl
      rw [k0, kv]
      refine (newToken_odd s ln cl w hz h1 h2).mono ?_
      rintro e w' ⟨hb, rfl⟩
      exact ⟨hb, .inl ⟨by simp [looksF], rfl⟩⟩
    · have k0 : kindF s.data.toList = 2 := by rw [hk, h1, h2]; rfl
      have kv : tvalF s.data.toList = valF s.data.toList := by unfold tvalF; rw [k0]; rfl
      rw [k0, kv]
      refine (newToken_number s ln cl w hg hz hs h1 h2).mono ?_
      rintro e w' ⟨hb, hc⟩
      rcases hc with ⟨hl, rfl⟩ | ⟨hl, mb, rfl, hm, hmis⟩
      · exact ⟨hb, .inl ⟨hl, rfl⟩⟩
      · refine ⟨hb, .inr ⟨hl, mb, rfl, hm, ?_⟩⟩
        rw [errB, if_neg (by unfold looksF; simp; split <;> (try split) <;> simp)]
        exact hmis
  · have k0 : kindF s.data.toList = 1 := by rw [hk, h1]; rfl
    have kv : tvalF s.data.toList = 0 := by unfold tvalF; rw [k0]; rfl
    rw [k0, kv]
    refine (newToken_word s ln cl w hg hz hs h1).mono ?_
    rintro e w' ⟨hb, hc⟩
    rcases hc with ⟨hl, rfl⟩ | ⟨hl, mb, rfl, hm, hmis⟩
    · exact ⟨hb, .inl ⟨looks_other (by rw [hlen]; omega) (by decide), rfl⟩⟩
    · have h3 := looks_word (l := s.data.toList) (by rw [hlen]; exact hl)
      refine ⟨hb, .inr ⟨by rw [h3]; decide, mb, rfl, hm, ?_⟩⟩
      rw [h3, errB, if_pos rfl]
      exact hmis

/- The reader's own variables: what is left of the text in block c, the place in c + 1, 'take' in c + 2. -/
def takeV (c : Nat) : Value := .func (Fn.func 137) #[] #[.pointer (some ⟨c, 0, none⟩), .pointer (some ⟨c + 1, 0, none⟩)]
def nextV (c : Nat) : Value := .func (Fn.func 139) #[] #[.pointer (some ⟨c + 1 + 1, 0, none⟩), .pointer (some ⟨c, 0, none⟩), .pointer (some ⟨c + 1, 0, none⟩)]
structure RV (w : World) (c : Nat) (s : ByteArray) (ln cl : Int) : Prop where
  rest : w.heap[c]? = some (.cells #[.string s] 9 (0, 0))
  place : w.heap[c + 1]? = some (.cells #[.int .i64 ln, .int .i64 cl] 36 (0, 0))
  take : ∃ t, w.heap[c + 1 + 1]? = some (.cells #[takeV c] t (0, 0))
/- all is kept but what is new, the parser's block and the reader's two -/
structure KP (pb c : Nat) (w w' : World) : Prop where
  os : w'.os = w.os
  tape : w'.tape = w.tape
  output : w'.output = w.output
  size : w.heap.size ≤ w'.heap.size
  block : ∀ k, k < w.heap.size → k ≠ pb → k ≠ c → k ≠ c + 1 → w'.heap[k]? = w.heap[k]?
theorem KP.refl (pb c : Nat) (w : World) : KP pb c w w := ⟨rfl, rfl, rfl, Nat.le_refl _, fun _ _ _ _ _ => rfl⟩
theorem KP.trans {pb c : Nat} {a b d : World} (h : KP pb c a b) (k : KP pb c b d) : KP pb c a d :=
  ⟨k.os.trans h.os, k.tape.trans h.tape, k.output.trans h.output, Nat.le_trans h.size k.size, fun i hi h1 h2 h3 => (k.block i (Nat.lt_of_lt_of_le hi h.size) h1 h2 h3).trans (h.block i hi h1 h2 h3)⟩
theorem KP.of {pb c : Nat} {w w' : World} {row : Option Nat} (h : w.grownBy w' row) (hr : ∀ k, row = some k → k = pb ∨ k = c ∨ k = c + 1) : KP pb c w w' :=
  ⟨h.os, h.tape, h.output, h.size, fun k hk h1 h2 h3 => h.block k hk (fun e => by have := hr k e.symm; omega)⟩
theorem KP.below {pb c : Nat} {w w' : World} (h : Below w.heap.size w w') : KP pb c w w' := KP.of (row := none) (grown_below h none) (by simp)
theorem KP.set {pb c : Nat} (w : World) (b i : Nat) (v : Value) (hb : b = pb ∨ b = c ∨ b = c + 1) : KP pb c w (w.setCell ⟨b, i, none⟩ v) := KP.of (grown_set w b i v) (by intro k hk; injection hk with hk; omega)
theorem KP.kp {pb c K : Nat} {w w' : World} {o : Obj} (h : w.heap[K]? = some o) (hk : KP pb c w w') (h1 : K ≠ pb) (h2 : K ≠ c) (h3 : K ≠ c + 1) : w'.heap[K]? = some o := by
  rw [hk.block K (lt_of_blk h) h1 h2 h3]; exact h
theorem KP.toBelow {pb c B : Nat} {w w' : World} (h : KP pb c w w') (hB : B ≤ w.heap.size) (h1 : B ≤ pb) (h2 : B ≤ c) : Below B w w' :=
  ⟨h.os, h.tape, h.output, h.size, fun k hk => h.block k (by omega) (by omega) (by omega) (by omega)⟩

theorem RV.mono {w w' : World} {c : Nat} {s : ByteArray} {ln cl : Int} (h : RV w c s ln cl) (hg : w.grownBy w' none) : RV w' c s ln cl := by
  obtain ⟨t, ht⟩ := h.take
  exact ⟨by rw [hg.block _ (lt_of_blk h.rest) (by simp)]; exact h.rest, by rw [hg.block _ (lt_of_blk h.place) (by simp)]; exact h.place, t, by rw [hg.block _ (lt_of_blk ht) (by simp)]; exact ht⟩
theorem new_heap3 (w : World) (a b d : Obj) : (((w.alloc a).alloc b).alloc d).heap[w.heap.size]? = some a ∧ (((w.alloc a).alloc b).alloc d).heap[w.heap.size + 1]? = some b ∧ (((w.alloc a).alloc b).alloc d).heap[w.heap.size + 1 + 1]? = some d := by
  refine ⟨?_, ?_, ?_⟩
  · rw [Below.heap_alloc _ _ _ (by simp; omega), Below.heap_alloc _ _ _ (by simp), heap_new]
  · rw [Below.heap_alloc _ _ _ (by simp)]
    have := heap_new (w.alloc a) b
    simpa using this
  · have := heap_new ((w.alloc a).alloc b) d
    simpa using this

set_option maxRecDepth 100000 in
set_option maxHeartbeats 400000 in
theorem newReader_any (s : ByteArray) (w : World) :
    Calls Tryz.prog 89 #[.string s] w fun e w' => e = .returned (nextV w.heap.size) ∧ RV w' w.heap.size s 1 1 ∧ Below w.heap.size w w' ∧ w'.heap.size = w.heap.size + 3 := by
  go_enter Tryz.func89, Tryz.ntmps89
  go_wp2
  go_ret
  refine ⟨rfl, ⟨(new_heap3 w _ _ _).1, (new_heap3 w _ _ _).2.1, _, (new_heap3 w _ _ _).2.2⟩, ?_, by simp⟩
  exact (((Below.refl _ _).alloc (Nat.le_refl _) _).alloc (by simp) _).alloc (by simp; omega) _

theorem take_list (s : ByteArray) (n : Nat) : (s.extract 0 n).data.toList = s.data.toList.take n := by
  simp [ByteArray.data_extract, Array.toList_extract, List.extract_eq_take_drop]
theorem drop_list (s : ByteArray) (n : Nat) : (s.extract n s.size).data.toList = s.data.toList.drop n := by
  have : s.data.toList.length = s.size := by simp
  simp [ByteArray.data_extract, Array.toList_extract, List.extract_eq_take_drop]
  rw [List.take_of_length_le (by simp)]

set_option maxRecDepth 100000 in
set_option maxHeartbeats 400000 in
theorem take_any (pb : Nat) (s : ByteArray) (n : Nat) (c : Nat) (ln cl : Int) (w : World) (h : RV w c s ln cl) (hn : n ≤ s.size) (hs : s.size ≤ 8192) (ha : 0 ≤ ln) (ha' : ln ≤ 1000000) (hb : 0 ≤ cl) (hb' : cl ≤ 1000000) :
    Calls Tryz.prog 137 #[.int .i64 n, .pointer (some ⟨c, 0, none⟩), .pointer (some ⟨c + 1, 0, none⟩)] w fun e w' => e = .returned (.string (s.extract 0 n)) ∧ RV w' c (s.extract n s.size) (placeFrom (ln, cl) (s.data.toList.take n)).1 (placeFrom (ln, cl) (s.data.toList.take n)).2 ∧ KP pb c w w' := by
  generalize hpp : placeFrom (ln, cl) (s.data.toList.take n) = pp
  obtain ⟨pa, pc⟩ := pp
  have HPP : Hid _ := hpp
  clear hpp
  have e0 : w.cell? ⟨c, 0, none⟩ = some (.string s) := by rw [cell_of_blk h.rest]; rfl
  have f0 : w.frozen? ⟨c, 0, none⟩ = false := frozen_of_blk h.rest
  have hn' : (n : Int) ≤ (s.size : Int) := by omega
  have hn0 : (0 : Int) ≤ (n : Int) := by omega
  have e1 : w.cell? ⟨c + 1, 0, none⟩ = some (.int .i64 ln) := by rw [cell_of_blk h.place]; rfl
  have e2 : w.cell? ⟨c + 1, 1, none⟩ = some (.int .i64 cl) := by rw [cell_of_blk h.place]; rfl
  go_enter Tryz.func137, Tryz.ntmps137
  go_wp2_with fail
  have hbx := placeBehind_any ln cl (s.extract 0 n) (w.setCell ⟨c, 0, none⟩ (.string (s.extract n s.size))) (by rw [ByteArray.size_extract]; omega) ha ha' hb hb'
  rw [take_list s n, HPP.out] at hbx
  refine hbx.mono ?_
  rintro e w2 ⟨rfl, hb2⟩
  have k0 : (w.setCell ⟨c, 0, none⟩ (.string (s.extract n s.size))).heap[c]? = some (.cells #[.string (s.extract n s.size)] 9 (0, 0)) := by rw [blk_set 0 _ h.rest]; rfl
  have k1 : (w.setCell ⟨c, 0, none⟩ (.string (s.extract n s.size))).heap[c + 1]? = some (.cells #[.int .i64 ln, .int .i64 cl] 36 (0, 0)) := by rw [blk_far _ _ (by omega)]; exact h.place
  obtain ⟨tt, htt⟩ := h.take
  have k2 : (w.setCell ⟨c, 0, none⟩ (.string (s.extract n s.size))).heap[c + 1 + 1]? = some (.cells #[takeV c] tt (0, 0)) := by rw [blk_far _ _ (by omega)]; exact htt
  rw [← hb2.block _ (lt_of_blk k0)] at k0
  rw [← hb2.block _ (lt_of_blk k1)] at k1
  rw [← hb2.block _ (lt_of_blk k2)] at k2
  have hk2 : KP pb c w w2 := (KP.set w c 0 _ (by omega)).trans (KP.below hb2)
  clear hb2 e0 e1 e2 f0 htt h
  have e1 : w2.cell? ⟨c + 1, 0, none⟩ = some (.int .i64 ln) := by rw [cell_of_blk k1]; rfl
  have e2 : w2.cell? ⟨c + 1, 1, none⟩ = some (.int .i64 cl) := by rw [cell_of_blk k1]; rfl
  have g1 : w2.frozen? ⟨c + 1, 0, none⟩ = false := frozen_of_blk k1
  have g2 : w2.frozen? ⟨c + 1, 1, none⟩ = false := frozen_of_blk k1
  go_wp2_with fail
  go_ret
  refine ⟨rfl, ⟨?_, ?_, tt, ?_⟩, ?_⟩
  · rw [blk_far _ _ (by omega), blk_far _ _ (by omega)]; exact k0
  · rw [blk_set 1 _ (blk_set 0 _ k1)]; rfl
  · rw [blk_far _ _ (by omega), blk_far _ _ (by omega)]; exact k2
  · exact (hk2.trans (KP.set _ (c + 1) 0 _ (by omega))).trans (KP.set _ (c + 1) 1 _ (by omega))

/- what a new token is: the token, or a misfit -/
def NT (w w' : World) (s : ByteArray) (ln cl : Int) (ew en : Addr) (k : Int) (t : ByteArray) (v a b : Int) (ev : Value) : Prop :=
  (looksF (kindF s.data.toList) s.data.toList = 0 ∧ k = kindF s.data.toList ∧ t = s ∧ v = tvalF s.data.toList ∧ a = ln ∧ b = cl ∧ ev = .nilIface) ∨
  (looksF (kindF s.data.toList) s.data.toList ≠ 0 ∧ k = 0 ∧ t = ⟨#[]⟩ ∧ v = 0 ∧ a = 0 ∧ b = 0 ∧ ∃ mb, ev = misV mb ∧ w.heap.size ≤ mb ∧ MisAt w' mb (errB ew en (looksF (kindF s.data.toList) s.data.toList)) ln cl)
theorem NT.mono {w0 w w' : World} {s : ByteArray} {ln cl : Int} {ew en : Addr} {k : Int} {t : ByteArray} {v a b : Int} {ev : Value} (h : NT w w' s ln cl ew en k t v a b ev) (hs : w0.heap.size ≤ w.heap.size) : NT w0 w' s ln cl ew en k t v a b ev := by
  rcases h with h | ⟨h1, h2, h3, h4, h5, h6, mb, h7, h8, h9⟩
  · exact .inl h
  · exact .inr ⟨h1, h2, h3, h4, h5, h6, mb, h7, Nat.le_trans hs h8, h9⟩
theorem NT.set {w w' : World} {s : ByteArray} {ln cl : Int} {ew en : Addr} {k : Int} {t : ByteArray} {v a b : Int} {ev : Value} (h : NT w w' s ln cl ew en k t v a b ev) (K i : Nat) (u : Value) (hK : K < w.heap.size) : NT w (w'.setCell ⟨K, i, none⟩ u) s ln cl ew en k t v a b ev := by
  rcases h with h | ⟨h1, h2, h3, h4, h5, h6, mb, h7, h8, h9⟩
  · exact .inl h
  · exact .inr ⟨h1, h2, h3, h4, h5, h6, mb, h7, h8, by unfold MisAt at *; rw [blk_far _ _ (by omega)]; exact h9⟩
theorem newToken_ex (s : ByteArray) (ln cl : Int) (w : World) {B : Nat} {ew en eu es ex : Addr} (hg : GL w B ew en eu es ex) (hs : s.size ≤ 8192) :
    Calls Tryz.prog 141 #[.string s, .agg #[.int .i64 ln, .int .i64 cl]] w fun e w' => ∃ (k : Int) (t : ByteArray) (v a b : Int) (ev : Value), e = .returned (.tuple #[.agg #[.int .i64 k, .string t, .int .i64 v, .int .i64 a, .int .i64 b], ev]) ∧ Hid (NT w w' s ln cl ew en k t v a b ev) ∧ Below w.heap.size w w' := by
  refine (newToken_any s ln cl w hg hs).mono ?_
  rintro e w' ⟨hb, hc⟩
  rcases hc with ⟨h, rfl⟩ | ⟨h, mb, rfl, h1, h2⟩
  · exact ⟨_, _, _, _, _, _, rfl, .inl ⟨h, rfl, rfl, rfl, rfl, rfl, rfl⟩, hb⟩
  · exact ⟨_, _, _, _, _, _, rfl, .inr ⟨h, rfl, rfl, rfl, rfl, rfl, mb, rfl, h1, h2⟩, hb⟩
theorem RV.far {w : World} {c : Nat} {s : ByteArray} {ln cl : Int} (h : RV w c s ln cl) (K i : Nat) (u : Value) (hK : c + 1 + 1 < K) : RV (w.setCell ⟨K, i, none⟩ u) c s ln cl := by
  obtain ⟨t, ht⟩ := h.take
  exact ⟨by rw [blk_far _ _ (by omega)]; exact h.rest, by rw [blk_far _ _ (by omega)]; exact h.place, t, by rw [blk_far _ _ (by omega)]; exact ht⟩
theorem KP.setNew {pb c K : Nat} {w w' : World} (h : KP pb c w w') (i : Nat) (u : Value) (hK : w.heap.size ≤ K) : KP pb c w (w'.setCell ⟨K, i, none⟩ u) :=
  ⟨h.os, h.tape, h.output, by have := h.size; simpa [World.setCell] using this, fun k hk h1 h2 h3 => by rw [blk_far _ _ (by omega)]; exact h.block k hk h1 h2 h3⟩
theorem newToken_ok (s : ByteArray) (ln cl : Int) (w : World) {B : Nat} {ew en eu es ex : Addr} (hg : GL w B ew en eu es ex) (hs : s.size ≤ 8192) (hl : looksF (kindF s.data.toList) s.data.toList = 0) :
    Calls Tryz.prog 141 #[.string s, .agg #[.int .i64 ln, .int .i64 cl]] w fun e w' => e = .returned (.tuple #[.agg #[.int .i64 (kindF s.data.toList), .string s, .int .i64 (tvalF s.data.toList), .int .i64 ln, .int .i64 cl], .nilIface]) ∧ Below w.heap.size w w' := by
  refine (newToken_any s ln cl w hg hs).mono ?_
  rintro e w' ⟨hb, hc⟩
  rcases hc with ⟨_, rfl⟩ | ⟨h, _⟩
  · exact ⟨rfl, hb⟩
  · exact absurd hl h
theorem newToken_bad (s : ByteArray) (ln cl : Int) (w : World) {B : Nat} {ew en eu es ex : Addr} (hg : GL w B ew en eu es ex) (hs : s.size ≤ 8192) (hl : looksF (kindF s.data.toList) s.data.toList ≠ 0) :
    Calls Tryz.prog 141 #[.string s, .agg #[.int .i64 ln, .int .i64 cl]] w fun e w' => ∃ mb, e = .returned (.tuple #[zTok, misV mb]) ∧ w.heap.size ≤ mb ∧ MisAt w' mb (errB ew en (looksF (kindF s.data.toList) s.data.toList)) ln cl ∧ Below w.heap.size w w' := by
  refine (newToken_any s ln cl w hg hs).mono ?_
  rintro e w' ⟨hb, hc⟩
  rcases hc with ⟨h, _⟩ | ⟨_, mb, rfl, h1, h2⟩
  · exact absurd h hl
  · exact ⟨mb, rfl, h1, h2, hb⟩

end Go.Proofs.YteioennfpkoagaaGreatDoor
