import Derived.Test.YteioennfpkoagaaGreatDoorG17
import Derived.Laws.EntriesVeiled
import Derived.Deep.DeepCutAuto
namespace Go.Proofs.YteioennfpkoagaaGreatDoor
open Go.RowKit
attribute [local go_sem ↓] Go.wp_at_zero Go.wp_at_succ

/- a number's value; another token has none -/
def tvalF (l : List UInt8) : Int := if kindF l = 2 then valF l else 0
/- which of the two errors -/
def errB (ew en : Addr) (k : Nat) : Addr := if k = 3 then ew else en
theorem newToken_any (s : ByteArray) (ln cl : Int) (w : World) {B : Nat} {ew en eu es ex : Addr} (hg : GL w B ew en eu es ex) (hs : s.size ≤ 8192) :
    Calls Tryz.prog 141 #[.string s, .agg #[.int .i64 ln, .int .i64 cl]] w fun e w' => Below w.heap.size w w' ∧
      (looksF (kindF s.data.toList) s.data.toList = 0 ∧ e = .returned (.tuple #[.agg #[.int .i64 (kindF s.data.toList), .string s, .int .i64 (tvalF s.data.toList), .int .i64 ln, .int .i64 cl], .nilIface]) ∨
       looksF (kindF s.data.toList) s.data.toList ≠ 0 ∧ ∃ mb, e = .returned (.tuple #[zTok, misV mb]) ∧ w.heap.size ≤ mb ∧ MisAt w' mb (errB ew en (looksF (kindF s.data.toList) s.data.toList)) ln cl) := by
  by_cases h0 : s.size = 0
  · have he : s = ⟨#[]⟩ := by apply ByteArray.ext; apply Array.eq_empty_of_size_eq_zero; exact h0
    subst he
    refine (newToken_end ln cl w).mono ?_
    rintro e w' ⟨hb, rfl⟩
    exact ⟨hb, .inl ⟨by decide, by simp [tvalF, kindF]⟩⟩
  have hz : 0 < s.size := by omega
  have hk := kind_at s hz
  have hlen : s.data.toList.length = s.size := by simp
  cases h1 : smallB s[0].toNat
  · cases h2 : digitB s[0].toNat
    · have k0 : kindF s.data.toList = 0 := by rw [hk, h1, h2]; rfl
      have kv : tvalF s.data.toList = 0 := by unfold tvalF; rw [k0]; rfl
      rw [k0, kv]
      refine (newToken_odd s ln cl w hz h1 h2).mono ?_
      rintro e w' ⟨hb, rfl⟩
      exact ⟨hb, .inl ⟨by simp [looksF], rfl⟩⟩
    · have k0 : kindF s.data.toList = 2 := by rw [hk, h1, h2]; rfl
      have kv : tvalF s.data.toList = valF s.data.toList := by unfold tvalF; rw [k0]; rfl
      rw [k0, kv]
      refine (newToken_number s ln cl w hg hz hs h1 h2).mono ?_
      rintro e w' ⟨hb, hc⟩
      rcases hc with ⟨hl, rfl⟩ | ⟨hl, mb, rfl, hm, hmis⟩
      · exact ⟨hb, .inl ⟨hl, rfl⟩⟩
      · refine ⟨hb, .inr ⟨hl, mb, rfl, hm, ?_⟩⟩
        rw [errB, if_neg (by unfold looksF; simp; split <;> (try split) <;> simp)]
        exact hmis
  · have k0 : kindF s.data.toList = 1 := by rw [hk, h1]; rfl
    have kv : tvalF s.data.toList = 0 := by unfold tvalF; rw [k0]; rfl
    rw [k0, kv]
    refine (newToken_word s ln cl w hg hz hs h1).mono ?_
    rintro e w' ⟨hb, hc⟩
    rcases hc with ⟨hl, rfl⟩ | ⟨hl, mb, rfl, hm, hmis⟩
    · exact ⟨hb, .inl ⟨looks_other (by rw [hlen]; omega) (by decide), rfl⟩⟩
    · have h3 := looks_word (l := s.data.toList) (by rw [hlen]; exact hl)
      refine ⟨hb, .inr ⟨by rw [h3]; decide, mb, rfl, hm, ?_⟩⟩
      rw [h3, errB, if_pos rfl]
      exact hmis

/- The reader's own variables: what is left of the text in block c, the place in c + 1, 'take' in c + 2. -/
def takeV (c : Nat) : Value := .func (Fn.func 137) #[] #[.pointer (some ⟨c, 0, none⟩), .pointer (some ⟨c + 1, 0, none⟩)]
def nextV (c : Nat) : Value := .func (Fn.func 139) #[] #[.pointer (some ⟨c + 1 + 1, 0, none⟩), .pointer (some ⟨c, 0, none⟩), .pointer (some ⟨c + 1, 0, none⟩)]
structure RV (w : World) (c : Nat) (s : ByteArray) (ln cl : Int) : Prop where
  rest : w.heap[c]? = some (.cells #[.string s] 9 (0, 0))
  place : w.heap[c + 1]? = some (.cells #[.int .i64 ln, .int .i64 cl] 36 (0, 0))
  take : ∃ t, w.heap[c + 1 + 1]? = some (.cells #[takeV c] t (0, 0))
/- all is kept but what is new, the parser's block and the reader's two -/
structure KP (pb c : Nat) (w w' : World) : Prop where
  os : w'.os = w.os
  tape : w'.tape = w.tape
  output : w'.output = w.output
  size : w.heap.size ≤ w'.heap.size
  block : ∀ k, k < w.heap.size → k ≠ pb → k ≠ c → k ≠ c + 1 → w'.heap[k]? = w.heap[k]?
theorem KP.refl (pb c : Nat) (w : World) : KP pb c w w := ⟨rfl, rfl, rfl, Nat.le_refl _, fun _ _ _ _ _ => rfl⟩
theorem KP.trans {pb c : Nat} {a b d : World} (h : KP pb c a b) (k : KP pb c b d) : KP pb c a d :=
  ⟨k.os.trans h.os, k.tape.trans h.tape, k.output.trans h.output, Nat.le_trans h.size k.size, fun i hi h1 h2 h3 => (k.block i (Nat.lt_of_lt_of_le hi h.size) h1 h2 h3).trans (h.block i hi h1 h2 h3)⟩
theorem KP.of {pb c : Nat} {w w' : World} {row : Option Nat} (h : w.grownBy w' row) (hr : ∀ k, row = some k → k = pb ∨ k = c ∨ k = c + 1) : KP pb c w w' :=
  ⟨h.os, h.tape, h.output, h.size, fun k hk h1 h2 h3 => h.block k hk (fun e => by have := hr k e.symm; omega)⟩
theorem KP.below {pb c : Nat} {w w' : World} (h : Below w.heap.size w w') : KP pb c w w' := KP.of (row := none) (grown_below h none) (by simp)
theorem KP.set {pb c : Nat} (w : World) (b i : Nat) (v : Value) (hb : b = pb ∨ b = c ∨ b = c + 1) : KP pb c w (w.setCell ⟨b, i, none⟩ v) := KP.of (grown_set w b i v) (by intro k hk; injection hk with hk; omega)
theorem KP.kp {pb c K : Nat} {w w' : World} {o : Obj} (h : w.heap[K]? = some o) (hk : KP pb c w w') (h1 : K ≠ pb) (h2 : K ≠ c) (h3 : K ≠ c + 1) : w'.heap[K]? = some o := by
  rw [hk.block K (lt_of_blk h) h1 h2 h3]; exact h
theorem KP.toBelow {pb c B : Nat} {w w' : World} (h : KP pb c w w') (hB : B ≤ w.heap.size) (h1 : B ≤ pb) (h2 : B ≤ c) : Below B w w' :=
  ⟨h.os, h.tape, h.output, h.size, fun k hk => h.block k (by omega) (by omega) (by omega) (by omega)⟩

theorem RV.mono {w w' : World} {c : Nat} {s : ByteArray} {ln cl : Int} (h : RV w c s ln cl) (hg : w.grownBy w' none) : RV w' c s ln cl := by
  obtain ⟨t, ht⟩ := h.take
  exact ⟨by rw [hg.block _ (lt_of_blk h.rest) (by simp)]; exact h.rest, by rw [hg.block _ (lt_of_blk h.place) (by simp)]; exact h.place, t, by rw [hg.block _ (lt_of_blk ht) (by simp)]; exact ht⟩
theorem new_heap3 (w : World) (a b d : Obj) : (((w.alloc a).alloc b).alloc d).heap[w.heap.size]? = some a ∧ (((w.alloc a).alloc b).alloc d).heap[w.heap.size + 1]? = some b ∧ (((w.alloc a).alloc b).alloc d).heap[w.heap.size + 1 + 1]? = some d := by
  refine ⟨?_, ?_, ?_⟩
  · rw [Below.heap_alloc _ _ _ (by simp; omega), Below.heap_alloc _ _ _ (by simp), heap_new]
  · rw [Below.heap_alloc _ _ _ (by simp)]
    have := heap_new (w.alloc a) b
    simpa using this
  · have := heap_new ((w.alloc a).alloc b) d
    simpa using this

set_option maxRecDepth 100000 in
set_option maxHeartbeats 400000 in
theorem newReader_any (s : ByteArray) (w : World) :
    Calls Tryz.prog 89 #[.string s] w fun e w' => e = .returned (nextV w.heap.size) ∧ RV w' w.heap.size s 1 1 ∧ Below w.heap.size w w' ∧ w'.heap.size = w.heap.size + 3 := by
  go_enter Tryz.func89, Tryz.ntmps89
  go_wp2
  go_ret
  refine ⟨rfl, ⟨(new_heap3 w _ _ _).1, (new_heap3 w _ _ _).2.1, _, (new_heap3 w _ _ _).2.2⟩, ?_, by simp⟩
  exact (((Below.refl _ _).alloc (Nat.le_refl _) _).alloc (by simp) _).alloc (by simp; omega) _

theorem take_list (s : ByteArray) (n : Nat) : (s.extract 0 n).data.toList = s.data.toList.take n := by
  simp [ByteArray.data_extract, Array.toList_extract, List.extract_eq_take_drop]
theorem drop_list (s : ByteArray) (n : Nat) : (s.extract n s.size).data.toList = s.data.toList.drop n := by
  have : s.data.toList.length = s.size := by simp
  simp [ByteArray.data_extract, Array.toList_extract, List.extract_eq_take_drop]
  rw [List.take_of_length_le (by simp)]

set_option maxRecDepth 100000 in
set_option maxHeartbeats 400000 in
theorem take_any (pb : Nat) (s : ByteArray) (n : Nat) (c : Nat) (ln cl : Int) (w : World) (h : RV w c s ln cl) (hn : n ≤ s.size) (hs : s.size ≤ 8192) (ha : 0 ≤ ln) (ha' : ln ≤ 1000000) (hb : 0 ≤ cl) (hb' : cl ≤ 1000000) :
    Calls Tryz.prog 137 #[.int .i64 n, .pointer (some ⟨c, 0, none⟩), .pointer (some ⟨c + 1, 0, none⟩)] w fun e w' => e = .returned (.string (s.extract 0 n)) ∧ RV w' c (s.extract n s.size) (placeFrom (ln, cl) (s.data.toList.take n)).1 (placeFrom (ln, cl) (s.data.toList.take n)).2 ∧ KP pb c w w' := by
  generalize hpp : placeFrom (ln, cl) (s.data.toList.take n) = pp
  obtain ⟨pa, pc⟩ := pp
  have HPP : Hid _ := hpp
  clear hpp
  have e0 : w.cell? ⟨c, 0, none⟩ = some (.string s) := by rw [cell_of_blk h.rest]; rfl
  have f0 : w.frozen? ⟨c, 0, none⟩ = false := frozen_of_blk h.rest
  have hn' : (n : Int) ≤ (s.size : Int) := by omega
  have hn0 : (0 : Int) ≤ (n : Int) := by omega
  have e1 : w.cell? ⟨c + 1, 0, none⟩ = some (.int .i64 ln) := by rw [cell_of_blk h.place]; rfl
  have e2 : w.cell? ⟨c + 1, 1, none⟩ = some (.int .i64 cl) := by rw [cell_of_blk h.place]; rfl
  go_enter Tryz.func137, Tryz.ntmps137
  go_wp2_with fail
  have hbx := placeBehind_any ln cl (s.extract 0 n) (w.setCell ⟨c, 0, none⟩ (.string (s.extract n s.size))) (by rw [ByteArray.size_extract]; omega) ha ha' hb hb'
  rw [take_list s n, HPP.out] at hbx
  refine hbx.mono ?_
  rintro e w2 ⟨rfl, hb2⟩
  have k0 : (w.setCell ⟨c, 0, none⟩ (.string (s.extract n s.size))).heap[c]? = some (.cells #[.string (s.extract n s.size)] 9 (0, 0)) := by rw [blk_set 0 _ h.rest]; rfl
  have k1 : (w.setCell ⟨c, 0, none⟩ (.string (s.extract n s.size))).heap[c + 1]? = some (.cells #[.int .i64 ln, .int .i64 cl] 36 (0, 0)) := by rw [blk_far _ _ (by omega)]; exact h.place
  obtain ⟨tt, htt⟩ := h.take
  have k2 : (w.setCell ⟨c, 0, none⟩ (.string (s.extract n s.size))).heap[c + 1 + 1]? = some (.cells #[takeV c] tt (0, 0)) := by rw [blk_far _ _ (by omega)]; exact htt
  rw [← hb2.block _ (lt_of_blk k0)] at k0
  rw [← hb2.block _ (lt_of_blk k1)] at k1
  rw [← hb2.block _ (lt_of_blk k2)] at k2
  have hk2 : KP pb c w w2 := (KP.set w c 0 _ (by omega)).trans (KP.below hb2)
  clear hb2 e0 e1 e2 f0 htt h
  have e1 : w2.cell? ⟨c + 1, 0, none⟩ = some (.int .i64 ln) := by rw [cell_of_blk k1]; rfl
  have e2 : w2.cell? ⟨c + 1, 1, none⟩ = some (.int .i64 cl) := by rw [cell_of_blk k1]; rfl
  have g1 : w2.frozen? ⟨c + 1, 0, none⟩ = false := frozen_of_blk k1
  have g2 : w2.frozen? ⟨c + 1, 1, none⟩ = false := frozen_of_blk k1
  go_wp2_with fail
  go_ret
  refine ⟨rfl, ⟨?_, ?_, tt, ?_⟩, ?_⟩
  · rw [blk_far _ _ (by omega), blk_far _ _ (by omega)]; exact k0
  · rw [blk_set 1 _ (blk_set 0 _ k1)]; rfl
  · rw [blk_far _ _ (by omega), blk_far _ _ (by omega)]; exact k2
  · exact (hk2.trans (KP.set _ (c + 1) 0 _ (by omega))).trans (KP.set _ (c + 1) 1 _ (by omega))

/- what a new token is: the token, or a misfit -/
def NT (w w' : World) (s : ByteArray) (ln cl : Int) (ew en : Addr) (k : Int) (t : ByteArray) (v a b : Int) (ev : Value) : Prop :=
  (looksF (kindF s.data.toList) s.data.toList = 0 ∧ k = kindF s.data.toList ∧ t = s ∧ v = tvalF s.data.toList ∧ a = ln ∧ b = cl ∧ ev = .nilIface) ∨
  (looksF (kindF s.data.toList) s.data.toList ≠ 0 ∧ k = 0 ∧ t = ⟨#[]⟩ ∧ v = 0 ∧ a = 0 ∧ b = 0 ∧ ∃ mb, ev = misV mb ∧ w.heap.size ≤ mb ∧ MisAt w' mb (errB ew en (looksF (kindF s.data.toList) s.data.toList)) ln cl)
theorem NT.mono {w0 w w' : World} {s : ByteArray} {ln cl : Int} {ew en : Addr} {k : Int} {t : ByteArray} {v a b : Int} {ev : Value} (h : NT w w' s ln cl ew en k t v a b ev) (hs : w0.heap.size ≤ w.heap.size) : NT w0 w' s ln cl ew en k t v a b ev := by
  rcases h with h | ⟨h1, h2, h3, h4, h5, h6, mb, h7, h8, h9⟩
  · exact .inl h
  · exact .inr ⟨h1, h2, h3, h4, h5, h6, mb, h7, Nat.le_trans hs h8, h9⟩
theorem NT.set {w w' : World} {s : ByteArray} {ln cl : Int} {ew en : Addr} {k : Int} {t : ByteArray} {v a b : Int} {ev : Value} (h : NT w w' s ln cl ew en k t v a b ev) (K i : Nat) (u : Value) (hK : K < w.heap.size) : NT w (w'.setCell ⟨K, i, none⟩ u) s ln cl ew en k t v a b ev := by
  rcases h with h | ⟨h1, h2, h3, h4, h5, h6, mb, h7, h8, h9⟩
  · exact .inl h
  · exact .inr ⟨h1, h2, h3, h4, h5, h6, mb, h7, h8, by unfold MisAt at *; rw [blk_far _ _ (by omega)]; exact h9⟩
theorem newToken_ex (s : ByteArray) (ln cl : Int) (w : World) {B : Nat} {ew en eu es ex : Addr} (hg : GL w B ew en eu es ex) (hs : s.size ≤ 8192) :
    Calls Tryz.prog 141 #[.string s, .agg #[.int .i64 ln, .int .i64 cl]] w fun e w' => ∃ (k : Int) (t : ByteArray) (v a b : Int) (ev : Value), e = .returned (.tuple #[.agg #[.int .i64 k, .string t, .int .i64 v, .int .i64 a, .int .i64 b], ev]) ∧ Hid (NT w w' s ln cl ew en k t v a b ev) ∧ Below w.heap.size w w' := by
  refine (newToken_any s ln cl w hg hs).mono ?_
  rintro e w' ⟨hb, hc⟩
  rcases hc with ⟨h, rfl⟩ | ⟨h, mb, rfl, h1, h2⟩
  · exact ⟨_, _, _, _, _, _, rfl, .inl ⟨h, rfl, rfl, rfl, rfl, rfl, rfl⟩, hb⟩
  · exact ⟨_, _, _, _, _, _, rfl, .inr ⟨h, rfl, rfl, rfl, rfl, rfl, mb, rfl, h1, h2⟩, hb⟩
theorem RV.far {w : World} {c : Nat} {s : ByteArray} {ln cl : Int} (h : RV w c s ln cl) (K i : Nat) (u : Value) (hK : c + 1 + 1 < K) : RV (w.setCell ⟨K, i, none⟩ u) c s ln cl := by
  obtain ⟨t, ht⟩ := h.take
  exact ⟨by rw [blk_far _ _ (by omega)]; exact h.rest, by rw [blk_far _ _ (by omega)]; exact h.place, t, by rw [blk_far _ _ (by omega)]; exact ht⟩
theorem KP.setNew {pb c K : Nat} {w w' : World} (h : KP pb c w w') (i : Nat) (u : Value) (hK : w.heap.size ≤ K) : KP pb c w (w'.setCell ⟨K, i, none⟩ u) :=
  ⟨h.os, h.tape, h.output, by have := h.size; simpa [World.setCell] using this, fun k hk h1 h2 h3 => by rw [blk_far _ _ (by omega)]; exact h.block k hk h1 h2 h3⟩
theorem newToken_ok (s : ByteArray) (ln cl : Int) (w : World) {B : Nat} {ew en eu es ex : Addr} (hg : GL w B ew en eu es ex) (hs : s.size ≤ 8192) (hl : looksF (kindF s.data.toList) s.data.toList = 0) :
    Calls Tryz.prog 141 #[.string s, .agg #[.int .i64 ln, .int .i64 cl]] w fun e w' => e = .returned (.tuple #[.agg #[.int .i64 (kindF s.data.toList), .string s, .int .i64 (tvalF s.data.toList), .int .i64 ln, .int .i64 cl], .nilIface]) ∧ Below w.heap.size w w' := by
  refine (newToken_any s ln cl w hg hs).mono ?_
  rintro e w' ⟨hb, hc⟩
  rcases hc with ⟨_, rfl⟩ | ⟨h, _⟩
  · exact ⟨rfl, hb⟩
  · exact absurd hl h
theorem newToken_bad (s : ByteArray) (ln cl : Int) (w : World) {B : Nat} {ew en eu es ex : Addr} (hg : GL w B ew en eu es ex) (hs : s.size ≤ 8192) (hl : looksF (kindF s.data.toList) s.data.toList ≠ 0) :
    Calls Tryz.prog 141 #[.string s, .agg #[.int .i64 ln, .int .i64 cl]] w fun e w' => ∃ mb, e = .returned (.tuple #[zTok, misV mb]) ∧ w.heap.size ≤ mb ∧ MisAt w' mb (errB ew en (looksF (kindF s.data.toList) s.data.toList)) ln cl ∧ Below w.heap.size w w' := by
  refine (newToken_any s ln cl w hg hs).mono ?_
  rintro e w' ⟨hb, hc⟩
  rcases hc with ⟨h, _⟩ | ⟨_, mb, rfl, h1, h2⟩
  · exact absurd h hl
  · exact ⟨mb, rfl, h1, h2, hb⟩

end Go.Proofs.YteioennfpkoagaaGreatDoor
namespace Go.Proofs.YteioennfpkoagaaGreatDoor
open Go.RowKit
attribute [local go_sem ↓] Go.wp_at_zero Go.wp_at_succ

set_option maxRecDepth 100000 in
set_option maxHeartbeats 2000000 in
theorem next_any (s s2 tx : ByteArray) (gl n2 : Nat) (c : Nat) (ln cl pa pc pa2 pc2 : Int) (w : World) {B : Nat} {ew en eu es ex : Addr} (hgl : GL w B ew en eu es ex) (hBc : B ≤ c) (h : RV w c s ln cl) (hs : s.size ≤ 8192) (ha : 0 ≤ ln) (ha' : ln ≤ 900000) (hb : 0 ≤ cl) (hb' : cl ≤ 900000)
    (HGL : Hid (gapF false s.data.toList = gl)) (HPP : Hid (placeFrom (ln, cl) (s.data.toList.take gl) = (pa, pc))) (HS2 : Hid (s2 = s.extract gl s.size)) (HN2 : Hid ((tokF s2.data.toList).1 = n2)) (HTX : Hid (tx = s2.extract 0 n2)) (HP2 : Hid (placeFrom (pa, pc) tx.data.toList = (pa2, pc2))) (hpa : 0 ≤ pa) (hpa' : pa ≤ 900000) (hpc : 0 ≤ pc) (hpc' : pc ≤ 900000) :
    Calls Tryz.prog 139 #[.pointer (some ⟨c + 1 + 1, 0, none⟩), .pointer (some ⟨c, 0, none⟩), .pointer (some ⟨c + 1, 0, none⟩)] w fun e w' => ∃ (k : Int) (tt : ByteArray) (v a b : Int) (ev : Value), e = .returned (.tuple #[.agg #[.int .i64 k, .string tt, .int .i64 v, .int .i64 a, .int .i64 b], ev]) ∧ NT w w' tx pa pc ew en k tt v a b ev ∧ RV w' c (s2.extract n2 s2.size) pa2 pc2 ∧ KP c c w w' := by
  have e0 : w.cell? ⟨c, 0, none⟩ = some (.string s) := by rw [cell_of_blk h.rest]; rfl
  have e3 : w.cell? ⟨c + 1 + 1, 0, none⟩ = some (takeV c) := by obtain ⟨t, ht⟩ := h.take; rw [cell_of_blk ht]; rfl
  have hlt := lt_of_blk h.rest
  have hlt2 : c + 1 + 1 < w.heap.size := by obtain ⟨t, ht⟩ := h.take; exact lt_of_blk ht
  have hrv : RV ((w.alloc (Obj.cells #[.int .i64 0, .string ⟨#[]⟩, .int .i64 0, .int .i64 0, .int .i64 0] 175)).drew) c s ln cl := h.mono (grown_trans (grown_alloc w _ none) (grown_drewN _ 1 none))
  have hgl1 : gl ≤ s.size := by have := gapF_le false s.data.toList; rw [HGL.out] at this; simpa using this
  have hs2 : s2.size ≤ 8192 := by rw [HS2.out, ByteArray.size_extract]; omega
  have hn2 : n2 ≤ s2.size := by have := tokF_le s2.data.toList; rw [HN2.out] at this; simpa using this
  have htxs : tx.size ≤ 8192 := by rw [HTX.out, ByteArray.size_extract]; omega
  unfold takeV at e3
  have HK0 : Hid (KP c c w ((w.alloc (Obj.cells #[.int .i64 0, .string ⟨#[]⟩, .int .i64 0, .int .i64 0, .int .i64 0] 175)).drew)) := KP.of (row := none) (grown_trans (grown_alloc w _ none) (grown_drewN _ 1 none)) (by simp)
  have HB0 : Hid (((w.alloc (Obj.cells #[.int .i64 0, .string ⟨#[]⟩, .int .i64 0, .int .i64 0, .int .i64 0] 175)).drew).heap[w.heap.size]? = some (.cells #[.int .i64 0, .string ⟨#[]⟩, .int .i64 0, .int .i64 0, .int .i64 0] 175 (0, 0))) := heap_new w _
  go_enter Tryz.func139, Tryz.ntmps139
  go_wp2_with fail
  go_cut [] (fun wx => RV wx c s2 pa pc ∧ KP c c w wx ∧ wx.heap[w.heap.size]? = some (.cells #[.int .i64 0, .string ⟨#[]⟩, .int .i64 0, .int .i64 0, .int .i64 0] 175 (0, 0)))
  case first =>
    go_region_with (first
      | (go_at_call 140; refine (gapLength_any s _ hs).mono ?_; rintro e w' ⟨rfl, rfl⟩; rw [HGL.out])
      | (go_at_call 137; refine (take_any c s gl c ln cl _ hrv hgl1 hs ha (by omega) hb (by omega)).mono ?_; rintro e w2 ⟨rfl, hrv2, hkp2⟩))
    all_goals
      go_wp2_with fail
      go_meet
      case rel => exact ⟨by rw [HPP.out] at hrv2; rw [HS2.out]; exact hrv2, HK0.out.trans hkp2, KP.kp HB0.out hkp2 (by omega) (by omega) (by omega)⟩
  case rest =>
    obtain ⟨hrv2, hkp2, hres⟩ := hcut
    clear hrv e0 e3
    have hszc := hkp2.size
    have d0 : wc.cell? ⟨c, 0, none⟩ = some (.string s2) := by rw [cell_of_blk hrv2.rest]; rfl
    have d1 : wc.cell? ⟨c + 1, 0, none⟩ = some (.int .i64 pa) := by rw [cell_of_blk hrv2.place]; rfl
    have d2 : wc.cell? ⟨c + 1, 1, none⟩ = some (.int .i64 pc) := by rw [cell_of_blk hrv2.place]; rfl
    have d3 : wc.cell? ⟨c + 1 + 1, 0, none⟩ = some (takeV c) := by obtain ⟨t, ht⟩ := hrv2.take; rw [cell_of_blk ht]; rfl
    unfold takeV at d3
    have hltc : c + 1 + 1 < wc.heap.size := by omega
    have hltc1 : c + 1 < wc.heap.size := by omega
    have hltc0 : c < wc.heap.size := by omega
    have hrs := lt_of_blk hres
    go_wp2_with fail
    have HG : wc.grownBy ((wc.alloc (Obj.cells #[.int .i64 pa, .int .i64 pc] 36)).drew) none := grown_trans (grown_alloc wc _ none) (grown_drewN _ 1 none)
    have hrv3 := hrv2.mono HG
    have HBK : Hid (((wc.alloc (Obj.cells #[.int .i64 pa, .int .i64 pc] 36)).drew).heap[wc.heap.size]? = some (.cells #[.int .i64 pa, .int .i64 pc] 36 (0, 0))) := heap_new wc _
    have HKK : Hid (KP c c wc ((wc.alloc (Obj.cells #[.int .i64 pa, .int .i64 pc] 36)).drew)) := KP.of (row := none) HG (by simp)
    go_region_with (first
      | (go_at_call 142; refine (tokenLength_any s2 _ hs2).mono ?_; rintro e w' ⟨rfl, rfl⟩; rw [HN2.out])
      | (go_at_call 137; refine (take_any c s2 n2 c pa pc _ hrv3 hn2 hs2 hpa (by omega) hpc (by omega)).mono ?_; rintro e w3 ⟨rfl, hrv4, hkp4⟩; rw [← HTX.out]
         have b3 := KP.kp HBK.out hkp4 (by omega) (by omega) (by omega)
         have a0 : w3.cell? ⟨wc.heap.size, 0, none⟩ = some (.int .i64 pa) := by (rw [cell_of_blk b3]; rfl)
         have a1 : w3.cell? ⟨wc.heap.size, 1, none⟩ = some (.int .i64 pc) := by (rw [cell_of_blk b3]; rfl)
         have hkp5 : KP c c w w3 := (hkp2.trans HKK.out).trans hkp4)
      | (go_at_call 141; refine (newToken_ex tx pa pc _ (hgl.below (hkp5.toBelow hgl.size hBc hBc)) htxs).mono ?_; rintro e w4 ⟨tk0, tt0, tv0, ta0, tb0, ev0, rfl, hnt, hb4⟩
         have b4 : w4.heap[w.heap.size]? = some (.cells #[.int .i64 0, .string ⟨#[]⟩, .int .i64 0, .int .i64 0, .int .i64 0] 175 (0, 0)) := (KP.kp hres ((HKK.out.trans hkp4).trans (KP.below hb4)) (by omega) (by omega) (by omega))
         have r0 : w4.cell? ⟨w.heap.size, 0, none⟩ = some (.int .i64 0) := by (rw [cell_of_blk b4]; rfl)
         have r1 : w4.cell? ⟨w.heap.size, 1, none⟩ = some (.string ⟨#[]⟩) := by (rw [cell_of_blk b4]; rfl)
         have r2 : w4.cell? ⟨w.heap.size, 2, none⟩ = some (.int .i64 0) := by (rw [cell_of_blk b4]; rfl)
         have r3 : w4.cell? ⟨w.heap.size, 3, none⟩ = some (.int .i64 0) := by (rw [cell_of_blk b4]; rfl)
         have r4 : w4.cell? ⟨w.heap.size, 4, none⟩ = some (.int .i64 0) := by (rw [cell_of_blk b4]; rfl)
         have g0 : w4.frozen? ⟨w.heap.size, 0, none⟩ = false := frozen_of_blk b4
         have g1 : w4.frozen? ⟨w.heap.size, 1, none⟩ = false := frozen_of_blk b4
         have g2 : w4.frozen? ⟨w.heap.size, 2, none⟩ = false := frozen_of_blk b4
         have g3 : w4.frozen? ⟨w.heap.size, 3, none⟩ = false := frozen_of_blk b4
         have g4 : w4.frozen? ⟨w.heap.size, 4, none⟩ = false := frozen_of_blk b4))
    all_goals
      have hkp6 : KP c c w w4 := hkp5.trans (KP.below hb4)
      have hrv5 := hrv4.mono (grown_below hb4 none)
      rw [← take_list s2 n2, ← HTX.out, HP2.out] at hrv5
      have hnt2 : NT wc w4 tx pa pc ew en tk0 tt0 tv0 ta0 tb0 ev0 := hnt.out.mono (Nat.le_trans (by simp) hkp4.size)
      clear a0 a1 b3 hkp4 hkp5 hrv4 hnt
      go_wp2_with fail
      refine bodyPost_ret (v := .tuple #[.agg #[.int .i64 tk0, .string tt0, .int .i64 tv0, .int .i64 ta0, .int .i64 tb0], ev0]) (by simp [results, Tryz.results139, go_sem, r0, r1, r2, r3, r4]) rfl ⟨tk0, tt0, tv0, ta0, tb0, ev0, rfl, ?_, ?_, ?_⟩
      · exact (((((hnt2.set w.heap.size 0 _ hrs).set w.heap.size 1 _ hrs).set w.heap.size 2 _ hrs).set w.heap.size 3 _ hrs).set w.heap.size 4 _ hrs).mono hszc
      · exact ((((hrv5.far w.heap.size 0 _ hlt2).far w.heap.size 1 _ hlt2).far w.heap.size 2 _ hlt2).far w.heap.size 3 _ hlt2).far w.heap.size 4 _ hlt2
      · exact ((((hkp6.setNew 0 _ (Nat.le_refl _)).setNew 1 _ (Nat.le_refl _)).setNew 2 _ (Nat.le_refl _)).setNew 3 _ (Nat.le_refl _)).setNew 4 _ (Nat.le_refl _)
end Go.Proofs.YteioennfpkoagaaGreatDoor
