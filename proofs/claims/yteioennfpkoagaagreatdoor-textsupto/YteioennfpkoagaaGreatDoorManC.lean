import Derived.Test.YteioennfpkoagaaGreatDoorManB
import Derived.Test.YteioennfpkoagaaGreatDoorRefD
namespace Go.Proofs.YteioennfpkoagaaGreatDoor
open Go.RowKit
attribute [local go_sem ↓] Go.wp_at_zero Go.wp_at_succ

/- an error variable's value: a pointer to its text -/
def errV (a : Addr) : Value := .iface 359 (.pointer (some a))
/- The package's variables, as they are laid: those that the program reads. B: all that is spoken of lies below. -/
structure GL (w : World) (B : Nat) (ew en eu es ex : Addr) : Prop where
  size : B ≤ w.heap.size
  cW : w.cell? ⟨0, 0, none⟩ = some (errV ew)
  cN : w.cell? ⟨1, 0, none⟩ = some (errV en)
  cU : w.cell? ⟨2, 0, none⟩ = some (errV eu)
  cS : w.cell? ⟨4, 0, none⟩ = some (errV es)
  cX : w.cell? ⟨7, 0, none⟩ = some (errV ex)
  cT : w.cell? ⟨3, 0, none⟩ = some (.iface 287 (.agg #[.pointer (some ⟨11, 96, none⟩)]))
  bW : ∃ c t, w.heap[ew.block]? = some (.cells c t (0, 0))
  bN : ∃ c t, w.heap[en.block]? = some (.cells c t (0, 0))
  bU : ∃ c t, w.heap[eu.block]? = some (.cells c t (0, 0))
  bS : ∃ c t, w.heap[es.block]? = some (.cells c t (0, 0))
  ne : ew ≠ en ∧ ew ≠ eu ∧ ew ≠ es ∧ en ≠ eu ∧ en ≠ es ∧ eu ≠ es
  lt : ew.block < B ∧ en.block < B ∧ eu.block < B ∧ es.block < B ∧ 11 ≤ B
theorem GL.below {w w' : World} {B : Nat} {ew en eu es ex : Addr} (h : GL w B ew en eu es ex) (hb : Below B w w') : GL w' B ew en eu es ex := by
  have h1 := h.lt
  have cc : ∀ k, k < B → w'.cell? ⟨k, 0, none⟩ = w.cell? ⟨k, 0, none⟩ := fun k hk => hb.cell hk
  obtain ⟨c1, t1, e1⟩ := h.bW
  obtain ⟨c2, t2, e2⟩ := h.bN
  obtain ⟨c3, t3, e3⟩ := h.bU
  obtain ⟨c4, t4, e4⟩ := h.bS
  exact ⟨Nat.le_trans h.size hb.size, by rw [cc _ (by omega)]; exact h.cW, by rw [cc _ (by omega)]; exact h.cN, by rw [cc _ (by omega)]; exact h.cU, by rw [cc _ (by omega)]; exact h.cS, by rw [cc _ (by omega)]; exact h.cX, by rw [cc _ (by omega)]; exact h.cT,
    ⟨c1, t1, by rw [hb.block _ (by omega)]; exact e1⟩, ⟨c2, t2, by rw [hb.block _ (by omega)]; exact e2⟩, ⟨c3, t3, by rw [hb.block _ (by omega)]; exact e3⟩, ⟨c4, t4, by rw [hb.block _ (by omega)]; exact e4⟩, h.ne, h.lt⟩
theorem GL.grown {w w' : World} {B : Nat} {ew en eu es ex : Addr} {row : Option Nat} (h : GL w B ew en eu es ex) (hg : w.grownBy w' row) (hr : ∀ k, row = some k → B ≤ k) : GL w' B ew en eu es ex :=
  h.below ((Below.refl B w).grown hg h.size hr)

set_option maxRecDepth 100000 in
set_option maxHeartbeats 400000 in
theorem checkWord_any (s : ByteArray) (w : World) {B : Nat} {ew en eu es ex : Addr} (hg : GL w B ew en eu es ex) (hs : s.size ≤ 8192) :
    Calls Tryz.prog 197 #[.string s] w fun e w' => e = .returned (if 16 < s.size then errV ew else .nilIface) ∧ w' = w := by
  have c := hg.cW
  unfold errV at *
  by_cases h : 16 < s.size
  · have h1 : decide ((16 : Int) < (s.size : Int)) = true := by simp; omega
    rw [if_pos h]
    go_enter Tryz.func197, Tryz.ntmps197
    go_wp2_with fail
    go_ret
    exact ⟨rfl, rfl⟩
  · have h1 : decide ((16 : Int) < (s.size : Int)) = false := by simp; omega
    rw [if_neg h]
    go_enter Tryz.func197, Tryz.ntmps197
    go_wp2_with fail
    go_ret
    exact ⟨rfl, rfl⟩

theorem one_zero (s : ByteArray) : (s.toList == [48]) = decide (s.data.toList = [48]) := by
  rw [ByteArray.toList_eq, Bool.eq_iff_iff]; simp

set_option maxRecDepth 100000 in
set_option maxHeartbeats 1000000 in
theorem numberValue_any (s : ByteArray) (w : World) {B : Nat} {ew en eu es ex : Addr} (hg : GL w B ew en eu es ex) (h1 : 1 ≤ s.size) (hs : s.size ≤ 8192) (hd : digitB s[0].toNat = true) :
    Calls Tryz.prog 199 #[.string s] w fun e w' => e = .returned (if looksF 2 s.data.toList = 0 then .tuple #[.int .i64 (valF s.data.toList), .nilIface] else .tuple #[.int .i64 0, errV en]) ∧ Below w.heap.size w w' := by
  have c := hg.cN
  have cx := hg.cX
  have hlt : 1 < w.heap.size := World.block_lt_of_cell? w ⟨1, 0, none⟩ c
  unfold errV at *
  by_cases h6 : 6 < s.size
  · have q1 : decide ((6 : Int) < (s.size : Int)) = true := by simp; omega
    rw [looks_two (s := s) (.inl h6), if_neg (by decide)]
    go_enter Tryz.func199, Tryz.ntmps199
    go_wp2_with fail
    go_region
    go_wp2_with fail
    go_ret2
    exact ⟨rfl, (Below.refl _ _).drew⟩
  · have q1 : decide ((6 : Int) < (s.size : Int)) = false := by simp; omega
    have hz : 0 < s.size := by omega
    have hh : s.data.toList.head?.map UInt8.toNat = some s[0].toNat := by have := head_at (s := s) (k := 0) hz; simpa using this
    by_cases h0 : s[0].toNat = 48
    · have q2 : ((s[0].toNat : Int) == 48) = true := by simp; omega
      by_cases hone : s.data.toList = [48]
      · have q3 : (s.toList == [48]) = true := by rw [one_zero]; simp [hone]
        have hl0 : looksF 2 s.data.toList = 0 := by rw [hone]; decide
        have hdg : digitsB s.data.toList = true := by rw [hone]; decide
        rw [hl0, if_pos rfl]
        have HDG : Hid _ := hdg
        clear hone hl0 hdg hh
        go_enter Tryz.func199, Tryz.ntmps199
        go_wp2_with fail
        refine (atoi_any s _ _ _ h1 (by omega) hd cx).mono ?_
        rintro e w2 ⟨hcase, hb⟩
        rcases hcase with ⟨_, rfl⟩ | ⟨hf, _⟩
        · go_wp2_with fail
          go_ret2
          exact ⟨rfl, hb⟩
        · exact absurd HDG.out (by rw [hf]; simp)
      · have q3 : (s.toList == [48]) = false := by rw [one_zero]; simp [hone]
        have hgt : 1 < s.size := by
          rcases Nat.lt_or_ge 1 s.size with h | h
          · exact h
          · exfalso; apply hone
            have e1 := drop_cons s 0 hz
            simp only [List.drop_zero] at e1
            have e2 : s.data.toList.drop (0 + 1) = [] := List.drop_eq_nil_of_le (by simp; omega)
            rw [e2] at e1
            rw [e1]
            have : s[0] = 48 := by apply UInt8.toNat_inj.1; exact h0
            rw [this]
        rw [looks_two (s := s) (.inr ⟨hgt, by rw [hh, h0]⟩), if_neg (by decide)]
        clear hone hh
        go_enter Tryz.func199, Tryz.ntmps199
        go_wp2_with fail
        go_region
        go_wp2_with fail
        go_ret2
        exact ⟨rfl, (Below.refl _ _).drew⟩
    · have q2 : ((s[0].toNat : Int) == 48) = false := by simp; omega
      have hN : ¬ (6 < s.size ∨ (1 < s.size ∧ s.data.toList.head?.map UInt8.toNat = some 48)) := by
        intro h; rcases h with h | ⟨_, h⟩
        · exact h6 h
        · rw [hh] at h; simp at h; exact h0 h
      have HN : Hid _ := hN
      clear hh hN
      generalize hout : (if looksF 2 s.data.toList = 0 then Value.tuple #[.int .i64 (valF s.data.toList), .nilIface] else .tuple #[.int .i64 0, .iface 359 (.pointer (some en))]) = out
      have HO : Hid _ := hout
      clear hout
      go_enter Tryz.func199, Tryz.ntmps199
      go_wp2_with fail
      refine (atoi_any s _ _ _ h1 (by omega) hd cx).mono ?_
      rintro e w2 ⟨hcase, hb⟩
      rcases hcase with ⟨hdg, rfl⟩ | ⟨hdg, n1, rfl⟩
      · go_wp2_with fail
        go_ret2
        rw [← HO.out, looks_good HN.out hdg, if_pos rfl]
        exact ⟨rfl, hb⟩
      · have c2 : w2.cell? ⟨1, 0, none⟩ = some (.iface 359 (.pointer (some en))) := (hb.cell (by exact hlt)).trans c
        go_wp2_with fail
        go_region
        go_wp2_with fail
        go_ret2
        rw [← HO.out, looks_bad HN.out hdg, if_neg (by decide)]
        exact ⟨rfl, hb.drew⟩
end Go.Proofs.YteioennfpkoagaaGreatDoor
