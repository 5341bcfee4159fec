import Derived.Test.YteioennfpkoagaaGreatDoorG04
import Derived.Test.YteioennfpkoagaaGreatDoorG05
import Derived.Test.YteioennfpkoagaaGreatDoorG07
import Derived.Test.YteioennfpkoagaaGreatDoorG02
namespace Go.Proofs.YteioennfpkoagaaGreatDoor.C
open Go.RowKit
attribute [local go_sem ↓] Go.wp_at_zero Go.wp_at_succ

/- how many gaps a text has -/
def cntF : List UInt8 → Nat
  | [] => 0
  | b :: l => (if b.toNat = 32 ∨ b.toNat = 10 ∨ b.toNat = 59 then 1 else 0) + cntF l
theorem cntF_app (a b : List UInt8) : cntF (a ++ b) = cntF a + cntF b := by
  induction a with
  | nil => simp [cntF]
  | cons c a ih => simp only [List.cons_append, cntF, ih]; omega
theorem cntF_le (l : List UInt8) : cntF l ≤ l.length := by
  induction l with
  | nil => simp [cntF]
  | cons c a ih => simp only [cntF, List.length_cons]; split <;> omega
theorem spF_app (f : Nat → Nat) : ∀ (a b : List UInt8) (n : Nat), spF f n (a ++ b) = spF f n a ++ spF f (n + cntF a) b := by
  intro a
  induction a with
  | nil => intro b n; simp [spF, cntF]
  | cons c a ih =>
    intro b n
    simp only [List.cons_append, spF, cntF]
    by_cases h1 : c.toNat = 32 ∨ c.toNat = 10
    · rw [if_pos h1, if_pos h1, if_pos (by omega), ih, List.append_assoc, Nat.add_assoc]
    · rw [if_neg h1, if_neg h1]
      by_cases h2 : c.toNat = 59
      · rw [if_pos h2, if_pos h2, if_pos (by omega), ih, Nat.add_assoc]; simp
      · rw [if_neg h2, if_neg h2, if_neg (by omega), ih, Nat.zero_add]; rfl
theorem wF_take (l : List UInt8) (k : Nat) : wF (l.take k) ≤ wF l := by
  have := wF_app (l.take k) (l.drop k)
  rw [List.take_append_drop] at this
  omega
def gapN (L : List Int) (n : Nat) : Nat := (pickF (rawF L n) 5).toNat
def spacedF (L : List Int) (l : List UInt8) : List UInt8 := [35, 32, 104, 101, 97, 100, 10] ++ spF (gapN L) 0 l
theorem byte_cases (b : UInt8) : ((b.toNat : Int) = 32 ↔ b.toNat = 32) ∧ ((b.toNat : Int) = 10 ↔ b.toNat = 10) ∧ ((b.toNat : Int) = 59 ↔ b.toNat = 59) := by omega
theorem one_ext (s : ByteArray) (k : Nat) (h : k < s.size) : s.extract k (k + 1) = ba [s[k]] := by
  apply ba_of
  have hl : k < s.data.toList.length := by simpa using h
  rw [extract_seg s k (k + 1) (by omega), List.drop_eq_getElem_cons hl, show k + 1 - k = 1 by omega]
  simp [ByteArray.getElem_eq_getElem_data]
set_option maxRecDepth 100000 in
set_option maxHeartbeats 2000000 in
theorem spaced_any (w : World) (s : ByteArray) (v : Value) (L : List Int) (hL : IntsV w v L) (hs : wF s.data.toList ≤ 8000) :
    Calls Tryz.prog 19 #[.string s, v] w fun e w' => e = .returned (.string (ba (spacedF L s.data.toList))) ∧ Below w.heap.size w w' := by
  have hsz : s.size ≤ 8000 := Nat.le_trans (by have := len_wF s.data.toList; simpa using this) hs
  have HL : Hid _ := hL
  obtain ⟨hl0, hl1, va, cap, rfl, hl2⟩ := hL
  clear hl1 hl2
  go_enter Tryz.func19, Tryz.ntmps19
  go_wp2_with fail
  have hb0 : Below w.heap.size w (w.alloc (.cells #[.string { data := #[32] }, .string { data := #[32, 32] }, .string { data := #[10] }, .string { data := #[32, 35, 32, 114, 101, 109, 97, 114, 107, 59, 32, 123, 10] }, .string { data := #[10, 10] }] 9)) := (Below.refl _ _).alloc (Nat.le_refl _) _
  have hg := heap_new w (.cells #[.string { data := #[32] }, .string { data := #[32, 32] }, .string { data := #[10] }, .string { data := #[32, 35, 32, 114, 101, 109, 97, 114, 107, 59, 32, 123, 10] }, .string { data := #[10, 10] }] 9)
  have hL1 := IntsV.below (show IntsV w _ L from HL.out) hb0
  clear HL
  generalize w.alloc (.cells #[.string { data := #[32] }, .string { data := #[32, 32] }, .string { data := #[10] }, .string { data := #[32, 35, 32, 114, 101, 109, 97, 114, 107, 59, 32, 123, 10] }, .string { data := #[10, 10] }] 9) = W at *
  have hgap : ∀ n, W.cell? ⟨w.heap.size, n, none⟩ = some (.string (ba (gapW n))) ∨ 5 ≤ n := by
    intro n
    by_cases h : 5 ≤ n
    · exact .inr h
    · left
      rw [cell_of_blk hg]
      rcases (show n = 0 ∨ n = 1 ∨ n = 2 ∨ n = 3 ∨ n = 4 by omega) with rfl | rfl | rfl | rfl | rfl <;> rfl
  have HG : Hid _ := hgap
  have HL1 : Hid _ := hL1
  clear hgap hL1 hg
  go_loopw [6, 7, 8] (fun o n i wr => ∃ (k : Nat) (T : ByteArray), i = .int .i64 k ∧ o = .string T ∧ n = .int .i64 (cntF (s.data.toList.take k)) ∧ k ≤ s.size ∧ Hid (T = ba ([35, 32, 104, 101, 97, 100, 10] ++ spF (gapN L) 0 (s.data.toList.take k))) ∧ T.size ≤ 8007 ∧ wr = W) (fun _ _ i _ => s.size - (intOf i).toNat)
  case atStart => exact ⟨0, _, rfl, rfl, rfl, by omega, rfl, by decide, rfl⟩
  case round =>
    obtain ⟨k, T, rfl, rfl, rfl, hk, HT, hT, rfl⟩ := hrel
    by_cases hlt : k < s.size
    · have hlt' : (k : Int) < (s.size : Int) := by omega
      have hk0 : (0 : Int) ≤ (k : Int) := by omega
      have hlen : k < s.data.toList.length := by simpa using hlt
      have hb : s.data.toList[k] = s[k] := by simp [ByteArray.getElem_eq_getElem_data]
      have htk : s.data.toList.take (k + 1) = s.data.toList.take k ++ [s[k]] := by rw [List.take_succ_eq_append_getElem hlen, hb]
      have hsp : spF (gapN L) 0 (s.data.toList.take (k + 1)) = spF (gapN L) 0 (s.data.toList.take k) ++ spF (gapN L) (cntF (s.data.toList.take k)) [s[k]] := by rw [htk, spF_app, Nat.zero_add]
      have hct : cntF (s.data.toList.take (k + 1)) = cntF (s.data.toList.take k) + cntF [s[k]] := by rw [htk, cntF_app]
      have hcl : cntF (s.data.toList.take k) ≤ 8000 := Nat.le_trans (cntF_le _) (by simp; omega)
      have hfin : (ba ([35, 32, 104, 101, 97, 100, 10] ++ spF (gapN L) 0 (s.data.toList.take (k + 1)))).size ≤ 8007 := by
        rw [ba_size, List.length_append]
        have h1 := spF_len (gapN L) (s.data.toList.take (k + 1)) 0
        have h2 := wF_take s.data.toList (k + 1)
        show 7 + _ ≤ _
        omega
      have hpk := pickF_lt (c := rawF L (cntF (s.data.toList.take k))) (n := 5) (by omega)
      have hri := rawF_in (show IntsV wr _ L from HL1.out) (cntF (s.data.toList.take k))
      have hraw := raw_any _ L (cntF (s.data.toList.take k)) (by omega) wr (show IntsV wr _ L from HL1.out)
      have hpick := pick_any (rawF L (cntF (s.data.toList.take k))) 5 hri (by omega) wr
      have hP' : gapN L (cntF (s.data.toList.take k)) = (pickF (rawF L (cntF (s.data.toList.take k))) 5).toNat := rfl
      have hgc := (HG.out (pickF (rawF L (cntF (s.data.toList.take k))) 5).toNat).resolve_right (by omega)
      clear hri htk hb
      have hg13 := gapW_len (pickF (rawF L (cntF (s.data.toList.take k))) 5).toNat
      generalize rawF L (cntF (s.data.toList.take k)) = R at *
      generalize pickF R 5 = P at *
      have hgz : (ba (gapW P.toNat)).size ≤ 13 := by rw [ba_size]; exact hg13
      have HST : Hid _ := hsp
      have HCT : Hid _ := hct
      have HF : Hid _ := hfin
      have HPP : Hid _ := hP'
      have HRW : Hid _ := hraw
      have HPK : Hid _ := hpick
      clear hsp hct hfin hP' hg13 hraw hpick
      generalize hcn : cntF (s.data.toList.take k) = cn at *
      have q1 : ¬ 9223372036854775807 < T.size + (ba (gapW P.toNat)).size := by omega
      have q2 : ¬ 9223372036854775807 < T.size + 2 := by omega
      have q3 : ¬ 9223372036854775807 < (T ++ ⟨#[32, 59]⟩).size + (ba (gapW P.toNat)).size := by
        rw [ByteArray.size_append]
        show ¬ 9223372036854775807 < T.size + 2 + _
        omega
      have q4 : ¬ 9223372036854775807 < T.size + (s.extract k (k + 1)).size := by rw [ByteArray.size_extract]; omega
      have hP5 := hpk.2
      have hP0 := hpk.1
      have fin : ∀ X : List UInt8, Hid (spF (gapN L) cn [s[k]] = X) → ∀ T', T' = T ++ ba X → Hid (T' = ba ([35, 32, 104, 101, 97, 100, 10] ++ spF (gapN L) 0 (s.data.toList.take (k + 1)))) := by
        intro X hX T' hT'
        unfold Hid at *
        rw [hT', HT, HST, hX, ba_append, List.append_assoc]
      have HFN : Hid _ := fin
      clear fin
      by_cases h1 : s[k].toNat = 32 ∨ s[k].toNat = 10
      · have eX : Hid (spF (gapN L) cn [s[k]] = gapW P.toNat) := by
          show _ = _
          simp only [spF]
          rw [if_pos h1, HPP.out, List.append_nil]
        have eC : Hid (cntF (s.data.toList.take (k + 1)) = cn + 1) := by
          show _ = _
          rw [HCT.out]; simp only [cntF]; rw [if_pos (by omega)]
        by_cases h32 : s[k].toNat = 32
        · have z1 : ((s[k].toNat : Int) == 32) = true := by simp; omega
          go_wp2_with fail
          refine Calls.mono HRW.out ?_
          rintro e V ⟨rfl, rfl⟩
          go_wp2_with fail
          refine Calls.mono HPK.out ?_
          rintro e V2 ⟨rfl, rfl⟩
          go_wp2_with fail
          go_roundw
          case rel =>
            have h9 := HFN.out _ eX _ rfl
            exact ⟨k + 1, _, by go_num, rfl, by rw [eC.out]; rfl, by omega, h9, by rw [h9.out]; exact HF.out, trivial⟩
          case measure => simp [intOf]; omega
        · have z1 : ((s[k].toNat : Int) == 32) = false := by simp; omega
          have z2 : ((s[k].toNat : Int) == 10) = true := by simp; omega
          go_wp2_with fail
          refine Calls.mono HRW.out ?_
          rintro e V ⟨rfl, rfl⟩
          go_wp2_with fail
          refine Calls.mono HPK.out ?_
          rintro e V2 ⟨rfl, rfl⟩
          go_wp2_with fail
          go_roundw
          case rel =>
            have h9 := HFN.out _ eX _ rfl
            exact ⟨k + 1, _, by go_num, rfl, by rw [eC.out]; rfl, by omega, h9, by rw [h9.out]; exact HF.out, trivial⟩
          case measure => simp [intOf]; omega
      · have z1 : ((s[k].toNat : Int) == 32) = false := by simp; omega
        have z2 : ((s[k].toNat : Int) == 10) = false := by simp; omega
        by_cases h2 : s[k].toNat = 59
        · have z3 : ((s[k].toNat : Int) == 59) = true := by simp; omega
          have eX : Hid (spF (gapN L) cn [s[k]] = [32, 59] ++ gapW P.toNat) := by
            show _ = _
            simp only [spF]
            rw [if_neg h1, if_pos h2, HPP.out, List.append_nil]
          have eC : Hid (cntF (s.data.toList.take (k + 1)) = cn + 1) := by
            show _ = _
            rw [HCT.out]; simp only [cntF]; rw [if_pos (by omega)]
          go_wp2_with fail
          refine Calls.mono HRW.out ?_
          rintro e V ⟨rfl, rfl⟩
          go_wp2_with fail
          refine Calls.mono HPK.out ?_
          rintro e V2 ⟨rfl, rfl⟩
          go_wp2_with fail
          go_roundw
          case rel =>
            have h9 := HFN.out _ eX (T ++ ⟨#[32, 59]⟩ ++ ba (gapW P.toNat)) (by rw [← ba_append, ByteArray.append_assoc]; rfl)
            exact ⟨k + 1, _, by go_num, rfl, by rw [eC.out]; rfl, by omega, h9, by rw [h9.out]; exact HF.out, trivial⟩
          case measure => simp [intOf]; omega
        · have z3 : ((s[k].toNat : Int) == 59) = false := by simp; omega
          have eX : Hid (spF (gapN L) cn [s[k]] = [s[k]]) := by
            show _ = _
            simp only [spF]
            rw [if_neg h1, if_neg h2]
          have eC : Hid (cntF (s.data.toList.take (k + 1)) = cn) := by
            show _ = _
            rw [HCT.out]; simp only [cntF]; rw [if_neg (by omega)]; rfl
          go_wp2_with fail
          go_roundw
          case rel =>
            have h9 := HFN.out _ eX (T ++ s.extract k (k + 1)) (by rw [one_ext s k hlt])
            exact ⟨k + 1, _, by go_num, rfl, by rw [eC.out], by omega, h9, by rw [h9.out]; exact HF.out, trivial⟩
          case measure => simp [intOf]; omega
    · have hlt' : ¬ (k : Int) < (s.size : Int) := by omega
      go_wp2_with fail
      go_ret
      refine ⟨?_, hb0⟩
      have e : s.data.toList.take k = s.data.toList := List.take_of_length_le (by simp; omega)
      rw [HT.out, e]
      rfl
end Go.Proofs.YteioennfpkoagaaGreatDoor.C
namespace Go.Proofs.YteioennfpkoagaaGreatDoor
open Go.RowKit
attribute [local go_sem ↓] Go.wp_at_zero Go.wp_at_succ

/- Strings lie in block sb. -/
def StrB (w : World) (sb : Nat) (kws : List (List UInt8)) : Prop :=
  ∃ cur t fr, w.heap[sb]? = some (.cells cur t fr) ∧ ∀ j (hj : j < kws.length), cur[j]? = some (.string ⟨kws[j].toArray⟩)
theorem StrB.kept {w w' : World} {sb : Nat} {kws : List (List UInt8)} (h : StrB w sb kws) {row : Option Nat} (hg : w.grownBy w' row) (hne : some sb ≠ row) : StrB w' sb kws := by
  obtain ⟨cur, t, fr, h1, h2⟩ := h
  exact ⟨cur, t, fr, by rw [hg.block sb (lt_of_blk h1) hne]; exact h1, h2⟩
theorem StrB.at {w : World} {sb : Nat} {kws : List (List UInt8)} (h : StrB w sb kws) (j : Nat) (hj : j < kws.length) : w.cell? ⟨sb, j, none⟩ = some (.string ⟨kws[j].toArray⟩) := by
  obtain ⟨cur, t, fr, h1, h2⟩ := h
  rw [cell_of_blk h1]; exact h2 j hj
theorem oneOf_step (l : List UInt8) (r : RS) (kws : List (List UInt8)) (k : Nat) (hk : k < kws.length) : oneOfR l r k (kws.drop k) = if isR l r kws[k] = true then (k + 1, nextR r) else oneOfR l r (k + 1) (kws.drop (k + 1)) := by
  rw [List.drop_eq_getElem_cons hk]; rfl

set_option maxRecDepth 100000 in
set_option maxHeartbeats 400000 in
theorem oneOf_any (w : World) (b g N cap sb c : Nat) (l : List UInt8) (r : RS) (kws : List (List UInt8)) (h : RdOK w b g N cap l r) (hst : StrB w sb kws) (hm : kws.length ≤ 100) (hlen : l.length ≤ 8192) (hn : pos l (N - 1) = l.length) (hN : N ≤ 8193) :
    Calls Tryz.prog 133 #[.pointer (some ⟨b, 0, none⟩), .slice (some ⟨sb, 0, none⟩) kws.length c] w fun e w' => e = .returned (.int .i64 (oneOfR l r 0 kws).1) ∧ RdOK w' b g N cap l (oneOfR l r 0 kws).2 ∧ w.grownBy w' (some b) := by
  generalize hfin : oneOfR l r 0 kws = fin
  have HF : Hid (fin = oneOfR l r 0 (kws.drop 0)) := hfin.symm
  clear hfin
  go_enter Tryz.func133, Tryz.ntmps133
  go_wp2_with fail
  go_loopw [5] (fun i wr => ∃ (k q : Nat), i = .int .i64 k ∧ k ≤ kws.length ∧ Hid (fin = oneOfR l r k (kws.drop k)) ∧ wr = w.drewN q) (fun i _ => kws.length - (intOf i).toNat)
  case atStart => exact ⟨0, 0, rfl, by omega, HF, rfl⟩
  case round =>
    obtain ⟨k, q, rfl, hk, HK, rfl⟩ := hrel
    clear HF
    by_cases hlt : k < kws.length
    · have hc := hst.at k hlt
      have hst2 := hst
      clear hst2
      have HS := oneOf_step l r kws k hlt
      have HSS : Hid _ := HS
      clear HS
      generalize kws[k] = kw at *
      go_wp2_with fail
      refine (is_any _ b g N cap l r _ (h.drewN q)).mono ?_
      rintro e w2 ⟨rfl, q2, rfl⟩
      have hr2 := (h.drewN q).drewN q2
      have c1 := h.c1
      have f1 := h.fz 1
      have hg2 : w.grownBy ((w.drewN q).drewN q2) (some b) := grown_trans (grown_drewN w q _) (grown_drewN _ q2 _)
      cases hi : isR l r kw
      · go_wp2_with fail
        go_roundw
        case rel => exact ⟨k + 1, q + q2, by go_num, by omega, by have := HSS.out; rw [hi] at this; exact HK.out.trans (by simpa using this), by simp⟩
        case measure => simp [intOf]; omega
      · have hat := hr2.next hn (isR_sort hi)
        have HX : Hid (fin = (k + 1, nextR r)) := by have := HSS.out; rw [hi] at this; exact HK.out.trans (by simpa using this)
        go_wp2_with fail
        go_ret
        rw [HX.out]
        rw [World.drewN_drewN] at hr2 hg2
        exact ⟨ret_int (by simp), by exact hr2.setAt (r.at' + 1) hat, grown_trans hg2 (grown_set _ _ _ _)⟩
    · go_wp2_with fail
      refine (fail_any _ b g N cap l r 1 (h.drewN q) hlen).mono ?_
      rintro e w3 ⟨rfl, hr3, hg3⟩
      go_wp2_with fail
      go_ret
      have : fin = (0, failR l r 1) := by rw [HK.out, List.drop_eq_nil_of_le (by omega)]; rfl
      rw [this]
      exact ⟨rfl, hr3, grown_trans (grown_drewN w q _) hg3⟩

/- The names of partitions lie in block pb: five cells each, the name first. -/
def PartB (w : World) (pb : Nat) (names : List (List UInt8)) : Prop :=
  ∃ cur t fr, w.heap[pb]? = some (.cells cur t fr) ∧ ∀ j (hj : j < names.length), cur[j * 5]? = some (.string ⟨names[j].toArray⟩)
theorem PartB.kept {w w' : World} {sb : Nat} {kws : List (List UInt8)} (h : PartB w sb kws) {row : Option Nat} (hg : w.grownBy w' row) (hne : some sb ≠ row) : PartB w' sb kws := by
  obtain ⟨cur, t, fr, h1, h2⟩ := h
  exact ⟨cur, t, fr, by rw [hg.block sb (lt_of_blk h1) hne]; exact h1, h2⟩
theorem PartB.at {w : World} {sb : Nat} {kws : List (List UInt8)} (h : PartB w sb kws) (j : Nat) (hj : j < kws.length) : w.cell? ⟨sb, j * 5, none⟩ = some (.string ⟨kws[j].toArray⟩) := by
  obtain ⟨cur, t, fr, h1, h2⟩ := h
  rw [cell_of_blk h1]; exact h2 j hj
/- a slice of partitions: nil, or in block pb -/
def PartS (w : World) (v : Value) (names : List (List UInt8)) : Prop :=
  (v = .slice none 0 0 ∧ names = []) ∨ ∃ pb c, v = .slice (some ⟨pb, 0, none⟩) names.length c ∧ PartB w pb names
theorem fail_again (l : List UInt8) (r : RS) : failR l (failR l r 4) 1 = failR l r 4 := by
  have h : (failR l r 4).e ≠ 0 := by
    unfold failR; split
    · assumption
    · simp only []; split
      · assumption
      · simp
  generalize failR l r 4 = x at *
  unfold failR
  rw [if_pos h]
theorem end_step (l : List UInt8) (r : RS) (kws : List (List UInt8)) (k : Nat) (hk : k < kws.length) : endGo l r k (kws.drop k) = if (tk l r.at').sort = 1 ∧ kws[k] = (tk l r.at').text then (k, nextR r) else endGo l r (k + 1) (kws.drop (k + 1)) := by
  rw [List.drop_eq_getElem_cons hk]; rfl

set_option maxRecDepth 100000 in
set_option maxHeartbeats 400000 in
theorem end_dead (w : World) (b g N cap : Nat) (l : List UInt8) (r : RS) (v : Value) (h : RdOK w b g N cap l r) (he : r.e ≠ 0) :
    Calls Tryz.prog 134 #[.pointer (some ⟨b, 0, none⟩), v] w fun e w' => e = .returned (.int .i64 0) ∧ w' = w := by
  have c2 := h.c2
  have hz1 : ((r.e : Int) != 0) = true := by simp; omega
  go_enter Tryz.func134, Tryz.ntmps134
  go_wp2_with fail
  go_ret
  exact ⟨rfl, rfl⟩

set_option maxRecDepth 100000 in
set_option maxHeartbeats 400000 in
theorem end_live (w : World) (b g N cap pb c : Nat) (l : List UInt8) (r : RS) (names : List (List UInt8)) (h : RdOK w b g N cap l r) (he : r.e = 0) (hst : PartB w pb names) (hm : names.length ≤ 10000) (hlen : l.length ≤ 8192) (hn : pos l (N - 1) = l.length) (hN : N ≤ 8193) :
    Calls Tryz.prog 134 #[.pointer (some ⟨b, 0, none⟩), .slice (some ⟨pb, 0, none⟩) names.length c] w fun e w' => e = .returned (.int .i64 (endGo l r 0 names).1) ∧ RdOK w' b g N cap l (endGo l r 0 names).2 ∧ w.grownBy w' (some b) := by
  generalize hfin : endGo l r 0 names = fin
  have HF : Hid (fin = endGo l r 0 (names.drop 0)) := hfin.symm
  clear hfin
  have c0 := h.c0
  have c1 := h.c1
  have c2 := h.c2
  have f1 := h.fz 1
  have t0 := h.t0
  have t1 := h.t1
  have hl : (r.at' : Int) < (N : Int) := by have := h.lt; omega
  have h0 : (0 : Int) ≤ (r.at' : Int) := by omega
  have hz1 : ((r.e : Int) != 0) = false := by simp; omega
  go_enter Tryz.func134, Tryz.ntmps134
  go_wp2_with fail
  go_loopw [5] (fun i wr => ∃ (k q : Nat), i = .int .i64 k ∧ k ≤ names.length ∧ Hid (fin = endGo l r k (names.drop k)) ∧ wr = w.drewN q) (fun i _ => names.length - (intOf i).toNat)
  case atStart => exact ⟨0, 0, rfl, by omega, HF, rfl⟩
  case round =>
    obtain ⟨k, q, rfl, hk, HK, rfl⟩ := hrel
    clear HF
    by_cases hlt : k < names.length
    · have hc := hst.at k hlt
      have hlt' : (k : Int) < (names.length : Int) := by omega
      have hk0 : (0 : Int) ≤ (k : Int) := by omega
      have HS := end_step l r names k hlt
      have HSS : Hid _ := HS
      clear HS
      generalize names[k] = nm at *
      have HNX := h.next hn
      by_cases hs1 : (tk l r.at').sort = 1
      · have hq : (((tk l r.at').sort : Int) == 1) = true := by simp; omega
        go_wp2_with fail
        go_quiet (fail)
        go_wp2_with fail
        · have hh : (nm == (tk l r.at').text) = true := by assumption
          have hat := HNX (by omega)
          have HX : Hid (fin = (k, nextR r)) := by have := HSS.out; rw [if_pos ⟨hs1, by simpa using hh⟩] at this; exact HK.out.trans this
          go_ret
          rw [HX.out]
          exact ⟨rfl, by exact (h.drewN (q + nq)).setAt (r.at' + 1) hat, grown_trans (grown_drewN w (q + nq) _) (grown_set _ _ _ _)⟩
        · have hh : (nm == (tk l r.at').text) = false := by assumption
          go_roundw
          case rel => exact ⟨k + 1, q + nq, by go_num, by omega, by have := HSS.out; rw [if_neg (by simp at hh; simp [hh])] at this; exact HK.out.trans this, rfl⟩
          case measure => simp [intOf]; omega
      · have hq : (((tk l r.at').sort : Int) == 1) = false := by simp; omega
        go_wp2_with fail
        go_quiet (fail)
        go_wp2_with fail
        go_roundw
        case rel => exact ⟨k + 1, q + nq, by go_num, by omega, by have := HSS.out; rw [if_neg (by simp [hs1])] at this; exact HK.out.trans this, rfl⟩
        case measure => simp [intOf]; omega
    · have HX : Hid (fin = (0, failR l r (if (tk l r.at').sort = 1 then 4 else 1))) := by have := HK.out; rw [List.drop_eq_nil_of_le (by omega)] at this; exact this
      clear HK
      go_wp2_with fail
      go_quiet (fail)
      go_wp2_with fail
      · have hh : (((tk l r.at').sort : Int) == 1) = true := by assumption
        refine (fail_any _ b g N cap l r 4 (h.drewN (q + nq)) hlen).mono ?_
        rintro e w3 ⟨rfl, hr3, hg3⟩
        go_wp2_with fail
        refine (fail_any _ b g N cap l _ 1 hr3 hlen).mono ?_
        rintro e w4 ⟨rfl, hr4, hg4⟩
        go_wp2_with fail
        go_ret
        rw [HX.out, if_pos (by simp at hh; omega)]
        rw [fail_again] at hr4
        exact ⟨rfl, hr4, grown_trans (grown_trans (grown_drewN w (q + nq) _) hg3) hg4⟩
      · have hh : (((tk l r.at').sort : Int) == 1) = false := by assumption
        refine (fail_any _ b g N cap l r 1 (h.drewN (q + nq)) hlen).mono ?_
        rintro e w3 ⟨rfl, hr3, hg3⟩
        go_wp2_with fail
        go_ret
        rw [HX.out, if_neg (by simp at hh; omega)]
        exact ⟨rfl, hr3, grown_trans (grown_drewN w (q + nq) _) hg3⟩

set_option maxRecDepth 100000 in
set_option maxHeartbeats 400000 in
theorem end_nil (w : World) (b g N cap : Nat) (l : List UInt8) (r : RS) (h : RdOK w b g N cap l r) (he : r.e = 0) (hlen : l.length ≤ 8192) :
    Calls Tryz.prog 134 #[.pointer (some ⟨b, 0, none⟩), .slice none 0 0] w fun e w' => e = .returned (.int .i64 (endGo l r 0 []).1) ∧ RdOK w' b g N cap l (endGo l r 0 []).2 ∧ w.grownBy w' (some b) := by
  have HX : Hid (endGo l r 0 [] = (0, failR l r (if (tk l r.at').sort = 1 then 4 else 1))) := rfl
  generalize endGo l r 0 [] = fin at *
  have c0 := h.c0
  have c1 := h.c1
  have c2 := h.c2
  have f1 := h.fz 1
  have t0 := h.t0
  have t1 := h.t1
  have hl : (r.at' : Int) < (N : Int) := by have := h.lt; omega
  have h0 : (0 : Int) ≤ (r.at' : Int) := by omega
  have hz1 : ((r.e : Int) != 0) = false := by simp; omega
  go_enter Tryz.func134, Tryz.ntmps134
  go_wp2_with fail
  go_rounds 1
  go_quiet (fail)
  go_wp2_with fail
  · have hh : (((tk l r.at').sort : Int) == 1) = true := by assumption
    refine (fail_any _ b g N cap l r 4 (h.drewN nq) hlen).mono ?_
    rintro e w3 ⟨rfl, hr3, hg3⟩
    go_wp2_with fail
    refine (fail_any _ b g N cap l _ 1 hr3 hlen).mono ?_
    rintro e w4 ⟨rfl, hr4, hg4⟩
    go_wp2_with fail
    go_ret
    rw [HX.out, if_pos (by simp at hh; omega)]
    rw [fail_again] at hr4
    exact ⟨rfl, hr4, grown_trans (grown_trans (grown_drewN w nq _) hg3) hg4⟩
  · have hh : (((tk l r.at').sort : Int) == 1) = false := by assumption
    refine (fail_any _ b g N cap l r 1 (h.drewN nq) hlen).mono ?_
    rintro e w3 ⟨rfl, hr3, hg3⟩
    go_wp2_with fail
    go_ret
    rw [HX.out, if_neg (by simp at hh; omega)]
    exact ⟨rfl, hr3, grown_trans (grown_drewN w nq _) hg3⟩

theorem end_any (w : World) (b g N cap : Nat) (v : Value) (l : List UInt8) (r : RS) (names : List (List UInt8)) (h : RdOK w b g N cap l r) (hst : PartS w v names) (hm : names.length ≤ 10000) (hlen : l.length ≤ 8192) (hn : pos l (N - 1) = l.length) (hN : N ≤ 8193) :
    Calls Tryz.prog 134 #[.pointer (some ⟨b, 0, none⟩), v] w fun e w' => e = .returned (.int .i64 (endR l r names).1) ∧ RdOK w' b g N cap l (endR l r names).2 ∧ w.grownBy w' (some b) := by
  by_cases he : r.e = 0
  · have hx : endR l r names = endGo l r 0 names := by unfold endR; rw [if_neg (by simp [he])]
    rw [hx]
    rcases hst with ⟨rfl, rfl⟩ | ⟨pb, c, rfl, hp⟩
    · exact end_nil w b g N cap l r h he hlen
    · exact end_live w b g N cap pb c l r names h he hp hm hlen hn hN
  · have hx : endR l r names = (0, r) := by unfold endR; rw [if_pos he]
    rw [hx]
    refine (end_dead w b g N cap l r v h he).mono ?_
    rintro e w' ⟨rfl, rfl⟩
    exact ⟨rfl, h, grown_refl _ _⟩
end Go.Proofs.YteioennfpkoagaaGreatDoor
namespace Go.Proofs.YteioennfpkoagaaGreatDoor.C
open Go.RowKit

/- what holds of a manifest while it is made -/
theorem mk_data (l : List UInt8) : (ba l).data.toList = l := by simp [ba]
theorem mk_of {s : ByteArray} {l : List UInt8} (h : s.data.toList = l) : s = ba l := by
  subst h
  cases s
  simp [ba]
theorem nm_all : ((List.range 26).all fun j => nameF (nmL j)) = true := by decide
theorem nm_ok {j : Nat} (h : j < 26) : nameF (nmL j) = true := List.all_eq_true.1 nm_all j (List.mem_range.2 h)
theorem nm_inj_all : ((List.range 26).all fun i => (List.range 26).all fun j => decide (nmL i = nmL j → i = j)) = true := by decide
theorem nm_inj {i j : Nat} (hi : i < 26) (hj : j < 26) (h : nmL i = nmL j) : i = j := by
  have h1 := List.all_eq_true.1 nm_inj_all i (List.mem_range.2 hi)
  have h2 := List.all_eq_true.1 h1 j (List.mem_range.2 hj)
  simp only [decide_eq_true_eq] at h2
  exact h2 h
theorem data_inj {a b : ByteArray} (h : a.data.toList = b.data.toList) : a = b := by
  have h1 := mk_of h
  have h2 := mk_of (s := b) rfl
  rw [h1, ← h2]
structure PartM (F : Int) (x : PartD) : Prop where
  per : 1 ≤ x.period ∧ x.period ≤ F ∧ F % x.period = 0
  dur : 1 ≤ x.duration ∧ x.duration ≤ x.period
  act : 1 ≤ x.action ∧ x.action ≤ 3
  reg : RegsOK x.regs
  few : x.regs.length ≤ 2 ∧ regPages x.regs ≤ 4 ∧ ∀ r, x.regs.head? = some r → r.rights = 2
structure LI (F : Int) (i : Nat) (left : Int) (acc : List PartD) : Prop where
  all : ∀ x ∈ acc, PartM F x
  nam : ∀ x ∈ acc, ∃ j, j < i ∧ x.name = ba (nmL j)
  dif : acc.Pairwise (fun x y => x.name ≠ y.name)
  tic : left = F - ticksF F acc
  pos : 0 ≤ left
  len : acc.length ≤ i
theorem LI.skip {F left : Int} {i : Nat} {acc : List PartD} (h : LI F i left acc) : LI F (i + 1) left acc :=
  ⟨h.all, fun x hx => by obtain ⟨j, hj, e⟩ := h.nam x hx; exact ⟨j, by omega, e⟩, h.dif, h.tic, h.pos, by have := h.len; omega⟩
theorem LI.add {F left : Int} {i : Nat} {acc : List PartD} (h : LI F i left acc) (hi : i < 26) {x : PartD} (hn : x.name = ba (nmL i)) (hx : PartM F x) (hl : F / x.period * x.duration ≤ left) : LI F (i + 1) (left - F / x.period * x.duration) (acc ++ [x]) := by
  refine ⟨fun y hy => ?_, fun y hy => ?_, ?_, ?_, by omega, by have := h.len; simp; omega⟩
  · rcases List.mem_append.1 hy with hy | hy
    · exact h.all y hy
    · rw [List.mem_singleton.1 hy]; exact hx
  · rcases List.mem_append.1 hy with hy | hy
    · obtain ⟨j, hj, e⟩ := h.nam y hy; exact ⟨j, by omega, e⟩
    · rw [List.mem_singleton.1 hy]; exact ⟨i, by omega, hn⟩
  · rw [List.pairwise_append]
    refine ⟨h.dif, by simp, fun a ha b hb => ?_⟩
    rw [List.mem_singleton.1 hb]
    obtain ⟨j, hj, e⟩ := h.nam a ha
    rw [e, hn]
    intro e2
    have e3 : nmL j = nmL i := by rw [← mk_data (nmL j), e2, mk_data]
    have := nm_inj (by omega) hi e3
    omega
  · have := h.tic
    unfold ticksF at *
    rw [List.map_append, List.sum_append, this]
    simp
    omega
structure ChanM (n : Nat) (F : Int) (c : ChanD) : Prop where
  src : 0 ≤ c.source ∧ c.source < n
  tgt : 0 ≤ c.target ∧ c.target < n
  two : c.source ≠ c.target
  knd : c.kind = 1 ∨ c.kind = 2
  siz : c.size = 8
  dep : 1 ≤ c.depth ∧ c.depth ≤ 4
structure CI (n : Nat) (F : Int) (cs : List ChanD) : Prop where
  all : ∀ x ∈ cs, ChanM n F x
  nam : ∀ i (h : i < cs.length), cs[i].name = ba (nmL i)
theorem CI.nil (n : Nat) (F : Int) : CI n F [] := ⟨by simp, fun i h => absurd h (by simp)⟩
theorem CI.add {n : Nat} {F : Int} {cs : List ChanD} (h : CI n F cs) {c : ChanD} (hn : c.name = ba (nmL cs.length)) (hc : ChanM n F c) : CI n F (cs ++ [c]) := by
  refine ⟨fun y hy => ?_, fun i hi => ?_⟩
  · rcases List.mem_append.1 hy with hy | hy
    · exact h.all y hy
    · rw [List.mem_singleton.1 hy]; exact hc
  · by_cases e : i < cs.length
    · rw [List.getElem_append_left e]; exact h.nam i e
    · have : i = cs.length := by simp at hi; omega
      subst this
      simp [hn]
theorem first_zero {f : Nat → Int} {n : Nat} (h : ∀ i, i < n → f i = 0) : firstNZ f n = 0 := by
  induction n with
  | zero => rfl
  | succ n ih => simp only [firstNZ]; rw [if_pos (ih fun i hi => h i (by omega)), h n (by omega)]
theorem made_chk {F left : Int} {i : Nat} {ps : List PartD} {cs : List ChanD} (hF : 24 ≤ F ∧ F ≤ 240) (h : LI F i left ps) (hi : i ≤ 6) (hne : ps ≠ []) (hc : CI ps.length F cs) (hcl : cs.length ≤ 7) : checkF ⟨F, ps, cs⟩ = 0 := by
  have hnm : ∀ x ∈ ps, nameF x.name.data.toList = true := fun x hx => by
    obtain ⟨j, hj, e⟩ := h.nam x hx
    rw [e, mk_data]; exact nm_ok (by omega)
  have hlen := h.len
  have hpl : 1 ≤ ps.length := by have := List.length_pos_iff.2 hne; omega
  have hfew : ∀ x ∈ ps, x.regs.length ≤ 2 := fun x hx => (h.all x hx).few.1
  unfold checkF
  simp only []
  have hmany : manyB ⟨F, ps, cs⟩ = false := by
    unfold manyB wideB
    simp only [Bool.or_eq_false_iff, decide_eq_false_iff_not, List.any_eq_false]
    refine ⟨⟨⟨by omega, by omega⟩, by omega⟩, fun x hx => ?_⟩
    have := hfew x hx
    simp; omega
  have hparts : firstNZ (partAt ⟨F, ps, cs⟩) ps.length = 0 := by
    apply first_zero
    intro k hk
    unfold partAt
    simp only []
    rw [dif_pos hk]
    have hm := h.all _ (List.getElem_mem hk)
    have h1 := hm.per; have h2 := hm.dur; have h3 := hm.act
    unfold partErr
    have hfr : freshP (ps.take k) ps[k] = true := by
      unfold freshP
      rw [List.all_eq_true]
      intro p hp
      obtain ⟨a, ha, e⟩ := List.getElem_of_mem hp
      have ha' : a < k := by simp at ha; omega
      rw [List.getElem_take] at e
      have := List.pairwise_iff_getElem.1 h.dif a k (by omega) hk ha'
      rw [e] at this
      simp only [bne_iff_ne, ne_eq]
      intro e2
      apply this
      rw [ByteArray.toList_eq, ByteArray.toList_eq] at e2
      exact data_inj e2
    rw [if_neg (by rw [hnm _ (List.getElem_mem hk), hfr]; simp), if_neg (by omega), if_neg (by omega), if_neg (by omega), if_neg (by rw [(regsF_iff _).2 hm.reg]; simp)]
  have hchans : firstNZ (chanAt ⟨F, ps, cs⟩) cs.length = 0 := by
    apply first_zero
    intro k hk
    unfold chanAt
    simp only []
    rw [dif_pos hk]
    have hm := hc.all _ (List.getElem_mem hk)
    have h1 := hm.src; have h2 := hm.tgt; have h3 := hm.two; have h4 := hm.knd; have h5 := hm.siz; have h6 := hm.dep
    have hnk := hc.nam k hk
    unfold chanErr
    have hfr : freshC (cs.take k) cs[k] = true := by
      unfold freshC
      rw [List.all_eq_true]
      intro p hp
      obtain ⟨a, ha, e⟩ := List.getElem_of_mem hp
      have ha' : a < k := by simp at ha; omega
      rw [List.getElem_take] at e
      have hna := hc.nam a (by omega)
      rw [e] at hna
      rw [hna, hnk]
      simp only [bne_iff_ne, ne_eq]
      intro e2
      have e3 : nmL a = nmL k := by rw [ByteArray.toList_eq, ByteArray.toList_eq, mk_data, mk_data] at e2; exact e2
      have := nm_inj (by omega) (by omega) e3
      omega
    have hnf : nameF cs[k].name.data.toList = true := by rw [hnk, mk_data]; exact nm_ok (by omega)
    rw [if_neg (by rw [hnf, hfr]; simp), if_neg (by omega), if_neg (by omega), if_neg (by omega), if_neg (by split <;> omega)]
  have hpages : pagesF ps ≤ 64 := by
    have key : ∀ qs : List PartD, (∀ x ∈ qs, regPages x.regs ≤ 4) → pagesF qs ≤ 4 * qs.length := by
      intro qs
      induction qs with
      | nil => intro _; simp [pagesF]
      | cons x qs ih =>
        intro hq
        have h1 := hq x (by simp)
        have h2 := ih (fun y hy => hq y (by simp [hy]))
        unfold pagesF at *
        simp only [List.map_cons, List.sum_cons, List.length_cons]
        omega
    have := key ps (fun x hx => (h.all x hx).few.2.1)
    omega
  have htic := h.tic
  have hpos := h.pos
  rw [if_neg (by omega), if_neg (by rw [hmany]; simp), if_neg (by rw [hparts]; simp), if_neg (by rw [hchans]; simp), if_neg (by omega), if_neg (by omega)]
end Go.Proofs.YteioennfpkoagaaGreatDoor.C
