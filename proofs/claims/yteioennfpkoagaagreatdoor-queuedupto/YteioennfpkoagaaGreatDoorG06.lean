import Derived.Test.YteioennfpkoagaaGreatDoorG05
import Derived.Deep.RegionHeld3
import Derived.Deep.AppendLies
import Derived.Deep.DrawnRows
import Derived.Deep.QuietTactic
import Derived.BigQuiet
import Derived.Test.YteioennfpkoagaaGreatDoorG01
namespace Go.Proofs.YteioennfpkoagaaGreatDoor
open Go.RowKit
attribute [local go_sem ↓] Go.wp_at_zero Go.wp_at_succ

theorem infoToken : (Tryz.prog.info? 164).map (fun i => (i.zero, i.size, i.bytes)) = some (some (.agg #[.int .i64 0, .string ⟨#[]⟩, .int .i64 0, .int .i64 0]), 4, 40) := by kernel_rfl

/- the cells of a token; of the first n tokens of a text -/
def tokCells (t : Tok) : List Value := [.int .i64 t.sort, .string ⟨t.text.toArray⟩, .int .i64 t.line, .int .i64 t.col]
def tokRows (l : List UInt8) (n : Nat) : List Value := (List.range n).flatMap fun k => tokCells (tk l k)
theorem tokRows_succ (l : List UInt8) (n : Nat) : tokRows l (n + 1) = tokRows l n ++ tokCells (tk l n) := by
  simp [tokRows, List.range_succ]

theorem wrap_i64 {a : Int} (h1 : 0 ≤ a) (h2 : a ≤ 100000000) : IntKind.i64.wrap a = a := wrap_small a h1 (by omega)
theorem own_below {w w' : World} {B e size n : Nat} {v : Value} {xs : List Value} (h : w.ownsRow B e size v n xs) (hb : Below w.heap.size w w') : w'.ownsRow B e size v n xs :=
  h.kept (row := none) ⟨hb.os, hb.tape, hb.output, hb.size, fun k hk _ => hb.block k hk⟩ (by cases v.ownBlock <;> simp)
theorem below_drew {w w' : World} (h : Below w.drew.heap.size w.drew w') : Below w.heap.size w w' := ⟨h.os, h.tape, h.output, h.size, h.block⟩
theorem extract_eq (s : ByteArray) (i n : Nat) (_h : i + n ≤ s.size) : s.extract i ((i : Int) + (n : Int)).toNat = ⟨((s.data.toList.drop i).take n).toArray⟩ := by
  apply ByteArray.ext
  apply Array.ext'
  have e : ((i : Int) + (n : Int)).toNat = i + n := by omega
  simp [e, ByteArray.data_extract, Array.toList_extract, List.extract_eq_take_drop]
theorem pos_next (l : List UInt8) (k i n t : Nat) (hi : pos l k = i) (hn : tokF (l.drop i) = (n, t)) : pos l (k + 1) = (i + n) + gapF false (l.drop (i + n)) := by
  simp only [pos, hi, hn]
theorem tk_at (l : List UInt8) (k i n t : Nat) (hi : pos l k = i) (hn : tokF (l.drop i) = (n, t)) : tk l k = ⟨t, (l.drop i).take n, (placeL (l.take i)).1, (placeL (l.take i)).2⟩ := by
  simp only [tk, tokAt, hi, hn]

set_option maxRecDepth 100000 in
set_option maxHeartbeats 400000 in
theorem tokens_any (s : ByteArray) (w : World) (hs : s.size ≤ 8192) :
    Calls Tryz.prog 78 #[.string s] w fun e w' => ∃ n g cap, e = .returned (.slice (some ⟨g, 0, none⟩) (n + 1) cap) ∧ pos s.data.toList n = s.size ∧ (∀ j, j < n → pos s.data.toList j < s.size) ∧ w'.ownsRow w.heap.size 164 4 (.slice (some ⟨g, 0, none⟩) (n + 1) cap) (n + 1) (tokRows s.data.toList (n + 1)) ∧ Below w.heap.size w w' := by
  obtain ⟨i0, hi0, hz0, hz1, hz2⟩ := info_parts infoToken
  go_enter Tryz.func78, Tryz.ntmps78
  go_wp2_with fail
  refine (gap_any s 0 _ hs (by omega)).mono ?_
  rintro e w' ⟨rfl, rfl⟩
  go_wp2_with fail
  go_loopw [3, 4] (fun v i wr => ∃ k : Nat, i = .int .i64 (pos s.data.toList k) ∧ pos s.data.toList k ≤ s.size ∧ Hid (∀ j, j < k → pos s.data.toList j < s.size) ∧ wr.ownsRow w'.heap.size 164 4 v k (tokRows s.data.toList k) ∧ Below w'.heap.size w' wr) (fun _ i _ => s.size - (intOf i).toNat)
  case atStart => exact ⟨0, by simp [pos], by have := pos_le s.data.toList 0; simpa using this, fun j hj => by omega, World.ownsRow_nil _ _ _ _, Below.refl _ _⟩
  case round =>
    obtain ⟨k, rfl, hk, HJ, hown, hb⟩ := hrel
    have HG : Hid (k ≤ pos s.data.toList k) := pos_ge _ _ (by simpa using HJ.out)
    have HR : Hid (tokRows s.data.toList (k + 1) = _) := tokRows_succ s.data.toList k
    generalize hpi : pos s.data.toList k = i at *
    have HI : Hid _ := hpi
    clear hpi
    by_cases hlt : i < s.size
    · go_wp2_with fail
      refine (length_any s i _ hs hlt).mono ?_
      rintro e w1 ⟨rfl, rfl⟩
      have h1 := tokF_le (s.data.toList.drop i)
      have h2 := tokF_pos (s.data.toList.drop i) (by intro h0; have := congrArg List.length h0; simp at this; omega)
      simp only [List.length_drop, Array.length_toList, ByteArray.size_data] at h1
      generalize hq : tokF (s.data.toList.drop i) = q at *
      obtain ⟨tn, ts⟩ := q
      have HQ : Hid _ := hq
      clear hq
      simp only [] at h1 h2
      have h3 : ((i : Int) + (tn : Int)) ≤ (s.size : Int) := by omega
      have h4 : (0 : Int) ≤ (tn : Int) := by omega
      have h5 : (0 : Int) ≤ (i : Int) := by omega
      have h6 : (i : Int) ≤ (i : Int) + (tn : Int) := by omega
      have h7 : IntKind.i64.wrap ((i : Int) + (tn : Int)) = (i : Int) + (tn : Int) := wrap_i64 (by omega) (by omega)
      have hsz := hb.size
      go_wp2_with fail
      go_region_held3 (fun _ => True) (trivial) ((first
        | (go_at_call 130; refine (place_any s i _ hs (by omega)).mono ?_; rintro e w2 ⟨rfl, hb2⟩)
        | (refine step_append_lies _ (by rfl) _ _ _ (by rfl) w'.heap.size 164 i0 _ 4 40 Tryz.underlying157 hi0 hz0 hz1 hz2 rfl (by omega) _ k (tokRows s.data.toList k) (by rfl) ((own_below hown (below_drew hb2)).alloc _)
            ⟨w2.heap.size, 0, none⟩ 1 1 [.int .i64 ts, .string (s.extract i ((i : Int) + (tn : Int)).toNat), .int .i64 (placeL (s.data.toList.take i)).1, .int .i64 (placeL (s.data.toList.take i)).2] (by rfl) (by rfl)
            (World.news_of_block (cs := #[.int .i64 ts, .string (s.extract i ((i : Int) + (tn : Int)).toNat), .int .i64 (placeL (s.data.toList.take i)).1, .int .i64 (placeL (s.data.toList.take i)).2]) (t := 164) (fr := (0, 0)) (heap_alloc_new w2 _)) (by simp [Value.oneCell'])
            (by omega) (by have := HG.out; unfold maxLen; omega) (by have := HG.out; omega) (by have := hb2.size; simp at this ⊢; omega) (w2.heap.size + 1) (by simp) ?_; intro gg cap w3 hown3 hgrow hat hlt3)))
      go_wp2_with fail
      refine (gap_any s (i + tn) _ hs (by omega)).mono ?_
      rintro e w4 ⟨rfl, rfl⟩
      go_wp2_with fail
      have hp := pos_next _ k i tn ts HI.out HQ.out
      have ht := tk_at _ k i tn ts HI.out HQ.out
      have hle := pos_le s.data.toList (k + 1)
      simp only [Array.length_toList, ByteArray.size_data] at hle
      refine ⟨⟨k + 1, by rw [hp]; simp, hle, fun j hj => ?_, ?_, ?_⟩, ?_⟩
      · rcases Nat.lt_succ_iff_lt_or_eq.1 hj with h | h
        · exact HJ.out j h
        · subst h; rw [HI.out]; exact hlt
      · rw [HR.out, ht, tokCells, ← extract_eq s i tn (by omega)]
        exact hown3
      · refine Below.grown ((hb.trans ((below_drew hb2).mono hsz)).alloc ?_ _) hgrow ?_ (fun q hq => (hown.lt q hq).1)
        · have := hb2.size; simp at this; omega
        · have := hb2.size; simp at this ⊢; omega
      · simp only [intOf]; omega
    · have hie : i = s.size := by omega
      clear hlt hk
      subst hie
      go_wp2_with fail
      refine (place_any s s.size _ hs (Nat.le_refl _)).mono ?_
      rintro e w2 ⟨rfl, hb2⟩
      have hsz := hb.size
      go_wp2_with (
        at_builtin; refine wpList_append_lies _ rfl _ _ _ rfl w'.heap.size 164 i0 _ 4 40 Tryz.underlying157 hi0 hz0 hz1 hz2 rfl (by omega) _ k (tokRows s.data.toList k) rfl ((own_below hown hb2).alloc _)
            ⟨w2.heap.size, 0, none⟩ 1 1 [.int .i64 0, .string ⟨#[]⟩, .int .i64 (placeL (s.data.toList.take s.size)).1, .int .i64 (placeL (s.data.toList.take s.size)).2] rfl rfl
            (World.news_of_block (cs := #[.int .i64 0, .string ⟨#[]⟩, .int .i64 (placeL (s.data.toList.take s.size)).1, .int .i64 (placeL (s.data.toList.take s.size)).2]) (t := 164) (fr := (0, 0)) (heap_alloc_new w2 _)) (by simp [Value.oneCell'])
            (by omega) (by have := HG.out; unfold maxLen; omega) (by have := HG.out; omega) (by have := hb2.size; simp at this ⊢; omega) (w2.heap.size + 1) (by simp) ?_; intro gg cap w3 hown3 hgrow hat hlt3)
      go_ret
      have ht := tk_at _ k s.size 0 0 HI.out (by rw [List.drop_eq_nil_of_le (by simp)]; rfl)
      refine ⟨k, gg, cap, by simp, HI.out, HJ.out, ?_, ?_⟩
      · rw [HR.out, ht, tokCells]
        simpa using hown3
      · refine Below.grown ((hb.trans (hb2.mono hsz)).alloc ?_ _) hgrow ?_ (fun q hq => (hown.lt q hq).1)
        · have := hb2.size; omega
        · have := hb2.size; simp; omega
end Go.Proofs.YteioennfpkoagaaGreatDoor
namespace Go.Proofs.YteioennfpkoagaaGreatDoor
open Go.RowKit

set_option maxHeartbeats 400000 in
theorem value_any (s : ByteArray) (w : World) (hs : s.size ≤ 6) :
    Calls Tryz.prog 132 #[.string s] w fun e w' => e = .returned (.int .i64 (valF s.data.toList)) ∧ w' = w := by
  go_enter Tryz.func132, Tryz.ntmps132
  go_wp2
  go_loop [3, 4] (fun n i => ∃ k : Nat, k ≤ s.size ∧ i = .int .i64 k ∧ n = .int .i64 (valF (s.data.toList.take k))) (fun _ i => s.size - (intOf i).toNat)
  case atStart => exact ⟨0, Nat.zero_le _, rfl, rfl⟩
  case round =>
    obtain ⟨k, hk, rfl, rfl⟩ := hrel
    have hd := valF_bd s k hk (by omega)
    by_cases hlt : k < s.size
    · have HS : Hid _ := valF_step s k hlt
      have hb : s[k].toNat < 256 := UInt8.toNat_lt _
      generalize valF (s.data.toList.take k) = q at *
      go_wp2
      go_round
      case rel => exact ⟨k + 1, by omega, by go_num, by rw [HS.out]⟩
      case measure => simp [intOf]; omega
    · go_wp2
      go_ret
      exact ⟨ret_int (by rw [List.take_of_length_le (by simp; omega)]), rfl⟩

theorem looks_word {l : List UInt8} (h : 16 < l.length) : looksF 1 l = 3 := by simp [looksF, h]
theorem looks_other {t : Nat} {l : List UInt8} (h : ¬ (t = 1 ∧ 16 < l.length)) (h2 : t ≠ 2) : looksF t l = 0 := by simp [looksF, h, h2]
theorem looks_two {s : ByteArray} (h : 6 < s.size ∨ (1 < s.size ∧ s.data.toList.head?.map UInt8.toNat = some 48)) : looksF 2 s.data.toList = 2 := by
  have hlen : s.data.toList.length = s.size := by simp
  simp only [looksF, hlen]; rw [if_neg (by omega), if_neg (by omega), if_pos h]
theorem looks_bad {s : ByteArray} (h : ¬ (6 < s.size ∨ (1 < s.size ∧ s.data.toList.head?.map UInt8.toNat = some 48))) (hd : digitsB s.data.toList = false) : looksF 2 s.data.toList = 2 := by
  have hlen : s.data.toList.length = s.size := by simp
  simp only [looksF, hlen]; rw [if_neg (by omega), if_neg (by omega), if_neg h, hd]; rfl
theorem looks_good {s : ByteArray} (h : ¬ (6 < s.size ∨ (1 < s.size ∧ s.data.toList.head?.map UInt8.toNat = some 48))) (hd : digitsB s.data.toList = true) : looksF 2 s.data.toList = 0 := by
  have hlen : s.data.toList.length = s.size := by simp
  simp only [looksF, hlen]; rw [if_neg (by omega), if_neg (by omega), if_neg h, hd]; rfl
theorem digits_not {s : ByteArray} {k : Nat} (h : k < s.size) (hc : digitB s[k].toNat = false) : digitsB s.data.toList = false := by
  simp only [digitsB, List.all_eq_false]
  exact ⟨s[k], by rw [List.mem_iff_getElem]; exact ⟨k, by simpa using h, rfl⟩, by simp [hc]⟩
theorem digits_all {s : ByteArray} (h : ∀ k (hk : k < s.size), digitB s[k].toNat = true) : digitsB s.data.toList = true := by
  simp only [digitsB, List.all_eq_true]
  intro b hb
  obtain ⟨k, hk, rfl⟩ := List.mem_iff_getElem.1 hb
  exact h k (by simpa using hk)

set_option maxHeartbeats 400000 in
theorem looks_one (s : ByteArray) (ln cl : Int) (w : World) (hs : s.size ≤ 8192) :
    Calls Tryz.prog 135 #[.agg #[.int .i64 1, .string s, .int .i64 ln, .int .i64 cl]] w fun e w' => e = .returned (.int .i64 (looksF 1 s.data.toList)) ∧ Below w.heap.size w w' := by
  have hlen : s.data.toList.length = s.size := by simp
  go_enter Tryz.func135, Tryz.ntmps135
  go_wp2_with fail
  · go_ret
    exact ⟨ret_int (by rw [looks_word (by omega)]; rfl), (Below.refl _ _).alloc (Nat.le_refl _) _⟩
  · go_ret
    exact ⟨ret_int (by rw [looks_other (by omega) (by omega)]; rfl), (Below.refl _ _).alloc (Nat.le_refl _) _⟩
set_option maxHeartbeats 400000 in
theorem looks_else (t : Int) (s : ByteArray) (ln cl : Int) (w : World) (h1 : (t == 1) = false) (h2 : (t != 2) = true) :
    Calls Tryz.prog 135 #[.agg #[.int .i64 t, .string s, .int .i64 ln, .int .i64 cl]] w fun e w' => e = .returned (.int .i64 0) ∧ Below w.heap.size w w' := by
  go_enter Tryz.func135, Tryz.ntmps135
  go_wp2_with fail
  go_ret
  exact ⟨rfl, (Below.refl _ _).alloc (Nat.le_refl _) _⟩
set_option maxHeartbeats 400000 in
theorem looks_number (s : ByteArray) (ln cl : Int) (w : World) (hs : s.size ≤ 8192) :
    Calls Tryz.prog 135 #[.agg #[.int .i64 2, .string s, .int .i64 ln, .int .i64 cl]] w fun e w' => e = .returned (.int .i64 (looksF 2 s.data.toList)) ∧ Below w.heap.size w w' := by
  by_cases h6 : 6 < s.size
  · have hd : decide ((6 : Int) < (s.size : Int)) = true := by simp; omega
    go_enter Tryz.func135, Tryz.ntmps135
    go_wp2_with fail
    go_ret
    exact ⟨ret_int (by rw [looks_two (s := s) (.inl (by omega))]; rfl), (Below.refl _ _).alloc (Nat.le_refl _) _⟩
  have hd : decide ((6 : Int) < (s.size : Int)) = false := by simp; omega
  by_cases hh : 1 < s.size ∧ s.data.toList.head?.map UInt8.toNat = some 48
  · have hd1 : decide ((1 : Int) < (s.size : Int)) = true := by simp; omega
    have h0 : 0 < s.size := by omega
    have h48 : ((s[0].toNat : Int) == 48) = true := by
      have := hh.2
      rw [← List.drop_zero (l := s.data.toList), head_at h0] at this
      simp at this ⊢; omega
    have HH : Hid _ := hh
    clear hh
    go_enter Tryz.func135, Tryz.ntmps135
    go_wp2_with fail
    go_ret
    exact ⟨ret_int (by rw [looks_two (s := s) (.inr HH.out)]; rfl), (Below.refl _ _).alloc (Nat.le_refl _) _⟩
  have HN : Hid (¬ (6 < s.size ∨ (1 < s.size ∧ s.data.toList.head?.map UInt8.toNat = some 48))) := by
    intro h; rcases h with h | h
    · exact h6 h
    · exact hh h
  have hcase : (decide ((1 : Int) < (s.size : Int)) = false) ∨ (decide ((1 : Int) < (s.size : Int)) = true ∧ ∃ h0 : 0 < s.size, ((s[0].toNat : Int) == 48) = false) := by
    by_cases h1 : 1 < s.size
    · right
      refine ⟨by simp; omega, by omega, ?_⟩
      rw [← List.drop_zero (l := s.data.toList), head_at (by omega)] at hh
      simp at hh ⊢; have := hh h1; omega
    · left; simp; omega
  clear hh
  rcases hcase with h1 | ⟨h1, h0, h48⟩
  all_goals
    go_enter Tryz.func135, Tryz.ntmps135
    go_wp2_with fail
    go_loop [4] (fun i => ∃ k : Nat, k ≤ s.size ∧ i = .int .i64 k ∧ Hid (∀ j (hj : j < s.size), j < k → digitB s[j].toNat = true)) (fun i => s.size - (intOf i).toNat)
    case atStart => exact ⟨0, by omega, rfl, fun j _ hj => by omega⟩
    case round =>
      obtain ⟨k, hk, rfl, HK⟩ := hrel
      by_cases hlt : k < s.size
      · cases hdg : digitB s[k].toNat
        · go_wp2_with (go_at_call 193; refine (digit_any _ _).mono ?_; rintro e w' ⟨rfl, rfl⟩)
          go_ret
          exact ⟨ret_int (by rw [looks_bad HN.out (digits_not hlt hdg)]; rfl), (Below.refl _ _).alloc (Nat.le_refl _) _⟩
        · go_wp2_with (go_at_call 193; refine (digit_any _ _).mono ?_; rintro e w' ⟨rfl, rfl⟩)
          go_round
          case rel => exact ⟨k + 1, by omega, by go_num, fun j hj hjk => by
            rcases Nat.lt_succ_iff_lt_or_eq.1 hjk with h | h
            · exact HK.out j hj h
            · subst h; exact hdg⟩
          case measure => simp [intOf]; omega
      · go_wp2
        go_ret
        exact ⟨ret_int (by rw [looks_good HN.out (digits_all fun j hj => HK.out j hj (by omega))]; rfl), (Below.refl _ _).alloc (Nat.le_refl _) _⟩

theorem looks_any (t : Nat) (s : ByteArray) (ln cl : Int) (w : World) (hs : s.size ≤ 8192) :
    Calls Tryz.prog 135 #[.agg #[.int .i64 t, .string s, .int .i64 ln, .int .i64 cl]] w fun e w' => e = .returned (.int .i64 (looksF t s.data.toList)) ∧ Below w.heap.size w w' := by
  by_cases h1 : t = 1
  · subst h1; exact looks_one s ln cl w hs
  by_cases h2 : t = 2
  · subst h2; exact looks_number s ln cl w hs
  have := looks_else t s ln cl w (by simp; omega) (by simp; omega)
  rw [looks_other (by omega) h2]
  exact this
end Go.Proofs.YteioennfpkoagaaGreatDoor
namespace Go.Proofs.YteioennfpkoagaaGreatDoor
open Go.RowKit

/- the program's state at the reference's -/
def absS (l : List UInt8) (r : RS) : St := if r.e ≠ 0 then .inr (r.e, r.ln, r.cl) else normP l r.at'
theorem abs_dead {l : List UInt8} {r : RS} (h : r.e ≠ 0) : absS l r = .inr (r.e, r.ln, r.cl) := if_pos h
theorem abs_live {l : List UInt8} {r : RS} (h : r.e = 0) : absS l r = normP l r.at' := if_neg (by simp [h])
theorem norm_ok {l : List UInt8} {k : Nat} (h : lk l k = 0) : normP l k = .inl k := if_pos h
theorem norm_bad {l : List UInt8} {k : Nat} (h : lk l k ≠ 0) : normP l k = .inr (lk l k, (tk l k).line, (tk l k).col) := if_neg h
theorem abs_fail (l : List UInt8) (r : RS) (er : Nat) (her : er ≠ 0) : absS l (failR l r er) = refP l er (absS l r) := by
  by_cases he : r.e = 0
  · have hf : failR l r er = ⟨r.at', if lk l r.at' ≠ 0 then lk l r.at' else er, (tk l r.at').line, (tk l r.at').col⟩ := if_neg (by simp [he])
    rw [hf, abs_live he]
    by_cases hl : lk l r.at' = 0
    · rw [norm_ok hl, if_neg (by simp [hl]), abs_dead (by simpa using her)]; rfl
    · rw [norm_bad hl, if_pos hl, abs_dead (by simpa using hl)]; rfl
  · have hf : failR l r er = r := if_pos he
    rw [hf, abs_dead he]; rfl
/- a word of the language: short, and no number -/
def okK (kw : List UInt8) : Bool := decide (kw.length ≤ 16) && (match kw with | [] => false | b :: _ => ! digitB b.toNat)
theorem sort_two (m : List UInt8) (h : (tokF m).2 = 2) : ∃ b t, m.take (tokF m).1 = b :: t ∧ digitB b.toNat = true := by
  cases m with
  | nil => simp [tokF] at h
  | cons b r =>
    have hp := tokF_pos (b :: r) (by simp)
    obtain ⟨q, hq⟩ : ∃ q, (tokF (b :: r)).1 = q + 1 := ⟨(tokF (b :: r)).1 - 1, by omega⟩
    refine ⟨b, r.take q, by rw [hq, List.take_succ_cons], ?_⟩
    simp only [tokF] at h
    split at h
    · simp at h
    split at h
    · assumption
    split at h
    · simp at h
    split at h <;> simp at h
theorem kw_look {l : List UInt8} {k : Nat} {kw : List UInt8} (hk : okK kw = true) (h : (tk l k).text = kw) : lk l k = 0 ∧ (tk l k).sort ≠ 0 := by
  have hs2 : (tk l k).sort ≠ 2 := by
    intro h2
    obtain ⟨b, t, e1, e2⟩ := sort_two (l.drop (pos l k)) h2
    have e3 : kw = b :: t := by rw [← h]; exact e1
    rw [e3] at hk; simp [okK, e2] at hk
  have hl : kw.length ≤ 16 := by simp [okK] at hk; exact hk.1
  refine ⟨?_, ?_⟩
  · unfold lk looksF
    rw [h]
    by_cases h1 : (tk l k).sort = 1
    · simp [h1]; omega
    · simp [h1, hs2]
  · intro h0
    have e : l.drop (pos l k) = [] := (tokF_sort _).2.1 h0
    have : (tk l k).text = [] := by show (l.drop (pos l k)).take _ = []; rw [e]; simp
    rw [this] at h; subst h; simp [okK] at hk
theorem at_abs (l : List UInt8) (r : RS) (kw : List UInt8) (hk : okK kw = true) : atP l kw (absS l r) = isR l r kw := by
  by_cases he : r.e = 0
  · rw [abs_live he]
    by_cases ht : (tk l r.at').text = kw
    · have := kw_look hk ht
      rw [norm_ok this.1]
      simp [atP, isR, he, ht, this.2]
    · have hi : isR l r kw = false := by simp [isR, ht]
      rw [hi]
      by_cases hl : lk l r.at' = 0
      · rw [norm_ok hl]; simp [atP, ht]
      · rw [norm_bad hl]; rfl
  · rw [abs_dead he]; simp [atP, isR, he]
theorem is_adv {l : List UInt8} {r : RS} {kw : List UInt8} (hk : okK kw = true) (h : isR l r kw = true) : absS l (nextR r) = advP l (absS l r) := by
  have he := isR_e h
  have ht : (tk l r.at').text = kw := by simp [isR] at h; exact h.2.2
  rw [abs_live (by exact he), abs_live he, norm_ok (kw_look hk ht).1]; rfl
theorem exp_abs (l : List UInt8) (r : RS) (kw : List UInt8) (hk : okK kw = true) : expP l kw (absS l r) = absS l (mustR l r [kw]) := by
  unfold expP
  rw [at_abs l r kw hk]
  by_cases h : isR l r kw = true
  · rw [if_pos h, mustR_one h, is_adv hk h]
  · rw [if_neg h]
    have : mustR l r [kw] = failR l r 1 := by simp [mustR, h]
    rw [this, abs_fail l r 1 (by decide)]
theorem mustR_two (l : List UInt8) (r : RS) (a b : List UInt8) : mustR l r [a, b] = mustR l (mustR l r [a]) [b] := by
  by_cases h : isR l r a = true
  · simp [mustR, h]
  · have hd : (failR l r 1).e ≠ 0 := by
      unfold failR; split
      · assumption
      · simp only []; split
        · assumption
        · simp
    have h2 : isR l (failR l r 1) b = false := by simp [isR, hd]
    have h3 : failR l (failR l r 1) 1 = failR l r 1 := by
      generalize failR l r 1 = x at *
      unfold failR; rw [if_pos hd]
    simp [mustR, h, h2, h3]
/- a token of a sort -/
theorem kind_sort (t : Tok) (s : Nat) (hs : s = 1 ∨ s = 2) : kindT t = s ↔ t.sort = s := by
  unfold kindT; split
  · omega
  split <;> omega
theorem word_abs (l : List UInt8) (r : RS) : (wordP l (absS l r)).2 = absS l (someR l r 1).2 ∧ ((someR l r 1).2.e = 0 → ∃ k, absS l r = .inl k ∧ (wordP l (absS l r)).1 = (someR l r 1).1) := by
  by_cases he : r.e = 0
  · rw [abs_live he]
    have hs : someR l r 1 = if (tk l r.at').sort ≠ 1 ∨ lk l r.at' ≠ 0 then ([], failR l r 1) else ((tk l r.at').text, nextR r) := if_neg (by simp [he])
    by_cases hl : lk l r.at' = 0
    · rw [norm_ok hl]
      by_cases hq : (tk l r.at').sort = 1
      · have h2 : wordP l (.inl r.at') = ((tk l r.at').text, normP l (r.at' + 1)) := by simp only [wordP]; rw [if_pos ((kind_sort _ 1 (by simp)).2 hq)]
        rw [hs, if_neg (by simp [hq, hl]), h2]
        exact ⟨(abs_live (r := nextR r) he).symm, fun _ => ⟨_, rfl, rfl⟩⟩
      · have h2 : wordP l (.inl r.at') = ([], badP l r.at' 1) := by simp only [wordP]; rw [if_neg (fun h => hq ((kind_sort _ 1 (by simp)).1 h))]
        rw [hs, if_pos (.inl hq), h2]
        refine ⟨?_, fun h => ?_⟩
        · rw [abs_fail l r 1 (by decide), abs_live he, norm_ok hl]; rfl
        · exact absurd h (by unfold failR; rw [if_neg (by simp [he])]; simp [hl])
    · rw [norm_bad hl, hs, if_pos (.inr hl)]
      refine ⟨?_, fun h => ?_⟩
      · rw [abs_fail l r 1 (by decide), abs_live he, norm_bad hl]; rfl
      · exact absurd h (by unfold failR; rw [if_neg (by simp [he])]; simp [hl])
  · have hs : someR l r 1 = ([], r) := if_pos he
    rw [abs_dead he, hs]
    exact ⟨(abs_dead he).symm, fun h => absurd h he⟩
theorem num_abs (l : List UInt8) (r : RS) : (numP l (absS l r)).2 = absS l (numberR l r).2 ∧ ((numberR l r).2.e = 0 → ∃ k, absS l r = .inl k ∧ (numP l (absS l r)).1 = (numberR l r).1) := by
  unfold numberR
  by_cases he : r.e = 0
  · rw [abs_live he]
    have hs : someR l r 2 = if (tk l r.at').sort ≠ 2 ∨ lk l r.at' ≠ 0 then ([], failR l r 1) else ((tk l r.at').text, nextR r) := if_neg (by simp [he])
    by_cases hl : lk l r.at' = 0
    · rw [norm_ok hl]
      by_cases hq : (tk l r.at').sort = 2
      · have h2 : numP l (.inl r.at') = (valF (tk l r.at').text, normP l (r.at' + 1)) := by simp only [numP]; rw [if_pos ((kind_sort _ 2 (by simp)).2 hq)]
        rw [hs, if_neg (by simp [hq, hl]), h2]
        exact ⟨(abs_live (r := nextR r) he).symm, fun _ => ⟨_, rfl, rfl⟩⟩
      · have h2 : numP l (.inl r.at') = (0, badP l r.at' 1) := by simp only [numP]; rw [if_neg (fun h => hq ((kind_sort _ 2 (by simp)).1 h))]
        rw [hs, if_pos (.inl hq), h2]
        refine ⟨?_, fun h => ?_⟩
        · rw [abs_fail l r 1 (by decide), abs_live he, norm_ok hl]; rfl
        · exact absurd h (by show (failR l r 1).e ≠ 0; unfold failR; rw [if_neg (by simp [he])]; simp [hl])
    · rw [norm_bad hl, hs, if_pos (.inr hl)]
      refine ⟨?_, fun h => ?_⟩
      · rw [abs_fail l r 1 (by decide), abs_live he, norm_bad hl]; rfl
      · exact absurd h (by show (failR l r 1).e ≠ 0; unfold failR; rw [if_neg (by simp [he])]; simp [hl])
  · have hs : someR l r 2 = ([], r) := if_pos he
    rw [abs_dead he, hs]
    exact ⟨(abs_dead he).symm, fun h => absurd h he⟩
theorem cho_abs (l : List UInt8) (r : RS) (i : Nat) (kws : List (List UInt8)) (hk : ∀ kw ∈ kws, okK kw = true) : choP l (absS l r) i kws = ((oneOfR l r i kws).1, absS l (oneOfR l r i kws).2) := by
  induction kws generalizing i with
  | nil => simp only [choP, oneOfR]; rw [abs_fail l r 1 (by decide)]
  | cons kw t ih =>
    simp only [choP, oneOfR]
    have h1 := hk kw (by simp)
    rw [at_abs l r kw h1]
    by_cases h : isR l r kw = true
    · rw [if_pos h, if_pos h, is_adv h1 h]
    · rw [if_neg h, if_neg h]; exact ih (i + 1) (fun x hx => hk x (by simp [hx]))
theorem long_word {l : List UInt8} {k : Nat} (h1 : (tk l k).sort = 1) : lk l k = if 16 < (tk l k).text.length then 3 else 0 := by
  unfold lk looksF; simp [h1]
theorem plc_abs (l : List UInt8) (r : RS) (names : List (List UInt8)) (hn : ∀ nm ∈ names, nm.length ≤ 16) : (plcP l names (absS l r)).2 = absS l (endR l r names).2 ∧ ((endR l r names).2.e = 0 → ∃ k, absS l r = .inl k ∧ (plcP l names (absS l r)).1 = (endR l r names).1) := by
  by_cases he : r.e = 0
  · have hs : endR l r names = endGo l r 0 names := if_neg (by simp [he])
    rw [hs, abs_live he]
    by_cases hl : lk l r.at' = 0
    · rw [norm_ok hl]
      have key : ∀ (i : Nat) (ns : List (List UInt8)), (if kindT (tk l r.at') = 1 then plcGo l r.at' i ns else (0, badP l r.at' 1)) = ((endGo l r i ns).1, absS l (endGo l r i ns).2) := by
        intro i ns
        induction ns generalizing i with
        | nil =>
          simp only [plcGo, endGo]
          by_cases hq : (tk l r.at').sort = 1
          · rw [if_pos ((kind_sort _ 1 (by simp)).2 hq), if_pos hq, abs_fail l r 4 (by decide), abs_live he, norm_ok hl]; rfl
          · rw [if_neg (fun h => hq ((kind_sort _ 1 (by simp)).1 h)), if_neg hq, abs_fail l r 1 (by decide), abs_live he, norm_ok hl]; rfl
        | cons a t ih =>
          simp only [plcGo, endGo]
          by_cases hq : (tk l r.at').sort = 1
          · rw [if_pos ((kind_sort _ 1 (by simp)).2 hq)]
            by_cases ha : a = (tk l r.at').text
            · rw [if_pos ha, if_pos ⟨hq, ha⟩, abs_live (by exact he)]; rfl
            · rw [if_neg ha, if_neg (by simp [ha]), ← ih (i + 1), if_pos ((kind_sort _ 1 (by simp)).2 hq)]
          · rw [if_neg (fun h => hq ((kind_sort _ 1 (by simp)).1 h)), if_neg (by simp [hq]), ← ih (i + 1), if_neg (fun h => hq ((kind_sort _ 1 (by simp)).1 h))]
      have h2 : plcP l names (.inl r.at') = ((endGo l r 0 names).1, absS l (endGo l r 0 names).2) := key 0 names
      rw [h2]
      exact ⟨rfl, fun _ => ⟨_, rfl, rfl⟩⟩
    · rw [norm_bad hl]
      have key : ∀ (i : Nat) (ns : List (List UInt8)), (∀ nm ∈ ns, nm.length ≤ 16) → (endGo l r i ns).2 = ⟨r.at', lk l r.at', (tk l r.at').line, (tk l r.at').col⟩ := by
        intro i ns
        induction ns generalizing i with
        | nil => intro _; simp only [endGo]; unfold failR; rw [if_neg (by simp [he]), if_pos hl]
        | cons a t ih =>
          intro hb
          simp only [endGo]
          rw [if_neg ?_]
          · exact ih (i + 1) (fun x hx => hb x (by simp [hx]))
          · rintro ⟨h1, h2⟩
            have := hb a (by simp)
            rw [long_word h1, if_neg (by rw [← h2]; omega)] at hl
            exact hl rfl
      rw [key 0 names hn, abs_dead (by exact hl)]
      exact ⟨rfl, fun h => absurd h hl⟩
  · have hs : endR l r names = (0, r) := if_pos he
    rw [abs_dead he, hs]
    exact ⟨(abs_dead he).symm, fun h => absurd h he⟩
/- the end -/
theorem end_text (l : List UInt8) (k : Nat) : (tk l k).text = [] ↔ (tk l k).sort = 0 := by
  constructor
  · intro h
    have h1 : (l.drop (pos l k)).take (tokF (l.drop (pos l k))).1 = [] := h
    by_cases he : l.drop (pos l k) = []
    · exact (tokF_sort _).2.2 he
    · have := tokF_pos _ he
      have h2 := congrArg List.length h1
      have h3 : 1 ≤ (l.drop (pos l k)).length := by
        rcases hx : l.drop (pos l k) with _ | ⟨a, t⟩
        · exact absurd hx he
        · simp
      rw [List.length_take] at h2
      simp only [List.length_nil] at h2
      omega
  · intro h
    have e : l.drop (pos l k) = [] := (tokF_sort _).2.1 h
    show (l.drop (pos l k)).take _ = []; rw [e]; simp
theorem pos_stay (l : List UInt8) (k : Nat) (h : pos l k = l.length) : pos l (k + 1) = l.length := by
  have h1 := pos_le l (k + 1)
  have : pos l k ≤ pos l (k + 1) := by simp only [pos]; omega
  omega
theorem final_ok (l : List UInt8) (r : RS) (he : r.e = 0) (hs : (tk l r.at').sort = 0) : expP l [] (absS l r) = (.inl (r.at' + 1) : St) := by
  rw [abs_live he, norm_ok (lk_end l _ hs)]
  have h2 : atP l [] (.inl r.at') = true := by simp [atP, (end_text l _).2 hs]
  unfold expP; rw [if_pos h2]
  show normP l (r.at' + 1) = _
  exact norm_ok (lk_end l _ ((tk_end l _).2 (pos_stay l _ ((tk_end l _).1 hs))))
theorem final_bad (l : List UInt8) (r : RS) (he : r.e = 0) (hs : (tk l r.at').sort ≠ 0) : expP l [] (absS l r) = absS l (failR l r 1) := by
  rw [abs_fail l r 1 (by decide)]
  have h2 : atP l [] (absS l r) = false := by
    rw [abs_live he]
    by_cases hl : lk l r.at' = 0
    · rw [norm_ok hl]; simp [atP, end_text, hs]
    · rw [norm_bad hl]; rfl
  unfold expP; rw [if_neg (by simp [h2])]
theorem final_dead (l : List UInt8) (r : RS) (he : r.e ≠ 0) : expP l [] (absS l r) = absS l r := by
  rw [abs_dead he]; rfl
theorem fail_e (l : List UInt8) (r : RS) : (failR l r 1).e ≠ 0 := by
  unfold failR; split
  · assumption
  · simp only []; split
    · assumption
    · simp
theorem pos_mono (l : List UInt8) (j k : Nat) (h : j ≤ k) : pos l j ≤ pos l k := by
  induction k with
  | zero => have : j = 0 := by omega
            subst this; exact Nat.le_refl _
  | succ k ih =>
    rcases Nat.lt_or_ge j (k + 1) with h' | h'
    · have h1 := ih (by omega)
      have : pos l k ≤ pos l (k + 1) := by simp only [pos]; omega
      omega
    · have : j = k + 1 := by omega
      subst this; exact Nat.le_refl _
theorem is_lt {l : List UInt8} {N : Nat} {r : RS} {kw : List UInt8} (hN : TokN l N) (h : isR l r kw = true) : r.at' < N := by
  have hs : (tk l r.at').sort ≠ 0 := by simp [isR] at h; exact h.2.1
  rcases Nat.lt_or_ge r.at' N with h' | h'
  · exact h'
  · have h1 := pos_mono l (N - 1) r.at' (by omega)
    have h2 := pos_le l r.at'
    rw [hN.2.1] at h1
    exact absurd ((tk_end l _).2 (by omega)) hs
theorem tokN_ex (l : List UInt8) : ∃ N, TokN l N ∧ N ≤ l.length + 1 := by
  have key : ∀ m, (∃ N, TokN l N ∧ N ≤ m) ∨ ∀ j, j < m → pos l j < l.length := by
    intro m
    induction m with
    | zero => right; intro j hj; omega
    | succ m ih =>
      rcases ih with ⟨N, h1, h2⟩ | h
      · exact .inl ⟨N, h1, by omega⟩
      · have h3 := pos_le l m
        by_cases he : pos l m = l.length
        · exact .inl ⟨m + 1, ⟨by omega, he, fun j hj => h j (by omega)⟩, Nat.le_refl _⟩
        · right; intro j hj
          rcases Nat.lt_or_ge j m with h' | h'
          · exact h j h'
          · have : j = m := by omega
            subst this; omega
  rcases key (l.length + 1) with h | h
  · exact h
  · have h1 := pos_ge l l.length (fun j hj => h j (by omega))
    have h2 := h l.length (by omega)
    omega
theorem tokN_eq {l : List UInt8} {N M : Nat} (h : TokN l N) (k : TokN l M) : N = M := by
  rcases Nat.lt_trichotomy N M with h' | h' | h'
  · have := k.2.2 (N - 1) (by have := h.1; omega)
    rw [h.2.1] at this; omega
  · exact h'
  · have := h.2.2 (M - 1) (by have := k.1; omega)
    rw [k.2.1] at this; omega
end Go.Proofs.YteioennfpkoagaaGreatDoor
