import Derived.Test.YteioennfpkoagaaGreatDoorRefE
namespace Go.Proofs.YteioennfpkoagaaGreatDoor
open Go.RowKit
attribute [local go_sem ↓] Go.wp_at_zero Go.wp_at_succ

theorem isR_sort {l : List UInt8} {r : RS} {kw : List UInt8} (h : isR l r kw = true) : (tk l r.at').sort ≠ 0 := by
  simp [isR] at h; exact h.2.1
theorem words_end (s : ByteArray) (cur : List UInt8) (k : Nat) (h : s.size ≤ k) : wordsF cur (s.data.toList.drop k) = [cur] := by
  rw [List.drop_eq_nil_of_le (by simpa using h)]; rfl
theorem words_blank (s : ByteArray) (cur : List UInt8) (k : Nat) (h : k < s.size) (hb : s[k].toNat = 32) : wordsF cur (s.data.toList.drop k) = cur :: wordsF [] (s.data.toList.drop (k + 1)) := by
  rw [drop_cons s k h]; simp [wordsF, hb]
theorem words_in (s : ByteArray) (f k : Nat) (hf : f ≤ k) (h : k < s.size) (hb : ¬ s[k].toNat = 32) : wordsF ((s.data.toList.drop f).take (k - f)) (s.data.toList.drop k) = wordsF ((s.data.toList.drop f).take (k + 1 - f)) (s.data.toList.drop (k + 1)) := by
  have e : (s.data.toList.drop f).take (k + 1 - f) = (s.data.toList.drop f).take (k - f) ++ [s[k]] := by
    have : k + 1 - f = (k - f) + 1 := by omega
    rw [this, List.take_succ_eq_append_getElem (by simp; omega)]
    have e2 : (s.data.toList.drop f)[k - f]'(by simp; omega) = s[k] := by
      rw [List.getElem_drop]
      have : f + (k - f) = k := by omega
      simp only [this]
      rfl
    rw [e2]
  rw [e, drop_cons s k h]
  simp [wordsF, hb]
theorem extract_seg (s : ByteArray) (f k : Nat) (_h : f ≤ k) : (s.extract f k).data.toList = (s.data.toList.drop f).take (k - f) := by
  simp [ByteArray.data_extract, Array.toList_extract, List.extract_eq_take_drop]

def MustRel (l : List UInt8) (s : ByteArray) (fin : RS) (f k : Nat) (r : RS) : Prop :=
  (k ≤ s.size ∧ fin = mustR l r (wordsF ((s.data.toList.drop f).take (k - f)) (s.data.toList.drop k))) ∨ (k = s.size + 1 ∧ fin = r)

theorem must_yes {l : List UInt8} {s : ByteArray} {fin r : RS} {f k : Nat} (h : MustRel l s fin f k r) (hk : k ≤ s.size) (hc : k = s.size ∨ ∃ h : k < s.size, s[k].toNat = 32) (hi : isR l r ((s.data.toList.drop f).take (k - f)) = true) : MustRel l s fin (k + 1) (k + 1) (nextR r) := by
  rcases h with ⟨_, h⟩ | ⟨h, _⟩
  · rcases hc with rfl | ⟨hlt, hb⟩
    · right
      rw [words_end _ _ _ (Nat.le_refl _)] at h
      simp only [mustR, hi, if_true] at h
      exact ⟨rfl, h⟩
    · left
      rw [words_blank _ _ _ hlt hb] at h
      simp only [mustR, hi, if_true] at h
      refine ⟨hlt, ?_⟩
      simpa using h
  · omega
theorem must_no {l : List UInt8} {s : ByteArray} {fin r : RS} {f k : Nat} (h : MustRel l s fin f k r) (hk : k ≤ s.size) (hc : k = s.size ∨ ∃ h : k < s.size, s[k].toNat = 32) (hi : isR l r ((s.data.toList.drop f).take (k - f)) = false) : fin = failR l r 1 := by
  rcases h with ⟨_, h⟩ | ⟨h, _⟩
  · rcases hc with rfl | ⟨hlt, hb⟩
    · rw [words_end _ _ _ (Nat.le_refl _)] at h
      simpa [mustR, hi] using h
    · rw [words_blank _ _ _ hlt hb] at h
      simpa [mustR, hi] using h
  · omega
theorem must_on {l : List UInt8} {s : ByteArray} {fin r : RS} {f k : Nat} (h : MustRel l s fin f k r) (hf : f ≤ k) (hlt : k < s.size) (hb : ¬ s[k].toNat = 32) : MustRel l s fin f (k + 1) r := by
  rcases h with ⟨_, h⟩ | ⟨h, _⟩
  · left; exact ⟨hlt, by rw [← words_in s f k hf hlt hb]; exact h⟩
  · omega

set_option maxRecDepth 100000 in
set_option maxHeartbeats 400000 in
theorem must_any (w : World) (b g N cap : Nat) (l : List UInt8) (r : RS) (s : ByteArray) (h : RdOK w b g N cap l r) (hs : s.size ≤ 100) (hlen : l.length ≤ 8192) (hn : pos l (N - 1) = l.length) (hN : N ≤ 8193) :
    Calls Tryz.prog 79 #[.pointer (some ⟨b, 0, none⟩), .string s] w fun e w' => e = .returned (.tuple #[]) ∧ RdOK w' b g N cap l (mustR l r (wordsF [] s.data.toList)) ∧ w.grownBy w' (some b) := by
  generalize hfin : mustR l r (wordsF [] s.data.toList) = fin
  have HM0 : MustRel l s fin 0 0 r := .inl ⟨by omega, by simpa using hfin.symm⟩
  clear hfin
  go_enter Tryz.func79, Tryz.ntmps79
  go_wp2_with fail
  go_loopw [4, 5] (fun f i wr => ∃ (k fr : Nat) (r1 : RS), i = .int .i64 k ∧ f = .int .i64 fr ∧ fr ≤ k ∧ k ≤ s.size + 1 ∧ MustRel l s fin fr k r1 ∧ RdOK wr b g N cap l r1 ∧ w.grownBy wr (some b)) (fun _ i _ => s.size + 1 - (intOf i).toNat)
  case atStart => exact ⟨0, 0, r, rfl, rfl, Nat.le_refl _, by omega, HM0, h, grown_refl _ _⟩
  case round =>
    obtain ⟨k, fr, r1, rfl, rfl, hfk, hk, HM, hr, hg⟩ := hrel
    clear HM0 h
    by_cases hkk : k ≤ s.size
    · have hNX := hr.next hn
      have c1 := hr.c1
      have f1 := hr.fz 1
      have hfk' : (fr : Int) ≤ (k : Int) := by omega
      have hfk0 : (0 : Int) ≤ (fr : Int) := by omega
      have hkk' : (k : Int) ≤ (s.size : Int) := by omega
      have hsplit : (Hid (k = s.size ∨ ∃ h : k < s.size, s[k].toNat = 32) ∧ (((k : Int) == (s.size : Int)) = true ∨ ((k : Int) == (s.size : Int)) = false ∧ ∃ h : k < s.size, ((s[k].toNat : Int) == 32) = true)) ∨ (((k : Int) == (s.size : Int)) = false ∧ ∃ h : k < s.size, ((s[k].toNat : Int) == 32) = false) := by
        by_cases hend : k = s.size
        · left; exact ⟨.inl hend, .inl (by simp; omega)⟩
        · by_cases h32 : s[k].toNat = 32
          · left; exact ⟨.inr ⟨by omega, h32⟩, .inr ⟨by simp; omega, by omega, by simp; omega⟩⟩
          · right; exact ⟨by simp; omega, by omega, by simp; omega⟩
      rcases hsplit with ⟨HC, hq⟩ | ⟨hq, hlt, hb32⟩
      · have hseg := extract_seg s fr k hfk
        have HSG : Hid _ := hseg
        clear hseg
        rcases hq with hq | ⟨hq, hlt, hb32⟩
        all_goals
          go_wp2_with fail
          refine (is_any wr b g N cap l r1 _ hr).mono ?_
          rintro e w2 ⟨rfl, q, rfl⟩
          rw [HSG.out]
          have hr2 := hr.drewN q
          have hg2 := grown_trans hg (grown_drewN wr q _)
          cases hi : isR l r1 ((s.data.toList.drop fr).take (k - fr))
          · go_wp2_with fail
            refine (fail_any _ b g N cap l r1 1 hr2 hlen).mono ?_
            rintro e w3 ⟨rfl, hr3, hg3⟩
            go_wp2_with fail
            go_returns
            rw [must_no HM hkk HC.out hi]
            exact ⟨rfl, hr3, grown_trans hg2 hg3⟩
          · have hat := hNX (isR_sort hi)
            go_wp2_with fail
            go_roundw
            case rel => exact ⟨k + 1, k + 1, nextR r1, by go_num, by go_num, Nat.le_refl _, by omega, must_yes HM hkk HC.out hi, by exact hr2.setAt (r1.at' + 1) hat, grown_trans hg2 (grown_set _ _ _ _)⟩
            case measure => simp [intOf]; omega
      · go_wp2_with fail
        go_roundw
        case rel => exact ⟨k + 1, fr, r1, by go_num, rfl, by omega, by omega, must_on HM hfk hlt (byteF (c := 32) hb32), hr, hg⟩
        case measure => simp [intOf]; omega
    · go_wp2_with fail
      go_returns
      rcases HM with ⟨h1, _⟩ | ⟨_, h2⟩
      · omega
      · rw [h2]; exact ⟨rfl, hr, hg⟩
end Go.Proofs.YteioennfpkoagaaGreatDoor
