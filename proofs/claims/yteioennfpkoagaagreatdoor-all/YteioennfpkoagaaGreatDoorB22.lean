import Derived.Test.YteioennfpkoagaaGreatDoorB21
import Derived.Test.YteioennfpkoagaaGreatDoorShelf
import Derived.Test.YteioennfpkoagaaGreatDoorB06
import Derived.Shelf.RegionOpenPlain
import Derived.Lib.UnsafeStr
namespace Go.Proofs.YteioennfpkoagaaGreatDoor.C
open Go.RowKit
attribute [local go_sem ↓] Go.wp_at_zero Go.wp_at_succ

theorem BF.below {B b : Nat} {bs : List Value} {w w' : World} (h : BF B b bs w) (hb : Below w.heap.size w w') : BF B b bs w' := by
  have go : ∀ {p : Value}, Lib.BuilderAtF 124 5 B b p bs w → Lib.BuilderAtF 124 5 B b p bs w' := by
    intro p hp
    obtain ⟨hB, v, hbk, hown, hne⟩ := hp
    refine ⟨hB, v, (hb.block _ (lt_of_blk hbk)).trans hbk, ⟨hown.1, ?_⟩, hne⟩
    rcases hown.2 with h | ⟨g, cap, cur, fz, h1, h2, h3, h4⟩
    · exact .inl h
    · exact .inr ⟨g, cap, cur, fz, h1, h2, (hb.block _ (lt_of_blk h3)).trans h3, h4⟩
  rcases h with h | h
  · exact .inl (go h)
  · exact .inr (go h)
theorem Oth.below {b : Nat} {w w' : World} (hb : Below w.heap.size w w') : Oth b w w' := fun _k _o hk _ _ => (hb.block _ (lt_of_blk hk)).trans hk
theorem Oth.trans {b : Nat} {w1 w2 w3 : World} (h : Oth b w1 w2) (k : Oth b w2 w3) : Oth b w1 w3 := Lib.OthersKept.trans h k
theorem Oth.blk {b k : Nat} {w w' : World} {cs : Array Value} {t : TypeId} {fr : Nat × Nat} (h : Oth b w w') (hk : w.heap[k]? = some (.cells cs t fr)) (h1 : k ≠ b) (h2 : t ≠ 5) : w'.heap[k]? = some (.cells cs t fr) :=
  h k _ hk (by simpa using h1) (fun c fz e => by injection e with _ e2 _; exact h2 e2)
/- the printer in the midst of its work: l is what it has written -/
def PS (W0 : World) (pb : Nat) (l : List UInt8) (w : World) : Prop := Below W0.heap.size W0 w ∧ BF W0.heap.size pb (Lib.byteCells l) w
theorem PS.below {W0 w w' : World} {pb : Nat} {l : List UInt8} (h : PS W0 pb l w) (hb : Below w.heap.size w w') : PS W0 pb l w' := ⟨h.1.trans (hb.mono h.1.size), h.2.below hb⟩
theorem PS.lt {W0 w : World} {pb : Nat} {l : List UInt8} (h : PS W0 pb l w) : pb < w.heap.size := by
  rcases h.2 with h | h
  · exact h.lt
  · exact h.lt

/- the table of powers of ten, as the program's text lays it -/
def TB (w : World) : Prop := Lib.TabIs Tryz.prog w "internal/strconv.uint64pow10" .u64 Lib.pow10Tab
theorem TB.below {w w' : World} (h : TB w) (hb : Below w.heap.size w w') : TB w' := by
  unfold TB Lib.TabIs World.var? at *
  cases hg : Tryz.prog.globalNamed "internal/strconv.uint64pow10" with
  | none => rw [hg] at h; simp at h
  | some g =>
    rw [hg] at h
    simp only [Option.bind_some] at h ⊢
    have hlt : g < w.heap.size := by
      rcases Nat.lt_or_ge g w.heap.size with h' | h'
      · exact h'
      · rw [Array.getElem?_eq_none h'] at h; cases h
    rw [hb.block g hlt]; exact h
theorem digits_one (n : Nat) (h : n < 10) : Lib.decDigits n = [dig n] := by rw [Lib.decDigits, dif_pos h]; rfl
theorem digits_more (n : Nat) (h : ¬ n < 10) : Lib.decDigits n = Lib.decDigits (n / 10) ++ [dig (n % 10)] := by rw [Lib.decDigits, dif_neg h]; rfl
theorem digits_dec : ∀ (k n : Nat), n < 10 ^ (k + 1) → Lib.decDigits n = decG (k + 1) n := by
  intro k
  induction k with
  | zero =>
    intro n h
    have h' : n < 10 := by simpa using h
    rw [digits_one n h']
    simp only [decG]
    rw [if_pos h']
  | succ k ih =>
    intro n h
    by_cases h' : n < 10
    · rw [digits_one n h']
      simp only [decG]
      rw [if_pos h']
    · rw [digits_more n h', ih (n / 10) (by rw [Nat.pow_succ] at h; omega)]
      conv => rhs; unfold decG
      rw [if_neg h']
theorem itoa_dec {n : Int} (h : 0 ≤ n ∧ n ≤ 999) : Lib.itoa n = decF n := by
  unfold Lib.itoa decF
  rw [if_neg (by omega), digits_dec 2 n.toNat (by have : (10 : Nat) ^ (2 + 1) = 1000 := rfl
                                                  omega)]
theorem below_grow (w : World) (k : Nat) (os : Array Obj) : Below w.heap.size w (Go.Sort.grow (w.drewN k) os) := by
  refine ⟨rfl, rfl, rfl, ?_, fun b hb => ?_⟩
  · show w.heap.size ≤ (w.heap ++ os).size; simp
  · show (w.heap ++ os)[b]? = w.heap[b]?; rw [Array.getElem?_append_left hb]
theorem itoa_any (n : Int) (w : World) (h : 0 ≤ n ∧ n ≤ 999) (ht : TB w) :
    Calls Tryz.prog 104 #[.int .i64 n] w fun e w' => e = .returned (.string (ba (decF n))) ∧ Below w.heap.size w w' := by
  refine (Any.strconv_Itoa Tryz.laysM171 n (by omega) (by omega) w ht).mono ?_
  rintro e w' ⟨rfl, k, os, rfl⟩
  exact ⟨by rw [itoa_dec h]; rfl, below_grow w k os⟩
/- strings.Join -/
def joinL (xs : List ByteArray) : List UInt8 := Lib.join (xs.map (·.data.toList)) [32]
theorem join_any (bk c : Nat) (xs : List ByteArray) (w : World) (hcells : ∀ (j : Nat) x, xs[j]? = some x → w.cell? ⟨bk, j, none⟩ = some (.string x)) (hbk : bk < w.heap.size) (hN : xs.length ≤ 100) (hcap : xs.length ≤ c) (hlen : (joinL xs).length ≤ 140737488355328) :
    Calls Tryz.prog 166 #[.slice (some ⟨bk, 0, none⟩) xs.length c, .string ⟨#[32]⟩] w fun e w' => e = .returned (.string (ba (joinL xs))) ∧ Below w.heap.size w w' :=
  Any.strings_Join Tryz.lays156 Tryz.Builder_Extra_156 bk 0 c xs ⟨#[32]⟩ w (fun j x h => by rw [Nat.zero_add]; exact hcells j x h) hbk (by omega) hcap hlen

/- the word for a number -/
def wordF : List (ByteArray × Int) → Int → ByteArray
  | [], _ => ⟨#[]⟩
  | o :: r, n => if o.2 = n then o.1 else wordF r n
set_option maxRecDepth 100000 in
set_option maxHeartbeats 1000000 in
theorem wordFor_any (os : List (ByteArray × Int)) (v : Value) (n : Int) (w : World) (hv : OptsV w v os) (hl : os.length ≤ 9) :
    Calls Tryz.prog 168 #[v, .int .i64 n] w fun e w' => e = .returned (.string (wordF os n)) ∧ Below w.heap.size w w' := by
  obtain ⟨va, cap, rfl, hc⟩ := hv
  have HC : Hid _ := hc
  clear hc
  generalize hfin : wordF os n = fin
  have HF : Hid (fin = wordF (os.drop 0) n) := hfin.symm
  clear hfin
  go_enter Tryz.func168, Tryz.ntmps168
  go_wp2_with fail
  go_loopw [9] (fun i wr => ∃ (k : Nat), i = .int .i64 k ∧ k ≤ os.length ∧ Hid (fin = wordF (os.drop k) n) ∧ Below w.heap.size w wr) (fun i _ => os.length - (intOf i).toNat)
  case atStart => exact ⟨0, rfl, by omega, HF, Below.refl _ _⟩
  case round =>
    obtain ⟨k, rfl, hk, HK, hbel⟩ := hrel
    clear HF
    by_cases hlt : k < os.length
    · have hlt' : (k : Int) < (os.length : Int) := by omega
      have hk0 : (0 : Int) ≤ (k : Int) := by omega
      obtain ⟨b, off, rfl, c0, c1⟩ := HC.out k hlt
      have hbl := World.block_lt_of_cell? w _ c0
      have d0 := (hbel.cell (by exact hbl)).trans c0
      have d1 := (hbel.cell (by exact hbl)).trans c1
      clear c0 c1
      have HD : Hid (os.drop k = os[k] :: os.drop (k + 1)) := List.drop_eq_getElem_cons hlt
      generalize os[k] = o at *
      cases he : (o.2 == n)
      · have HX : Hid (fin = wordF (os.drop (k + 1)) n) := by
          have h1 := HK.out
          rw [HD.out] at h1
          simp only [wordF] at h1
          rw [if_neg (by simpa using he)] at h1
          exact h1
        go_wp2_with fail
        go_roundw
        case rel => exact ⟨k + 1, by go_num, by omega, HX, hbel.alloc hbel.size _⟩
        case measure => simp [intOf]; omega
      · have HX : Hid (fin = o.1) := by
          have h1 := HK.out
          rw [HD.out] at h1
          simp only [wordF] at h1
          rw [if_pos (by simpa using he)] at h1
          exact h1
        go_wp2_with fail
        go_ret
        exact ⟨by rw [HX.out]; rfl, hbel.alloc hbel.size _⟩
    · have hlt' : ¬ (k : Int) < (os.length : Int) := by omega
      have HX : Hid (fin = ⟨#[]⟩) := by have := HK.out; rw [List.drop_eq_nil_of_le (by omega)] at this; exact this
      go_wp2_with fail
      go_ret
      exact ⟨by rw [HX.out]; rfl, hbel⟩
theorem word_act {n : Int} (h1 : 1 ≤ n) (h2 : n ≤ 3) : wordF actL n = ba (actW n.toNat) := by
  have : n = 1 ∨ n = 2 ∨ n = 3 := by omega
  rcases this with rfl | rfl | rfl <;> rfl
theorem word_right {n : Int} (h1 : 1 ≤ n) (h2 : n ≤ 2) : wordF rightL n = ba (rightW n.toNat) := by
  have : n = 1 ∨ n = 2 := by omega
  rcases this with rfl | rfl <;> rfl
theorem word_kind {n : Int} (h1 : 1 ≤ n) (h2 : n ≤ 2) : wordF kindL n = ba (kindW n.toNat) := by
  have : n = 1 ∨ n = 2 := by omega
  rcases this with rfl | rfl <;> rfl
end Go.Proofs.YteioennfpkoagaaGreatDoor.C
