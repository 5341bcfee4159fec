import Derived.Test.YteioennfpkoagaaGreatDoorG34
import Derived.Test.YteioennfpkoagaaGreatDoorShelf
import Derived.Test.YteioennfpkoagaaGreatDoorG03
import Derived.Shelf.RegionOpenPlain
import Derived.Lib.UnsafeStr
namespace Go.Proofs.YteioennfpkoagaaGreatDoor.C
open Go.RowKit
attribute [local go_sem ↓] Go.wp_at_zero Go.wp_at_succ

theorem BF.below {B b : Nat} {bs : List Value} {w w' : World} (h : BF B b bs w) (hb : Below w.heap.size w w') : BF B b bs w' := by
  have go : ∀ {p : Value}, Lib.BuilderAtF 124 5 B b p bs w → Lib.BuilderAtF 124 5 B b p bs w' := by
    intro p hp
    obtain ⟨hB, v, hbk, hown, hne⟩ := hp
    refine ⟨hB, v, (hb.block _ (lt_of_blk hbk)).trans hbk, ⟨hown.1, ?_⟩, hne⟩
    rcases hown.2 with h | ⟨g, cap, cur, fz, h1, h2, h3, h4⟩
    · exact .inl h
    · exact .inr ⟨g, cap, cur, fz, h1, h2, (hb.block _ (lt_of_blk h3)).trans h3, h4⟩
  rcases h with h | h
  · exact .inl (go h)
  · exact .inr (go h)
theorem Oth.below {b : Nat} {w w' : World} (hb : Below w.heap.size w w') : Oth b w w' := fun _k _o hk _ _ => (hb.block _ (lt_of_blk hk)).trans hk
theorem Oth.trans {b : Nat} {w1 w2 w3 : World} (h : Oth b w1 w2) (k : Oth b w2 w3) : Oth b w1 w3 := Lib.OthersKept.trans h k
theorem Oth.blk {b k : Nat} {w w' : World} {cs : Array Value} {t : TypeId} {fr : Nat × Nat} (h : Oth b w w') (hk : w.heap[k]? = some (.cells cs t fr)) (h1 : k ≠ b) (h2 : t ≠ 5) : w'.heap[k]? = some (.cells cs t fr) :=
  h k _ hk (by simpa using h1) (fun c fz e => by injection e with _ e2 _; exact h2 e2)
/- the printer in the midst of its work: l is what it has written -/
def PS (W0 : World) (pb : Nat) (l : List UInt8) (w : World) : Prop := Below W0.heap.size W0 w ∧ BF W0.heap.size pb (Lib.byteCells l) w
theorem PS.below {W0 w w' : World} {pb : Nat} {l : List UInt8} (h : PS W0 pb l w) (hb : Below w.heap.size w w') : PS W0 pb l w' := ⟨h.1.trans (hb.mono h.1.size), h.2.below hb⟩
theorem PS.lt {W0 w : World} {pb : Nat} {l : List UInt8} (h : PS W0 pb l w) : pb < w.heap.size := by
  rcases h.2 with h | h
  · exact h.lt
  · exact h.lt

/- the table of powers of ten, as the program's text lays it -/
def TB (w : World) : Prop := Lib.TabIs Tryz.prog w "internal/strconv.uint64pow10" .u64 Lib.pow10Tab
theorem TB.below {w w' : World} (h : TB w) (hb : Below w.heap.size w w') : TB w' := by
  unfold TB Lib.TabIs World.var? at *
  cases hg : Tryz.prog.globalNamed "internal/strconv.uint64pow10" with
  | none => rw [hg] at h; simp at h
  | some g =>
    rw [hg] at h
    simp only [Option.bind_some] at h ⊢
    have hlt : g < w.heap.size := by
      rcases Nat.lt_or_ge g w.heap.size with h' | h'
      · exact h'
      · rw [Array.getElem?_eq_none h'] at h; cases h
    rw [hb.block g hlt]; exact h
theorem digits_one (n : Nat) (h : n < 10) : Lib.decDigits n = [dig n] := by rw [Lib.decDigits, dif_pos h]; rfl
theorem digits_more (n : Nat) (h : ¬ n < 10) : Lib.decDigits n = Lib.decDigits (n / 10) ++ [dig (n % 10)] := by rw [Lib.decDigits, dif_neg h]; rfl
theorem digits_dec : ∀ (k n : Nat), n < 10 ^ (k + 1) → Lib.decDigits n = decG (k + 1) n := by
  intro k
  induction k with
  | zero =>
    intro n h
    have h' : n < 10 := by simpa using h
    rw [digits_one n h']
    simp only [decG]
    rw [if_pos h']
  | succ k ih =>
    intro n h
    by_cases h' : n < 10
    · rw [digits_one n h']
      simp only [decG]
      rw [if_pos h']
    · rw [digits_more n h', ih (n / 10) (by rw [Nat.pow_succ] at h; omega)]
      conv => rhs; unfold decG
      rw [if_neg h']
theorem itoa_dec {n : Int} (h : 0 ≤ n ∧ n ≤ 999) : Lib.itoa n = decF n := by
  unfold Lib.itoa decF
  rw [if_neg (by omega), digits_dec 2 n.toNat (by have : (10 : Nat) ^ (2 + 1) = 1000 := rfl
                                                  omega)]
theorem below_grow (w : World) (k : Nat) (os : Array Obj) : Below w.heap.size w (Go.Sort.grow (w.drewN k) os) := by
  refine ⟨rfl, rfl, rfl, ?_, fun b hb => ?_⟩
  · show w.heap.size ≤ (w.heap ++ os).size; simp
  · show (w.heap ++ os)[b]? = w.heap[b]?; rw [Array.getElem?_append_left hb]
theorem itoa_any (n : Int) (w : World) (h : 0 ≤ n ∧ n ≤ 999) (ht : TB w) :
    Calls Tryz.prog 104 #[.int .i64 n] w fun e w' => e = .returned (.string (ba (decF n))) ∧ Below w.heap.size w w' := by
  refine (Any.strconv_Itoa Tryz.laysM171 n (by omega) (by omega) w ht).mono ?_
  rintro e w' ⟨rfl, k, os, rfl⟩
  exact ⟨by rw [itoa_dec h]; rfl, below_grow w k os⟩
/- strings.Join -/
def joinL (xs : List ByteArray) : List UInt8 := Lib.join (xs.map (·.data.toList)) [32]
theorem join_any (bk c : Nat) (xs : List ByteArray) (w : World) (hcells : ∀ (j : Nat) x, xs[j]? = some x → w.cell? ⟨bk, j, none⟩ = some (.string x)) (hbk : bk < w.heap.size) (hN : xs.length ≤ 100) (hcap : xs.length ≤ c) (hlen : (joinL xs).length ≤ 140737488355328) :
    Calls Tryz.prog 166 #[.slice (some ⟨bk, 0, none⟩) xs.length c, .string ⟨#[32]⟩] w fun e w' => e = .returned (.string (ba (joinL xs))) ∧ Below w.heap.size w w' :=
  Any.strings_Join Tryz.lays156 Tryz.Builder_Extra_156 bk 0 c xs ⟨#[32]⟩ w (fun j x h => by rw [Nat.zero_add]; exact hcells j x h) hbk (by omega) hcap hlen

/- the word for a number -/
def wordF : List (ByteArray × Int) → Int → ByteArray
  | [], _ => ⟨#[]⟩
  | o :: r, n => if o.2 = n then o.1 else wordF r n
set_option maxRecDepth 100000 in
set_option maxHeartbeats 1000000 in
theorem wordFor_any (os : List (ByteArray × Int)) (v : Value) (n : Int) (w : World) (hv : OptsV w v os) (hl : os.length ≤ 9) :
    Calls Tryz.prog 168 #[v, .int .i64 n] w fun e w' => e = .returned (.string (wordF os n)) ∧ Below w.heap.size w w' := by
  obtain ⟨va, cap, rfl, hc⟩ := hv
  have HC : Hid _ := hc
  clear hc
  generalize hfin : wordF os n = fin
  have HF : Hid (fin = wordF (os.drop 0) n) := hfin.symm
  clear hfin
  go_enter Tryz.func168, Tryz.ntmps168
  go_wp2_with fail
  go_loopw [9] (fun i wr => ∃ (k : Nat), i = .int .i64 k ∧ k ≤ os.length ∧ Hid (fin = wordF (os.drop k) n) ∧ Below w.heap.size w wr) (fun i _ => os.length - (intOf i).toNat)
  case atStart => exact ⟨0, rfl, by omega, HF, Below.refl _ _⟩
  case round =>
    obtain ⟨k, rfl, hk, HK, hbel⟩ := hrel
    clear HF
    by_cases hlt : k < os.length
    · have hlt' : (k : Int) < (os.length : Int) := by omega
      have hk0 : (0 : Int) ≤ (k : Int) := by omega
      obtain ⟨b, off, rfl, c0, c1⟩ := HC.out k hlt
      have hbl := World.block_lt_of_cell? w _ c0
      have d0 := (hbel.cell (by exact hbl)).trans c0
      have d1 := (hbel.cell (by exact hbl)).trans c1
      clear c0 c1
      have HD : Hid (os.drop k = os[k] :: os.drop (k + 1)) := List.drop_eq_getElem_cons hlt
      generalize os[k] = o at *
      cases he : (o.2 == n)
      · have HX : Hid (fin = wordF (os.drop (k + 1)) n) := by
          have h1 := HK.out
          rw [HD.out] at h1
          simp only [wordF] at h1
          rw [if_neg (by simpa using he)] at h1
          exact h1
        go_wp2_with fail
        go_roundw
        case rel => exact ⟨k + 1, by go_num, by omega, HX, hbel.alloc hbel.size _⟩
        case measure => simp [intOf]; omega
      · have HX : Hid (fin = o.1) := by
          have h1 := HK.out
          rw [HD.out] at h1
          simp only [wordF] at h1
          rw [if_pos (by simpa using he)] at h1
          exact h1
        go_wp2_with fail
        go_ret
        exact ⟨by rw [HX.out]; rfl, hbel.alloc hbel.size _⟩
    · have hlt' : ¬ (k : Int) < (os.length : Int) := by omega
      have HX : Hid (fin = ⟨#[]⟩) := by have := HK.out; rw [List.drop_eq_nil_of_le (by omega)] at this; exact this
      go_wp2_with fail
      go_ret
      exact ⟨by rw [HX.out]; rfl, hbel⟩
theorem word_act {n : Int} (h1 : 1 ≤ n) (h2 : n ≤ 3) : wordF actL n = ba (actW n.toNat) := by
  have : n = 1 ∨ n = 2 ∨ n = 3 := by omega
  rcases this with rfl | rfl | rfl <;> rfl
theorem word_right {n : Int} (h1 : 1 ≤ n) (h2 : n ≤ 2) : wordF rightL n = ba (rightW n.toNat) := by
  have : n = 1 ∨ n = 2 := by omega
  rcases this with rfl | rfl <;> rfl
theorem word_kind {n : Int} (h1 : 1 ≤ n) (h2 : n ≤ 2) : wordF kindL n = ba (kindW n.toNat) := by
  have : n = 1 ∨ n = 2 := by omega
  rcases this with rfl | rfl <;> rfl
end Go.Proofs.YteioennfpkoagaaGreatDoor.C
namespace Go.Proofs.YteioennfpkoagaaGreatDoor.C
open Go.RowKit
attribute [local go_sem ↓] Go.wp_at_zero Go.wp_at_succ

/- the text, when all is written -/
set_option maxHeartbeats 2000000 in
set_option maxRecDepth 100000 in
theorem string_any (W0 : World) (pb : Nat) (l : List UInt8) (w : World) (h : PS W0 pb l w) (h0 : l ≠ []) :
    Calls Tryz.prog 54 #[.pointer (some ⟨pb, 0, none⟩)] w fun e w' => e = .returned (.string (ba l)) ∧ Below W0.heap.size W0 w' := by
  obtain ⟨hbw, hbf⟩ := h
  obtain ⟨p, hAt⟩ : ∃ p, Lib.BuilderAtF 124 5 W0.heap.size pb p (Lib.byteCells l) w := by
    rcases hbf with h | h
    · exact ⟨_, h⟩
    · exact ⟨_, h⟩
  obtain ⟨hB, v, hbk, hown, hne⟩ := hAt
  have hl0 : l.length ≠ 0 := by simpa using h0
  rw [Lib.byteCells_length] at hown
  obtain ⟨g, cap, cur, fz, rfl, hbg, hg, hfz, hnc, hcm, hcs, htake⟩ : ∃ g cap cur fz, v = .slice (some ⟨g, 0, none⟩) l.length cap ∧ W0.heap.size ≤ g ∧ w.heap[g]? = some (.cells cur 5 fz) ∧ fz.2 ≤ l.length * 1 ∧ l.length ≤ cap ∧ cap ≤ maxLen ∧ cur.size = cap * 1 ∧ cur.toList.take (l.length * 1) = Lib.byteCells l := by
    rcases hown.2 with ⟨_, hz⟩ | ⟨g, cap, cur, fz, hv, r⟩
    · exact absurd hz hl0
    · exact ⟨g, cap, cur, fz, hv, r⟩
  have c1 : w.drew.cell? ⟨pb, 1, none⟩ = some (.slice (some ⟨g, 0, none⟩) l.length cap) := by
    have : w.drew.heap[pb]? = some (.cells #[p, .slice (some ⟨g, 0, none⟩) l.length cap] 124 (0, 0)) := hbk
    rw [Lib.cell_of_heap this]; rfl
  have hSD : (Builtin.unsafeSliceData_ #[63] 202 #[.slice (some ⟨g, 0, none⟩) l.length cap]).run Tryz.prog w.drew = .ok (.pointer (some ⟨g, 0, none⟩)) w.drew :=
    Lib.run_unsafeSliceData_row _ _ _ _ _ _ (by omega)
  have hUS : (Builtin.unsafeString_ #[202, 3] 9 #[.pointer (some ⟨g, 0, none⟩), .int .i64 l.length]).run Tryz.prog w.drew = .ok (.string ⟨l.toArray⟩) (w.drew.freeze ⟨g, 0, none⟩ l.length) := by
    refine Lib.run_unsafeString_row w.drew 202 3 9 5 Tryz.underlying202 (by kernel_rfl) g cur.size (by have hg' : w.drew.heap[g]? = some (.cells cur 5 fz) := hg; simp [World.shape?, hg']) l h0 (by omega) (by unfold maxLen at hcm; omega) ?_
    intro j x hx
    have := hown.cells (g := g) rfl j (.int .u8 x.toNat) (by simp [Lib.byteCells, hx])
    exact this
  clear hown hg hfz hcs htake hbf
  have mixed : Tryz.prog.follows Departure.mixedOrders = true := by kernel_rfl
  go_enter Tryz.func54, Tryz.ntmps54
  go_wp2_with fail
  go_region_o
  all_goals (go_wp2_with fail; go_ret; exact ⟨rfl, Lib.below_freeze (Below.drew hbw) (p := ⟨g, 0, none⟩) hbg _⟩)

set_option maxHeartbeats 2000000 in
set_option maxRecDepth 100000 in
theorem line_any (W0 : World) (pb bk c : Nat) (l : List UInt8) (xs : List ByteArray) (w : World) (h : PS W0 pb l w) (hcells : ∀ (j : Nat) x, xs[j]? = some x → w.cell? ⟨bk, j, none⟩ = some (.string x)) (hbk : bk < w.heap.size) (hN : xs.length ≤ 100) (hcap : xs.length ≤ c) (hlen : l.length + (joinL xs).length + 1 ≤ 1000000) :
    Calls Tryz.prog 165 #[.pointer (some ⟨pb, 0, none⟩), .slice (some ⟨bk, 0, none⟩) xs.length c] w fun e w' => e = .returned (.tuple #[]) ∧ PS W0 pb (l ++ (joinL xs ++ [10])) w' ∧ Oth pb w w' := by
  have hj := join_any bk c xs w.drew hcells hbk hN hcap (by omega)
  have HPS : Hid (PS W0 pb l w.drew) := ⟨below_drewN h.1 1, h.2⟩
  have hlB : (Lib.byteCells l).length = l.length := Lib.byteCells_length l
  have hjl : (ba (joinL xs)).size = (joinL xs).length := ba_size _
  go_enter Tryz.func165, Tryz.ntmps165
  go_wp2_with fail
  go_region_held3 (fun _ => True) (trivial) ((first
    | (go_at_call 166; refine hj.mono ?_; rintro e w2 ⟨rfl, hb2⟩)
    | (go_at_call 214; refine (writeString_any W0.heap.size pb (Lib.byteCells l) (ba (joinL xs)) w2 (PS.below HPS.out hb2).2 (by omega) (PS.below HPS.out hb2).1.size).mono ?_; rintro e w3 ⟨rfl, hf3, hb3, ho3⟩)))
  go_wp2_with fail
  refine (writeByte_any W0.heap.size pb _ 10 w3 hf3 (by rw [List.length_append, Lib.strCells_length]; omega) (Nat.le_trans (PS.below HPS.out hb2).1.size hb3.size)).mono ?_
  rintro e w4 ⟨rfl, hf4, hb4, ho4⟩
  go_wp2_with fail
  go_end0
  refine ⟨rfl, ⟨((PS.below HPS.out hb2).1.trans hb3).trans hb4, ?_⟩, ?_⟩
  · have e : Lib.byteCells (l ++ (joinL xs ++ [10])) = Lib.byteCells l ++ Lib.strCells (ba (joinL xs)) ++ [.int .u8 10] := by
      rw [Lib.byteCells_append, Lib.byteCells_append, List.append_assoc]; rfl
    rw [e]; exact hf4
  · exact ((Oth.below (b := pb) (show Below w.heap.size w w.drew from ⟨rfl, rfl, rfl, Nat.le_refl _, fun _ _ => rfl⟩)).trans (Oth.below hb2)).trans (ho3.trans ho4)
end Go.Proofs.YteioennfpkoagaaGreatDoor.C
namespace Go.Proofs.YteioennfpkoagaaGreatDoor.C
open Go.RowKit
attribute [local go_sem ↓] Go.wp_at_zero Go.wp_at_succ

theorem join_one (s : ByteArray) : joinL [s] = s.data.toList := by unfold joinL; exact Lib.join_one _ _
set_option maxHeartbeats 2000000 in
set_option maxRecDepth 100000 in
theorem statement_any (W0 : World) (pb bk c : Nat) (l al : List UInt8) (xs : List ByteArray) (w : World) (h : PS W0 pb l w) (hcells : ∀ (j : Nat) x, xs[j]? = some x → w.cell? ⟨bk, j, none⟩ = some (.string x)) (hbk : bk < w.heap.size) (hN : xs.length ≤ 100) (hcap : xs.length ≤ c) (hlen : l.length + al.length + (joinL xs).length + 2 ≤ 1000000) :
    Calls Tryz.prog 103 #[.pointer (some ⟨pb, 0, none⟩), .string (ba al), .slice (some ⟨bk, 0, none⟩) xs.length c] w fun e w' => e = .returned (.tuple #[]) ∧ PS W0 pb (l ++ (al ++ joinL xs ++ [59] ++ [10])) w' ∧ Oth pb w w' := by
  have HPS : Hid (PS W0 pb l w) := h
  have hj := join_any bk c xs w hcells hbk hN hcap (by omega)
  clear hcells h
  have s1 := ba_size al
  have s2 := ba_size (joinL xs)
  have z1 : ¬ 9223372036854775807 < (ba al).size + (ba (joinL xs)).size := by omega
  have r1 := cat_run (ba al) (ba (joinL xs)) z1
  have s3 : (ba al ++ ba (joinL xs)).size ≤ 1000000 := by rw [ba_append, ba_size, List.length_append]; omega
  have z2 : ¬ 9223372036854775807 < (ba al ++ ba (joinL xs)).size + (({ data := #[59] } : ByteArray)).size := by
    have : (({ data := #[59] } : ByteArray)).size = 1 := rfl
    omega
  have r2 := cat_run (ba al ++ ba (joinL xs)) ({ data := #[59] } : ByteArray) z2
  have n2 : ¬ 9223372036854775807 < (ba al).size + (ba (joinL xs)).size + 1 := by omega
  have HCAT : Hid (ba al ++ ba (joinL xs) ++ ({ data := #[59] } : ByteArray) = ba (al ++ joinL xs ++ [59])) := by
    show _ = _
    rw [show ({ data := #[59] } : ByteArray) = ba [59] from rfl, ba_append, ba_append]
  generalize joinL xs = js at *
  go_enter Tryz.func103, Tryz.ntmps103
  go_wp2_with fail
  refine hj.mono ?_
  rintro e w2 ⟨rfl, hb2⟩
  go_wp2_with fail
  clear r1 r2 z1 z2 n2 s3
  rw [HCAT.out]
  have hb3 : Below w2.heap.size w2 (w2.alloc (.cells #[.string (ba (al ++ js ++ [59]))] 9)) := (Below.refl _ w2).alloc (Nat.le_refl _) _
  have hc3 : (w2.alloc (.cells #[.string (ba (al ++ js ++ [59]))] 9)).cell? ⟨w2.heap.size, 0, none⟩ = some (.string (ba (al ++ js ++ [59]))) := by rw [cell_of_blk (heap_new _ _)]; rfl
  have hsz : w2.heap.size < (w2.alloc (.cells #[.string (ba (al ++ js ++ [59]))] 9)).heap.size := by simp
  have hP3 : PS W0 pb l (w2.alloc (.cells #[.string (ba (al ++ js ++ [59]))] 9)) := (PS.below HPS.out hb2).below hb3
  have hl3 : (joinL [ba (al ++ js ++ [59])]).length = al.length + js.length + 1 := by rw [join_one, ba_data]; simp; omega
  refine (line_any W0 pb w2.heap.size 1 l [ba (al ++ js ++ [59])] _ hP3 (by
    intro j x hx
    match j, hx with
    | 0, hx => cases hx; exact hc3) hsz (by simp) (by simp) (by omega)).mono ?_
  rintro e w4 ⟨rfl, hP4, ho4⟩
  rw [join_one, ba_data] at hP4
  go_wp2_with fail
  go_end0
  exact ⟨rfl, hP4, ((Oth.below hb2).trans (Oth.below hb3)).trans ho4⟩
end Go.Proofs.YteioennfpkoagaaGreatDoor.C
namespace Go.Proofs.YteioennfpkoagaaGreatDoor.C
open Go.RowKit
attribute [local go_sem ↓] Go.wp_at_zero Go.wp_at_succ

theorem below_new (w : World) (o : Obj) : Below w.heap.size w (w.alloc o) := (Below.refl _ w).alloc (Nat.le_refl _) _
theorem cells_new (w : World) (xs : List ByteArray) (j : Nat) (x : ByteArray) (h : xs[j]? = some x) : (w.alloc (.cells (xs.map Value.string).toArray 9)).cell? ⟨w.heap.size, j, none⟩ = some (.string x) := by
  rw [cell_of_blk (heap_new _ _)]
  simp [h]
theorem blkB {A : Prop} {w1 w2 : World} {k : Nat} {o : Obj} (h : A ∧ w1.heap[k]? = some o) (hb : Below w1.heap.size w1 w2) : w2.heap[k]? = some o := (hb.block _ (lt_of_blk h.2)).trans h.2
theorem blkO {A : Prop} {pb k : Nat} {w1 w2 : World} {cs : Array Value} {t : TypeId} {fr : Nat × Nat} (h : A ∧ w1.heap[k]? = some (.cells cs t fr)) (ho : Oth pb w1 w2) (h1 : k ≠ pb) (h2 : t ≠ 5) : w2.heap[k]? = some (.cells cs t fr) := ho.blk h.2 h1 h2
theorem join_cons (a b : ByteArray) (r : List ByteArray) : joinL (a :: b :: r) = a.data.toList ++ [32] ++ joinL (b :: r) := by
  simp [joinL, Lib.join, List.intercalate]
theorem PS.eq {W0 w : World} {pb : Nat} {l l' : List UInt8} (h : PS W0 pb l w) (e : l = l') : PS W0 pb l' w := e ▸ h

def regS (r : RegD) : List UInt8 := [32, 32] ++ joinL [⟨#[109, 101, 109, 111, 114, 121]⟩, ba (decF r.page), ba (decF r.pages), wordF rightL r.rights] ++ [59] ++ [10]
theorem regS_eq {r : RegD} (h : regB r = true) : regS r = regT r := by
  unfold regB at h
  simp only [decide_eq_true_eq] at h
  unfold regS regT
  rw [join_cons, join_cons, join_cons, join_one, word_right (by omega) (by omega), ba_data, ba_data, ba_data]
  simp
theorem regT_len (r : RegD) : (regT r).length ≤ 40 := by
  have h1 := decF_len r.page
  have h2 := decF_len r.pages
  have h3 := rightW_len r.rights.toNat
  rw [ba_size] at h3
  unfold regT
  simp
  omega

theorem keepL {w w' : World} {k : Nat} {o : Obj} (h : w.heap[k]? = some o) (hb : Below w.heap.size w w') : w'.heap[k]? = some o := (hb.block _ (lt_of_blk h)).trans h
theorem len3 (a b c : ByteArray) : (joinL [a, b, c]).length = a.size + b.size + c.size + 2 := by
  rw [join_cons, join_cons, join_one]
  simp
  omega
theorem len2 (a b : ByteArray) : (joinL [a, b]).length = a.size + b.size + 1 := by
  rw [join_cons, join_one]
  simp
  omega
theorem len4 (a b c d : ByteArray) : (joinL [a, b, c, d]).length = a.size + b.size + c.size + d.size + 3 := by
  rw [join_cons, join_cons, join_cons, join_one]
  simp
  omega
theorem wordR_len (n : Int) : (wordF rightL n).size ≤ 7 := by
  unfold rightL
  simp only [wordF]
  split
  · decide
  · split
    · decide
    · decide
theorem wordA_len (n : Int) : (wordF actL n).size ≤ 7 := by
  unfold actL
  simp only [wordF]
  split
  · decide
  · split
    · decide
    · split
      · decide
      · decide
def partS (x : PartD) : List UInt8 := (joinL [⟨#[112, 97, 114, 116, 105, 116, 105, 111, 110]⟩, x.name, ⟨#[123]⟩] ++ [10]) ++ ([32, 32] ++ joinL [⟨#[112, 101, 114, 105, 111, 100]⟩, ba (decF x.period)] ++ [59] ++ [10]) ++ ([32, 32] ++ joinL [⟨#[100, 117, 114, 97, 116, 105, 111, 110]⟩, ba (decF x.duration)] ++ [59] ++ [10]) ++ ([32, 32] ++ joinL [⟨#[102, 97, 117, 108, 116]⟩, wordF actL x.action] ++ [59] ++ [10])
theorem partS_eq {x : PartD} (h1 : 1 ≤ x.action) (h2 : x.action ≤ 3) (hr : ∀ r ∈ x.regs, regB r = true) : partS x ++ x.regs.flatMap regS ++ (joinL [⟨#[125]⟩] ++ [10]) = partT x := by
  have e : x.regs.flatMap regS = x.regs.flatMap regT := by
    simp only [List.flatMap]
    congr 1
    exact List.map_congr_left fun r hr' => regS_eq (hr r hr')
  rw [e]
  unfold partS partT
  rw [join_cons, join_cons, join_one, join_cons, join_one, join_cons, join_one, join_cons, join_one, join_one, word_act h1 h2, ba_data, ba_data, ba_data]
  simp
theorem len8 (a b c d e f g h : ByteArray) : (joinL [a, b, c, d, e, f, g, h]).length = a.size + b.size + c.size + d.size + e.size + f.size + g.size + h.size + 7 := by
  rw [join_cons, join_cons, join_cons, join_cons, join_cons, join_cons, join_cons, join_one]
  simp
  omega
set_option maxRecDepth 100000 in
theorem line3 (W0 : World) (pb : Nat) (l : List UInt8) (s1 s2 s3 : ByteArray) (V : World) (h : PS W0 pb l V) (hlen : l.length + s1.size + s2.size + s3.size + 20 ≤ 1000000) :
    Calls Tryz.prog 165 #[.pointer (some ⟨pb, 0, none⟩), .slice (some ⟨V.heap.size, 0, none⟩) 3 3] (V.alloc (.cells #[.string s1, .string s2, .string s3] 9)) fun e w' => e = .returned (.tuple #[]) ∧ PS W0 pb (l ++ (joinL [s1, s2, s3] ++ [10])) w' ∧ Oth pb V w' := by
  have q := len3 s1 s2 s3
  have hc := cells_new V [s1, s2, s3]
  have hs : V.heap.size < (V.alloc (.cells #[.string s1, .string s2, .string s3] 9)).heap.size := by simp
  refine (line_any W0 pb V.heap.size 3 l [s1, s2, s3] (V.alloc (.cells #[.string s1, .string s2, .string s3] 9)) (h.below (below_new _ _)) hc hs (by simp) (by simp) (by omega)).mono ?_
  rintro e w' ⟨rfl, h1, h2⟩
  exact ⟨rfl, h1, (Oth.below (below_new _ _)).trans h2⟩
set_option maxRecDepth 100000 in
theorem line1 (W0 : World) (pb : Nat) (l : List UInt8) (s1 : ByteArray) (V : World) (h : PS W0 pb l V) (hlen : l.length + s1.size + 20 ≤ 1000000) :
    Calls Tryz.prog 165 #[.pointer (some ⟨pb, 0, none⟩), .slice (some ⟨V.heap.size, 0, none⟩) 1 1] (V.alloc (.cells #[.string s1] 9)) fun e w' => e = .returned (.tuple #[]) ∧ PS W0 pb (l ++ (joinL [s1] ++ [10])) w' ∧ Oth pb V w' := by
  have q : (joinL [s1]).length = s1.size := by rw [join_one]; simp
  have hc := cells_new V [s1]
  have hs : V.heap.size < (V.alloc (.cells #[.string s1] 9)).heap.size := by simp
  refine (line_any W0 pb V.heap.size 1 l [s1] (V.alloc (.cells #[.string s1] 9)) (h.below (below_new _ _)) hc hs (by simp) (by simp) (by omega)).mono ?_
  rintro e w' ⟨rfl, h1, h2⟩
  exact ⟨rfl, h1, (Oth.below (below_new _ _)).trans h2⟩
set_option maxRecDepth 100000 in
theorem stmt2 (W0 : World) (pb : Nat) (l al : List UInt8) (s1 s2 : ByteArray) (V : World) (h : PS W0 pb l V) (hlen : l.length + al.length + s1.size + s2.size + 20 ≤ 1000000) :
    Calls Tryz.prog 103 #[.pointer (some ⟨pb, 0, none⟩), .string (ba al), .slice (some ⟨V.heap.size, 0, none⟩) 2 2] (V.alloc (.cells #[.string s1, .string s2] 9)) fun e w' => e = .returned (.tuple #[]) ∧ PS W0 pb (l ++ (al ++ joinL [s1, s2] ++ [59] ++ [10])) w' ∧ Oth pb V w' := by
  have q := len2 s1 s2
  have hc := cells_new V [s1, s2]
  have hs : V.heap.size < (V.alloc (.cells #[.string s1, .string s2] 9)).heap.size := by simp
  refine (statement_any W0 pb V.heap.size 2 l al [s1, s2] (V.alloc (.cells #[.string s1, .string s2] 9)) (h.below (below_new _ _)) hc hs (by simp) (by simp) (by omega)).mono ?_
  rintro e w' ⟨rfl, h1, h2⟩
  exact ⟨rfl, h1, (Oth.below (below_new _ _)).trans h2⟩
set_option maxRecDepth 100000 in
theorem stmt4 (W0 : World) (pb : Nat) (l al : List UInt8) (s1 s2 s3 s4 : ByteArray) (V : World) (h : PS W0 pb l V) (hlen : l.length + al.length + s1.size + s2.size + s3.size + s4.size + 20 ≤ 1000000) :
    Calls Tryz.prog 103 #[.pointer (some ⟨pb, 0, none⟩), .string (ba al), .slice (some ⟨V.heap.size, 0, none⟩) 4 4] (V.alloc (.cells #[.string s1, .string s2, .string s3, .string s4] 9)) fun e w' => e = .returned (.tuple #[]) ∧ PS W0 pb (l ++ (al ++ joinL [s1, s2, s3, s4] ++ [59] ++ [10])) w' ∧ Oth pb V w' := by
  have q := len4 s1 s2 s3 s4
  have hc := cells_new V [s1, s2, s3, s4]
  have hs : V.heap.size < (V.alloc (.cells #[.string s1, .string s2, .string s3, .string s4] 9)).heap.size := by simp
  refine (statement_any W0 pb V.heap.size 4 l al [s1, s2, s3, s4] (V.alloc (.cells #[.string s1, .string s2, .string s3, .string s4] 9)) (h.below (below_new _ _)) hc hs (by simp) (by simp) (by omega)).mono ?_
  rintro e w' ⟨rfl, h1, h2⟩
  exact ⟨rfl, h1, (Oth.below (below_new _ _)).trans h2⟩
set_option maxRecDepth 100000 in
theorem stmt8 (W0 : World) (pb : Nat) (l al : List UInt8) (s1 s2 s3 s4 s5 s6 s7 s8 : ByteArray) (V : World) (h : PS W0 pb l V) (hlen : l.length + al.length + s1.size + s2.size + s3.size + s4.size + s5.size + s6.size + s7.size + s8.size + 20 ≤ 1000000) :
    Calls Tryz.prog 103 #[.pointer (some ⟨pb, 0, none⟩), .string (ba al), .slice (some ⟨V.heap.size, 0, none⟩) 8 8] (V.alloc (.cells #[.string s1, .string s2, .string s3, .string s4, .string s5, .string s6, .string s7, .string s8] 9)) fun e w' => e = .returned (.tuple #[]) ∧ PS W0 pb (l ++ (al ++ joinL [s1, s2, s3, s4, s5, s6, s7, s8] ++ [59] ++ [10])) w' ∧ Oth pb V w' := by
  have q := len8 s1 s2 s3 s4 s5 s6 s7 s8
  have hc := cells_new V [s1, s2, s3, s4, s5, s6, s7, s8]
  have hs : V.heap.size < (V.alloc (.cells #[.string s1, .string s2, .string s3, .string s4, .string s5, .string s6, .string s7, .string s8] 9)).heap.size := by simp
  refine (statement_any W0 pb V.heap.size 8 l al [s1, s2, s3, s4, s5, s6, s7, s8] (V.alloc (.cells #[.string s1, .string s2, .string s3, .string s4, .string s5, .string s6, .string s7, .string s8] 9)) (h.below (below_new _ _)) hc hs (by simp) (by simp) (by omega)).mono ?_
  rintro e w' ⟨rfl, h1, h2⟩
  exact ⟨rfl, h1, (Oth.below (below_new _ _)).trans h2⟩
end Go.Proofs.YteioennfpkoagaaGreatDoor.C
