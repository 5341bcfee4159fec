import Derived.Test.YteioennfpkoagaaDoorPrtD
namespace Go.Proofs.YteioennfpkoagaaDoor.C
open Go.RowKit
attribute [local go_sem ↓] Go.wp_at_zero Go.wp_at_succ

theorem below_new (w : World) (o : Obj) : Below w.heap.size w (w.alloc o) := (Below.refl _ w).alloc (Nat.le_refl _) _
theorem cells_new (w : World) (xs : List ByteArray) (j : Nat) (x : ByteArray) (h : xs[j]? = some x) : (w.alloc (.cells (xs.map Value.string).toArray 9)).cell? ⟨w.heap.size, j, none⟩ = some (.string x) := by
  rw [cell_of_blk (heap_new _ _)]
  simp [h]
theorem blkB {A : Prop} {w1 w2 : World} {k : Nat} {o : Obj} (h : A ∧ w1.heap[k]? = some o) (hb : Below w1.heap.size w1 w2) : w2.heap[k]? = some o := (hb.block _ (lt_of_blk h.2)).trans h.2
theorem blkO {A : Prop} {pb k : Nat} {w1 w2 : World} {cs : Array Value} {t : TypeId} {fr : Nat × Nat} (h : A ∧ w1.heap[k]? = some (.cells cs t fr)) (ho : Oth pb w1 w2) (h1 : k ≠ pb) (h2 : t ≠ 5) : w2.heap[k]? = some (.cells cs t fr) := ho.blk h.2 h1 h2
theorem join_cons (a b : ByteArray) (r : List ByteArray) : joinL (a :: b :: r) = a.data.toList ++ [32] ++ joinL (b :: r) := by
  simp [joinL, Lib.join, List.intercalate]
theorem PS.eq {W0 w : World} {pb : Nat} {l l' : List UInt8} (h : PS W0 pb l w) (e : l = l') : PS W0 pb l' w := e ▸ h

def regS (r : RegD) : List UInt8 := [32, 32] ++ joinL [⟨#[109, 101, 109, 111, 114, 121]⟩, ba (decF r.page), ba (decF r.pages), wordF rightL r.rights] ++ [59] ++ [10]
theorem regS_eq {r : RegD} (h : regB r = true) : regS r = regT r := by
  unfold regB at h
  simp only [decide_eq_true_eq] at h
  unfold regS regT
  rw [join_cons, join_cons, join_cons, join_one, word_right (by omega) (by omega), ba_data, ba_data, ba_data]
  simp
theorem regT_len (r : RegD) : (regT r).length ≤ 40 := by
  have h1 := decF_len r.page
  have h2 := decF_len r.pages
  have h3 := rightW_len r.rights.toNat
  rw [ba_size] at h3
  unfold regT
  simp
  omega

theorem keepL {w w' : World} {k : Nat} {o : Obj} (h : w.heap[k]? = some o) (hb : Below w.heap.size w w') : w'.heap[k]? = some o := (hb.block _ (lt_of_blk h)).trans h
theorem len3 (a b c : ByteArray) : (joinL [a, b, c]).length = a.size + b.size + c.size + 2 := by
  rw [join_cons, join_cons, join_one]
  simp
  omega
theorem len2 (a b : ByteArray) : (joinL [a, b]).length = a.size + b.size + 1 := by
  rw [join_cons, join_one]
  simp
  omega
theorem len4 (a b c d : ByteArray) : (joinL [a, b, c, d]).length = a.size + b.size + c.size + d.size + 3 := by
  rw [join_cons, join_cons, join_cons, join_one]
  simp
  omega
theorem wordR_len (n : Int) : (wordF rightL n).size ≤ 7 := by
  unfold rightL
  simp only [wordF]
  split
  · decide
  · split
    · decide
    · decide
theorem wordA_len (n : Int) : (wordF actL n).size ≤ 7 := by
  unfold actL
  simp only [wordF]
  split
  · decide
  · split
    · decide
    · split
      · decide
      · decide
def partS (x : PartD) : List UInt8 := (joinL [⟨#[112, 97, 114, 116, 105, 116, 105, 111, 110]⟩, x.name, ⟨#[123]⟩] ++ [10]) ++ ([32, 32] ++ joinL [⟨#[112, 101, 114, 105, 111, 100]⟩, ba (decF x.period)] ++ [59] ++ [10]) ++ ([32, 32] ++ joinL [⟨#[100, 117, 114, 97, 116, 105, 111, 110]⟩, ba (decF x.duration)] ++ [59] ++ [10]) ++ ([32, 32] ++ joinL [⟨#[102, 97, 117, 108, 116]⟩, wordF actL x.action] ++ [59] ++ [10])
theorem partS_eq {x : PartD} (h1 : 1 ≤ x.action) (h2 : x.action ≤ 3) (hr : ∀ r ∈ x.regs, regB r = true) : partS x ++ x.regs.flatMap regS ++ (joinL [⟨#[125]⟩] ++ [10]) = partT x := by
  have e : x.regs.flatMap regS = x.regs.flatMap regT := by
    simp only [List.flatMap]
    congr 1
    exact List.map_congr_left fun r hr' => regS_eq (hr r hr')
  rw [e]
  unfold partS partT
  rw [join_cons, join_cons, join_one, join_cons, join_one, join_cons, join_one, join_cons, join_one, join_one, word_act h1 h2, ba_data, ba_data, ba_data]
  simp
theorem len8 (a b c d e f g h : ByteArray) : (joinL [a, b, c, d, e, f, g, h]).length = a.size + b.size + c.size + d.size + e.size + f.size + g.size + h.size + 7 := by
  rw [join_cons, join_cons, join_cons, join_cons, join_cons, join_cons, join_cons, join_one]
  simp
  omega
set_option maxRecDepth 100000 in
theorem line3 (W0 : World) (pb : Nat) (l : List UInt8) (s1 s2 s3 : ByteArray) (V : World) (h : PS W0 pb l V) (hlen : l.length + s1.size + s2.size + s3.size + 20 ≤ 1000000) :
    Calls Tryd.prog 40 #[.pointer (some ⟨pb, 0, none⟩), .slice (some ⟨V.heap.size, 0, none⟩) 3 3] (V.alloc (.cells #[.string s1, .string s2, .string s3] 9)) fun e w' => e = .returned (.tuple #[]) ∧ PS W0 pb (l ++ (joinL [s1, s2, s3] ++ [10])) w' ∧ Oth pb V w' := by
  have q := len3 s1 s2 s3
  have hc := cells_new V [s1, s2, s3]
  have hs : V.heap.size < (V.alloc (.cells #[.string s1, .string s2, .string s3] 9)).heap.size := by simp
  refine (line_any W0 pb V.heap.size 3 l [s1, s2, s3] (V.alloc (.cells #[.string s1, .string s2, .string s3] 9)) (h.below (below_new _ _)) hc hs (by simp) (by simp) (by omega)).mono ?_
  rintro e w' ⟨rfl, h1, h2⟩
  exact ⟨rfl, h1, (Oth.below (below_new _ _)).trans h2⟩
set_option maxRecDepth 100000 in
theorem line1 (W0 : World) (pb : Nat) (l : List UInt8) (s1 : ByteArray) (V : World) (h : PS W0 pb l V) (hlen : l.length + s1.size + 20 ≤ 1000000) :
    Calls Tryd.prog 40 #[.pointer (some ⟨pb, 0, none⟩), .slice (some ⟨V.heap.size, 0, none⟩) 1 1] (V.alloc (.cells #[.string s1] 9)) fun e w' => e = .returned (.tuple #[]) ∧ PS W0 pb (l ++ (joinL [s1] ++ [10])) w' ∧ Oth pb V w' := by
  have q : (joinL [s1]).length = s1.size := by rw [join_one]; simp
  have hc := cells_new V [s1]
  have hs : V.heap.size < (V.alloc (.cells #[.string s1] 9)).heap.size := by simp
  refine (line_any W0 pb V.heap.size 1 l [s1] (V.alloc (.cells #[.string s1] 9)) (h.below (below_new _ _)) hc hs (by simp) (by simp) (by omega)).mono ?_
  rintro e w' ⟨rfl, h1, h2⟩
  exact ⟨rfl, h1, (Oth.below (below_new _ _)).trans h2⟩
set_option maxRecDepth 100000 in
theorem stmt2 (W0 : World) (pb : Nat) (l al : List UInt8) (s1 s2 : ByteArray) (V : World) (h : PS W0 pb l V) (hlen : l.length + al.length + s1.size + s2.size + 20 ≤ 1000000) :
    Calls Tryd.prog 25 #[.pointer (some ⟨pb, 0, none⟩), .string (ba al), .slice (some ⟨V.heap.size, 0, none⟩) 2 2] (V.alloc (.cells #[.string s1, .string s2] 9)) fun e w' => e = .returned (.tuple #[]) ∧ PS W0 pb (l ++ (al ++ joinL [s1, s2] ++ [59] ++ [10])) w' ∧ Oth pb V w' := by
  have q := len2 s1 s2
  have hc := cells_new V [s1, s2]
  have hs : V.heap.size < (V.alloc (.cells #[.string s1, .string s2] 9)).heap.size := by simp
  refine (statement_any W0 pb V.heap.size 2 l al [s1, s2] (V.alloc (.cells #[.string s1, .string s2] 9)) (h.below (below_new _ _)) hc hs (by simp) (by simp) (by omega)).mono ?_
  rintro e w' ⟨rfl, h1, h2⟩
  exact ⟨rfl, h1, (Oth.below (below_new _ _)).trans h2⟩
set_option maxRecDepth 100000 in
theorem stmt4 (W0 : World) (pb : Nat) (l al : List UInt8) (s1 s2 s3 s4 : ByteArray) (V : World) (h : PS W0 pb l V) (hlen : l.length + al.length + s1.size + s2.size + s3.size + s4.size + 20 ≤ 1000000) :
    Calls Tryd.prog 25 #[.pointer (some ⟨pb, 0, none⟩), .string (ba al), .slice (some ⟨V.heap.size, 0, none⟩) 4 4] (V.alloc (.cells #[.string s1, .string s2, .string s3, .string s4] 9)) fun e w' => e = .returned (.tuple #[]) ∧ PS W0 pb (l ++ (al ++ joinL [s1, s2, s3, s4] ++ [59] ++ [10])) w' ∧ Oth pb V w' := by
  have q := len4 s1 s2 s3 s4
  have hc := cells_new V [s1, s2, s3, s4]
  have hs : V.heap.size < (V.alloc (.cells #[.string s1, .string s2, .string s3, .string s4] 9)).heap.size := by simp
  refine (statement_any W0 pb V.heap.size 4 l al [s1, s2, s3, s4] (V.alloc (.cells #[.string s1, .string s2, .string s3, .string s4] 9)) (h.below (below_new _ _)) hc hs (by simp) (by simp) (by omega)).mono ?_
  rintro e w' ⟨rfl, h1, h2⟩
  exact ⟨rfl, h1, (Oth.below (below_new _ _)).trans h2⟩
set_option maxRecDepth 100000 in
theorem stmt8 (W0 : World) (pb : Nat) (l al : List UInt8) (s1 s2 s3 s4 s5 s6 s7 s8 : ByteArray) (V : World) (h : PS W0 pb l V) (hlen : l.length + al.length + s1.size + s2.size + s3.size + s4.size + s5.size + s6.size + s7.size + s8.size + 20 ≤ 1000000) :
    Calls Tryd.prog 25 #[.pointer (some ⟨pb, 0, none⟩), .string (ba al), .slice (some ⟨V.heap.size, 0, none⟩) 8 8] (V.alloc (.cells #[.string s1, .string s2, .string s3, .string s4, .string s5, .string s6, .string s7, .string s8] 9)) fun e w' => e = .returned (.tuple #[]) ∧ PS W0 pb (l ++ (al ++ joinL [s1, s2, s3, s4, s5, s6, s7, s8] ++ [59] ++ [10])) w' ∧ Oth pb V w' := by
  have q := len8 s1 s2 s3 s4 s5 s6 s7 s8
  have hc := cells_new V [s1, s2, s3, s4, s5, s6, s7, s8]
  have hs : V.heap.size < (V.alloc (.cells #[.string s1, .string s2, .string s3, .string s4, .string s5, .string s6, .string s7, .string s8] 9)).heap.size := by simp
  refine (statement_any W0 pb V.heap.size 8 l al [s1, s2, s3, s4, s5, s6, s7, s8] (V.alloc (.cells #[.string s1, .string s2, .string s3, .string s4, .string s5, .string s6, .string s7, .string s8] 9)) (h.below (below_new _ _)) hc hs (by simp) (by simp) (by omega)).mono ?_
  rintro e w' ⟨rfl, h1, h2⟩
  exact ⟨rfl, h1, (Oth.below (below_new _ _)).trans h2⟩
end Go.Proofs.YteioennfpkoagaaDoor.C
