import Derived.Test.YteioennfpkoagaaGreatDoorG02
import Derived.Laws.BytesArg
namespace Go.Proofs.YteioennfpkoagaaGreatDoor.C
open Go.RowKit
attribute [local go_sem ↓] Go.wp_at_zero Go.wp_at_succ

/- a number's digits: of as many as the first number says -/
def dig (n : Nat) : UInt8 := UInt8.ofNat (48 + n)
def decG : Nat → Nat → List UInt8
  | 0, _ => []
  | k + 1, n => if n < 10 then [dig n] else decG k (n / 10) ++ [dig (n % 10)]
def ba (l : List UInt8) : ByteArray := ⟨l.toArray⟩
theorem ba_size (l : List UInt8) : (ba l).size = l.length := by simp [ba, ByteArray.size]
theorem decG_len (k n : Nat) : (decG k n).length ≤ k := by
  induction k generalizing n with
  | zero => simp [decG]
  | succ k ih =>
    have := ih (n / 10)
    unfold decG
    split <;> simp <;> omega
theorem ba_append (a b : List UInt8) : ba a ++ ba b = ba (a ++ b) := by
  apply ByteArray.ext
  simp [ba]

theorem nums_dig (n : Nat) : strOfNums [48 + (n : Int)] = ba [dig n] := by
  have e : (48 + (n : Int)).toNat = 48 + n := by omega
  unfold strOfNums ba dig
  rw [List.map_cons, List.map_nil, e]
theorem conv_one (w : World) (x : Int) : (convert 63 9 (.slice (some ⟨w.heap.size, 0, none⟩) 1 1)).run Tryz.prog (w.alloc (.cells #[.int .u8 x] 5)) = .ok (.string (strOfNums [x])) (w.alloc (.cells #[.int .u8 x] 5)) := by
  refine run_convert_bytes_arg (P := Tryz.prog) (w.alloc (.cells #[.int .u8 x] 5)) 63 5 Tryz.underlying63 Tryz.underlying5 w.heap.size 0 1 1 [x] rfl ?_ 9 Tryz.underlying9
  intro i hi
  have : i = 0 := by omega
  subst this
  rw [cell_of_blk (heap_new _ _)]; rfl
def decF (n : Int) : List UInt8 := decG 3 n.toNat
theorem decF_len (n : Int) : (decF n).length ≤ 3 := decG_len _ _
end Go.Proofs.YteioennfpkoagaaGreatDoor.C
namespace Go.Proofs.YteioennfpkoagaaGreatDoor.C
open Go.RowKit

/- a slice whose length is not above its capacity -/
def capV (v : Value) : Prop := ∃ a l c, v = .slice a l c ∧ l ≤ c
theorem capV.le {a : Option Addr} {l c : Nat} (h : capV (.slice a l c)) : l ≤ c := by
  obtain ⟨_, _, _, e, h⟩ := h
  cases e; exact h
/- the lists of a manifest: none is longer than its room -/
def PartsC (w : World) (v : Value) (n : Nat) : Prop := capV v ∧ ∀ i, i < n → ∀ b off l c, v = .slice (some ⟨b, off, none⟩) l c → ∀ rv, w.cell? ⟨b, off + i * 5 + 4, none⟩ = some rv → capV rv
theorem PartsC.below {w w' : World} {v : Value} {ps : List PartD} (hp : PartsV w v ps) (h : PartsC w v ps.length) (hb : Below w.heap.size w w') : PartsC w' v ps.length := by
  refine ⟨h.1, fun i hi b off l c e rv hc => ?_⟩
  obtain ⟨va, cap, e1, hq⟩ := hp
  subst e
  cases e1
  obtain ⟨b2, off2, rv2, e2, h1, _⟩ := hq i hi
  cases e2
  have hlt := World.block_lt_of_cell? w _ h1
  exact h.2 i hi b off _ _ rfl rv ((hb.cell (by exact hlt)).symm.trans hc)
theorem keepC {w1 w2 : World} {a : Addr} {v : Value} (h : w1.cell? a = some v) (hb : Below w1.heap.size w1 w2) : w2.cell? a = some v := (hb.cell (World.block_lt_of_cell? w1 _ h)).trans h
end Go.Proofs.YteioennfpkoagaaGreatDoor.C
namespace Go.Proofs.YteioennfpkoagaaGreatDoor.C
open Go.RowKit
attribute [local go_sem ↓] Go.wp_at_zero Go.wp_at_succ

/- the text of a manifest -/
def actW : Nat → List UInt8
  | 1 => [105, 103, 110, 111, 114, 101]
  | 2 => [115, 116, 111, 112]
  | 3 => [114, 101, 115, 116, 97, 114, 116]
  | _ => []
def rightW : Nat → List UInt8
  | 1 => [108, 111, 111, 107]
  | 2 => [99, 104, 97, 110, 103, 101]
  | _ => []
def kindW : Nat → List UInt8
  | 1 => [113, 117, 101, 117, 101]
  | 2 => [115, 97, 109, 112, 108, 101]
  | _ => []
def regT (r : RegD) : List UInt8 := [32, 32, 109, 101, 109, 111, 114, 121, 32] ++ decF r.page ++ [32] ++ decF r.pages ++ [32] ++ rightW r.rights.toNat ++ [59, 10]
def partT (x : PartD) : List UInt8 := [112, 97, 114, 116, 105, 116, 105, 111, 110, 32] ++ x.name.data.toList ++ [32, 123, 10, 32, 32, 112, 101, 114, 105, 111, 100, 32] ++ decF x.period ++ [59, 10, 32, 32, 100, 117, 114, 97, 116, 105, 111, 110, 32] ++ decF x.duration ++ [59, 10, 32, 32, 102, 97, 117, 108, 116, 32] ++ actW x.action.toNat ++ [59, 10] ++ x.regs.flatMap regT ++ [125, 10]
def nameAt (ps : List PartD) (i : Int) : List UInt8 := (ps[i.toNat]?.map fun p => p.name.data.toList).getD []
def chanT (ps : List PartD) (c : ChanD) : List UInt8 := [99, 104, 97, 110, 110, 101, 108, 32] ++ c.name.data.toList ++ [32] ++ nameAt ps c.source ++ [32, 45, 62, 32] ++ nameAt ps c.target ++ [32] ++ kindW c.kind.toNat ++ [32] ++ decF c.size ++ [32] ++ decF c.depth ++ [59, 10]
def headT (f : Int) : List UInt8 := [109, 111, 100, 117, 108, 101, 32] ++ decF f ++ [59, 10]
def printL (M : ManD) : List UInt8 := headT M.frame ++ M.parts.flatMap partT ++ M.chans.flatMap (chanT M.parts)

theorem ba_data (l : List UInt8) : (ba l).data.toList = l := by simp [ba]
theorem flat_step {α : Type} (l : List α) (g : α → List UInt8) (k : Nat) (hk : k < l.length) : (l.take (k + 1)).flatMap g = (l.take k).flatMap g ++ g l[k] := by
  rw [take_snocD l k hk, List.flatMap_append]; simp
end Go.Proofs.YteioennfpkoagaaGreatDoor.C
namespace Go.Proofs.YteioennfpkoagaaGreatDoor.C
open Go.RowKit
attribute [local go_sem ↓] Go.wp_at_zero Go.wp_at_succ

theorem cat_ok {a b : ByteArray} {n m : Nat} (h1 : a.size ≤ n) (h2 : b.size ≤ m) (h : n + m ≤ 9223372036854775807) : ¬ 9223372036854775807 < a.size + b.size := by omega
theorem cat_run (a b : ByteArray) (h : ¬ 9223372036854775807 < a.size + b.size) (w : World) : (binOp .add 9 (.string a) (.string b)).run Tryz.prog w = .ok (.string (a ++ b)) w := by simp [go_sem, h]
theorem cat_le {a b : ByteArray} {n m : Nat} (h1 : a.size ≤ n) (h2 : b.size ≤ m) : (a ++ b).size ≤ n + m := by
  rw [ByteArray.size_append]; omega
theorem dec_sz (n : Int) : (ba (decF n)).size ≤ 3 := by rw [ba_size]; exact decF_len n
theorem actW_len (a : Nat) : (ba (actW a)).size ≤ 7 := by rw [ba_size]; unfold actW; split <;> simp
theorem rightW_len (a : Nat) : (ba (rightW a)).size ≤ 7 := by rw [ba_size]; unfold rightW; split <;> simp
theorem kindW_len (a : Nat) : (ba (kindW a)).size ≤ 7 := by rw [ba_size]; unfold kindW; split <;> simp
theorem act_cell {w : World} {g : Nat} (h : w.heap[g]? = some (.cells #[.string { data := #[] }, .string { data := #[105, 103, 110, 111, 114, 101] }, .string { data := #[115, 116, 111, 112] }, .string { data := #[114, 101, 115, 116, 97, 114, 116] }] 9 (0, 0))) (a : Nat) (ha : a ≤ 3) : w.cell? ⟨g, a, none⟩ = some (.string (ba (actW a))) := by
  rw [cell_of_blk h]
  rcases (show a = 0 ∨ a = 1 ∨ a = 2 ∨ a = 3 by omega) with rfl | rfl | rfl | rfl <;> rfl
theorem right_cell {w : World} {g : Nat} (h : w.heap[g]? = some (.cells #[.string { data := #[] }, .string { data := #[108, 111, 111, 107] }, .string { data := #[99, 104, 97, 110, 103, 101] }] 9 (0, 0))) (a : Nat) (ha : a ≤ 2) : w.cell? ⟨g, a, none⟩ = some (.string (ba (rightW a))) := by
  rw [cell_of_blk h]
  rcases (show a = 0 ∨ a = 1 ∨ a = 2 by omega) with rfl | rfl | rfl <;> rfl
theorem kind_cell {w : World} {g : Nat} (h : w.heap[g]? = some (.cells #[.string { data := #[] }, .string { data := #[113, 117, 101, 117, 101] }, .string { data := #[115, 97, 109, 112, 108, 101] }] 9 (0, 0))) (a : Nat) (ha : a ≤ 2) : w.cell? ⟨g, a, none⟩ = some (.string (ba (kindW a))) := by
  rw [cell_of_blk h]
  rcases (show a = 0 ∨ a = 1 ∨ a = 2 by omega) with rfl | rfl | rfl <;> rfl
theorem keep5 {B : Nat} {W w1 w2 : World} {a0 a1 a2 a3 a4 : Addr} {v0 v1 v2 v3 v4 : Value} (h : w1.cell? a0 = some v0 ∧ w1.cell? a1 = some v1 ∧ w1.cell? a2 = some v2 ∧ w1.cell? a3 = some v3 ∧ w1.cell? a4 = some v4 ∧ Below B W w1) (hb : Below w1.heap.size w1 w2) (hB : B ≤ W.heap.size) : w2.cell? a0 = some v0 ∧ w2.cell? a1 = some v1 ∧ w2.cell? a2 = some v2 ∧ w2.cell? a3 = some v3 ∧ w2.cell? a4 = some v4 ∧ Below B W w2 := by
  obtain ⟨h0, h1, h2, h3, h4, hx⟩ := h
  exact ⟨keepC h0 hb, keepC h1 hb, keepC h2 hb, keepC h3 hb, keepC h4 hb, hx.trans (hb.mono (Nat.le_trans hB hx.size))⟩
theorem keep4 {B : Nat} {W w1 w2 : World} {a0 a1 a2 a3 : Addr} {v0 v1 v2 v3 : Value} (h : w1.cell? a0 = some v0 ∧ w1.cell? a1 = some v1 ∧ w1.cell? a2 = some v2 ∧ w1.cell? a3 = some v3 ∧ Below B W w1) (hb : Below w1.heap.size w1 w2) (hB : B ≤ W.heap.size) : w2.cell? a0 = some v0 ∧ w2.cell? a1 = some v1 ∧ w2.cell? a2 = some v2 ∧ w2.cell? a3 = some v3 ∧ Below B W w2 := by
  obtain ⟨h0, h1, h2, h3, hx⟩ := h
  exact ⟨keepC h0 hb, keepC h1 hb, keepC h2 hb, keepC h3 hb, hx.trans (hb.mono (Nat.le_trans hB hx.size))⟩
theorem keep10 {B : Nat} {W w1 w2 : World} {a0 a1 a2 a3 a4 a5 a6 a7 a8 a9 : Addr} {v0 v1 v2 v3 v4 v5 v6 v7 v8 v9 : Value} (h : w1.cell? a0 = some v0 ∧ w1.cell? a1 = some v1 ∧ w1.cell? a2 = some v2 ∧ w1.cell? a3 = some v3 ∧ w1.cell? a4 = some v4 ∧ w1.cell? a5 = some v5 ∧ w1.cell? a6 = some v6 ∧ w1.cell? a7 = some v7 ∧ w1.cell? a8 = some v8 ∧ w1.cell? a9 = some v9 ∧ Below B W w1) (hb : Below w1.heap.size w1 w2) (hB : B ≤ W.heap.size) : w2.cell? a0 = some v0 ∧ w2.cell? a1 = some v1 ∧ w2.cell? a2 = some v2 ∧ w2.cell? a3 = some v3 ∧ w2.cell? a4 = some v4 ∧ w2.cell? a5 = some v5 ∧ w2.cell? a6 = some v6 ∧ w2.cell? a7 = some v7 ∧ w2.cell? a8 = some v8 ∧ w2.cell? a9 = some v9 ∧ Below B W w2 := by
  obtain ⟨h0, h1, h2, h3, h4, h5, h6, h7, h8, h9, hx⟩ := h
  exact ⟨keepC h0 hb, keepC h1 hb, keepC h2 hb, keepC h3 hb, keepC h4 hb, keepC h5 hb, keepC h6 hb, keepC h7 hb, keepC h8 hb, keepC h9 hb, hx.trans (hb.mono (Nat.le_trans hB hx.size))⟩
theorem ba_of {s : ByteArray} {l : List UInt8} (h : s.data.toList = l) : s = ba l := by
  subst h; cases s; simp [ba]
theorem keepW {w V : World} {a : Addr} {v : Value} (h : w.cell? a = some v) (hb : Below w.heap.size w V) : V.cell? a = some v := keepC h hb
/- what stands while Print goes on -/
def PrB (w : World) (f : Int) (pa ca : Option Addr) (n pcap m ccap ab : Nat) (V : World) : Prop :=
  V.heap[w.heap.size]? = some (.cells #[.int .i64 f, .slice pa n pcap, .slice ca m ccap] 34 (0, 0)) ∧ V.heap[ab]? = some (.cells #[.string { data := #[] }, .string { data := #[105, 103, 110, 111, 114, 101] }, .string { data := #[115, 116, 111, 112] }, .string { data := #[114, 101, 115, 116, 97, 114, 116] }] 9 (0, 0)) ∧ V.heap[ab + 1]? = some (.cells #[.string { data := #[] }, .string { data := #[108, 111, 111, 107] }, .string { data := #[99, 104, 97, 110, 103, 101] }] 9 (0, 0)) ∧ V.heap[ab + 1 + 1]? = some (.cells #[.string { data := #[] }, .string { data := #[113, 117, 101, 117, 101] }, .string { data := #[115, 97, 109, 112, 108, 101] }] 9 (0, 0)) ∧ Below w.heap.size w V
theorem PrB.below {w V V' : World} {f : Int} {pa ca : Option Addr} {n pcap m ccap ab : Nat} (h : PrB w f pa ca n pcap m ccap ab V) (hb : Below V.heap.size V V') : PrB w f pa ca n pcap m ccap ab V' := by
  obtain ⟨h1, h2, h3, h4, h5⟩ := h
  exact ⟨(hb.block _ (lt_of_blk h1)).trans h1, (hb.block _ (lt_of_blk h2)).trans h2, (hb.block _ (lt_of_blk h3)).trans h3, (hb.block _ (lt_of_blk h4)).trans h4, h5.trans (hb.mono h5.size)⟩
end Go.Proofs.YteioennfpkoagaaGreatDoor.C
namespace Go.Proofs.YteioennfpkoagaaGreatDoor.C
open Go.RowKit

/- the parser's steps over tokens that are known -/
def S (k : Nat) : RS := ⟨k, 0, 0, 0⟩
def At (l : List UInt8) (k : Nat) (t : List UInt8) : Prop := (tk l k).text = t ∧ (tk l k).sort = (tokF t).2 ∧ isTok t
theorem sort_ne0 {t : List UInt8} (h : isTok t) : (tokF t).2 ≠ 0 := by
  obtain ⟨h0, _, _⟩ := h
  cases t with
  | nil => exact absurd rfl h0
  | cons b r =>
    simp only [tokF]
    split; · simp
    split; · simp
    split; · simp
    split <;> simp
section
variable {l : List UInt8} {k : Nat} {t kw : List UInt8}
theorem is_yes (h : At l k kw) : isR l (S k) kw = true := by
  unfold isR S
  simp only [decide_eq_true_eq]
  exact ⟨trivial, by rw [h.2.1]; exact sort_ne0 h.2.2, h.1⟩
theorem is_no (h : At l k t) (hn : t ≠ kw) : isR l (S k) kw = false := by
  unfold isR S
  simp only [decide_eq_false_iff_not]
  rintro ⟨_, _, e⟩
  exact hn (h.1.symm.trans e)
theorem is_end (h : (tk l k).sort = 0) : isR l (S k) kw = false := by
  unfold isR S
  simp only [decide_eq_false_iff_not]
  rintro ⟨_, e, _⟩
  exact e h
theorem must_on (h : At l k kw) (r : List (List UInt8)) : mustR l (S k) (kw :: r) = mustR l (S (k + 1)) r := by
  simp only [mustR]
  rw [if_pos (is_yes h)]; rfl
theorem must_nil (r : RS) : mustR l r [] = r := rfl
theorem some_on {sort : Nat} (h : At l k t) (hs : (tokF t).2 = sort) (hl : looksF sort t = 0) : someR l (S k) sort = (t, S (k + 1)) := by
  have e : lk l k = 0 := by unfold lk; rw [h.1, h.2.1, hs]; exact hl
  unfold someR
  rw [if_neg (by simp [S]), if_neg (by simp only [S]; rw [h.2.1, hs, e]; simp)]
  simp only [S, nextR]
  rw [h.1]
theorem oneOf_on (h : At l k t) : ∀ (kws : List (List UInt8)) (i j : Nat), kws[j]? = some t → (∀ j', j' < j → kws[j']? ≠ some t) → oneOfR l (S k) i kws = (i + j + 1, S (k + 1)) := by
  intro kws
  induction kws with
  | nil => intro i j hj; simp at hj
  | cons kw r ih =>
    intro i j hj hd
    simp only [oneOfR]
    cases j with
    | zero =>
      have : kw = t := by simpa using hj
      subst this
      rw [if_pos (is_yes h)]; rfl
    | succ j =>
      have hne : t ≠ kw := fun e => hd 0 (by omega) (by simp [e])
      rw [if_neg (by rw [is_no h hne]; simp), ih (i + 1) j (by simpa using hj) (fun j' hj' => by have := hd (j' + 1) (by omega); simpa using this)]
      rw [show i + 1 + j + 1 = i + (j + 1) + 1 by omega]
theorem endGo_on (h : At l k t) (hs : (tokF t).2 = 1) : ∀ (names : List (List UInt8)) (i j : Nat), names[j]? = some t → (∀ j', j' < j → names[j']? ≠ some t) → endGo l (S k) i names = (i + j, S (k + 1)) := by
  intro names
  induction names with
  | nil => intro i j hj; simp at hj
  | cons nm r ih =>
    intro i j hj hd
    simp only [endGo]
    have e1 : (tk l (S k).at').sort = 1 := by show (tk l k).sort = 1; rw [h.2.1, hs]
    have e2 : (tk l (S k).at').text = t := h.1
    cases j with
    | zero =>
      have : nm = t := by simpa using hj
      rw [if_pos ⟨e1, by rw [e2]; exact this⟩]; rfl
    | succ j =>
      have hne : ¬ nm = t := fun e => hd 0 (by omega) (by simp [e])
      rw [if_neg (by rw [e2]; exact fun hh => hne hh.2), ih (i + 1) j (by simpa using hj) (fun j' hj' => by have := hd (j' + 1) (by omega); simpa using this)]
      rw [show i + 1 + j = i + (j + 1) by omega]
theorem end_on (h : At l k t) (hs : (tokF t).2 = 1) (names : List (List UInt8)) (j : Nat) (hj : names[j]? = some t) (hd : ∀ j', j' < j → names[j']? ≠ some t) : endR l (S k) names = (j, S (k + 1)) := by
  unfold endR
  rw [if_neg (by simp [S]), endGo_on h hs names 0 j hj hd, Nat.zero_add]
end
/- numbers -/
theorem num_all : ((List.range 1000).all fun n => decide ((tokF (decG 3 n)).1 = (decG 3 n).length) && decide ((tokF (decG 3 n)).2 = 2) && decide (looksF 2 (decG 3 n) = 0) && decide (valF (decG 3 n) = (n : Int)) && decide (decG 3 n ≠ [])) = true := by kernel_rfl
theorem num_of {n : Int} (h : 0 ≤ n ∧ n ≤ 999) : isTok (decF n) ∧ (tokF (decF n)).2 = 2 ∧ looksF 2 (decF n) = 0 ∧ valF (decF n) = n := by
  have h1 := List.all_eq_true.1 num_all n.toNat (List.mem_range.2 (by omega))
  simp only [Bool.and_eq_true, decide_eq_true_eq] at h1
  obtain ⟨⟨⟨⟨a, b⟩, c⟩, d⟩, e⟩ := h1
  unfold decF
  exact ⟨⟨e, a, by rw [b]; decide⟩, b, c, by rw [d]; omega⟩
theorem num_on {l : List UInt8} {k : Nat} {n : Int} (h : At l k (decF n)) (hn : 0 ≤ n ∧ n ≤ 999) : numberR l (S k) = (n, S (k + 1)) := by
  obtain ⟨_, b, c, d⟩ := num_of hn
  unfold numberR
  rw [some_on h b c, d]
/- tokens in a row -/
def TokAt (l : List UInt8) (k : Nat) (ts : List (List UInt8)) : Prop := ∀ j (h : j < ts.length), At l (k + j) ts[j]
theorem TokAt.left {l : List UInt8} {k : Nat} {a b : List (List UInt8)} (h : TokAt l k (a ++ b)) : TokAt l k a := fun j hj => by
  have := h j (by rw [List.length_append]; omega)
  rwa [List.getElem_append_left hj] at this
theorem TokAt.right {l : List UInt8} {k : Nat} {a b : List (List UInt8)} (h : TokAt l k (a ++ b)) : TokAt l (k + a.length) b := fun j hj => by
  have := h (a.length + j) (by rw [List.length_append]; omega)
  rw [List.getElem_append_right (by omega)] at this
  simpa [Nat.add_assoc] using this
theorem TokAt.head {l : List UInt8} {k : Nat} {t : List UInt8} {b : List (List UInt8)} (h : TokAt l k (t :: b)) : At l k t := h 0 (by simp)
theorem TokAt.tail {l : List UInt8} {k : Nat} {t : List UInt8} {b : List (List UInt8)} (h : TokAt l k (t :: b)) : TokAt l (k + 1) b := fun j hj => by
  have := h (j + 1) (by simpa using hj)
  simpa [Nat.add_assoc, Nat.add_comm 1 j] using this
theorem TokAt.of {l : List UInt8} {ts : List (List UInt8)} (h : Txt l ts) : TokAt l 0 ts := fun j hj => by
  rw [Nat.zero_add]; exact h.tk j hj
/- the words of the options -/
theorem right_at {n : Int} (h1 : 1 ≤ n) (h2 : n ≤ 2) : kRights[n.toNat - 1]? = some (rightW n.toNat) ∧ (∀ j', j' < n.toNat - 1 → kRights[j']? ≠ some (rightW n.toNat)) := by
  have : n = 1 ∨ n = 2 := by omega
  rcases this with rfl | rfl
  · exact ⟨rfl, fun j h => absurd (show j < 0 from h) (Nat.not_lt_zero j)⟩
  · refine ⟨rfl, fun j h => ?_⟩
    have : j = 0 := by have : j < 1 := h; omega
    subst this; decide
theorem kind_at {n : Int} (h1 : 1 ≤ n) (h2 : n ≤ 2) : kKinds[n.toNat - 1]? = some (kindW n.toNat) ∧ (∀ j', j' < n.toNat - 1 → kKinds[j']? ≠ some (kindW n.toNat)) := by
  have : n = 1 ∨ n = 2 := by omega
  rcases this with rfl | rfl
  · exact ⟨rfl, fun j h => absurd (show j < 0 from h) (Nat.not_lt_zero j)⟩
  · refine ⟨rfl, fun j h => ?_⟩
    have : j = 0 := by have : j < 1 := h; omega
    subst this; decide
theorem act_at {n : Int} (h1 : 1 ≤ n) (h2 : n ≤ 3) : kActions[n.toNat - 1]? = some (actW n.toNat) ∧ (∀ j', j' < n.toNat - 1 → kActions[j']? ≠ some (actW n.toNat)) := by
  have : n = 1 ∨ n = 2 ∨ n = 3 := by omega
  rcases this with rfl | rfl | rfl
  · exact ⟨rfl, fun j h => absurd (show j < 0 from h) (Nat.not_lt_zero j)⟩
  · refine ⟨rfl, fun j h => ?_⟩
    have : j = 0 := by have : j < 1 := h; omega
    subst this; decide
  · refine ⟨rfl, fun j h => ?_⟩
    have : j = 0 ∨ j = 1 := by have : j < 2 := h; omega
    rcases this with rfl | rfl <;> decide
/- a region -/
def regK (r : RegD) : List (List UInt8) := [kMemory, decF r.page, decF r.pages, rightW r.rights.toNat, kSemi]
def regA (r : RegD) : Reg := ⟨r.page, r.pages, r.rights.toNat⟩
theorem region_on {l : List UInt8} {k : Nat} {r : RegD} (h : TokAt l k (regK r)) (hb : regB r = true) : regionR l (S k) = (regA r, S (k + 5)) := by
  unfold regB at hb
  simp only [decide_eq_true_eq] at hb
  have a1 := h.tail.head
  have a2 := h.tail.tail.head
  have a3 := h.tail.tail.tail.head
  have a4 := h.tail.tail.tail.tail.head
  obtain ⟨w1, w2⟩ := right_at (n := r.rights) (by omega) (by omega)
  unfold regionR regA
  simp only []
  rw [show nextR (S k) = S (k + 1) from rfl, num_on a1 ⟨by omega, by omega⟩]
  simp only []
  rw [num_on a2 ⟨by omega, by omega⟩]
  simp only []
  rw [oneOf_on a3 kRights 0 _ w1 w2]
  simp only []
  rw [must_on a4, must_nil]
  rw [show 0 + (r.rights.toNat - 1) + 1 = r.rights.toNat by omega]
theorem regs_on {l : List UInt8} : ∀ (rs : List RegD) (F k : Nat) (acc : List Reg), TokAt l k (rs.flatMap regK ++ [kShut]) → (∀ r ∈ rs, regB r = true) → rs.length ≤ F → regsR l F (S k) acc = (acc ++ rs.map regA, S (k + 5 * rs.length)) := by
  intro rs
  induction rs with
  | nil =>
    intro F k acc h _ _
    rw [regsR_stop l F _ acc (is_no (show At l k kShut from h.head) (by decide))]
    simp
  | cons r rs ih =>
    intro F k acc h hb hF
    rw [List.flatMap_cons, List.append_assoc] at h
    cases F with
    | zero => simp at hF
    | succ F =>
      have hr := h.left
      rw [regsR_on l F _ acc (is_yes hr.head), region_on hr (hb r (by simp))]
      simp only []
      rw [ih F (k + 5) _ h.right (fun x hx => hb x (by simp [hx])) (by simpa using hF)]
      simp only [List.map_cons, List.append_assoc, List.cons_append, List.nil_append, List.length_cons]
      rw [show k + 5 + 5 * rs.length = k + 5 * (rs.length + 1) by omega]
end Go.Proofs.YteioennfpkoagaaGreatDoor.C
namespace Go.Proofs.YteioennfpkoagaaGreatDoor.C
open Go.RowKit

/- a name is a word -/
theorem name_tok {t : List UInt8} (h : nameF t = true) : isTok t ∧ (tokF t).2 = 1 ∧ looksF 1 t = 0 := by
  unfold nameF at h
  simp only [Bool.and_eq_true, decide_eq_true_eq] at h
  obtain ⟨⟨⟨h1, h2⟩, h3⟩, h4⟩ := h
  cases t with
  | nil => simp at h1
  | cons b r =>
    simp at h3
    have hr : runF r = r.length := by
      have key : ∀ r : List UInt8, (r.all fun b => insideB b.toNat) = true → runF r = r.length := by
        intro r
        induction r with
        | nil => intro _; rfl
        | cons c r ih =>
          intro h
          simp only [List.all_cons, Bool.and_eq_true] at h
          simp only [runF, List.length_cons]
          rw [if_pos h.1, ih h.2]
      apply key
      simp only [List.all_cons, Bool.and_eq_true] at h4
      exact h4.2
    have ht := tok_word (l := r) h3
    refine ⟨⟨by simp, by rw [ht, hr]; rfl, by rw [ht]; simp⟩, by rw [ht], ?_⟩
    unfold looksF
    rw [if_neg (by omega), if_pos (by decide)]
/- a partition -/
def partK0 (x : PartD) : List (List UInt8) := [kPartition, x.name.data.toList, kOpen, kPeriod, decF x.period, kSemi, kDuration, decF x.duration, kSemi, kFault, actW x.action.toNat, kSemi]
def partK (x : PartD) : List (List UInt8) := partK0 x ++ (x.regs.flatMap regK ++ [kShut])
def partA (x : PartD) : Part := ⟨x.name.data.toList, x.period, x.duration, x.action.toNat, x.regs.map regA⟩
def PartOK (x : PartD) : Prop := nameF x.name.data.toList = true ∧ (0 ≤ x.period ∧ x.period ≤ 999) ∧ (0 ≤ x.duration ∧ x.duration ≤ 999) ∧ (1 ≤ x.action ∧ x.action ≤ 3) ∧ ∀ r ∈ x.regs, regB r = true
theorem regK_len (rs : List RegD) : (rs.flatMap regK).length = 5 * rs.length := by
  induction rs with
  | nil => rfl
  | cons r rs ih => rw [List.flatMap_cons, List.length_append, ih, List.length_cons]; show 5 + _ = _; omega
theorem partK_len (x : PartD) : (partK x).length = 13 + 5 * x.regs.length := by
  unfold partK
  rw [List.length_append, List.length_append, regK_len]
  show 12 + (_ + 1) = _
  omega
theorem part_on {l : List UInt8} {k F : Nat} {x : PartD} (h : TokAt l k (partK x)) (hx : PartOK x) (hF : x.regs.length ≤ F) : partitionR l F (S k) = (partA x, S (k + (partK x).length)) := by
  obtain ⟨hn, hp, hd, ha, hr⟩ := hx
  have h0 := h.left
  have h1 := h.right
  have a0 : At l k kPartition := h0.head
  have a1 := h0.tail.head
  have a2 := h0.tail.tail.head
  have a3 := h0.tail.tail.tail.head
  have a4 := h0.tail.tail.tail.tail.head
  have a5 := h0.tail.tail.tail.tail.tail.head
  have a6 := h0.tail.tail.tail.tail.tail.tail.head
  have a7 := h0.tail.tail.tail.tail.tail.tail.tail.head
  have a8 := h0.tail.tail.tail.tail.tail.tail.tail.tail.head
  have a9 := h0.tail.tail.tail.tail.tail.tail.tail.tail.tail.head
  have a10 := h0.tail.tail.tail.tail.tail.tail.tail.tail.tail.tail.head
  have a11 := h0.tail.tail.tail.tail.tail.tail.tail.tail.tail.tail.tail.head
  obtain ⟨_, n1, n2⟩ := name_tok hn
  obtain ⟨w1, w2⟩ := act_at ha.1 ha.2
  have hh : partHeadR l (S k) = ((x.name.data.toList, x.period, x.duration, x.action.toNat), S (k + 12)) := by
    unfold partHeadR
    simp only []
    rw [must_on a0, must_nil, some_on a1 n1 n2]
    simp only []
    rw [must_on a2, must_on a3, must_nil, num_on a4 hp]
    simp only []
    rw [must_on a5, must_on a6, must_nil, num_on a7 hd]
    simp only []
    rw [must_on a8, must_on a9, must_nil, oneOf_on a10 kActions 0 _ w1 w2]
    simp only []
    rw [must_on a11, must_nil, show 0 + (x.action.toNat - 1) + 1 = x.action.toNat by omega]
  unfold partitionR
  simp only []
  rw [hh]
  simp only []
  have h1' : TokAt l (k + 12) (x.regs.flatMap regK ++ [kShut]) := h1
  rw [regs_on x.regs F (k + 12) [] h1' hr hF]
  simp only []
  have hs : At l (k + 12 + 5 * x.regs.length) kShut := by
    have := h1'.right.head
    rw [regK_len] at this
    exact this
  rw [must_on hs, must_nil, partK_len]
  simp only [List.nil_append, partA]
  rw [show k + 12 + 5 * x.regs.length + 1 = k + (13 + 5 * x.regs.length) by omega]
theorem parts_on {l : List UInt8} {N : Nat} : ∀ (ps : List PartD) (F k : Nat) (acc : List Part), TokAt l k (ps.flatMap partK) → isR l (S (k + (ps.flatMap partK).length)) kPartition = false → (∀ x ∈ ps, PartOK x ∧ x.regs.length ≤ N) → ps.length ≤ F → partsR l N F (S k) acc = (acc ++ ps.map partA, S (k + (ps.flatMap partK).length)) := by
  intro ps
  induction ps with
  | nil =>
    intro F k acc _ hs _ _
    rw [partsR_stop l N F _ acc (by simpa using hs)]
    simp
  | cons x ps ih =>
    intro F k acc h hs hx hF
    rw [List.flatMap_cons] at h hs ⊢
    cases F with
    | zero => simp at hF
    | succ F =>
      have hp := h.left
      have h0 : At l k kPartition := hp.left.head
      rw [partsR_on l N F _ acc (is_yes h0), part_on hp (hx x (by simp)).1 (hx x (by simp)).2]
      simp only []
      rw [List.length_append, ← Nat.add_assoc] at hs
      rw [ih F _ _ h.right hs (fun y hy => hx y (by simp [hy])) (by simpa using hF)]
      simp only [List.map_cons, List.append_assoc, List.cons_append, List.nil_append, List.length_append]
      rw [Nat.add_assoc]
/- a channel -/
def chanK (ps : List PartD) (c : ChanD) : List (List UInt8) := [kChannel, c.name.data.toList, nameAt ps c.source, kArrow, nameAt ps c.target, kindW c.kind.toNat, decF c.size, decF c.depth, kSemi]
def chanA (c : ChanD) : Chan := ⟨c.name.data.toList, c.source.toNat, c.target.toNat, c.kind.toNat, c.size, c.depth⟩
def namesK (ps : List PartD) : List (List UInt8) := ps.map fun p => p.name.data.toList
def ChanOK (ps : List PartD) (c : ChanD) : Prop := nameF c.name.data.toList = true ∧ (0 ≤ c.source ∧ c.source < ps.length) ∧ (0 ≤ c.target ∧ c.target < ps.length) ∧ (1 ≤ c.kind ∧ c.kind ≤ 2) ∧ (0 ≤ c.size ∧ c.size ≤ 999) ∧ (0 ≤ c.depth ∧ c.depth ≤ 999)
def NamesOK (ps : List PartD) : Prop := (∀ p ∈ ps, nameF p.name.data.toList = true) ∧ ∀ i j (_ : i < j) (_ : j < ps.length), (namesK ps)[i]? ≠ (namesK ps)[j]?
theorem name_at {ps : List PartD} {i : Int} (h : 0 ≤ i ∧ i < ps.length) : (namesK ps)[i.toNat]? = some (nameAt ps i) := by
  unfold namesK nameAt
  rw [List.getElem?_map, List.getElem?_eq_getElem (by omega)]; rfl
theorem chan_on {l : List UInt8} {k : Nat} {ps : List PartD} {c : ChanD} (h : TokAt l k (chanK ps c)) (hn : NamesOK ps) (hc : ChanOK ps c) : channelR l (namesK ps) (S k) = (chanA c, S (k + 9)) := by
  obtain ⟨c1, c2, c3, c4, c5, c6⟩ := hc
  have a0 : At l k kChannel := h.head
  have a1 := h.tail.head
  have a2 := h.tail.tail.head
  have a3 := h.tail.tail.tail.head
  have a4 := h.tail.tail.tail.tail.head
  have a5 := h.tail.tail.tail.tail.tail.head
  have a6 := h.tail.tail.tail.tail.tail.tail.head
  have a7 := h.tail.tail.tail.tail.tail.tail.tail.head
  have a8 := h.tail.tail.tail.tail.tail.tail.tail.tail.head
  obtain ⟨_, n1, n2⟩ := name_tok c1
  have nm : ∀ i : Int, 0 ≤ i ∧ i < ps.length → (tokF (nameAt ps i)).2 = 1 := fun i hi => by
    have e := name_at hi
    unfold namesK at e
    rw [List.getElem?_map, List.getElem?_eq_getElem (by omega)] at e
    have e2 : ps[i.toNat].name.data.toList = nameAt ps i := by simpa using e
    rw [← e2]
    exact (name_tok (hn.1 _ (List.getElem_mem _))).2.1
  have fst : ∀ i : Int, 0 ≤ i ∧ i < ps.length → ∀ j', j' < i.toNat → (namesK ps)[j']? ≠ some (nameAt ps i) := fun i hi j' hj => by
    rw [← name_at hi]
    exact hn.2 j' i.toNat hj (by omega)
  obtain ⟨w1, w2⟩ := kind_at c4.1 c4.2
  unfold channelR chanA
  simp only []
  rw [must_on a0, must_nil, some_on a1 n1 n2]
  simp only []
  rw [end_on a2 (nm _ c2) (namesK ps) _ (name_at c2) (fst _ c2)]
  simp only []
  rw [must_on a3, must_nil, end_on a4 (nm _ c3) (namesK ps) _ (name_at c3) (fst _ c3)]
  simp only []
  rw [oneOf_on a5 kKinds 0 _ w1 w2]
  simp only []
  rw [num_on a6 c5]
  simp only []
  rw [num_on a7 c6]
  simp only []
  rw [must_on a8, must_nil, show 0 + (c.kind.toNat - 1) + 1 = c.kind.toNat by omega]
theorem chans_on {l : List UInt8} {ps : List PartD} (hn : NamesOK ps) : ∀ (cs : List ChanD) (F k : Nat) (acc : List Chan), TokAt l k (cs.flatMap (chanK ps)) → isR l (S (k + 9 * cs.length)) kChannel = false → (∀ c ∈ cs, ChanOK ps c) → cs.length ≤ F → chansR l (namesK ps) F (S k) acc = (acc ++ cs.map chanA, S (k + 9 * cs.length)) := by
  intro cs
  induction cs with
  | nil =>
    intro F k acc _ hs _ _
    rw [chansR_stop l _ F _ acc (by simpa using hs)]
    simp
  | cons c cs ih =>
    intro F k acc h hs hx hF
    rw [List.flatMap_cons] at h
    cases F with
    | zero => simp at hF
    | succ F =>
      have hp := h.left
      have h0 : At l k kChannel := hp.head
      rw [chansR_on l _ F _ acc (is_yes h0), chan_on hp hn (hx c (by simp))]
      simp only []
      rw [ih F (k + 9) _ h.right (by rw [List.length_cons] at hs; rw [show k + 9 + 9 * cs.length = k + 9 * (cs.length + 1) by omega]; exact hs) (fun y hy => hx y (by simp [hy])) (by simpa using hF)]
      simp only [List.map_cons, List.append_assoc, List.cons_append, List.nil_append, List.length_cons]
      rw [show k + 9 + 9 * cs.length = k + 9 * (cs.length + 1) by omega]
/- all of it -/
def manK (M : ManD) : List (List UInt8) := [kModule, decF M.frame, kSemi] ++ (M.parts.flatMap partK ++ M.chans.flatMap (chanK M.parts))
theorem chanK_len (ps : List PartD) (cs : List ChanD) : (cs.flatMap (chanK ps)).length = 9 * cs.length := by
  induction cs with
  | nil => rfl
  | cons c cs ih => rw [List.flatMap_cons, List.length_append, ih, List.length_cons]; show 9 + _ = _; omega
theorem partK_many (ps : List PartD) : ps.length ≤ (ps.flatMap partK).length ∧ ∀ x ∈ ps, x.regs.length ≤ (ps.flatMap partK).length := by
  induction ps with
  | nil => simp
  | cons x ps ih =>
    rw [List.flatMap_cons, List.length_append, partK_len, List.length_cons]
    refine ⟨by omega, fun y hy => ?_⟩
    rcases List.mem_cons.1 hy with rfl | hy
    · omega
    · have := ih.2 y hy; omega
theorem parse_on {l : List UInt8} {M : ManD} (h : Txt l (manK M)) (hf : 0 ≤ M.frame ∧ M.frame ≤ 999) (hp : ∀ x ∈ M.parts, PartOK x) (hn : NamesOK M.parts) (hc : ∀ c ∈ M.chans, ChanOK M.parts c) :
    parseR l ((manK M).length + 1) = (⟨M.frame, M.parts.map partA, M.chans.map chanA⟩, S (manK M).length) := by
  have ht := TokAt.of h
  have hlen : (manK M).length = 3 + (M.parts.flatMap partK).length + 9 * M.chans.length := by
    unfold manK
    rw [List.length_append, List.length_append, chanK_len]
    show 3 + _ = _
    omega
  have hend := h.end_sort
  have h0 : TokAt l 0 [kModule, decF M.frame, kSemi] := ht.left
  have h1 : TokAt l 3 (M.parts.flatMap partK ++ M.chans.flatMap (chanK M.parts)) := by simpa using ht.right
  have hP := h1.left
  have hC := h1.right
  have hm := partK_many M.parts
  have hstop1 : isR l (S (3 + (M.parts.flatMap partK).length)) kPartition = false := by
    cases hcs : M.chans with
    | nil => exact is_end (by rw [← hend, hlen, hcs]; rfl)
    | cons c cs =>
      rw [hcs, List.flatMap_cons] at hC
      exact is_no (show At l _ kChannel from hC.left.head) (by decide)
  have hstop2 : isR l (S (3 + (M.parts.flatMap partK).length + 9 * M.chans.length)) kChannel = false := is_end (by rw [← hend, hlen])
  unfold parseR
  simp only []
  have a0 : At l 0 kModule := h0.head
  have a1 : At l 1 (decF M.frame) := by simpa using h0.tail.head
  have a2 : At l 2 kSemi := by simpa using h0.tail.tail.head
  rw [show (⟨0, 0, 0, 0⟩ : RS) = S 0 from rfl, must_on a0, must_nil, show (0 + 1) = 1 from rfl, num_on a1 hf]
  simp only []
  rw [show (1 + 1) = 2 from rfl, must_on a2, must_nil, show (2 + 1) = 3 from rfl]
  rw [parts_on M.parts _ 3 [] hP hstop1 (fun x hx => ⟨hp x hx, by have := hm.2 x hx; omega⟩) (by have := hm.1; omega)]
  simp only [List.nil_append]
  have en : (M.parts.map partA).map Part.name = namesK M.parts := by unfold namesK; rw [List.map_map]; rfl
  rw [en, chans_on hn M.chans _ _ [] hC hstop2 hc (by omega)]
  simp only [List.nil_append]
  rw [if_neg (by simp only [S]; rw [← hlen]; rintro ⟨_, e⟩; exact e hend), hlen]
end Go.Proofs.YteioennfpkoagaaGreatDoor.C
