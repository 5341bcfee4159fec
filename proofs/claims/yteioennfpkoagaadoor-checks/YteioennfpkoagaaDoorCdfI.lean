import Derived.Test.YteioennfpkoagaaDoorCdfH
namespace Go.Proofs.YteioennfpkoagaaDoor.C
open Go.RowKit
attribute [local go_sem ↓] Go.wp_at_zero Go.wp_at_succ

theorem cat_ok {a b : ByteArray} {n m : Nat} (h1 : a.size ≤ n) (h2 : b.size ≤ m) (h : n + m ≤ 9223372036854775807) : ¬ 9223372036854775807 < a.size + b.size := by omega
theorem cat_run (a b : ByteArray) (h : ¬ 9223372036854775807 < a.size + b.size) (w : World) : (binOp .add 9 (.string a) (.string b)).run Tryd.prog w = .ok (.string (a ++ b)) w := by simp [go_sem, h]
theorem cat_le {a b : ByteArray} {n m : Nat} (h1 : a.size ≤ n) (h2 : b.size ≤ m) : (a ++ b).size ≤ n + m := by
  rw [ByteArray.size_append]; omega
theorem dec_sz (n : Int) : (ba (decF n)).size ≤ 3 := by rw [ba_size]; exact decF_len n
theorem actW_len (a : Nat) : (ba (actW a)).size ≤ 7 := by rw [ba_size]; unfold actW; split <;> simp
theorem rightW_len (a : Nat) : (ba (rightW a)).size ≤ 7 := by rw [ba_size]; unfold rightW; split <;> simp
theorem kindW_len (a : Nat) : (ba (kindW a)).size ≤ 7 := by rw [ba_size]; unfold kindW; split <;> simp
theorem act_cell {w : World} {g : Nat} (h : w.heap[g]? = some (.cells #[.string { data := #[] }, .string { data := #[105, 103, 110, 111, 114, 101] }, .string { data := #[115, 116, 111, 112] }, .string { data := #[114, 101, 115, 116, 97, 114, 116] }] 9 (0, 0))) (a : Nat) (ha : a ≤ 3) : w.cell? ⟨g, a, none⟩ = some (.string (ba (actW a))) := by
  rw [cell_of_blk h]
  rcases (show a = 0 ∨ a = 1 ∨ a = 2 ∨ a = 3 by omega) with rfl | rfl | rfl | rfl <;> rfl
theorem right_cell {w : World} {g : Nat} (h : w.heap[g]? = some (.cells #[.string { data := #[] }, .string { data := #[108, 111, 111, 107] }, .string { data := #[99, 104, 97, 110, 103, 101] }] 9 (0, 0))) (a : Nat) (ha : a ≤ 2) : w.cell? ⟨g, a, none⟩ = some (.string (ba (rightW a))) := by
  rw [cell_of_blk h]
  rcases (show a = 0 ∨ a = 1 ∨ a = 2 by omega) with rfl | rfl | rfl <;> rfl
theorem kind_cell {w : World} {g : Nat} (h : w.heap[g]? = some (.cells #[.string { data := #[] }, .string { data := #[113, 117, 101, 117, 101] }, .string { data := #[115, 97, 109, 112, 108, 101] }] 9 (0, 0))) (a : Nat) (ha : a ≤ 2) : w.cell? ⟨g, a, none⟩ = some (.string (ba (kindW a))) := by
  rw [cell_of_blk h]
  rcases (show a = 0 ∨ a = 1 ∨ a = 2 by omega) with rfl | rfl | rfl <;> rfl
theorem keep5 {B : Nat} {W w1 w2 : World} {a0 a1 a2 a3 a4 : Addr} {v0 v1 v2 v3 v4 : Value} (h : w1.cell? a0 = some v0 ∧ w1.cell? a1 = some v1 ∧ w1.cell? a2 = some v2 ∧ w1.cell? a3 = some v3 ∧ w1.cell? a4 = some v4 ∧ Below B W w1) (hb : Below w1.heap.size w1 w2) (hB : B ≤ W.heap.size) : w2.cell? a0 = some v0 ∧ w2.cell? a1 = some v1 ∧ w2.cell? a2 = some v2 ∧ w2.cell? a3 = some v3 ∧ w2.cell? a4 = some v4 ∧ Below B W w2 := by
  obtain ⟨h0, h1, h2, h3, h4, hx⟩ := h
  exact ⟨keepC h0 hb, keepC h1 hb, keepC h2 hb, keepC h3 hb, keepC h4 hb, hx.trans (hb.mono (Nat.le_trans hB hx.size))⟩
theorem keep4 {B : Nat} {W w1 w2 : World} {a0 a1 a2 a3 : Addr} {v0 v1 v2 v3 : Value} (h : w1.cell? a0 = some v0 ∧ w1.cell? a1 = some v1 ∧ w1.cell? a2 = some v2 ∧ w1.cell? a3 = some v3 ∧ Below B W w1) (hb : Below w1.heap.size w1 w2) (hB : B ≤ W.heap.size) : w2.cell? a0 = some v0 ∧ w2.cell? a1 = some v1 ∧ w2.cell? a2 = some v2 ∧ w2.cell? a3 = some v3 ∧ Below B W w2 := by
  obtain ⟨h0, h1, h2, h3, hx⟩ := h
  exact ⟨keepC h0 hb, keepC h1 hb, keepC h2 hb, keepC h3 hb, hx.trans (hb.mono (Nat.le_trans hB hx.size))⟩
theorem keep10 {B : Nat} {W w1 w2 : World} {a0 a1 a2 a3 a4 a5 a6 a7 a8 a9 : Addr} {v0 v1 v2 v3 v4 v5 v6 v7 v8 v9 : Value} (h : w1.cell? a0 = some v0 ∧ w1.cell? a1 = some v1 ∧ w1.cell? a2 = some v2 ∧ w1.cell? a3 = some v3 ∧ w1.cell? a4 = some v4 ∧ w1.cell? a5 = some v5 ∧ w1.cell? a6 = some v6 ∧ w1.cell? a7 = some v7 ∧ w1.cell? a8 = some v8 ∧ w1.cell? a9 = some v9 ∧ Below B W w1) (hb : Below w1.heap.size w1 w2) (hB : B ≤ W.heap.size) : w2.cell? a0 = some v0 ∧ w2.cell? a1 = some v1 ∧ w2.cell? a2 = some v2 ∧ w2.cell? a3 = some v3 ∧ w2.cell? a4 = some v4 ∧ w2.cell? a5 = some v5 ∧ w2.cell? a6 = some v6 ∧ w2.cell? a7 = some v7 ∧ w2.cell? a8 = some v8 ∧ w2.cell? a9 = some v9 ∧ Below B W w2 := by
  obtain ⟨h0, h1, h2, h3, h4, h5, h6, h7, h8, h9, hx⟩ := h
  exact ⟨keepC h0 hb, keepC h1 hb, keepC h2 hb, keepC h3 hb, keepC h4 hb, keepC h5 hb, keepC h6 hb, keepC h7 hb, keepC h8 hb, keepC h9 hb, hx.trans (hb.mono (Nat.le_trans hB hx.size))⟩
theorem ba_of {s : ByteArray} {l : List UInt8} (h : s.data.toList = l) : s = ba l := by
  subst h; cases s; simp [ba]
theorem keepW {w V : World} {a : Addr} {v : Value} (h : w.cell? a = some v) (hb : Below w.heap.size w V) : V.cell? a = some v := keepC h hb
/- what stands while Print goes on -/
def PrB (w : World) (f : Int) (pa ca : Option Addr) (n pcap m ccap ab : Nat) (V : World) : Prop :=
  V.heap[w.heap.size]? = some (.cells #[.int .i64 f, .slice pa n pcap, .slice ca m ccap] 25 (0, 0)) ∧ V.heap[ab]? = some (.cells #[.string { data := #[] }, .string { data := #[105, 103, 110, 111, 114, 101] }, .string { data := #[115, 116, 111, 112] }, .string { data := #[114, 101, 115, 116, 97, 114, 116] }] 9 (0, 0)) ∧ V.heap[ab + 1]? = some (.cells #[.string { data := #[] }, .string { data := #[108, 111, 111, 107] }, .string { data := #[99, 104, 97, 110, 103, 101] }] 9 (0, 0)) ∧ V.heap[ab + 1 + 1]? = some (.cells #[.string { data := #[] }, .string { data := #[113, 117, 101, 117, 101] }, .string { data := #[115, 97, 109, 112, 108, 101] }] 9 (0, 0)) ∧ Below w.heap.size w V
theorem PrB.below {w V V' : World} {f : Int} {pa ca : Option Addr} {n pcap m ccap ab : Nat} (h : PrB w f pa ca n pcap m ccap ab V) (hb : Below V.heap.size V V') : PrB w f pa ca n pcap m ccap ab V' := by
  obtain ⟨h1, h2, h3, h4, h5⟩ := h
  exact ⟨(hb.block _ (lt_of_blk h1)).trans h1, (hb.block _ (lt_of_blk h2)).trans h2, (hb.block _ (lt_of_blk h3)).trans h3, (hb.block _ (lt_of_blk h4)).trans h4, h5.trans (hb.mono h5.size)⟩
end Go.Proofs.YteioennfpkoagaaDoor.C
