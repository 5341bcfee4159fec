import Derived.Test.YteioennfpkoagaaGreatDoorManF
import Derived.Test.YteioennfpkoagaaGreatDoorManI
import Derived.Test.YteioennfpkoagaaGreatDoorPureN
namespace Go.Proofs.YteioennfpkoagaaGreatDoor
open Go.RowKit
attribute [local go_sem ↓] Go.wp_at_zero Go.wp_at_succ

/- the bytes of a list -/
def ba (l : List UInt8) : ByteArray := ⟨l.toArray⟩
theorem ba_list (l : List UInt8) : (ba l).data.toList = l := rfl
theorem ba_size (l : List UInt8) : (ba l).size = l.length := by show l.toArray.size = _; simp
theorem ba_eq {s : ByteArray} {l : List UInt8} (h : s.data.toList = l) : s = ba l := by
  apply ByteArray.ext; apply Array.ext'; rw [h]; rfl
/- the reader stands at the index i -/
def RVi (w : World) (c : Nat) (l : List UInt8) (i : Nat) : Prop := RV w c (ba (l.drop i)) (plc l i).1 (plc l i).2
/- the error that a wrong token is -/
def Tn (w w' : World) (t : Tok) (ew en : Addr) (k : Int) (tt : ByteArray) (v a b : Int) (ev : Value) : Prop :=
  (looksF t.sort t.text = 0 ∧ k = kindT t ∧ tt = ba t.text ∧ v = (if kindT t = 2 then valF t.text else 0) ∧ a = t.line ∧ b = t.col ∧ ev = .nilIface) ∨
  (looksF t.sort t.text ≠ 0 ∧ k = 0 ∧ tt = ⟨#[]⟩ ∧ v = 0 ∧ a = 0 ∧ b = 0 ∧ ∃ mb, ev = misV mb ∧ w.heap.size ≤ mb ∧ MisAt w' mb (errB ew en (looksF t.sort t.text)) t.line t.col)
theorem kindF_tok (l : List UInt8) (j : Nat) : kindF (tokAt l j).text = kindT (tokAt l j) := by
  have := kind_tok (l.drop j)
  unfold kindT
  show kindF ((l.drop j).take (tokF (l.drop j)).1) = (if (tokF (l.drop j)).2 = 1 then 1 else if (tokF (l.drop j)).2 = 2 then 2 else 0)
  rw [this]
  cases (l.drop j).take (tokF (l.drop j)).1 <;> rfl
theorem looks_tokAt (l : List UInt8) (j : Nat) : looksF (kindF (tokAt l j).text) (tokAt l j).text = looksF (tokAt l j).sort (tokAt l j).text := by
  rw [kindF_tok]; exact looks_kind _ _

theorem next_tok (c : Nat) (l : List UInt8) (i : Nat) (w : World) {B : Nat} {ew en eu es ex : Addr} (hgl : GL w B ew en eu es ex) (hBc : B ≤ c) (h : RVi w c l i) (hlen : l.length ≤ 8192) :
    Calls Tryz.prog 139 #[.pointer (some ⟨c + 1 + 1, 0, none⟩), .pointer (some ⟨c, 0, none⟩), .pointer (some ⟨c + 1, 0, none⟩)] w fun e w' => ∃ (k : Int) (tt : ByteArray) (v a b : Int) (ev : Value), e = .returned (.tuple #[.agg #[.int .i64 k, .string tt, .int .i64 v, .int .i64 a, .int .i64 b], ev]) ∧
      Tn w w' (tokAt l (i + gapF false (l.drop i))) ew en k tt v a b ev ∧ RVi w' c l (i + gapF false (l.drop i) + (tokF (l.drop (i + gapF false (l.drop i)))).1) ∧ KP c c w w' := by
  have hp1 := plc_bd l i hlen
  generalize hj : i + gapF false (l.drop i) = j
  have hp2 := plc_bd l j hlen
  have hn2 : (tokF (l.drop j)).1 ≤ (l.drop j).length := tokF_le _
  have e1 : (ba (l.drop i)).extract (gapF false (l.drop i)) (ba (l.drop i)).size = ba (l.drop j) := by
    apply ba_eq
    rw [drop_list, ba_list, List.drop_drop, hj]
  have e2 : (ba (l.drop j)).extract 0 (tokF (l.drop j)).1 = ba (tokAt l j).text := by
    apply ba_eq; rw [take_list, ba_list]; rfl
  have e3 : (ba (l.drop j)).extract (tokF (l.drop j)).1 (ba (l.drop j)).size = ba (l.drop (j + (tokF (l.drop j)).1)) := by
    apply ba_eq; rw [drop_list, ba_list, List.drop_drop]
  refine (next_any (ba (l.drop i)) (ba (l.drop j)) (ba (tokAt l j).text) (gapF false (l.drop i)) (tokF (l.drop j)).1 c (plc l i).1 (plc l i).2 (plc l j).1 (plc l j).2 (plc l (j + (tokF (l.drop j)).1)).1 (plc l (j + (tokF (l.drop j)).1)).2 w hgl hBc h
    (by rw [ba_size, List.length_drop]; omega) (by omega) (by omega) (by omega) (by omega) rfl (by show placeFrom (plc l i) _ = _; rw [ba_list, plc_on, hj]) e1.symm rfl e2.symm (by show placeFrom (plc l j) _ = _; rw [ba_list]; show placeFrom (plc l j) ((l.drop j).take (tokF (l.drop j)).1) = _; rw [plc_on]) (by omega) (by omega) (by omega) (by omega)).mono ?_
  rintro e w' ⟨k, tt, v, a, b, ev, rfl, hnt, hrv, hkp⟩
  refine ⟨k, tt, v, a, b, ev, rfl, ?_, ?_, hkp⟩
  · rcases hnt with ⟨h1, h2, h3, h4, h5, h6, h7⟩ | ⟨h1, h2, h3, h4, h5, h6, mb, h7, h8, h9⟩
    · rw [ba_list, looks_tokAt] at h1
      rw [ba_list, kindF_tok] at h2
      rw [ba_list] at h4
      unfold tvalF at h4
      rw [kindF_tok] at h4
      exact .inl ⟨h1, h2, h3, h4, h5, h6, h7⟩
    · rw [ba_list, looks_tokAt] at h1
      rw [ba_list, looks_tokAt] at h9
      exact .inr ⟨h1, h2, h3, h4, h5, h6, mb, h7, h8, h9⟩
  · rw [e3] at hrv; exact hrv

/- the parser's block -/
def prCells (c : Nat) (k : Int) (tt : ByteArray) (v a b : Int) (ev pv : Value) : Array Value := #[nextV c, .int .i64 k, .string tt, .int .i64 v, .int .i64 a, .int .i64 b, ev, pv]
/- The parser lies in block pb, its reader's variables from c on; it is in the state st; pv: the partitions. -/
structure PR (w : World) (pb c B : Nat) (ew en eu es ex : Addr) (l : List UInt8) (st : St) (pv : Value) : Prop where
  gl : GL w B ew en eu es ex
  hBc : B ≤ c
  hBp : B ≤ pb
  ord : c + 1 + 1 < pb
  len : l.length ≤ 8192
  shape : ∃ x y z, pv = .slice x y z
  at' : match st with
    | .inl k => lk l k = 0 ∧ RVi w c l (endp l k) ∧ w.heap[pb]? = some (.cells (prCells c (kindT (tk l k)) (ba (tk l k).text) (if kindT (tk l k) = 2 then valF (tk l k).text else 0) (tk l k).line (tk l k).col .nilIface pv) 177 (0, 0))
    | .inr (er, ln, cl) => ∃ k tt v a b mb eb, w.heap[pb]? = some (.cells (prCells c k tt v a b (misV mb) pv) 177 (0, 0)) ∧ MisAt w mb eb ln cl ∧ (eb = ew ∨ eb = en ∨ eb = eu ∨ eb = es) ∧ noOf ew en eu eb = er ∧ tt.size ≤ 8192
end Go.Proofs.YteioennfpkoagaaGreatDoor
