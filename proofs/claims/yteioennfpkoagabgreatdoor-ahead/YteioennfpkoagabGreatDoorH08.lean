import Derived.Test.YteioennfpkoagabGreatDoorH06
import Derived.Test.YteioennfpkoagabGreatDoorH07
namespace Go.Proofs.YteioennfpkoagabGreatDoor.C
open Go.RowKit

/- nothing turned but what one owns, and what is new -/
structure Frm (o : Nat → Prop) (w w' : World) : Prop where
  os : w'.os = w.os
  tape : w'.tape = w.tape
  output : w'.output = w.output
  size : w.heap.size ≤ w'.heap.size
  block : ∀ k, k < w.heap.size → ¬ o k → w'.heap[k]? = w.heap[k]?
def newO (o o' : Nat → Prop) (w : World) : Prop := ∀ b, o' b → o b ∨ w.heap.size ≤ b
theorem newO.refl (o : Nat → Prop) (w : World) : newO o o w := fun _ h => .inl h
theorem newO.trans {o o' o2 : Nat → Prop} {w w' : World} (h : newO o o' w) (h' : newO o' o2 w') (hs : w.heap.size ≤ w'.heap.size) : newO o o2 w := fun b hb => by
  rcases h' b hb with h1 | h1
  · exact h b h1
  · exact .inr (by omega)
theorem Frm.refl (o : Nat → Prop) (w : World) : Frm o w w := ⟨rfl, rfl, rfl, Nat.le_refl _, fun _ _ _ => rfl⟩
theorem Frm.all {w w' : World} (o : Nat → Prop) (h : Below w.heap.size w w') : Frm o w w' := ⟨h.os, h.tape, h.output, h.size, fun k hk _ => h.block k hk⟩
theorem Frm.trans {o o' : Nat → Prop} {a b c : World} (h : Frm o a b) (h' : Frm o' b c) (hn : newO o o' a) : Frm o a c :=
  ⟨h'.os.trans h.os, h'.tape.trans h.tape, h'.output.trans h.output, Nat.le_trans h.size h'.size, fun k hk hok => by
    have hs := h.size
    rw [h'.block k (by omega) (fun e => by rcases hn k e with h1 | h1; exact hok h1; omega), h.block k hk hok]⟩
theorem Frm.below {o : Nat → Prop} {w w' : World} {B : Nat} (h : Frm o w w') (hB : B ≤ w.heap.size) (ho : ∀ k, o k → B ≤ k) : Below B w w' :=
  ⟨h.os, h.tape, h.output, h.size, fun k hk => h.block k (by omega) (fun e => by have := ho k e; omega)⟩
theorem Frm.mono {o o' : Nat → Prop} {w w' : World} (h : Frm o w w') (hm : ∀ k, o k → o' k) : Frm o' w w' :=
  ⟨h.os, h.tape, h.output, h.size, fun k hk hn => h.block k hk (fun e => hn (hm k e))⟩
theorem Frm.drew {o : Nat → Prop} {w w' : World} (h : Frm o w w') : Frm o w w'.drew := ⟨h.os, h.tape, h.output, h.size, h.block⟩
theorem Frm.set {o : Nat → Prop} {w w' : World} (h : Frm o w w') {b : Nat} (hb : o b ∨ w.heap.size ≤ b) (i : Nat) (v : Value) : Frm o w (w'.setCell ⟨b, i, none⟩ v) := by
  refine ⟨h.os, h.tape, h.output, ?_, fun k hk hn => ?_⟩
  · have := h.size
    simpa using this
  · rw [Below.heap_setCell _ _ _ _ (show k ≠ b from fun e => by subst e; rcases hb with h1 | h1; exact hn h1; omega)]
    exact h.block k hk hn
theorem Frm.alloc {o : Nat → Prop} {w w' : World} (h : Frm o w w') (x : Obj) : Frm o w (w'.alloc x) := by
  have hs := h.size
  refine ⟨h.os, h.tape, h.output, by simp; omega, fun k hk hn => ?_⟩
  rw [Below.heap_alloc _ _ _ (by omega)]
  exact h.block k hk hn

/- counts stay small -/
structure SmallK (n : Nat) (S : KS) : Prop where
  time : S.time ≤ n
  flt : ∀ p, 0 ≤ (S.sts p).faults ∧ (S.sts p).faults ≤ n
  res : ∀ p, 0 ≤ (S.sts p).restarts ∧ (S.sts p).restarts ≤ n
theorem SmallK.boot : SmallK 0 bootK := ⟨Nat.le_refl _, fun _ => ⟨by simp [bootK], by simp [bootK]⟩, fun _ => ⟨by simp [bootK], by simp [bootK]⟩⟩
theorem SmallK.mono {n m : Nat} {S : KS} (h : SmallK n S) (hm : n ≤ m) : SmallK m S :=
  ⟨Nat.le_trans h.time hm, fun p => ⟨(h.flt p).1, by have := (h.flt p).2; omega⟩, fun p => ⟨(h.res p).1, by have := (h.res p).2; omega⟩⟩
theorem SmallK.fail {n : Nat} {S : KS} (h : SmallK n S) (D : ManD) (p : Nat) : SmallK (n + 1) (failF D S p) := by
  refine ⟨by have := h.time; show S.time ≤ n + 1; omega, fun q => ?_, fun q => ?_⟩
  · have := h.flt q
    show 0 ≤ (if q = p then failSt (actF D p) (S.sts q) else S.sts q).faults ∧ _
    unfold failF
    simp only []
    split
    · simp only [failSt]; omega
    · omega
  · have := h.res q
    unfold failF
    simp only []
    split
    · simp only [failSt]; split <;> omega
    · omega
theorem SmallK.tick {n : Nat} {S : KS} (h : SmallK n S) : SmallK (n + 1) (tickK S) :=
  ⟨by have := h.time; show S.time + 1 ≤ n + 1; omega, (h.mono (Nat.le_succ n)).flt, (h.mono (Nat.le_succ n)).res⟩
theorem SmallK.setMem {n : Nat} {S : KS} (h : SmallK n S) (p : Nat) (a b : Int) : SmallK n (setMem S p a b) := ⟨h.time, h.flt, h.res⟩
theorem SmallK.setCh {n : Nat} {S : KS} (h : SmallK n S) (c : Nat) (l : List MsgD) : SmallK n (setCh S c l) := ⟨h.time, h.flt, h.res⟩
theorem SmallK.read {n : Nat} {S : KS} (h : SmallK n S) (D : ManD) (p a : Int) : SmallK (n + 1) (readF D S p a).2.2 := by
  unfold readF
  split
  · exact h.mono (Nat.le_succ _)
  · split
    · exact h.fail _ _
    · exact h.mono (Nat.le_succ _)
theorem SmallK.write {n : Nat} {S : KS} (h : SmallK n S) (D : ManD) (p a b : Int) : SmallK (n + 1) (writeF D S p a b).2 := by
  unfold writeF
  split
  · exact h.mono (Nat.le_succ _)
  · split
    · exact h.fail _ _
    · exact (h.setMem _ _ _).mono (Nat.le_succ _)
theorem SmallK.raise {n : Nat} {S : KS} (h : SmallK n S) (D : ManD) (p : Int) : SmallK (n + 1) (raiseF D S p).2 := by
  unfold raiseF
  split
  · exact h.mono (Nat.le_succ _)
  · exact h.fail _ _
theorem SmallK.send {n : Nat} {S : KS} (h : SmallK n S) (D : ManD) (p c : Int) (s : ByteArray) : SmallK n (sendF D S p c s).2 := by
  unfold sendF
  split
  · exact h
  split
  · exact h
  split
  · exact h
  split
  · exact h
  split
  · split
    · exact h
    · exact h.setCh _ _
  · exact h.setCh _ _
theorem SmallK.recv {n : Nat} {S : KS} (h : SmallK n S) (D : ManD) (p c : Int) : SmallK n (recvF D S p c).2 := by
  unfold recvF
  split
  · exact h
  split
  · exact h
  split
  · exact h
  split
  · exact h
  split
  · exact h.setCh _ _
  · exact h
theorem SmallK.step {n : Nat} {S : KS} (h : SmallK n S) (D : ManD) (o : StepD) : SmallK (n + 1) (doF D S o).2 := by
  unfold doF
  split
  · exact h.tick
  split
  · exact h.read _ _ _
  split
  · exact h.write _ _ _ _
  split
  · exact (h.send _ _ _ _).mono (Nat.le_succ _)
  split
  · exact (h.recv _ _ _).mono (Nat.le_succ _)
  split
  · exact h.raise _ _
  · exact h.mono (Nat.le_succ _)
end Go.Proofs.YteioennfpkoagabGreatDoor.C
