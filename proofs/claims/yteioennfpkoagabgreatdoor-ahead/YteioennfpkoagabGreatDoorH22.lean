import Derived.Test.YteioennfpkoagabGreatDoorH19
import Derived.Test.YteioennfpkoagabGreatDoorH21
import Derived.Test.YteioennfpkoagabGreatDoorH18
import Derived.Test.YteioennfpkoagabGreatDoorH07
import Derived.Deep.DeepCutAuto
import Derived.ArgAppend
import Derived.Test.YteioennfpkoagabGreatDoorH17
import Derived.Test.YteioennfpkoagabGreatDoorH16
import Derived.Test.YteioennfpkoagabGreatDoorH04
namespace Go.Proofs.YteioennfpkoagabGreatDoor.C
open Go.ChangeShapes Go.WideShapes Go.ChangeAt Go.RowKit K

/- a script in memory -/
def StepsV (w : World) (v : Value) (os : List StepD) : Prop :=
  os.length ≤ 1152921504606846976 ∧ (∀ x ∈ os, StepR x) ∧ ∃ va cap, v = .slice va os.length cap ∧ ∀ i (h : i < os.length), ∃ b off, va = some ⟨b, off, none⟩ ∧
    w.cell? ⟨b, off + i * 5, none⟩ = some (.int .i64 os[i].kind) ∧ w.cell? ⟨b, off + i * 5 + 1, none⟩ = some (.int .i64 os[i].p) ∧ w.cell? ⟨b, off + i * 5 + 2, none⟩ = some (.int .i64 os[i].n) ∧
    w.cell? ⟨b, off + i * 5 + 3, none⟩ = some (.int .i64 os[i].b) ∧ w.cell? ⟨b, off + i * 5 + 4, none⟩ = some (.string os[i].text)
theorem StepsV.below {w w' : World} {v : Value} {os : List StepD} (h : StepsV w v os) (hb : Below w.heap.size w w') : StepsV w' v os := by
  obtain ⟨h0, h1, va, cap, e, hc⟩ := h
  refine ⟨h0, h1, va, cap, e, fun i hi => ?_⟩
  obtain ⟨b, off, e1, c0, c1, c2, c3, c4⟩ := hc i hi
  have hlt := World.block_lt_of_cell? w _ c0
  exact ⟨b, off, e1, (hb.cell (by exact hlt)).trans c0, (hb.cell (by exact hlt)).trans c1, (hb.cell (by exact hlt)).trans c2, (hb.cell (by exact hlt)).trans c3, (hb.cell (by exact hlt)).trans c4⟩
theorem KAt.do_ {I : KerI} {W : World} {a : Addr} {n : Nat} {ps : List PartD} {cs : List ChanD} {S : KS} {w : World} {pv cv : Value} (h : KAt I W a ⟨n, ps, cs⟩ S w) (hp : PartsV W pv ps) (hc : ChansV W cv cs) (hz : checkF ⟨n, ps, cs⟩ = 0) (hne : ps ≠ []) (hs : SmallK bigK S) (o : StepD) (ho : StepR o) :
    Calls Tryz.prog 8 #[.pointer (some a), .agg #[.int .i64 n, pv, cv], stepV o] w fun e w' => e = .returned (ansV (doF ⟨n, ps, cs⟩ S o).1) ∧ KAt I W a ⟨n, ps, cs⟩ (doF ⟨n, ps, cs⟩ S o).2 w' := by
  obtain ⟨ow, h1, h2, h3⟩ := h
  exact Calls.mono (do_any I w n ps cs pv cv (hp.below h3) (hc.below h3) hz hne _ S ow h1 hs o ho) fun _ _ ⟨e1, e2⟩ => ⟨e1, KAt.aft h2 h3 e2⟩
/- what made gives, whole -/
structure MadeM (w : World) (n : Nat) (ps : List PartD) (cs : List ChanD) (pv cv : Value) (w' : World) : Prop where
  parts : PartsV w' pv ps
  partsC : PartsC w' pv ps.length
  chans : ChansV w' cv cs
  chansC : capV cv
  chk : checkF ⟨n, ps, cs⟩ = 0
  ne : ps ≠ []
  fst : ∀ x ∈ ps, ∀ r, x.regs.head? = some r → r.rights = 2
  bel : Below w.heap.size w w'
  f24 : n % 24 = 0
  li : ∃ i left, LI n i left ps ∧ i ≤ 6
  ci : CI ps.length n cs
  few : cs.length ≤ 7
  own : ∃ ys, ps = ys.map Prod.fst ∧ PA w' (w.heap.size + 3) pv ys
  ownC : w'.ownsRow (w.heap.size + 3) 58 6 cv cs.length (cC cs)
  fr : 24 ≤ n ∧ n ≤ 240
def MadeF : Prop := ∀ (w : World) (u : Value) (L : List Int), IntsV w u L →
    Calls Tryz.prog 5 #[u] w fun e w' => ∃ (n : Nat) (ps : List PartD) (cs : List ChanD) (pv cv : Value), e = .returned (.agg #[.int .i64 n, pv, cv]) ∧ MadeM w n ps cs pv cv w'
/- which step a script makes -/
def runK (D : ManD) : List StepD → KS → KS
  | [], S => S
  | o :: l, S => runK D l (doF D S o).2
def runTo (D : ManD) (os : List StepD) (S : KS) : Nat → KS
  | 0 => S
  | k + 1 => match os[k]? with
    | none => runTo D os S k
    | some o => (doF D (runTo D os S k) o).2
theorem runTo_succ {D : ManD} {os : List StepD} {S : KS} {k : Nat} (h : k < os.length) : runTo D os S (k + 1) = (doF D (runTo D os S k) os[k]).2 := by
  show (match os[k]? with | none => _ | some o => _) = _
  rw [List.getElem?_eq_getElem h]
theorem runTo_small (D : ManD) (os : List StepD) (k : Nat) : SmallK k (runTo D os bootK k) := by
  induction k with
  | zero => exact SmallK.boot
  | succ k ih =>
    rcases Nat.lt_or_ge k os.length with h | h
    · rw [runTo_succ h]
      exact ih.step D _
    · have : runTo D os bootK (k + 1) = runTo D os bootK k := by
        show (match os[k]? with | none => _ | some o => _) = _
        rw [List.getElem?_eq_none h]
      rw [this]
      exact ih.mono (Nat.le_succ _)
theorem do_time (D : ManD) (S : KS) (o : StepD) : (doF D S o).2.time = if o.kind = 1 then S.time + 1 else S.time := by
  unfold doF
  split
  · rfl
  split
  · simp only [readF]
    split
    · rfl
    · split <;> rfl
  split
  · simp only [writeF]
    split
    · rfl
    · split <;> rfl
  split
  · simp only [sendF]
    split
    · rfl
    split
    · rfl
    split
    · rfl
    split
    · rfl
    split
    · split <;> rfl
    · rfl
  split
  · simp only [recvF]
    split
    · rfl
    split
    · rfl
    split
    · rfl
    split
    · rfl
    split <;> rfl
  split
  · simp only [raiseF]
    split <;> rfl
  · rfl
end Go.Proofs.YteioennfpkoagabGreatDoor.C
namespace Go.Proofs.YteioennfpkoagabGreatDoor.C
open Go.RowKit K

/- two kernels beside one another -/
def KP (I : KerI) (W : World) (L : List Nat) (a b : Addr) (D : ManD) (S T : KS) (w : World) : Prop :=
  ∃ ox oy, I.KV w (.pointer (some a)) D S ox ∧ I.KV w (.pointer (some b)) D T oy ∧ (∀ k, ox k → W.heap.size ≤ k) ∧ (∀ k, oy k → W.heap.size ≤ k) ∧ (∀ k, ox k → ¬ oy k) ∧ Below W.heap.size W w ∧ ∀ c ∈ L, ¬ ox c ∧ ¬ oy c ∧ c < w.heap.size
theorem KP.swap {I : KerI} {W : World} {L : List Nat} {a b : Addr} {D : ManD} {S T : KS} {w : World} (h : KP I W L a b D S T w) : KP I W L b a D T S w := by
  obtain ⟨ox, oy, h1, h2, h3, h4, h5, h6, h7⟩ := h
  exact ⟨oy, ox, h2, h1, h4, h3, fun k hk hk2 => h5 k hk2 hk, h6, fun c hc => ⟨(h7 c hc).2.1, (h7 c hc).1, (h7 c hc).2.2⟩⟩
theorem KP.bel {I : KerI} {W : World} {L : List Nat} {a b : Addr} {D : ManD} {S T : KS} {w : World} (h : KP I W L a b D S T w) : Below W.heap.size W w := by
  obtain ⟨ox, oy, h1, h2, h3, h4, h5, h6, h7⟩ := h
  exact h6
theorem KP.less {I : KerI} {W : World} {L M : List Nat} {a b : Addr} {D : ManD} {S T : KS} {w : World} (h : KP I W L a b D S T w) (hm : ∀ c ∈ M, c ∈ L) : KP I W M a b D S T w := by
  obtain ⟨ox, oy, h1, h2, h3, h4, h5, h6, h7⟩ := h
  exact ⟨ox, oy, h1, h2, h3, h4, h5, h6, fun c hc => h7 c (hm c hc)⟩
theorem KP.alloc {I : KerI} {W : World} {L : List Nat} {a b : Addr} {D : ManD} {S T : KS} {w : World} (h : KP I W L a b D S T w) (x : Obj) : KP I W (w.heap.size :: L) a b D S T (w.alloc x) := by
  obtain ⟨ox, oy, h1, h2, h3, h4, h5, h6, h7⟩ := h
  have hb : Below w.heap.size w (w.alloc x) := (Below.refl _ w).alloc (Nat.le_refl _) _
  refine ⟨ox, oy, I.below h1 hb, I.below h2 hb, h3, h4, h5, h6.trans (hb.mono h6.size), fun c hm => ?_⟩
  rcases List.mem_cons.1 hm with rfl | hm
  · exact ⟨fun e => by have := I.low h1 _ e; omega, fun e => by have := I.low h2 _ e; omega, by simp⟩
  · have := h7 c hm
    exact ⟨this.1, this.2.1, by simp; omega⟩
theorem KP.below {I : KerI} {W : World} {L : List Nat} {a b : Addr} {D : ManD} {S T : KS} {w w' : World} (h : KP I W L a b D S T w) (hb : Below w.heap.size w w') : KP I W L a b D S T w' := by
  obtain ⟨ox, oy, h1, h2, h3, h4, h5, h6, h7⟩ := h
  exact ⟨ox, oy, I.below h1 hb, I.below h2 hb, h3, h4, h5, h6.trans (hb.mono h6.size), fun c hc => ⟨(h7 c hc).1, (h7 c hc).2.1, Nat.lt_of_lt_of_le (h7 c hc).2.2 hb.size⟩⟩
theorem KP.add {I : KerI} {W : World} {L : List Nat} {a b : Addr} {D : ManD} {S T : KS} {w w' : World} (h : KP I W L a b D S T w) (hb : Below w.heap.size w w') {c : Nat} (hc : w.heap.size ≤ c) (hc2 : c < w'.heap.size) : KP I W (c :: L) a b D S T w' := by
  obtain ⟨ox, oy, h1, h2, h3, h4, h5, h6, h7⟩ := h
  refine ⟨ox, oy, I.below h1 hb, I.below h2 hb, h3, h4, h5, h6.trans (hb.mono h6.size), fun d hd => ?_⟩
  rcases List.mem_cons.1 hd with rfl | hd
  · exact ⟨fun e => by have := I.low h1 _ e; omega, fun e => by have := I.low h2 _ e; omega, hc2⟩
  · exact ⟨(h7 d hd).1, (h7 d hd).2.1, Nat.lt_of_lt_of_le (h7 d hd).2.2 hb.size⟩
theorem KP.set {I : KerI} {W : World} {L : List Nat} {a b : Addr} {D : ManD} {S T : KS} {w : World} (h : KP I W L a b D S T w) {c : Nat} (hc : c ∈ L) (hW : W.heap.size ≤ c) (i : Nat) (v : Value) : KP I W L a b D S T (w.setCell ⟨c, i, none⟩ v) := by
  obtain ⟨ox, oy, h1, h2, h3, h4, h5, h6, h7⟩ := h
  refine ⟨ox, oy, I.keep h1 fun d hd => Below.heap_setCell _ _ _ _ (show d ≠ c from fun e => (h7 c hc).1 (e ▸ hd)), I.keep h2 fun d hd => Below.heap_setCell _ _ _ _ (show d ≠ c from fun e => (h7 c hc).2.1 (e ▸ hd)), h3, h4, h5, h6.setCell (p := ⟨c, i, none⟩) hW _, fun d hd => ⟨(h7 d hd).1, (h7 d hd).2.1, by simpa using (h7 d hd).2.2⟩⟩
theorem KP.aft {I : KerI} {W : World} {L : List Nat} {a b : Addr} {D : ManD} {S' T : KS} {w w' : World} {ox oy : Nat → Prop} (h2 : I.KV w (.pointer (some b)) D T oy) (h3 : ∀ k, ox k → W.heap.size ≤ k) (h4 : ∀ k, oy k → W.heap.size ≤ k) (h5 : ∀ k, ox k → ¬ oy k) (h6 : Below W.heap.size W w) (h7 : ∀ c ∈ L, ¬ ox c ∧ ¬ oy c ∧ c < w.heap.size) (h : Aft I.KV (.pointer (some a)) D S' ox w w') : KP I W L a b D S' T w' ∧ sameL L w w' := by
  obtain ⟨⟨o', h8, h9⟩, hf⟩ := h
  refine ⟨⟨o', oy, h8, I.apart h2 hf (fun k hk hk2 => h5 k hk2 hk), fun k hk => ?_, h4, fun k hk hk2 => ?_, h6.trans (hf.below h6.size h3), fun c hc => ?_⟩, fun c hc => hf.block c (h7 c hc).2.2 (h7 c hc).1⟩
  · rcases h9 k hk with h | h
    · exact h3 k h
    · exact Nat.le_trans h6.size h
  · rcases h9 k hk with h | h
    · exact h5 k h hk2
    · have := I.low h2 k hk2; omega
  · refine ⟨fun e => ?_, (h7 c hc).2.1, Nat.lt_of_lt_of_le (h7 c hc).2.2 hf.size⟩
    rcases h9 c e with h | h
    · exact (h7 c hc).1 h
    · have := (h7 c hc).2.2; omega
theorem KP.tick {I : KerI} {W : World} {L : List Nat} {a b : Addr} {D : ManD} {S T : KS} {w : World} (h : KP I W L a b D S T w) (hs : SmallK bigK S) :
    Calls Tryz.prog 10 #[.pointer (some a)] w fun e w' => e = .returned (.tuple #[]) ∧ KP I W L a b D (tickK S) T w' ∧ sameL L w w' := by
  obtain ⟨ox, oy, h1, h2, h3, h4, h5, h6, h7⟩ := h
  exact Calls.mono (I.tick h1 hs) fun _ _ ⟨e1, e2⟩ => ⟨e1, KP.aft h2 h3 h4 h5 h6 h7 e2⟩
theorem KP.running {I : KerI} {W : World} {L : List Nat} {a b : Addr} {D : ManD} {S T : KS} {w : World} (h : KP I W L a b D S T w) (hs : SmallK bigK S) :
    Calls Tryz.prog 9 #[.pointer (some a)] w fun e w' => e = .returned (.int .i64 (runF D S)) ∧ KP I W L a b D S T w' ∧ sameL L w w' := by
  obtain ⟨ox, oy, h1, h2, h3, h4, h5, h6, h7⟩ := h
  exact Calls.mono (I.running h1 hs) fun _ _ ⟨e1, e2⟩ => ⟨e1, KP.aft h2 h3 h4 h5 h6 h7 e2⟩
theorem KP.state {I : KerI} {W : World} {L : List Nat} {a b : Addr} {D : ManD} {S T : KS} {w : World} (h : KP I W L a b D S T w) (hs : SmallK bigK S) {p : Int} (hp : inR p) :
    Calls Tryz.prog 11 #[.pointer (some a), .int .i64 p] w fun e w' => e = .returned (.tuple #[stV (stateF D S p).1, .int .i64 (stateF D S p).2]) ∧ KP I W L a b D S T w' ∧ sameL L w w' := by
  obtain ⟨ox, oy, h1, h2, h3, h4, h5, h6, h7⟩ := h
  exact Calls.mono (I.state h1 hs hp) fun _ _ ⟨e1, e2⟩ => ⟨e1, KP.aft h2 h3 h4 h5 h6 h7 e2⟩
theorem KP.do_ {I : KerI} {W : World} {L : List Nat} {a b : Addr} {n : Nat} {ps : List PartD} {cs : List ChanD} {S T : KS} {w : World} {pv cv : Value} (h : KP I W L a b ⟨n, ps, cs⟩ S T w) (hp : PartsV W pv ps) (hc : ChansV W cv cs) (hz : checkF ⟨n, ps, cs⟩ = 0) (hne : ps ≠ []) (hs : SmallK bigK S) (o : StepD) (ho : StepR o) :
    Calls Tryz.prog 8 #[.pointer (some a), .agg #[.int .i64 n, pv, cv], stepV o] w fun e w' => e = .returned (ansV (doF ⟨n, ps, cs⟩ S o).1) ∧ KP I W L a b ⟨n, ps, cs⟩ (doF ⟨n, ps, cs⟩ S o).2 T w' ∧ sameL L w w' := by
  obtain ⟨ox, oy, h1, h2, h3, h4, h5, h6, h7⟩ := h
  exact Calls.mono (do_any I w n ps cs pv cv (hp.below h6) (hc.below h6) hz hne _ S ox h1 hs o ho) fun _ _ ⟨e1, e2⟩ => ⟨e1, KP.aft h2 h3 h4 h5 h6 h7 e2⟩
theorem KP.of {I : KerI} {W W2 : World} {a b : Addr} {D : ManD} {S T : KS} {w w' : World} (h : KAt I W a D S w) (h2 : KAt I W2 b D T w') (hb : Below w.heap.size w W2) : KP I W [] a b D S T w' := by
  obtain ⟨o, h1, h3, h4⟩ := h
  obtain ⟨o2, h5, h6, h7⟩ := h2
  have hb2 : Below w.heap.size w w' := hb.trans (h7.mono hb.size)
  refine ⟨o, o2, I.below h1 hb2, h5, h3, fun k hk => ?_, fun k hk hk2 => ?_, h4.trans (hb2.mono h4.size), fun c hc => by cases hc⟩
  · exact Nat.le_trans (Nat.le_trans h4.size hb.size) (h6 k hk)
  · have h8 := I.low h1 k hk
    have h9 := h6 k hk2
    have := hb.size
    omega
end Go.Proofs.YteioennfpkoagabGreatDoor.C
namespace Go.Proofs.YteioennfpkoagabGreatDoor.C
open Go.RowKit K

/- some blocks of a world stay as they are -/
structure PB (W : World) (P : Nat → Prop) (w : World) : Prop where
  os : w.os = W.os
  tape : w.tape = W.tape
  output : w.output = W.output
  size : W.heap.size ≤ w.heap.size
  lt : ∀ k, P k → k < W.heap.size
  block : ∀ k, P k → w.heap[k]? = W.heap[k]?
theorem PB.below {W : World} {P : Nat → Prop} {w w' : World} (h : PB W P w) (hb : Below w.heap.size w w') : PB W P w' :=
  ⟨hb.os.trans h.os, hb.tape.trans h.tape, hb.output.trans h.output, Nat.le_trans h.size hb.size, h.lt, fun k hk => (hb.block k (Nat.lt_of_lt_of_le (h.lt k hk) h.size)).trans (h.block k hk)⟩
theorem PB.frm {W : World} {P o : Nat → Prop} {w w' : World} (h : PB W P w) (hf : Frm o w w') (ho : ∀ k, o k → ¬ P k) : PB W P w' :=
  ⟨hf.os.trans h.os, hf.tape.trans h.tape, hf.output.trans h.output, Nat.le_trans h.size hf.size, h.lt, fun k hk => (hf.block k (Nat.lt_of_lt_of_le (h.lt k hk) h.size) (fun e => ho k e hk)).trans (h.block k hk)⟩
theorem PB.set {W : World} {P : Nat → Prop} {w : World} (h : PB W P w) {c : Nat} (hc : ¬ P c) (i : Nat) (v : Value) : PB W P (w.setCell ⟨c, i, none⟩ v) :=
  ⟨h.os, h.tape, h.output, by have := h.size; simpa using this, h.lt, fun k hk => (Below.heap_setCell _ _ _ _ (show k ≠ c from fun e => hc (e ▸ hk))).trans (h.block k hk)⟩
theorem PB.bel {W w0 : World} {P : Nat → Prop} {w : World} (h : PB W P w) (h0 : Below w0.heap.size w0 W) (hP : ∀ k, k < w0.heap.size → P k) : Below w0.heap.size w0 w :=
  ⟨h.os.trans h0.os, h.tape.trans h0.tape, h.output.trans h0.output, Nat.le_trans h0.size h.size, fun k hk => (h.block k (hP k hk)).trans (h0.block k hk)⟩
theorem PB.own {W : World} {P : Nat → Prop} {w : World} (h : PB W P w) {B e z n : Nat} {v : Value} {xs : List Value} (ho : W.ownsRow B e z v n xs) (hP : ∀ k, B ≤ k → k < W.heap.size → P k) : w.ownsRow B e z v n xs := by
  refine ⟨ho.1, ?_⟩
  rcases ho.2 with h0 | ⟨g, cap, cur, rfl, hb, hg, hr⟩
  · exact .inl h0
  · exact .inr ⟨g, cap, cur, rfl, hb, (h.block g (hP g hb (lt_of_blk hg))).trans hg, hr⟩
theorem PB.parts {W : World} {P : Nat → Prop} {w : World} (h : PB W P w) {B : Nat} {v : Value} {ys : List (PartD × Value)} (ho : PA W B v ys) (hP : ∀ k, B ≤ k → k < W.heap.size → P k) : PA w B v ys :=
  ⟨h.own ho.own hP, fun y hy => h.own (ho.reg y hy) hP⟩
/- two kernels, and what they must leave -/
def KQ (I : KerI) (W : World) (P : Nat → Prop) (L : List Nat) (a b : Addr) (D : ManD) (S T : KS) (w : World) : Prop :=
  ∃ ox oy, I.KV w (.pointer (some a)) D S ox ∧ I.KV w (.pointer (some b)) D T oy ∧ (∀ k, ox k → ¬ P k) ∧ (∀ k, oy k → ¬ P k) ∧ (∀ k, ox k → ¬ oy k) ∧ PB W P w ∧ ∀ c ∈ L, ¬ ox c ∧ ¬ oy c ∧ c < w.heap.size ∧ ¬ P c
theorem KQ.swap {I : KerI} {W : World} {P : Nat → Prop} {L : List Nat} {a b : Addr} {D : ManD} {S T : KS} {w : World} (h : KQ I W P L a b D S T w) : KQ I W P L b a D T S w := by
  obtain ⟨ox, oy, h1, h2, h3, h4, h5, h6, h7⟩ := h
  exact ⟨oy, ox, h2, h1, h4, h3, fun k hk hk2 => h5 k hk2 hk, h6, fun c hc => ⟨(h7 c hc).2.1, (h7 c hc).1, (h7 c hc).2.2⟩⟩
theorem KQ.pb {I : KerI} {W : World} {P : Nat → Prop} {L : List Nat} {a b : Addr} {D : ManD} {S T : KS} {w : World} (h : KQ I W P L a b D S T w) : PB W P w := by
  obtain ⟨ox, oy, h1, h2, h3, h4, h5, h6, h7⟩ := h
  exact h6
theorem KQ.less {I : KerI} {W : World} {P : Nat → Prop} {L M : List Nat} {a b : Addr} {D : ManD} {S T : KS} {w : World} (h : KQ I W P L a b D S T w) (hm : ∀ c ∈ M, c ∈ L) : KQ I W P M a b D S T w := by
  obtain ⟨ox, oy, h1, h2, h3, h4, h5, h6, h7⟩ := h
  exact ⟨ox, oy, h1, h2, h3, h4, h5, h6, fun c hc => h7 c (hm c hc)⟩
theorem KQ.alloc {I : KerI} {W : World} {P : Nat → Prop} {L : List Nat} {a b : Addr} {D : ManD} {S T : KS} {w : World} (h : KQ I W P L a b D S T w) (x : Obj) : KQ I W P (w.heap.size :: L) a b D S T (w.alloc x) := by
  obtain ⟨ox, oy, h1, h2, h3, h4, h5, h6, h7⟩ := h
  have hb : Below w.heap.size w (w.alloc x) := (Below.refl _ w).alloc (Nat.le_refl _) _
  refine ⟨ox, oy, I.below h1 hb, I.below h2 hb, h3, h4, h5, h6.below hb, fun c hm => ?_⟩
  rcases List.mem_cons.1 hm with rfl | hm
  · exact ⟨fun e => by have := I.low h1 _ e; omega, fun e => by have := I.low h2 _ e; omega, by simp, fun e => by have := h6.lt _ e; have := h6.size; omega⟩
  · have := h7 c hm
    exact ⟨this.1, this.2.1, by have := this.2.2.1; simp; omega, this.2.2.2⟩
theorem KQ.below {I : KerI} {W : World} {P : Nat → Prop} {L : List Nat} {a b : Addr} {D : ManD} {S T : KS} {w w' : World} (h : KQ I W P L a b D S T w) (hb : Below w.heap.size w w') : KQ I W P L a b D S T w' := by
  obtain ⟨ox, oy, h1, h2, h3, h4, h5, h6, h7⟩ := h
  exact ⟨ox, oy, I.below h1 hb, I.below h2 hb, h3, h4, h5, h6.below hb, fun c hc => ⟨(h7 c hc).1, (h7 c hc).2.1, Nat.lt_of_lt_of_le (h7 c hc).2.2.1 hb.size, (h7 c hc).2.2.2⟩⟩
theorem KQ.set {I : KerI} {W : World} {P : Nat → Prop} {L : List Nat} {a b : Addr} {D : ManD} {S T : KS} {w : World} (h : KQ I W P L a b D S T w) {c : Nat} (hc : c ∈ L) (i : Nat) (v : Value) : KQ I W P L a b D S T (w.setCell ⟨c, i, none⟩ v) := by
  obtain ⟨ox, oy, h1, h2, h3, h4, h5, h6, h7⟩ := h
  refine ⟨ox, oy, I.keep h1 fun d hd => Below.heap_setCell _ _ _ _ (show d ≠ c from fun e => (h7 c hc).1 (e ▸ hd)), I.keep h2 fun d hd => Below.heap_setCell _ _ _ _ (show d ≠ c from fun e => (h7 c hc).2.1 (e ▸ hd)), h3, h4, h5, h6.set (h7 c hc).2.2.2 _ _, fun d hd => ⟨(h7 d hd).1, (h7 d hd).2.1, by have := (h7 d hd).2.2.1; simpa using this, (h7 d hd).2.2.2⟩⟩
theorem KQ.aft {I : KerI} {W : World} {P : Nat → Prop} {L : List Nat} {a b : Addr} {D : ManD} {S' T : KS} {w w' : World} {ox oy : Nat → Prop} (h2 : I.KV w (.pointer (some b)) D T oy) (h3 : ∀ k, ox k → ¬ P k) (h4 : ∀ k, oy k → ¬ P k) (h5 : ∀ k, ox k → ¬ oy k) (h6 : PB W P w) (h7 : ∀ c ∈ L, ¬ ox c ∧ ¬ oy c ∧ c < w.heap.size ∧ ¬ P c) (h : Aft I.KV (.pointer (some a)) D S' ox w w') : KQ I W P L a b D S' T w' ∧ sameL L w w' := by
  obtain ⟨⟨o', h8, h9⟩, hf⟩ := h
  refine ⟨⟨o', oy, h8, I.apart h2 hf (fun k hk hk2 => h5 k hk2 hk), fun k hk => ?_, h4, fun k hk hk2 => ?_, h6.frm hf h3, fun c hc => ?_⟩, fun c hc => hf.block c (h7 c hc).2.2.1 (h7 c hc).1⟩
  · rcases h9 k hk with h | h
    · exact h3 k h
    · exact fun e => by have := h6.lt k e; have := h6.size; omega
  · rcases h9 k hk with h | h
    · exact h5 k h hk2
    · have := I.low h2 k hk2; omega
  · refine ⟨fun e => ?_, (h7 c hc).2.1, Nat.lt_of_lt_of_le (h7 c hc).2.2.1 hf.size, (h7 c hc).2.2.2⟩
    rcases h9 c e with h | h
    · exact (h7 c hc).1 h
    · have := (h7 c hc).2.2.1; omega
theorem KQ.tick {I : KerI} {W : World} {P : Nat → Prop} {L : List Nat} {a b : Addr} {D : ManD} {S T : KS} {w : World} (h : KQ I W P L a b D S T w) (hs : SmallK bigK S) :
    Calls Tryz.prog 10 #[.pointer (some a)] w fun e w' => e = .returned (.tuple #[]) ∧ KQ I W P L a b D (tickK S) T w' ∧ sameL L w w' := by
  obtain ⟨ox, oy, h1, h2, h3, h4, h5, h6, h7⟩ := h
  exact Calls.mono (I.tick h1 hs) fun _ _ ⟨e1, e2⟩ => ⟨e1, KQ.aft h2 h3 h4 h5 h6 h7 e2⟩
theorem KQ.running {I : KerI} {W : World} {P : Nat → Prop} {L : List Nat} {a b : Addr} {D : ManD} {S T : KS} {w : World} (h : KQ I W P L a b D S T w) (hs : SmallK bigK S) :
    Calls Tryz.prog 9 #[.pointer (some a)] w fun e w' => e = .returned (.int .i64 (runF D S)) ∧ KQ I W P L a b D S T w' ∧ sameL L w w' := by
  obtain ⟨ox, oy, h1, h2, h3, h4, h5, h6, h7⟩ := h
  exact Calls.mono (I.running h1 hs) fun _ _ ⟨e1, e2⟩ => ⟨e1, KQ.aft h2 h3 h4 h5 h6 h7 e2⟩
theorem KQ.state {I : KerI} {W : World} {P : Nat → Prop} {L : List Nat} {a b : Addr} {D : ManD} {S T : KS} {w : World} (h : KQ I W P L a b D S T w) (hs : SmallK bigK S) {p : Int} (hp : inR p) :
    Calls Tryz.prog 11 #[.pointer (some a), .int .i64 p] w fun e w' => e = .returned (.tuple #[stV (stateF D S p).1, .int .i64 (stateF D S p).2]) ∧ KQ I W P L a b D S T w' ∧ sameL L w w' := by
  obtain ⟨ox, oy, h1, h2, h3, h4, h5, h6, h7⟩ := h
  exact Calls.mono (I.state h1 hs hp) fun _ _ ⟨e1, e2⟩ => ⟨e1, KQ.aft h2 h3 h4 h5 h6 h7 e2⟩
theorem KQ.do_ {I : KerI} {W : World} {P : Nat → Prop} {L : List Nat} {a b : Addr} {n : Nat} {ps : List PartD} {cs : List ChanD} {S T : KS} {w : World} {pv cv : Value} (h : KQ I W P L a b ⟨n, ps, cs⟩ S T w) (hp : ∀ V, PB W P V → PartsV V pv ps) (hc : ∀ V, PB W P V → ChansV V cv cs) (hz : checkF ⟨n, ps, cs⟩ = 0) (hne : ps ≠ []) (hs : SmallK bigK S) (o : StepD) (ho : StepR o) :
    Calls Tryz.prog 8 #[.pointer (some a), .agg #[.int .i64 n, pv, cv], stepV o] w fun e w' => e = .returned (ansV (doF ⟨n, ps, cs⟩ S o).1) ∧ KQ I W P L a b ⟨n, ps, cs⟩ (doF ⟨n, ps, cs⟩ S o).2 T w' ∧ sameL L w w' := by
  obtain ⟨ox, oy, h1, h2, h3, h4, h5, h6, h7⟩ := h
  exact Calls.mono (do_any I w n ps cs pv cv (hp w h6) (hc w h6) hz hne _ S ox h1 hs o ho) fun _ _ ⟨e1, e2⟩ => ⟨e1, KQ.aft h2 h3 h4 h5 h6 h7 e2⟩
end Go.Proofs.YteioennfpkoagabGreatDoor.C
namespace Go.Proofs.YteioennfpkoagabGreatDoor.C
open Go.RowKit K
attribute [local go_sem ↓] Go.wp_at_zero Go.wp_at_succ

theorem read_off {D : ManD} {S : KS} {p a e : Int} (h : turnF D S p = e) (he : e ≠ 0) : readF D S p a = (0, e, S) := by
  unfold readF
  rw [if_pos (by rw [h]; exact he), h]
theorem write_off {D : ManD} {S : KS} {p a b e : Int} (h : turnF D S p = e) (he : e ≠ 0) : writeF D S p a b = (e, S) := by
  unfold writeF
  rw [if_pos (by rw [h]; exact he), h]
theorem send_off {D : ManD} {S : KS} {p c e : Int} {s : ByteArray} (h : turnF D S p = e) (he : e ≠ 0) : sendF D S p c s = (e, S) := by
  unfold sendF
  rw [if_pos (by rw [h]; exact he), h]
theorem recv_off {D : ManD} {S : KS} {p c e : Int} (h : turnF D S p = e) (he : e ≠ 0) : recvF D S p c = ((ByteArray.empty, false, e), S) := by
  unfold recvF
  rw [if_pos (by rw [h]; exact he), h]
theorem raise_off {D : ManD} {S : KS} {p e : Int} (h : turnF D S p = e) (he : e ≠ 0) : raiseF D S p = (e, S) := by
  unfold raiseF
  rw [if_pos (by rw [h]; exact he), h]
theorem state_in {D : ManD} {S : KS} {p : Nat} (h : p < D.parts.length) : stateF D S p = (S.sts p, 0) := by
  unfold stateF
  rw [if_neg (by omega), Int.toNat_natCast]
theorem read_time (D : ManD) (S : KS) (p a : Int) : (readF D S p a).2.2.time = S.time := by
  unfold readF
  split
  · rfl
  · split <;> rfl
end Go.Proofs.YteioennfpkoagabGreatDoor.C
namespace Go.Proofs.YteioennfpkoagabGreatDoor.C
open Go.RowKit K
attribute [local go_sem ↓] Go.wp_at_zero Go.wp_at_succ

theorem infoChanI : (Tryz.prog.info? 58).map (fun i => (i.zero, i.size, i.bytes)) = some (some (.agg #[.string ⟨#[]⟩, .int .i64 0, .int .i64 0, .int .i64 0, .int .i64 0, .int .i64 0]), 6, 56) := by kernel_rfl
set_option maxRecDepth 100000 in
set_option maxHeartbeats 4000000 in
theorem ichans_any (w : World) (rb : Nat) (s : ByteArray) (l : List UInt8) (hs : s.size ≤ 9223372036854775807) (h : RD w rb s l) :
    Calls Tryz.prog 57 #[.pointer (some ⟨rb, 0, none⟩)] w fun e w' => ∃ v, e = .returned v ∧ w'.ownsRow w.heap.size 58 6 v (chansI l).1.length (cC (chansI l).1) ∧ RD w' rb s (chansI l).2 ∧ Frm (isB rb) w w' := by
  obtain ⟨i0, hi0, hz0, hz1, hz2⟩ := parts_of infoChanI
  have hrb := h.lt
  go_enter Tryz.func57, Tryz.ntmps57
  go_wp2_with fail
  refine Calls.mono (number_any w rb s l hs h) ?_
  rintro e w1 ⟨rfl, hr1, hf1⟩
  have hn := num_lt l
  have HR1 : Hid (RD w1 rb s (numI l).2) := hr1
  have HF1 : Hid (Frm (isB rb) w w1) := hf1
  obtain ⟨n, hne⟩ : ∃ n, (numI l).1 = n := ⟨_, rfl⟩
  have HL : Hid (chansI l = readN chanI n (numI l).2) := by
    show _ = _
    rw [← hne]; rfl
  rw [hne] at hn ⊢
  clear h hr1 hf1 hne
  generalize (numI l).2 = l0 at *
  go_wp2_with fail
  go_loopw [3, 7] (fun v i wr => ∃ (k : Nat) (va : Option Addr) (c : Nat) (X : List ChanD) (l' : List UInt8), i = .int .i64 k ∧ v = .slice va k c ∧ Hid (LR chanI n l0 k X l') ∧ Hid (wr.ownsRow w.heap.size 58 6 (.slice va k c) k (cC X)) ∧ Hid (RD wr rb s l') ∧ Hid (Frm (isB rb) w wr)) (fun _ i _ => n - (intOf i).toNat)
  case atStart => exact ⟨0, none, 0, [], l0, rfl, rfl, LR.start _ _ _, World.ownsRow_nil _ _ _ _, HR1, HF1⟩
  case round =>
    obtain ⟨k, va, c, X, l', rfl, rfl, HLR, HOW, HRD, HFR⟩ := hrel
    clear HR1 HF1
    by_cases hlt : k < n
    · have hlt' : (k : Int) < (n : Int) := by omega
      have HS0 : Hid (RSt w (wr.alloc (.cells #[.string ⟨#[]⟩, .int .i64 0, .int .i64 0, .int .i64 0, .int .i64 0, .int .i64 0] 58)) rb s l' wr.heap.size #[.string ⟨#[]⟩, .int .i64 0, .int .i64 0, .int .i64 0, .int .i64 0, .int .i64 0] 58 58 6 (.slice va k c) k (cC X)) := RSt.start HRD.out HFR.out HOW.out hrb _ _
      have HL2 : Hid (LR chanI n l0 (k + 1) (X ++ [(chanI l').1]) (chanI l').2) := HLR.out.step hlt
      go_wp2_with fail
      generalize wr.alloc (.cells #[.string ⟨#[]⟩, .int .i64 0, .int .i64 0, .int .i64 0, .int .i64 0, .int .i64 0] 58) = W1 at *
      generalize wr.heap.size = b at *
      refine Calls.mono (number_any W1 rb s _ hs HS0.out.rd) ?_
      rintro e w2 ⟨rfl, hr2, hf2⟩
      have HS1 : Hid _ := HS0.out.num hr2 hf2
      have c0 : w2.cell? ⟨b, 1, none⟩ = some (.int .i64 0) := HS1.out.cell 1
      have f0 : w2.frozen? ⟨b, 1, none⟩ = false := HS1.out.free 1
      clear hr2 hf2
      obtain ⟨x1, hx1⟩ : ∃ x, (numI l').1 = x := ⟨_, rfl⟩
      rw [hx1]
      go_wp2_with fail
      have HS2 : Hid _ := HS1.out.set 1 (.int .i64 x1)
      clear c0 f0
      generalize w2.setCell ⟨b, 1, none⟩ (.int .i64 x1) = W2 at *
      refine Calls.mono (number_any W2 rb s _ hs HS2.out.rd) ?_
      rintro e w3 ⟨rfl, hr2, hf2⟩
      have HS3 : Hid _ := HS2.out.num hr2 hf2
      have c0 : w3.cell? ⟨b, 2, none⟩ = some (.int .i64 0) := HS3.out.cell 2
      have f0 : w3.frozen? ⟨b, 2, none⟩ = false := HS3.out.free 2
      clear hr2 hf2
      obtain ⟨x2, hx2⟩ : ∃ x, (numI (numI l').2).1 = x := ⟨_, rfl⟩
      rw [hx2]
      go_wp2_with fail
      have HS4 : Hid _ := HS3.out.set 2 (.int .i64 x2)
      clear c0 f0
      generalize w3.setCell ⟨b, 2, none⟩ (.int .i64 x2) = W3 at *
      refine Calls.mono (number_any W3 rb s _ hs HS4.out.rd) ?_
      rintro e w4 ⟨rfl, hr2, hf2⟩
      have HS5 : Hid _ := HS4.out.num hr2 hf2
      have c0 : w4.cell? ⟨b, 3, none⟩ = some (.int .i64 0) := HS5.out.cell 3
      have f0 : w4.frozen? ⟨b, 3, none⟩ = false := HS5.out.free 3
      clear hr2 hf2
      obtain ⟨x3, hx3⟩ : ∃ x, (numI (numI (numI l').2).2).1 = x := ⟨_, rfl⟩
      rw [hx3]
      go_wp2_with fail
      have HS6 : Hid _ := HS5.out.set 3 (.int .i64 x3)
      clear c0 f0
      generalize w4.setCell ⟨b, 3, none⟩ (.int .i64 x3) = W4 at *
      refine Calls.mono (number_any W4 rb s _ hs HS6.out.rd) ?_
      rintro e w5 ⟨rfl, hr2, hf2⟩
      have HS7 : Hid _ := HS6.out.num hr2 hf2
      have c0 : w5.cell? ⟨b, 4, none⟩ = some (.int .i64 0) := HS7.out.cell 4
      have f0 : w5.frozen? ⟨b, 4, none⟩ = false := HS7.out.free 4
      clear hr2 hf2
      obtain ⟨x4, hx4⟩ : ∃ x, (numI (numI (numI (numI l').2).2).2).1 = x := ⟨_, rfl⟩
      rw [hx4]
      go_wp2_with fail
      have HS8 : Hid _ := HS7.out.set 4 (.int .i64 x4)
      clear c0 f0
      generalize w5.setCell ⟨b, 4, none⟩ (.int .i64 x4) = W5 at *
      refine Calls.mono (number_any W5 rb s _ hs HS8.out.rd) ?_
      rintro e w6 ⟨rfl, hr2, hf2⟩
      have HS9 : Hid _ := HS8.out.num hr2 hf2
      have c0 : w6.cell? ⟨b, 5, none⟩ = some (.int .i64 0) := HS9.out.cell 5
      have f0 : w6.frozen? ⟨b, 5, none⟩ = false := HS9.out.free 5
      clear hr2 hf2
      obtain ⟨x5, hx5⟩ : ∃ x, (numI (numI (numI (numI (numI l').2).2).2).2).1 = x := ⟨_, rfl⟩
      rw [hx5]
      have HX : Hid ((chanI l').1 = ⟨noName, x1, x2, x3, x4, x5⟩) := by
        show (⟨_, _, _, _, _, _⟩ : ChanD) = _
        rw [hx1, hx2, hx3, hx4, hx5]
      have HS10 : Hid (RSt w (w6.setCell ⟨b, 5, none⟩ (.int .i64 x5)) rb s (chanI l').2 b #[.string ⟨#[]⟩, .int .i64 x1, .int .i64 x2, .int .i64 x3, .int .i64 x4, .int .i64 x5] 58 58 6 (.slice va k c) k (cC X)) := HS9.out.set 5 (.int .i64 x5)
      have d0 : (w6.setCell ⟨b, 5, none⟩ (.int .i64 x5)).cell? ⟨b, 0, none⟩ = some (.string ⟨#[]⟩) := HS10.out.cell 0
      have d1 : (w6.setCell ⟨b, 5, none⟩ (.int .i64 x5)).cell? ⟨b, 1, none⟩ = some (.int .i64 x1) := HS10.out.cell 1
      have d2 : (w6.setCell ⟨b, 5, none⟩ (.int .i64 x5)).cell? ⟨b, 2, none⟩ = some (.int .i64 x2) := HS10.out.cell 2
      have d3 : (w6.setCell ⟨b, 5, none⟩ (.int .i64 x5)).cell? ⟨b, 3, none⟩ = some (.int .i64 x3) := HS10.out.cell 3
      have d4 : (w6.setCell ⟨b, 5, none⟩ (.int .i64 x5)).cell? ⟨b, 4, none⟩ = some (.int .i64 x4) := HS10.out.cell 4
      have d5 : (w6.setCell ⟨b, 5, none⟩ (.int .i64 x5)).cell? ⟨b, 5, none⟩ = some (.int .i64 x5) := HS10.out.cell 5
      clear HS0 HS1 HS2 HS3 HS4 HS5 HS6 HS7 HS8 HS9 hx1 hx2 hx3 hx4 hx5
      go_upto_region 10 with fail
      generalize w6.setCell ⟨b, 5, none⟩ (.int .i64 x5) = W6 at *
      have hsz := HS10.out.frm.size
      go_wp2_with (first
        | (at_builtin; refine wpList_append_lies _ rfl _ _ _ rfl w.heap.size 58 i0 _ 6 56 Tryz.underlying29 hi0 hz0 hz1 hz2 rfl (by omega) (.slice va k c) k (cC X) rfl (HS10.out.own.alloc _) ⟨W6.heap.size, 0, none⟩ 1 1 [.string ⟨#[]⟩, .int .i64 x1, .int .i64 x2, .int .i64 x3, .int .i64 x4, .int .i64 x5] rfl rfl (World.news_of_block (cs := #[.string ⟨#[]⟩, .int .i64 x1, .int .i64 x2, .int .i64 x3, .int .i64 x4, .int .i64 x5]) (t := 58) (fr := (0, 0)) (heap_new W6 _)) (by simp [Value.oneCell']) (by omega) (by unfold maxLen; omega) (by omega) (by simp; omega) (W6.heap.size + 1) (by simp) ?_; intro g9 c9 V9 hown9 hgrow9 hat9 hlt9)
        | fail)
      obtain ⟨hr9, hf9⟩ := HS10.out.grow _ hgrow9
      refine ⟨⟨k + 1, _, c9, _, _, by go_num, rfl, HL2, ?_, hr9, hf9⟩, by simp [intOf]; omega⟩
      have e : cC (X ++ [(chanI l').1]) = cC X ++ [.string ⟨#[]⟩, .int .i64 x1, .int .i64 x2, .int .i64 x3, .int .i64 x4, .int .i64 x5] := by rw [HX.out]; simp [cC, cC1, noName]
      rw [e]; exact hown9
    · have hlt' : ¬ (k : Int) < (n : Int) := by omega
      go_wp2_with fail
      go_ret
      have hfin := HLR.out.fin hlt
      have hl := HLR.out.len
      rw [HL.out, hfin]
      exact ⟨_, rfl, by rw [hl]; exact HOW.out, HRD.out, HFR.out⟩
end Go.Proofs.YteioennfpkoagabGreatDoor.C
namespace Go.Proofs.YteioennfpkoagabGreatDoor.C
open Go.RowKit K
attribute [local go_sem ↓] Go.wp_at_zero Go.wp_at_succ

/- bytes of a string, with room behind them -/
structure BytesR (w : World) (b : Nat) (l : List UInt8) (cap : Nat) : Prop where
  cell : ∀ i (h : i < l.length), w.cell? ⟨b, i, none⟩ = some (.int .u8 l[i].toNat)
  room : ∀ i, i < cap → (w.cell? ⟨b, i, none⟩).isSome = true ∧ w.frozen? ⟨b, i, none⟩ = false
  le : l.length ≤ cap
  lt : b < w.heap.size
theorem BytesR.of (w : World) (s : ByteArray) (k : Nat) (hk : s.size ≤ k) : BytesR (w.drew.alloc (.cells (bytesRow s k) 5 ((bytesRow s k).size, (bytesRow s k).size + 1))) w.heap.size s.data.toList k := by
  have hb : (w.drew.alloc (.cells (bytesRow s k) 5 ((bytesRow s k).size, (bytesRow s k).size + 1))).heap[w.heap.size]? = some (.cells (bytesRow s k) 5 ((bytesRow s k).size, (bytesRow s k).size + 1)) := heap_new w.drew _
  have hsz : (bytesRow s k).size = k := by
    unfold bytesRow
    simp
    have : s.data.size = s.size := rfl
    omega
  refine ⟨fun i hi => ?_, fun i hi => ⟨?_, ?_⟩, by simpa using hk, lt_of_blk hb⟩
  · rw [cell_of_blk hb]
    unfold bytesRow
    have hi' : i < s.data.size := by simpa using hi
    rw [Array.getElem?_append_left (by simpa using hi'), Array.getElem?_map, Array.getElem?_eq_getElem hi']
    rfl
  · rw [cell_of_blk hb, Array.getElem?_eq_getElem (by omega)]
    rfl
  · simp only [World.frozen?, hb]
    simp
    omega
theorem BytesR.see {w : World} {b cap : Nat} {l : List UInt8} (h : BytesR w b l cap) : BytesV w (.slice (some ⟨b, 0, none⟩) l.length cap) l :=
  ⟨_, _, rfl, fun i hi => ⟨b, 0, rfl, by rw [Nat.zero_add]; exact h.cell i hi⟩⟩
theorem below_many {B b : Nat} {a : World} (hb : B ≤ b) : ∀ (vs : List Value) (o : Nat) (w : World), Below B a w → Below B a (w.setCells b o vs)
  | [], _, _, h => h
  | v :: vs, o, _w, h => below_many hb vs (o + 1) _ (h.setCell (p := ⟨b, o, none⟩) hb v)
def sealV (s : BitVec 32) : List Value := [.int .u8 ((s.toNat : Int) / 16777216), .int .u8 ((s.toNat : Int) / 65536 % 256), .int .u8 ((s.toNat : Int) / 256 % 256), .int .u8 ((s.toNat : Int) % 256)]
theorem sealV_eq (l : List UInt8) : byC (sealL l) = byC l ++ sealV (sumL l) := by
  obtain ⟨s, hs⟩ : ∃ s, sumL l = s := ⟨_, rfl⟩
  unfold sealL sealV
  rw [byC_app, hs]
  simp only [byC, sumB, List.map_cons, List.map_nil, sb_nat]
  have h1 := s.isLt
  have h2 : (s.toNat : Int) / (2 ^ 24 : Nat) % 256 = (s.toNat : Int) / 16777216 := by omega
  rw [h2]
  simp
set_option maxRecDepth 100000 in
set_option maxHeartbeats 4000000 in
theorem seal_arg (w0 w : World) (b cap : Nat) (bs : List UInt8) (ho : BytesR w b bs cap) (h0 : Below w0.heap.size w0 w) (hb0 : w0.heap.size ≤ b) (hb : bs.length ≤ 1000000) :
    Calls Tryz.prog 41 #[.slice (some ⟨b, 0, none⟩) bs.length cap] w fun e w' => ∃ v, e = .returned v ∧ BytesV w' v (sealL bs) ∧ Below w0.heap.size w0 w' := by
  obtain ⟨i0, hi0, hz0, hz1, hz2⟩ := parts_of infoByte
  have HO : Hid (BytesR w b bs cap) := ho
  have H0 : Hid (Below w0.heap.size w0 w) := h0
  clear ho h0
  go_enter Tryz.func41, Tryz.ntmps41
  go_wp2_with fail
  refine Calls.mono (checksum_any _ bs (by omega) w HO.out.see) ?_
  rintro e V ⟨rfl, rfl⟩
  have HE : Hid (byC (sealL bs) = byC bs ++ sealV (sumL bs)) := sealV_eq bs
  obtain ⟨s, hs⟩ : ∃ s, sumL bs = s := ⟨_, rfl⟩
  rw [hs] at HE ⊢
  clear hs
  have hw0 := H0.out.size
  have hblt : b < V.heap.size := HO.out.lt
  have HB1 : Hid (Below w0.heap.size w0 (V.alloc (.cells #[.int .u8 ((s.toNat : Int) / 16777216), .int .u8 ((s.toNat : Int) / 65536 % 256), .int .u8 ((s.toNat : Int) / 256 % 256), .int .u8 ((s.toNat : Int) % 256)] 5))) := H0.out.trans ((newB V _).mono hw0)
  have HC : Hid (∀ o j u, (byC bs)[j]? = some u → (V.alloc o).cell? ⟨b, 0 + j, none⟩ = some u) := fun o j u hu => by
    have hj : j < bs.length := by
      rcases Nat.lt_or_ge j bs.length with h | h
      · exact h
      · rw [List.getElem?_eq_none (by rw [byC_len]; exact h)] at hu; cases hu
    rw [Nat.zero_add, (newB V o).cell (p := ⟨b, j, none⟩) hblt, HO.out.cell j hj, ← hu]
    simp [byC, List.getElem?_eq_getElem hj]
  have HRM : Hid (∀ o, bs.length + 4 ≤ cap → ∀ j, j < 4 → ((V.alloc o).cell? ⟨b, 0 + bs.length * 1 + j, none⟩).isSome = true ∧ (V.alloc o).frozen? ⟨b, 0 + bs.length * 1 + j, none⟩ = false) := fun o hr j hj => by
    have h1 := HO.out.room (bs.length + j) (by omega)
    rw [show 0 + bs.length * 1 + j = bs.length + j by omega]
    refine ⟨by rw [(newB V o).cell (p := ⟨b, bs.length + j, none⟩) hblt]; exact h1.1, ?_⟩
    have h2 := h1.2
    unfold World.frozen? at h2 ⊢
    rwa [(newB V o).block b hblt]
  have e2 : (sealL bs).length = bs.length + 4 := sealL_len bs
  have HE2 : Hid ((sealL bs).length = bs.length + 4) := e2
  clear e2
  by_cases hroom : bs.length + 4 ≤ cap
  · go_wp2_with (first
      | (at_builtin; refine wpList_append_arg _ rfl _ _ _ rfl 5 i0 _ 1 1 Tryz.underlying87 hi0 hz0 hz1 hz2 rfl (by omega) b 0 bs.length cap (byC bs) rfl (by rw [byC_len]; omega) (HC.out _) ⟨V.heap.size, 0, none⟩ 4 4 [.int .u8 ((s.toNat : Int) / 16777216), .int .u8 ((s.toNat : Int) / 65536 % 256), .int .u8 ((s.toNat : Int) / 256 % 256), .int .u8 ((s.toNat : Int) % 256)] rfl rfl (World.news_of_block (cs := #[.int .u8 ((s.toNat : Int) / 16777216), .int .u8 ((s.toNat : Int) / 65536 % 256), .int .u8 ((s.toNat : Int) / 256 % 256), .int .u8 ((s.toNat : Int) % 256)]) (t := 5) (fr := (0, 0)) (heap_new V _)) (by simp [Value.oneCell']) (HRM.out _) (by unfold maxLen; omega) (by omega) (fun _ => ?_) (fun h => absurd h (by omega)))
      | fail)
    go_ret
    refine ⟨_, rfl, ⟨some ⟨b, 0, none⟩, cap, by rw [HE2.out]; rfl, fun i hi => ⟨b, 0, rfl, ?_⟩⟩, below_many hb0 _ _ _ HB1.out⟩
    have hi2 : i < bs.length + 4 := by rw [← HE2.out]; exact hi
    have key : (byC bs ++ sealV s)[i]? = some (.int .u8 ((sealL bs)[i]).toNat) := by
      rw [← HE.out]
      simp [byC, List.getElem?_eq_getElem hi]
    rcases Nat.lt_or_ge i bs.length with h1 | h1
    · rw [List.getElem?_append_left (by rw [byC_len]; exact h1)] at key
      rw [World.cell?_setCells_out _ _ _ _ _ (fun _ _ => .inl (show 0 + i < bs.length by omega))]
      exact HC.out _ i _ key
    · obtain ⟨j, rfl⟩ : ∃ j, i = bs.length + j := ⟨i - bs.length, by omega⟩
      rw [List.getElem?_append_right (by rw [byC_len]; omega), byC_len, Nat.add_sub_cancel_left] at key
      have hj : j < (sealV s).length := by show j < 4; omega
      rw [← key]
      have := World.cell?_setCells_in b (sealV s) bs.length (V.alloc (.cells #[.int .u8 ((s.toNat : Int) / 16777216), .int .u8 ((s.toNat : Int) / 65536 % 256), .int .u8 ((s.toNat : Int) / 256 % 256), .int .u8 ((s.toNat : Int) % 256)] 5)) (fun q hq => by rw [show bs.length + q = 0 + bs.length * 1 + q by omega]; exact (HRM.out _ hroom q hq).1) j hj
      rw [Nat.zero_add, List.getElem?_eq_getElem hj]
      exact this
  · go_wp2_with (first
      | (at_builtin; refine wpList_append_arg _ rfl _ _ _ rfl 5 i0 _ 1 1 Tryz.underlying87 hi0 hz0 hz1 hz2 rfl (by omega) b 0 bs.length cap (byC bs) rfl (by rw [byC_len]; omega) (HC.out _) ⟨V.heap.size, 0, none⟩ 4 4 [.int .u8 ((s.toNat : Int) / 16777216), .int .u8 ((s.toNat : Int) / 65536 % 256), .int .u8 ((s.toNat : Int) / 256 % 256), .int .u8 ((s.toNat : Int) % 256)] rfl rfl (World.news_of_block (cs := #[.int .u8 ((s.toNat : Int) / 16777216), .int .u8 ((s.toNat : Int) / 65536 % 256), .int .u8 ((s.toNat : Int) / 256 % 256), .int .u8 ((s.toNat : Int) % 256)]) (t := 5) (fr := (0, 0)) (heap_new V _)) (by simp [Value.oneCell']) (HRM.out _) (by unfold maxLen; omega) (by omega) (fun h => absurd h (by omega)) (fun _ => ?_); intro v9 W9 hown9 hgrow9)
      | fail)
    go_ret
    have hown : W9.ownsRow (V.heap.size + 1) 5 1 v9 (sealL bs).length (byC (sealL bs)) := by
      rw [HE2.out, HE.out]
      unfold sealV
      simpa using hown9
    refine ⟨_, rfl, bytes_see hown, HB1.out.grown hgrow9 HB1.out.size (fun k hk => by cases hk)⟩
end Go.Proofs.YteioennfpkoagabGreatDoor.C
namespace Go.Proofs.YteioennfpkoagabGreatDoor.C
open Go.RowKit K
attribute [local go_sem ↓] Go.wp_at_zero Go.wp_at_succ

/- is there one in the plan that there is not -/
set_option maxRecDepth 100000 in
set_option maxHeartbeats 1000000 in
theorem clo_strange (w : World) (bx n cap : Nat) (va : Option Addr) (x : Int) (_hn : n ≤ 255) (hbx : w.cell? ⟨bx, 1, none⟩ = some (.slice va n cap)) :
    Calls Tryz.prog 79 #[.int .i64 x, .pointer (some ⟨bx, 0, none⟩)] w fun e w' => e = .returned (.bool (decide ((n : Int) ≤ x))) ∧ Below w.heap.size w w' := by
  go_enter Tryz.func79, Tryz.ntmps79
  go_wp2_with fail
  go_ret
  exact ⟨rfl, Below.refl _ _⟩
set_option maxRecDepth 100000 in
set_option maxHeartbeats 1000000 in
theorem index_strange (bx n cp : Nat) (vb : Option Addr) (qs : List Int) (v : Value) (w : World) (hv : PlanV w v qs) (hl : qs.length ≤ 255) (hn : n ≤ 255) (hbx : w.cell? ⟨bx, 1, none⟩ = some (.slice vb n cp)) :
    Calls Tryz.prog 98 #[v, .func (Fn.func 79) #[] #[.pointer (some ⟨bx, 0, none⟩)]] w fun e w' => ∃ r : Int, e = .returned (.int .i64 r) ∧ Hid (decide (0 ≤ r) = strange qs n) ∧ Below w.heap.size w w' := by
  obtain ⟨va, cap, rfl, hc⟩ := hv
  have HC : Hid _ := hc
  clear hc
  have l1 := World.block_lt_of_cell? w _ hbx
  simp only [] at l1
  go_enter Tryz.func98, Tryz.ntmps98
  go_wp2_with fail
  go_loopw [8] (fun i wr => ∃ (k : Nat), i = .int .i64 k ∧ k ≤ qs.length ∧ Hid (strange (qs.take k) n = false) ∧ Below w.heap.size w wr) (fun i _ => qs.length - (intOf i).toNat)
  case atStart => exact ⟨0, rfl, by omega, by simp [Hid, strange], Below.refl _ _⟩
  case round =>
    obtain ⟨k, rfl, hk, HK, hbel⟩ := hrel
    by_cases hlt : k < qs.length
    · have hlt' : (k : Int) < (qs.length : Int) := by omega
      have hk0 : (0 : Int) ≤ (k : Int) := by omega
      obtain ⟨b, off, rfl, c0⟩ := HC.out k hlt
      have hbl := World.block_lt_of_cell? w _ c0
      have d0 := (hbel.cell (by exact hbl)).trans c0
      clear c0
      have HST : Hid (strange (qs.take (k + 1)) n = (strange (qs.take k) n || decide ((n : Int) ≤ qs[k]))) := by show _ = _; unfold strange; rw [take_snocD qs k hlt, List.any_append]; simp
      have HMEM : Hid (strange qs n = false → decide ((n : Int) ≤ qs[k]) = false) := fun h => by unfold strange at h; rw [List.any_eq_false] at h; simpa using h qs[k] (List.getElem_mem _)
      generalize qs[k] = q at *
      have hclo := clo_strange wr bx n cp vb q hn (by rw [hbel.cell (by exact l1)]; exact hbx)
      go_wp2_with fail
      refine hclo.mono ?_
      rintro e w2 ⟨rfl, hb2⟩
      cases hh : decide ((n : Int) ≤ q)
      · have HX : Hid (strange (qs.take (k + 1)) n = false) := by show _ = _; rw [HST.out, HK.out, hh]; rfl
        clear hh HST
        go_wp2_with fail
        go_roundw
        case rel => exact ⟨k + 1, by go_num, by omega, HX, hbel.trans (hb2.mono hbel.size)⟩
        case measure => simp [intOf]; omega
      · have HX : Hid (decide (0 ≤ (k : Int)) = strange qs n) := by
          show _ = _
          cases hq : strange qs n
          · have := HMEM.out hq; rw [hh] at this; cases this
          · simp
        clear hh HST
        go_wp2_with fail
        go_ret
        exact ⟨_, rfl, HX, hbel.trans (hb2.mono hbel.size)⟩
    · have hlt' : ¬ (k : Int) < (qs.length : Int) := by omega
      have HX : Hid (decide (0 ≤ (-1 : Int)) = strange qs n) := by have := HK.out; rw [List.take_of_length_le (by omega)] at this; show _ = _; rw [this]; rfl
      go_wp2_with fail
      go_ret
      exact ⟨_, rfl, HX, hbel⟩
set_option maxRecDepth 100000 in
set_option maxHeartbeats 1000000 in
theorem contains_strange (bx n cp : Nat) (vb : Option Addr) (qs : List Int) (v : Value) (w : World) (hv : PlanV w v qs) (hl : qs.length ≤ 255) (hn : n ≤ 255) (hbx : w.cell? ⟨bx, 1, none⟩ = some (.slice vb n cp)) :
    Calls Tryz.prog 80 #[v, .func (Fn.func 79) #[] #[.pointer (some ⟨bx, 0, none⟩)]] w fun e w' => e = .returned (.bool (strange qs n)) ∧ Below w.heap.size w w' := by
  have hi := index_strange bx n cp vb qs v w hv hl hn hbx
  go_enter Tryz.func80, Tryz.ntmps80
  go_wp2_with fail
  refine hi.mono ?_
  rintro e w1 ⟨r, rfl, HR, hb⟩
  have hy := HR.out
  clear HR
  cases hq : strange qs n
  · rw [hq] at hy
    have HQ : Hid _ := hq
    clear hq
    go_wp2_with fail
    go_ret
    exact ⟨by rw [HQ.out]; rfl, hb⟩
  · rw [hq] at hy
    have HQ : Hid _ := hq
    clear hq
    go_wp2_with fail
    go_ret
    exact ⟨by rw [HQ.out]; rfl, hb⟩
theorem countP_step {pl : List Int} {k i : Nat} (hk : k < pl.length) : countP (pl.take (k + 1)) i = countP (pl.take k) i + if pl[k] = (i : Int) then 1 else 0 := by
  unfold countP
  rw [take_snocD pl k hk, List.filter_append, List.length_append]
  by_cases h : pl[k] = (i : Int)
  · rw [if_pos h]; simp [h]
  · rw [if_neg h]; simp [h]
set_option maxRecDepth 100000 in
set_option maxHeartbeats 1000000 in
theorem ticksOf_any (w : World) (v : Value) (pl : List Int) (i : Nat) (hv : PlanV w v pl) (hl : pl.length ≤ 255) :
    Calls Tryz.prog 82 #[v, .int .i64 i] w fun e w' => e = .returned (.int .i64 (countP pl i)) ∧ w' = w := by
  obtain ⟨va, cap, rfl, hc⟩ := hv
  have HC : Hid _ := hc
  clear hc
  go_enter Tryz.func82, Tryz.ntmps82
  go_wp2_with fail
  go_loopw [5, 10] (fun c v wr => ∃ (k : Nat), v = .int .i64 k ∧ c = .int .i64 (countP (pl.take k) i) ∧ k ≤ pl.length ∧ wr = w) (fun _ v _ => pl.length - (intOf v).toNat)
  case atStart => exact ⟨0, rfl, by simp [countP], by omega, rfl⟩
  case round =>
    obtain ⟨k, rfl, rfl, hk, hw⟩ := hrel
    have hw2 := hw.symm
    clear hw
    subst hw2
    by_cases hlt : k < pl.length
    · have hlt' : (k : Int) < (pl.length : Int) := by omega
      obtain ⟨b, off, rfl, c0⟩ := HC.out k hlt
      have HST : Hid (countP (pl.take (k + 1)) i = countP (pl.take k) i + if pl[k] = (i : Int) then 1 else 0) := countP_step hlt
      have h1 := count_le (pl.take k) i
      have h2 : 0 ≤ countP (pl.take k) i := by unfold countP; omega
      have h3 : ((pl.take k).length : Int) ≤ 255 := by rw [List.length_take]; omega
      generalize countP (pl.take k) i = cn at *
      generalize pl[k] = q at *
      by_cases hq : q = (i : Int)
      · have HX : Hid (countP (pl.take (k + 1)) i = cn + 1) := by show _ = _; rw [HST.out, if_pos hq]
        subst hq
        clear HST
        go_wp2_with fail
        exact ⟨⟨k + 1, by go_num, by rw [HX.out], by omega, by first | rfl | trivial⟩, by simp [intOf]; omega⟩
      · have HX : Hid (countP (pl.take (k + 1)) i = cn) := by show _ = _; rw [HST.out, if_neg hq]; omega
        clear HST
        go_wp2_with fail
        exact ⟨⟨k + 1, by go_num, by rw [HX.out], by omega, by first | rfl | trivial⟩, by simp [intOf]; omega⟩
    · have hlt' : ¬ (k : Int) < (pl.length : Int) := by omega
      have HX : Hid (pl.take k = pl) := List.take_of_length_le (by omega)
      go_wp2_with fail
      go_ret
      exact ⟨by show Ending.returned (.int .i64 (countP (pl.take k) i)) = _; rw [HX.out], rfl⟩
set_option maxRecDepth 100000 in
theorem dec_len_all : ((List.range 256).all fun i => decide ((decF i).length ≤ 3)) = true := by decide
theorem ba_add (a b : List UInt8) : ba a ++ ba b = ba (a ++ b) := by
  apply ByteArray.ext
  rw [ByteArray.data_append]
  simp [ba]
set_option maxRecDepth 100000 in
set_option maxHeartbeats 1000000 in
theorem someName_any (w : World) (i : Nat) (hi : i ≤ 255) (ht : TB w) :
    Calls Tryz.prog 81 #[.int .i64 i] w fun e w' => e = .returned (.string (someN i)) ∧ Below w.heap.size w w' := by
  go_enter Tryz.func81, Tryz.ntmps81
  go_wp2_with fail
  refine (itoa_any i w (by omega) ht).mono ?_
  rintro e w1 ⟨rfl, hb⟩
  have hz : (ba (decF i)).size ≤ 3 := by
    have := List.all_eq_true.1 dec_len_all i (List.mem_range.2 (by omega))
    simp only [decide_eq_true_eq] at this
    simpa [ba, ByteArray.size] using this
  have HE : Hid ((⟨#[110]⟩ : ByteArray) ++ ba (decF i) = someN i) := ba_add [110] (decF i)
  generalize ba (decF i) = t at *
  have hsum : ¬ 9223372036854775807 < 1 + t.size := by omega
  go_wp2_with fail
  go_ret
  exact ⟨by rw [← HE.out]; rfl, hb⟩
end Go.Proofs.YteioennfpkoagabGreatDoor.C
namespace Go.Proofs.YteioennfpkoagabGreatDoor.C
open Go.RowKit K
attribute [local go_sem ↓] Go.wp_at_zero Go.wp_at_succ

/- just the checksum of what was read is left -/
set_option maxRecDepth 100000 in
set_option maxHeartbeats 4000000 in
theorem atSum_any (w : World) (rb k : Nat) (s : ByteArray) (_hs : s.size ≤ 9223372036854775807) (hk : k ≤ s.size) (hk2 : k ≤ 1000000) (hk1 : 1 ≤ k) (h : w.heap[rb]? = some (.cells #[.string s, .int .i64 k] 115)) :
    Calls Tryz.prog 58 #[.pointer (some ⟨rb, 0, none⟩)] w fun e w' => e = .returned (.bool (decide (s.data.toList = sealL (s.data.toList.take k)))) ∧ Below w.heap.size w w' := by
  have y0 : w.cell? ⟨rb, 0, none⟩ = some (.string s) := by rw [cell_of_blk h]; rfl
  have y1 : w.cell? ⟨rb, 1, none⟩ = some (.int .i64 k) := by rw [cell_of_blk h]; rfl
  have hrl := lt_of_blk h
  have hk0 : (0 : Int) ≤ (k : Int) := by omega
  have hk3 : (k : Int) ≤ (s.size : Int) := by omega
  obtain ⟨t, htE⟩ : ∃ t, s.extract 0 k = t := ⟨_, rfl⟩
  have HTL : Hid (t.data.toList = s.data.toList.take k) := by
    show _ = _
    rw [← htE]
    simp [ByteArray.data_extract]
  have HTS : Hid (t.size = k) := by
    show _ = _
    have := congrArg List.length HTL.out
    simp only [List.length_take, Array.length_toList] at this
    have e1 : t.data.size = t.size := rfl
    have e2 : s.data.size = s.size := rfl
    omega
  obtain ⟨gc, hgc⟩ : ∃ gc, grownCap w.drew t.size 0 5 = gc := ⟨_, rfl⟩
  have hcv : (convert 9 87 (.string t)).run Tryz.prog w.drew = .ok (.slice (some ⟨w.heap.size, 0, none⟩) t.size gc) (w.alloc (.cells (bytesRow t gc) 5 ((bytesRow t gc).size, (bytesRow t gc).size + 1))).drew.drew := by
    have := run_bytes_of_string (P := Tryz.prog) w.drew 9 87 5 t Tryz.underlying9 Tryz.underlying87 Tryz.underlying5
    rw [hgc] at this
    exact this
  have HBR : Hid (BytesR (w.alloc (.cells (bytesRow t gc) 5 ((bytesRow t gc).size, (bytesRow t gc).size + 1))).drew.drew w.heap.size t.data.toList gc) := BytesR.of w.drew t gc (by rw [← hgc]; exact grownCap_ge _ _ _ _)
  have HBW : Hid (Below w.heap.size w (w.alloc (.cells (bytesRow t gc) 5 ((bytesRow t gc).size, (bytesRow t gc).size + 1))).drew.drew) := below_drewN (newB w _) 2
  have HNE : Hid (sealL t.data.toList ≠ []) := fun e => by have := congrArg List.length e; rw [sealL_len] at this; simp at this
  have HCA : Hid (Calls Tryz.prog 41 #[.slice (some ⟨w.heap.size, 0, none⟩) t.size gc] (w.alloc (.cells (bytesRow t gc) 5 ((bytesRow t gc).size, (bytesRow t gc).size + 1))).drew.drew fun e w' => ∃ v, e = .returned v ∧ BytesV w' v (sealL t.data.toList) ∧ Below w.heap.size w w') := by
    have hl : t.data.toList.length = t.size := by simp
    have := seal_arg w _ w.heap.size gc t.data.toList HBR.out HBW.out (Nat.le_refl _) (by rw [hl, HTS.out]; exact hk2)
    rw [hl] at this
    exact this
  have HSB : Hid (∀ V V', (V.cell? ⟨rb, 0, none⟩ = some (.string s) ∧ V.cell? ⟨rb, 1, none⟩ = some (.int .i64 k) ∧ Below w.heap.size w V) → Below V.heap.size V V' → (V'.cell? ⟨rb, 0, none⟩ = some (.string s) ∧ V'.cell? ⟨rb, 1, none⟩ = some (.int .i64 k) ∧ Below w.heap.size w V')) := fun V V' h hb2 => by
    have hb := h.2.2
    have hl : rb < V.heap.size := by have := hb.size; omega
    exact ⟨(hb2.cell (p := ⟨rb, 0, none⟩) hl).trans h.1, (hb2.cell (p := ⟨rb, 1, none⟩) hl).trans h.2.1, hb.trans (hb2.mono hb.size)⟩
  have HEQ : Hid ((s.toList == (ba (sealL t.data.toList)).toList) = decide (s.data.toList = sealL (s.data.toList.take k))) := by
    show _ = _
    rw [ByteArray.toList_eq, ByteArray.toList_eq, mk_data, HTL.out]
    by_cases h : s.data.toList = sealL (s.data.toList.take k)
    · rw [decide_eq_true h]; exact beq_iff_eq.2 h
    · rw [decide_eq_false h]; simpa using h
  clear h hgc
  go_enter Tryz.func58, Tryz.ntmps58
  go_upto_region 1 with fail
  have z0 : (w.alloc (.cells (bytesRow t gc) 5 ((bytesRow t gc).size, (bytesRow t gc).size + 1))).drew.drew.cell? ⟨rb, 0, none⟩ = some (.string s) := (HBW.out.cell (p := ⟨rb, 0, none⟩) hrl).trans y0
  have z1 : (w.alloc (.cells (bytesRow t gc) 5 ((bytesRow t gc).size, (bytesRow t gc).size + 1))).drew.drew.cell? ⟨rb, 1, none⟩ = some (.int .i64 k) := (HBW.out.cell (p := ⟨rb, 1, none⟩) hrl).trans y1
  go_region_law (first
    | (go_simp; go_at_call 41
       refine HCA.out.mono ?_
       rintro e w3 ⟨v, rfl, hbv, hb3⟩
       have hcv2 := conv_bytes hbv HNE.out
       have u0 : w3.cell? ⟨rb, 0, none⟩ = some (.string s) := (hb3.cell (p := ⟨rb, 0, none⟩) hrl).trans y0
       have u1 : w3.cell? ⟨rb, 1, none⟩ = some (.int .i64 k) := (hb3.cell (p := ⟨rb, 1, none⟩) hrl).trans y1))
  all_goals go_wp2_with fail
  all_goals go_ret
  all_goals exact ⟨by rw [← HEQ.out]; rfl, hb3⟩
end Go.Proofs.YteioennfpkoagabGreatDoor.C
