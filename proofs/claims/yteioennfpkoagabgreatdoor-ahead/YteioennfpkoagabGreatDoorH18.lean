import Derived.Test.YteioennfpkoagabGreatDoorH16
import Derived.Test.YteioennfpkoagabGreatDoorH17
import Derived.Test.YteioennfpkoagabGreatDoorH15
import Derived.Test.YteioennfpkoagabGreatDoorH05
import Derived.Deep.RegionLaw
import Derived.Deep.DeepCutAuto
namespace Go.Proofs.YteioennfpkoagabGreatDoor.C
open Go.RowKit K

/- what a call leaves: the kernel in another state, and all else as it was -/
structure Aft (KV : World → Value → ManD → KS → (Nat → Prop) → Prop) (v : Value) (D : ManD) (S : KS) (o : Nat → Prop) (w w' : World) : Prop where
  out : ∃ o', KV w' v D S o' ∧ newO o o' w
  frm : Frm o w w'
/- a kernel, by what its calls do -/
structure KerI where
  KV : World → Value → ManD → KS → (Nat → Prop) → Prop
  low : ∀ {w v D S o}, KV w v D S o → ∀ b, o b → b < w.heap.size
  ptr : ∀ {w v D S o}, KV w v D S o → ∃ a, v = .pointer (some a)
  chk : ∀ {w v D S o}, KV w v D S o → checkF D = 0
  keep : ∀ {w w' v D S o}, KV w v D S o → (∀ b, o b → w'.heap[b]? = w.heap[b]?) → KV w' v D S o
  tick : ∀ {w v D S o}, KV w v D S o → SmallK bigK S → Calls Tryz.prog 10 #[v] w fun e w' => e = .returned (.tuple #[]) ∧ Aft KV v D (tickK S) o w w'
  running : ∀ {w v D S o}, KV w v D S o → SmallK bigK S → Calls Tryz.prog 9 #[v] w fun e w' => e = .returned (.int .i64 (runF D S)) ∧ Aft KV v D S o w w'
  read : ∀ {w v D S o p a}, KV w v D S o → SmallK bigK S → inR p → inR a → Calls Tryz.prog 21 #[v, .int .i64 p, .int .i64 a] w fun e w' => e = .returned (.tuple #[.int .i64 (readF D S p a).1, .int .i64 (readF D S p a).2.1]) ∧ Aft KV v D (readF D S p a).2.2 o w w'
  write : ∀ {w v D S o p a b}, KV w v D S o → SmallK bigK S → inR p → inR a → inR b → Calls Tryz.prog 20 #[v, .int .i64 p, .int .i64 a, .int .i64 b] w fun e w' => e = .returned (.int .i64 (writeF D S p a b).1) ∧ Aft KV v D (writeF D S p a b).2 o w w'
  send : ∀ {w v D S o p c s}, KV w v D S o → SmallK bigK S → inR p → inR c → s.size ≤ 9223372036854775807 → Calls Tryz.prog 22 #[v, .int .i64 p, .int .i64 c, .string s] w fun e w' => e = .returned (.int .i64 (sendF D S p c s).1) ∧ Aft KV v D (sendF D S p c s).2 o w w'
  recv : ∀ {w v D S o p c}, KV w v D S o → SmallK bigK S → inR p → inR c → Calls Tryz.prog 24 #[v, .int .i64 p, .int .i64 c] w fun e w' => e = .returned (.tuple #[.string (recvF D S p c).1.1, .bool (recvF D S p c).1.2.1, .int .i64 (recvF D S p c).1.2.2]) ∧ Aft KV v D (recvF D S p c).2 o w w'
  raise : ∀ {w v D S o p}, KV w v D S o → SmallK bigK S → inR p → Calls Tryz.prog 25 #[v, .int .i64 p] w fun e w' => e = .returned (.int .i64 (raiseF D S p).1) ∧ Aft KV v D (raiseF D S p).2 o w w'
  state : ∀ {w v D S o p}, KV w v D S o → SmallK bigK S → inR p → Calls Tryz.prog 11 #[v, .int .i64 p] w fun e w' => e = .returned (.tuple #[stV (stateF D S p).1, .int .i64 (stateF D S p).2]) ∧ Aft KV v D S o w w'
  /- which bytes are taken for an image -/
  acc : ByteArray → Bool
  accImg : ∀ D, checkF D = 0 → acc (ba (imgF D)) = true
  accSyn : ∀ l : List UInt8, 4 ≤ l.length → synL l ≠ 0#32 → acc (ba l) = false
  accCut : ∀ D k, checkF D = 0 → k < (imgF D).length → acc (ba ((imgF D).take k)) = false
  boot : ∀ {w s}, TB w → s.size ≤ 9223372036854775807 → Calls Tryz.prog 4 #[.string s] w fun e w' => Below w.heap.size w w' ∧ ((acc s = false ∧ e = .returned (.tuple #[.pointer none, .int .i64 18])) ∨
    (acc s = true ∧ ∃ a o, e = .returned (.tuple #[.pointer (some a), .int .i64 0]) ∧ (∀ b, o b → w.heap.size ≤ b) ∧ ∀ D, checkF D = 0 → s = ba (imgF D) → KV w' (.pointer (some a)) D bootK o))
end Go.Proofs.YteioennfpkoagabGreatDoor.C
namespace Go.Proofs.YteioennfpkoagabGreatDoor.C
open Go.RowKit

theorem KerI.below (I : KerI) {w w' : World} {v : Value} {D : ManD} {S : KS} {o : Nat → Prop} (h : I.KV w v D S o) (hb : Below w.heap.size w w') : I.KV w' v D S o :=
  I.keep h fun b ho => hb.block b (I.low h b ho)
theorem KerI.lowB (I : KerI) {w w' : World} {v : Value} {D : ManD} {S : KS} {o : Nat → Prop} (h : I.KV w v D S o) {B : Nat} (hB : w.heap.size ≤ B) (hb : Below B w w') : I.KV w' v D S o :=
  I.keep h fun b ho => hb.block b (by have := I.low h b ho; omega)
theorem KerI.apart (I : KerI) {w w' : World} {v : Value} {D : ManD} {S : KS} {o p : Nat → Prop} (h : I.KV w v D S o) (hf : Frm p w w') (hd : ∀ b, o b → ¬ p b) : I.KV w' v D S o :=
  I.keep h fun b ho => hf.block b (I.low h b ho) (hd b ho)
theorem Aft.pre {KV : World → Value → ManD → KS → (Nat → Prop) → Prop} {v : Value} {D : ManD} {S : KS} {o : Nat → Prop} {w0 w w' : World} (hb : Below w0.heap.size w0 w) (h : Aft KV v D S o w w') : Aft KV v D S o w0 w' := by
  obtain ⟨⟨o', h1, h2⟩, hf⟩ := h
  refine ⟨⟨o', h1, fun b hb' => ?_⟩, (Frm.all o hb).trans hf (newO.refl _ _)⟩
  rcases h2 b hb' with h3 | h3
  · exact .inl h3
  · exact .inr (by have := hb.size; omega)
theorem Aft.post (I : KerI) {v : Value} {D : ManD} {S : KS} {o : Nat → Prop} {w w' w2 : World} (h : Aft I.KV v D S o w w') (hb : Below w'.heap.size w' w2) : Aft I.KV v D S o w w2 := by
  obtain ⟨⟨o', h1, h2⟩, hf⟩ := h
  exact ⟨⟨o', I.below h1 hb, h2⟩, hf.trans (Frm.all o hb) (newO.refl _ _)⟩
theorem Aft.same (I : KerI) {v : Value} {D : ManD} {S : KS} {o : Nat → Prop} {w w' : World} (h : I.KV w v D S o) (hb : Below w.heap.size w w') : Aft I.KV v D S o w w' :=
  ⟨⟨o, I.below h hb, newO.refl _ _⟩, Frm.all o hb⟩
theorem Aft.trans (I : KerI) {v : Value} {D : ManD} {S T : KS} {o : Nat → Prop} {w w' w2 : World} (h : Aft I.KV v D S o w w') (h' : ∀ o', I.KV w' v D S o' → Aft I.KV v D T o' w' w2) : Aft I.KV v D T o w w2 := by
  obtain ⟨⟨o', h1, h2⟩, hf⟩ := h
  obtain ⟨⟨o2, h3, h4⟩, hf2⟩ := h' o' h1
  exact ⟨⟨o2, h3, h2.trans h4 hf.size⟩, hf.trans hf2 h2⟩
theorem Aft.bel {KV : World → Value → ManD → KS → (Nat → Prop) → Prop} {v : Value} {D : ManD} {S : KS} {o : Nat → Prop} {w w' : World} (h : Aft KV v D S o w w') {B : Nat} (hB : B ≤ w.heap.size) (ho : ∀ k, o k → B ≤ k) : Below B w w' := h.frm.below hB ho
/- locals of the caller lie between the two worlds w and wc -/
structure Aft3 (KV : World → Value → ManD → KS → (Nat → Prop) → Prop) (v : Value) (D : ManD) (S : KS) (o : Nat → Prop) (w wc w1 : World) : Prop where
  out : ∃ o', KV w1 v D S o' ∧ newO o o' wc
  frm : Frm o w w1
  lo : w.heap.size ≤ wc.heap.size
theorem Aft3.of {KV : World → Value → ManD → KS → (Nat → Prop) → Prop} {v : Value} {D : ManD} {S : KS} {o : Nat → Prop} {w wc w1 : World} (hb : Below w.heap.size w wc) (h : Aft KV v D S o wc w1) : Aft3 KV v D S o w wc w1 :=
  ⟨h.out, (Frm.all o hb).trans h.frm (newO.refl _ _), hb.size⟩
theorem Aft3.set (I : KerI) {v : Value} {D : ManD} {S : KS} {o : Nat → Prop} {w wc w1 : World} (h : Aft3 I.KV v D S o w wc w1) (ho : ∀ k, o k → k < w.heap.size) {b : Nat} (hb : w.heap.size ≤ b) (hb2 : b < wc.heap.size) (i : Nat) (u : Value) : Aft3 I.KV v D S o w wc (w1.setCell ⟨b, i, none⟩ u) := by
  obtain ⟨⟨o', h1, h2⟩, hf, hl⟩ := h
  refine ⟨⟨o', I.keep h1 fun c hc => ?_, h2⟩, hf.set (.inr hb) i u, hl⟩
  refine Below.heap_setCell _ _ _ _ (show c ≠ b from fun e => ?_)
  subst e
  rcases h2 c hc with h3 | h3
  · have := ho c h3; omega
  · omega
theorem Aft3.bel (I : KerI) {v : Value} {D : ManD} {S : KS} {o : Nat → Prop} {w wc w1 w2 : World} (h : Aft3 I.KV v D S o w wc w1) (hb : Below w1.heap.size w1 w2) : Aft3 I.KV v D S o w wc w2 := by
  obtain ⟨⟨o', h1, h2⟩, hf, hl⟩ := h
  exact ⟨⟨o', I.below h1 hb, h2⟩, hf.trans (Frm.all o hb) (newO.refl _ _), hl⟩
theorem Aft3.fin {KV : World → Value → ManD → KS → (Nat → Prop) → Prop} {v : Value} {D : ManD} {S : KS} {o : Nat → Prop} {w wc w1 : World} (h : Aft3 KV v D S o w wc w1) : Aft KV v D S o w w1 := by
  obtain ⟨⟨o', h1, h2⟩, hf, hl⟩ := h
  refine ⟨⟨o', h1, fun b hb => ?_⟩, hf⟩
  rcases h2 b hb with h3 | h3
  · exact .inl h3
  · exact .inr (by omega)
/- what a local holds behind the call -/
theorem Aft.far {KV : World → Value → ManD → KS → (Nat → Prop) → Prop} {v : Value} {D : ManD} {S : KS} {o : Nat → Prop} {w wc w1 : World} (h : Aft KV v D S o wc w1) (ho : ∀ k, o k → k < w.heap.size) {b : Nat} {x : Obj} (hb : w.heap.size ≤ b) (hx : wc.heap[b]? = some x) : w1.heap[b]? = some x :=
  (h.frm.block b (lt_of_blk hx) (fun e => by have := ho b e; omega)).trans hx
end Go.Proofs.YteioennfpkoagabGreatDoor.C
namespace Go.Proofs.YteioennfpkoagabGreatDoor.C
open Go.RowKit K

/- one kernel, over what lay there when it was booted -/
def KAt (I : KerI) (W : World) (a : Addr) (D : ManD) (S : KS) (w : World) : Prop :=
  ∃ o, I.KV w (.pointer (some a)) D S o ∧ (∀ b, o b → W.heap.size ≤ b) ∧ Below W.heap.size W w
theorem KAt.bel {I : KerI} {W : World} {a : Addr} {D : ManD} {S : KS} {w : World} (h : KAt I W a D S w) : Below W.heap.size W w := by
  obtain ⟨o, _, _, h3⟩ := h
  exact h3
theorem KAt.below {I : KerI} {W : World} {a : Addr} {D : ManD} {S : KS} {w w' : World} (h : KAt I W a D S w) (hb : Below w.heap.size w w') : KAt I W a D S w' := by
  obtain ⟨o, h1, h2, h3⟩ := h
  exact ⟨o, I.below h1 hb, h2, h3.trans (hb.mono h3.size)⟩
theorem KAt.aft {I : KerI} {W : World} {a : Addr} {D : ManD} {T : KS} {w w' : World} {o : Nat → Prop} (h2 : ∀ b, o b → W.heap.size ≤ b) (h3 : Below W.heap.size W w) (h : Aft I.KV (.pointer (some a)) D T o w w') : KAt I W a D T w' := by
  obtain ⟨⟨o', h4, h5⟩, hf⟩ := h
  refine ⟨o', h4, fun b hb => ?_, h3.trans (hf.below h3.size h2)⟩
  rcases h5 b hb with h6 | h6
  · exact h2 b h6
  · exact Nat.le_trans h3.size h6
theorem KAt.tick {I : KerI} {W : World} {a : Addr} {D : ManD} {S : KS} {w : World} (h : KAt I W a D S w) (hs : SmallK bigK S) :
    Calls Tryz.prog 10 #[.pointer (some a)] w fun e w' => e = .returned (.tuple #[]) ∧ KAt I W a D (tickK S) w' := by
  obtain ⟨o, h1, h2, h3⟩ := h
  exact Calls.mono (I.tick h1 hs) fun _ _ ⟨e1, e2⟩ => ⟨e1, KAt.aft h2 h3 e2⟩
theorem KAt.running {I : KerI} {W : World} {a : Addr} {D : ManD} {S : KS} {w : World} (h : KAt I W a D S w) (hs : SmallK bigK S) :
    Calls Tryz.prog 9 #[.pointer (some a)] w fun e w' => e = .returned (.int .i64 (runF D S)) ∧ KAt I W a D S w' := by
  obtain ⟨o, h1, h2, h3⟩ := h
  exact Calls.mono (I.running h1 hs) fun _ _ ⟨e1, e2⟩ => ⟨e1, KAt.aft h2 h3 e2⟩
theorem KAt.read {I : KerI} {W : World} {a : Addr} {D : ManD} {S : KS} {w : World} (h : KAt I W a D S w) (hs : SmallK bigK S) {p x : Int} (hp : inR p) (hx : inR x) :
    Calls Tryz.prog 21 #[.pointer (some a), .int .i64 p, .int .i64 x] w fun e w' => e = .returned (.tuple #[.int .i64 (readF D S p x).1, .int .i64 (readF D S p x).2.1]) ∧ KAt I W a D (readF D S p x).2.2 w' := by
  obtain ⟨o, h1, h2, h3⟩ := h
  exact Calls.mono (I.read h1 hs hp hx) fun _ _ ⟨e1, e2⟩ => ⟨e1, KAt.aft h2 h3 e2⟩
theorem KAt.write {I : KerI} {W : World} {a : Addr} {D : ManD} {S : KS} {w : World} (h : KAt I W a D S w) (hs : SmallK bigK S) {p x b : Int} (hp : inR p) (hx : inR x) (hb : inR b) :
    Calls Tryz.prog 20 #[.pointer (some a), .int .i64 p, .int .i64 x, .int .i64 b] w fun e w' => e = .returned (.int .i64 (writeF D S p x b).1) ∧ KAt I W a D (writeF D S p x b).2 w' := by
  obtain ⟨o, h1, h2, h3⟩ := h
  exact Calls.mono (I.write h1 hs hp hx hb) fun _ _ ⟨e1, e2⟩ => ⟨e1, KAt.aft h2 h3 e2⟩
theorem KAt.send {I : KerI} {W : World} {a : Addr} {D : ManD} {S : KS} {w : World} (h : KAt I W a D S w) (hs : SmallK bigK S) {p c : Int} {s : ByteArray} (hp : inR p) (hc : inR c) (hz : s.size ≤ 9223372036854775807) :
    Calls Tryz.prog 22 #[.pointer (some a), .int .i64 p, .int .i64 c, .string s] w fun e w' => e = .returned (.int .i64 (sendF D S p c s).1) ∧ KAt I W a D (sendF D S p c s).2 w' := by
  obtain ⟨o, h1, h2, h3⟩ := h
  exact Calls.mono (I.send h1 hs hp hc hz) fun _ _ ⟨e1, e2⟩ => ⟨e1, KAt.aft h2 h3 e2⟩
theorem KAt.recv {I : KerI} {W : World} {a : Addr} {D : ManD} {S : KS} {w : World} (h : KAt I W a D S w) (hs : SmallK bigK S) {p c : Int} (hp : inR p) (hc : inR c) :
    Calls Tryz.prog 24 #[.pointer (some a), .int .i64 p, .int .i64 c] w fun e w' => e = .returned (.tuple #[.string (recvF D S p c).1.1, .bool (recvF D S p c).1.2.1, .int .i64 (recvF D S p c).1.2.2]) ∧ KAt I W a D (recvF D S p c).2 w' := by
  obtain ⟨o, h1, h2, h3⟩ := h
  exact Calls.mono (I.recv h1 hs hp hc) fun _ _ ⟨e1, e2⟩ => ⟨e1, KAt.aft h2 h3 e2⟩
theorem KAt.raise {I : KerI} {W : World} {a : Addr} {D : ManD} {S : KS} {w : World} (h : KAt I W a D S w) (hs : SmallK bigK S) {p : Int} (hp : inR p) :
    Calls Tryz.prog 25 #[.pointer (some a), .int .i64 p] w fun e w' => e = .returned (.int .i64 (raiseF D S p).1) ∧ KAt I W a D (raiseF D S p).2 w' := by
  obtain ⟨o, h1, h2, h3⟩ := h
  exact Calls.mono (I.raise h1 hs hp) fun _ _ ⟨e1, e2⟩ => ⟨e1, KAt.aft h2 h3 e2⟩
theorem KAt.state {I : KerI} {W : World} {a : Addr} {D : ManD} {S : KS} {w : World} (h : KAt I W a D S w) (hs : SmallK bigK S) {p : Int} (hp : inR p) :
    Calls Tryz.prog 11 #[.pointer (some a), .int .i64 p] w fun e w' => e = .returned (.tuple #[stV (stateF D S p).1, .int .i64 (stateF D S p).2]) ∧ KAt I W a D S w' := by
  obtain ⟨o, h1, h2, h3⟩ := h
  exact Calls.mono (I.state h1 hs hp) fun _ _ ⟨e1, e2⟩ => ⟨e1, KAt.aft h2 h3 e2⟩
theorem smallBoot : SmallK bigK bootK := SmallK.boot.mono (Nat.zero_le _)
end Go.Proofs.YteioennfpkoagabGreatDoor.C
namespace Go.Proofs.YteioennfpkoagabGreatDoor.C
open Go.RowKit K
attribute [local go_sem ↓] Go.wp_at_zero Go.wp_at_succ

/- a kernel of a manifest, as 'begin' leaves it -/
structure Begun (I : KerI) (w : World) (D : ManD) (a : Addr) (qv : Value) (W1 w' : World) : Prop where
  kat : KAt I W1 a D bootK w'
  pre : Below w.heap.size w W1
  plan : PlanV W1 qv (planF D)
theorem run_boot (D : ManD) : runF D bootK = whoF D bootK := by
  unfold runF
  rw [if_neg]
  rintro ⟨_, h⟩
  cases h
theorem who_boot (D : ManD) : whoF D bootK = tickF D.parts 0 := by
  unfold whoF bootK
  simp
theorem planF_len {D : ManD} : (planF D).length = D.frame.toNat := (planN_len D.parts D.frame.toNat).1
theorem planF_at {D : ManD} {t : Nat} (h : t < D.frame.toNat) (h2 : t < (planF D).length) : (planF D)[t] = tickF D.parts t := by
  have h3 : (planF D).getD t 0 = tickF D.parts t := plan_at D.parts D.frame.toNat t h
  rw [← h3, List.getD, List.getElem?_eq_getElem h2, Option.getD_some]
theorem parts_len4 (ps : List PartD) (h : ∀ x ∈ ps, x.regs.length ≤ 4) : (ps.flatMap encPart).length ≤ 14 * ps.length := by
  induction ps with
  | nil => simp
  | cons c l ih =>
    have h1 := ih fun x hx => h x (by simp [hx])
    have h2 := h c (by simp)
    rw [List.flatMap_cons, List.length_append, List.length_cons]
    simp only [encPart, List.length_cons, encRegs_len]
    omega
theorem imgF_len {D : ManD} (hz : checkF D = 0) : (imgF D).length ≤ 8 + D.frame.toNat + 14 * D.parts.length + 5 * D.chans.length ∧ 8 ≤ (imgF D).length := by
  have hco := check_ok hz
  have h1 := parts_len4 D.parts (fun x hx => by
    obtain ⟨i, hi, rfl⟩ := List.getElem_of_mem hx
    exact (hco.2.2.2.2.1 i hi).1)
  have h2 := encChans_len D.chans D.chans.length
  rw [List.take_length] at h2
  have h3 : (planF D).length = D.frame.toNat := planF_len
  unfold imgF imgL
  rw [sealL_len]
  unfold bodyL
  simp only [encPlan, encParts, encChans, List.length_cons, List.length_append, List.length_map]
  omega
theorem ba_len (l : List UInt8) : (ba l).size = l.length := by simp [ba, ByteArray.size]
theorem write_on {D : ManD} {S : KS} {p a b : Int} (ht : turnF D S p = 0) (hr : rightsF (regsAt D p.toNat) a = 2) : writeF D S p a b = (0, setMem S p.toNat a (b % 256)) := by
  unfold writeF
  rw [if_neg (fun h => h ht), if_neg (fun h => h hr)]
theorem read_on {D : ManD} {S : KS} {p a : Int} (ht : turnF D S p = 0) (hr : rightsF (regsAt D p.toNat) a = 2) : readF D S p a = (S.mem p.toNat a, 0, S) := by
  unfold readF
  rw [if_neg (fun h => h ht), if_neg (by rw [hr]; decide)]
theorem turn_mem {D : ManD} {S : KS} {p : Int} {k : Nat} {a b : Int} : turnF D (setMem S k a b) p = turnF D S p := rfl
theorem regsAt_of {D : ManD} {p : Nat} {x : PartD} (h : D.parts[p]? = some x) : regsAt D p = x.regs := by
  unfold regsAt
  rw [h]; rfl
set_option maxRecDepth 100000 in
set_option maxHeartbeats 8000000 in
theorem kbegin_any (I : KerI) (w : World) (htb : TB w) (n : Nat) (ps : List PartD) (cs : List ChanD) (pv cv : Value) (hp : PartsV w pv ps) (hpc : PartsC w pv ps.length) (hc : ChansV w cv cs) (hcc : capV cv) (hz : checkF ⟨n, ps, cs⟩ = 0) (hne : ps ≠ [])
    (hfst : ∀ x ∈ ps, ∀ r, x.regs.head? = some r → r.rights = 2) :
    Calls Tryz.prog 7 #[.agg #[.int .i64 n, pv, cv]] w fun e w' => ∃ a qv W1, e = .returned (.tuple #[.pointer (some a), qv]) ∧ Begun I w ⟨n, ps, cs⟩ a qv W1 w' := by
  have HTB : Hid (TB w) := htb
  clear htb
  have hco := check_ok hz
  obtain ⟨hT, hS⟩ := check_fit hz
  simp only [] at hT hS
  have hn1 : 1 ≤ n := by have := hco.1; simp only [] at this; omega
  have hn2 : n ≤ 240 := by have := hco.2.1; simp only [] at this; omega
  have hpl : ps.length ≤ 8 := hco.2.2.1
  have hcl : cs.length ≤ 8 := hco.2.2.2.1
  have hrl : ∀ i (hi : i < ps.length), ps[i].regs.length ≤ 4 := fun i hi => (hco.2.2.2.2.1 i hi).1
  have HP : Hid _ := hp
  have HPC : Hid _ := hpc
  have HC : Hid _ := hc
  have HCC : Hid _ := hcc
  have HZ : Hid _ := hz
  have HF : Hid _ := hfst
  have HCO : Hid _ := hco
  have HRL : Hid _ := hrl
  have HT : Hid _ := hT
  have htz := tick_zero hT hne
  have hti := (tick_in ps 0).2
  obtain ⟨p, hpe⟩ : ∃ p : Nat, tickF ps 0 = p := ⟨(tickF ps 0).toNat, by omega⟩
  have hpl2 : p < ps.length := by omega
  have HPE : Hid _ := hpe
  clear hpc hcc hz hfst hco hrl hT hS htz hti hpe hne
  obtain ⟨va, cap, rfl, hx⟩ := hp
  clear hx
  obtain ⟨ca, ck, rfl, hx⟩ := hc
  clear hx
  go_enter Tryz.func7, Tryz.ntmps7
  go_wp2_with fail
  have b0 := newB w (.cells #[.int .i64 n, .slice va ps.length cap, .slice ca cs.length ck] 31)
  have h0 := heap_new w (.cells #[.int .i64 n, .slice va ps.length cap, .slice ca cs.length ck] 31)
  have HB0 : Hid _ := b0
  have HM0 : Hid _ := h0
  clear b0 h0
  generalize w.alloc (.cells #[.int .i64 n, .slice va ps.length cap, .slice ca cs.length ck] 31) = W0 at *
  refine Calls.mono (planC_true n ps cs _ _ W0 (PartsV.below HP.out HB0.out) (PartsC.below HP.out HPC.out HB0.out) (ChansV.below HC.out HB0.out) HCC.out (by omega) (by omega) (fun k hk => by have := HRL.out k hk; omega)) ?_
  rintro e w1 hor
  obtain ⟨_, hb1, v, rfl, hown⟩ : checkF ⟨n, ps, cs⟩ = 0 ∧ Below W0.heap.size W0 w1 ∧ ∃ v, e = .returned (.tuple #[v, .int .i64 0]) ∧ w1.ownsRow W0.heap.size 3 1 v (planF ⟨n, ps, cs⟩).length (intsC (planF ⟨n, ps, cs⟩)) := by
    rcases hor with ⟨h, _⟩ | h
    · exact absurd HZ.out h
    · exact h
  have hpv := plan_see hown
  have epl : (planF ⟨n, ps, cs⟩).length = n := by rw [planF_len]; simp
  have HPV : Hid (PlanV w1 v (planF ⟨n, ps, cs⟩)) := hpv
  obtain ⟨qa, qc, hv, hqc⟩ := hpv
  rw [epl] at hv
  subst hv
  obtain ⟨qb, qo, rfl, hq0⟩ := hqc 0 (by omega)
  rw [planF_at (D := ⟨n, ps, cs⟩) (t := 0) (by simp; omega), HPE.out, Nat.add_zero] at hq0
  have HB1 : Hid (Below w.heap.size w w1) := HB0.out.trans (hb1.mono HB0.out.size)
  have HM1 : Hid (w1.heap[w.heap.size]? = some (.cells #[.int .i64 n, .slice va ps.length cap, .slice ca cs.length ck] 31 (0, 0))) := keepN HM0.out hb1
  have HQ0 : Hid _ := hq0
  have HEP : Hid _ := epl
  have y0 : w1.cell? ⟨w.heap.size, 0, none⟩ = some (.int .i64 n) := by rw [cell_of_blk HM1.out]; rfl
  have y1 : w1.cell? ⟨w.heap.size, 1, none⟩ = some (.slice va ps.length cap) := by rw [cell_of_blk HM1.out]; rfl
  have y2 : w1.cell? ⟨w.heap.size, 2, none⟩ = some (.slice ca cs.length ck) := by rw [cell_of_blk HM1.out]; rfl
  clear hor hown hqc hq0 hb1 epl
  go_wp2_with fail
  refine Calls.mono (compile_any n ps cs _ _ w1 (PartsV.below HP.out HB1.out) (PartsC.below HP.out HPC.out HB1.out) (ChansV.below HC.out HB1.out) HCC.out (by omega) (by omega) (fun k hk => by have := HRL.out k hk; omega)) ?_
  rintro e w2 hor
  obtain ⟨_, hb2, rfl⟩ : checkF ⟨n, ps, cs⟩ = 0 ∧ Below w1.heap.size w1 w2 ∧ e = .returned (.tuple #[.string (ba (imgF ⟨n, ps, cs⟩)), .int .i64 0]) := by
    rcases hor with ⟨h, _⟩ | h
    · exact absurd HZ.out h
    · exact h
  have HB2 : Hid (Below w.heap.size w w2) := HB1.out.trans (hb2.mono HB1.out.size)
  have HM2 : Hid (w2.heap[w.heap.size]? = some (.cells #[.int .i64 n, .slice va ps.length cap, .slice ca cs.length ck] 31 (0, 0))) := keepN HM1.out hb2
  have HPV2 : Hid (PlanV w2 (.slice (some ⟨qb, qo, none⟩) n qc) (planF ⟨n, ps, cs⟩)) := PlanV.below HPV.out hb2
  have HQ2 : Hid _ := (hb2.cell (p := ⟨qb, qo, none⟩) (World.block_lt_of_cell? w1 _ HQ0.out)).trans HQ0.out
  clear hor hb2 y0 y1 y2
  go_wp2_with fail
  refine Calls.mono (I.boot (s := ba (imgF ⟨n, ps, cs⟩)) (w := w2) (HTB.out.below HB2.out) ?_) ?_
  · have := (imgF_len HZ.out).1
    simp only [Int.toNat_natCast] at this
    rw [ba_len]; omega
  rintro e w3 ⟨hb3, hor⟩
  obtain ⟨_, a, o, rfl, hlo, hkv⟩ : I.acc (ba (imgF ⟨n, ps, cs⟩)) = true ∧ ∃ a o, e = .returned (.tuple #[.pointer (some a), .int .i64 0]) ∧ (∀ b, o b → w2.heap.size ≤ b) ∧ ∀ D, checkF D = 0 → ba (imgF ⟨n, ps, cs⟩) = ba (imgF D) → I.KV w3 (.pointer (some a)) D bootK o := by
    rcases hor with ⟨h, _⟩ | h
    · rw [I.accImg _ HZ.out] at h; cases h
    · exact h
  have HK3 : Hid (KAt I w2 a ⟨n, ps, cs⟩ bootK w3) := ⟨o, hkv _ HZ.out rfl, hlo, hb3⟩
  have HM3 : Hid (w3.heap[w.heap.size]? = some (.cells #[.int .i64 n, .slice va ps.length cap, .slice ca cs.length ck] 31 (0, 0))) := keepN HM2.out hb3
  have q3 : w3.cell? ⟨qb, qo, none⟩ = some (.int .i64 p) := (hb3.cell (p := ⟨qb, qo, none⟩) (World.block_lt_of_cell? w2 _ HQ2.out)).trans HQ2.out
  have y0 : w3.cell? ⟨w.heap.size, 0, none⟩ = some (.int .i64 n) := by rw [cell_of_blk HM3.out]; rfl
  clear hor hkv hlo hb3
  go_wp2_with fail
  refine Calls.mono (KAt.running HK3.out smallBoot) ?_
  rintro e w4 ⟨rfl, hk4⟩
  have hw : whoF ⟨n, ps, cs⟩ bootK = (p : Int) := by rw [who_boot]; exact HPE.out
  rw [run_boot, hw]
  have HK4 : Hid (KAt I w2 a ⟨n, ps, cs⟩ bootK w4) := hk4
  have HM4 : Hid (w4.heap[w.heap.size]? = some (.cells #[.int .i64 n, .slice va ps.length cap, .slice ca cs.length ck] 31 (0, 0))) := keepN HM2.out hk4.bel
  have HWH : Hid (whoF ⟨n, ps, cs⟩ bootK = (p : Int)) := hw
  have y1 : w4.cell? ⟨w.heap.size, 1, none⟩ = some (.slice va ps.length cap) := by rw [cell_of_blk HM4.out]; rfl
  clear q3 y0 hk4 hw
  have hPV4 := PartsV.below (PartsV.below HP.out HB2.out) HK4.out.bel
  obtain ⟨va', cap', eva, hc⟩ := hPV4
  simp only [Value.slice.injEq, true_and] at eva
  obtain ⟨rfl, rfl⟩ := eva
  obtain ⟨b, off, rv, rfl, d0, d1, d2, d3, d4, hrv⟩ := hc p hpl2
  clear hc d0 d1 d2 d3
  have hg1 : ¬ (p : Int) < 0 := by omega
  have hg2 : ¬ (ps.length : Int) ≤ (p : Int) := by omega
  have hfx := HF.out ps[p] (List.getElem_mem _)
  have hpt := (HCO.out.2.2.2.2.1 p hpl2).2
  obtain ⟨x, hx⟩ : ∃ x, ps[p] = x := ⟨_, rfl⟩
  have HXE : Hid (ps[p] = x) := hx
  rw [hx] at hrv hfx hpt
  clear hx
  obtain ⟨ra, rc, rfl, hrc⟩ := hrv
  rcases hrs : x.regs with _ | ⟨r, rs⟩
  · have hl0 : (x.regs.length : Int) = 0 := by rw [hrs]; rfl
    have hl1 : ¬ (0 : Int) < (x.regs.length : Int) := by omega
    clear hrs hl0
    go_wp2_with fail
    go_ret2
    exact ⟨a, _, w2, rfl, HK4.out, HB2.out, HPV2.out⟩
  · have hl1 : (0 : Int) < (x.regs.length : Int) := by rw [hrs]; simp
    obtain ⟨rb, ro, rfl, f0, f1, f2⟩ := hrc 0 (by omega)
    have e0 : x.regs[0]'(by omega) = r := by simp [hrs]
    rw [e0] at f0 f1 f2
    have hr2 : r.rights = 2 := hfx r (by rw [hrs]; rfl)
    have hrok := (partErr_ok hpt).2.2.2.2.2.2.1 r (by rw [hrs]; simp)
    unfold regB at hrok
    simp only [decide_eq_true_eq] at hrok
    obtain ⟨g0, g1, g2, g3, _⟩ := hrok
    obtain ⟨rp, rn, rr⟩ := r
    simp only [] at f0 f1 f2 hr2 g0 g1 g2 g3
    have hgx : (⟨n, ps, cs⟩ : ManD).parts[p]? = some x := by
      show ps[p]? = some x
      rw [List.getElem?_eq_getElem hpl2, HXE.out]
    have hra : regsAt ⟨n, ps, cs⟩ (p : Int).toNat = x.regs := by rw [Int.toNat_natCast]; exact regsAt_of hgx
    have HRT : Hid (rightsF (regsAt ⟨n, ps, cs⟩ (p : Int).toNat) (64 * rp) = 2) := by
      show _ = _
      rw [hra, hrs, ← hr2]
      exact rights_first (r := ⟨rp, rn, rr⟩) g2
    have HTN : Hid (turnF ⟨n, ps, cs⟩ bootK p = 0) := turn_on hpl2 HWH.out rfl
    have hwp : IntKind.i64.wrap (64 * rp) = 64 * rp := wrap_small _ (by omega) (by omega)
    rw [Nat.zero_mul, Nat.add_zero] at f0
    clear hrc hfx hpt hgx hra hrs e0 f1 f2 hr2
    go_wp2_with fail
    refine Calls.mono (KAt.write HK4.out smallBoot (p := (p : Int)) (x := 64 * rp) (b := 77) (by unfold inR; omega) (by unfold inR; omega) (by unfold inR; omega)) ?_
    rw [write_on HTN.out HRT.out]
    rintro e w5 ⟨rfl, hk5⟩
    have HK5 : Hid (KAt I w2 a ⟨n, ps, cs⟩ (setMem bootK (p : Int).toNat (64 * rp) (77 % 256)) w5) := hk5
    have hs5 : SmallK bigK (setMem bootK (p : Int).toNat (64 * rp) (77 % 256)) := smallBoot.setMem _ _ _
    clear hk5
    go_wp2_with fail
    refine Calls.mono (KAt.read HK5.out hs5 (p := (p : Int)) (x := 64 * rp) (by unfold inR; omega) (by unfold inR; omega)) ?_
    rw [read_on (by rw [turn_mem]; exact HTN.out) HRT.out, setMem_mem]
    rintro e w6 ⟨rfl, hk6⟩
    have HK6 : Hid (KAt I w2 a ⟨n, ps, cs⟩ (setMem bootK (p : Int).toNat (64 * rp) (77 % 256)) w6) := hk6
    clear hk6
    go_wp2_with fail
    refine Calls.mono (KAt.write HK6.out hs5 (p := (p : Int)) (x := 64 * rp) (b := 0) (by unfold inR; omega) (by unfold inR; omega) (by unfold inR; omega)) ?_
    rw [write_on (by rw [turn_mem]; exact HTN.out) HRT.out, show (0 : Int) % 256 = 0 by decide, setMem_boot]
    rintro e w7 ⟨rfl, hk7⟩
    have HK7 : Hid (KAt I w2 a ⟨n, ps, cs⟩ bootK w7) := hk7
    clear hk7
    go_wp2_with fail
    go_ret2
    exact ⟨a, _, w2, rfl, HK7.out, HB2.out, HPV2.out⟩
end Go.Proofs.YteioennfpkoagabGreatDoor.C
namespace Go.Proofs.YteioennfpkoagabGreatDoor.C
open Go.RowKit K

/- one kernel, and blocks of others that lie beside it -/
def KAtL (I : KerI) (W : World) (L : List Nat) (a : Addr) (D : ManD) (S : KS) (w : World) : Prop :=
  ∃ o, I.KV w (.pointer (some a)) D S o ∧ (∀ b, o b → W.heap.size ≤ b) ∧ Below W.heap.size W w ∧ ∀ b ∈ L, ¬ o b ∧ b < w.heap.size
def sameL (L : List Nat) (w w' : World) : Prop := ∀ b ∈ L, w'.heap[b]? = w.heap[b]?
theorem KAt.lists {I : KerI} {W : World} {a : Addr} {D : ManD} {S : KS} {w : World} (h : KAt I W a D S w) : KAtL I W [] a D S w := by
  obtain ⟨o, h1, h2, h3⟩ := h
  exact ⟨o, h1, h2, h3, fun b hb => by cases hb⟩
theorem KAtL.kat {I : KerI} {W : World} {L : List Nat} {a : Addr} {D : ManD} {S : KS} {w : World} (h : KAtL I W L a D S w) : KAt I W a D S w := by
  obtain ⟨o, h1, h2, h3, _⟩ := h
  exact ⟨o, h1, h2, h3⟩
theorem KAtL.alloc {I : KerI} {W : World} {L : List Nat} {a : Addr} {D : ManD} {S : KS} {w : World} (h : KAtL I W L a D S w) (x : Obj) : KAtL I W (w.heap.size :: L) a D S (w.alloc x) := by
  obtain ⟨o, h1, h2, h3, h4⟩ := h
  have hb : Below w.heap.size w (w.alloc x) := (Below.refl _ w).alloc (Nat.le_refl _) _
  refine ⟨o, I.below h1 hb, h2, h3.trans (hb.mono h3.size), fun b hm => ?_⟩
  rcases List.mem_cons.1 hm with rfl | hm
  · exact ⟨fun e => by have := I.low h1 _ e; omega, by simp⟩
  · have := h4 b hm
    exact ⟨this.1, by simp; omega⟩
theorem KAtL.drew {I : KerI} {W : World} {L : List Nat} {a : Addr} {D : ManD} {S : KS} {w : World} (h : KAtL I W L a D S w) : KAtL I W L a D S w.drew := by
  obtain ⟨o, h1, h2, h3, h4⟩ := h
  exact ⟨o, I.keep h1 fun _ _ => rfl, h2, h3.drew, h4⟩
theorem KAtL.set {I : KerI} {W : World} {L : List Nat} {a : Addr} {D : ManD} {S : KS} {w : World} (h : KAtL I W L a D S w) {b : Nat} (hb : b ∈ L) (hW : W.heap.size ≤ b) (i : Nat) (v : Value) : KAtL I W L a D S (w.setCell ⟨b, i, none⟩ v) := by
  obtain ⟨o, h1, h2, h3, h4⟩ := h
  refine ⟨o, I.keep h1 fun c hc => Below.heap_setCell _ _ _ _ (show c ≠ b from fun e => (h4 b hb).1 (e ▸ hc)), h2, h3.setCell (p := ⟨b, i, none⟩) hW _, fun c hc => ?_⟩
  have := h4 c hc
  exact ⟨this.1, by simpa using this.2⟩
theorem KAtL.aft {I : KerI} {W : World} {L : List Nat} {a : Addr} {D : ManD} {T : KS} {w w' : World} {o : Nat → Prop} (h2 : ∀ b, o b → W.heap.size ≤ b) (h3 : Below W.heap.size W w) (h4 : ∀ b ∈ L, ¬ o b ∧ b < w.heap.size) (h : Aft I.KV (.pointer (some a)) D T o w w') : KAtL I W L a D T w' ∧ sameL L w w' := by
  obtain ⟨⟨o', h5, h6⟩, hf⟩ := h
  refine ⟨⟨o', h5, fun b hb => ?_, h3.trans (hf.below h3.size h2), fun b hb => ?_⟩, fun b hb => hf.block b (h4 b hb).2 (h4 b hb).1⟩
  · rcases h6 b hb with h7 | h7
    · exact h2 b h7
    · exact Nat.le_trans h3.size h7
  · have := h4 b hb
    refine ⟨fun e => ?_, Nat.lt_of_lt_of_le this.2 hf.size⟩
    rcases h6 b e with h7 | h7
    · exact this.1 h7
    · omega
theorem sameL.at {L : List Nat} {w w' : World} (h : sameL L w w') {b : Nat} {x : Obj} (hb : b ∈ L) (hx : w.heap[b]? = some x) : w'.heap[b]? = some x := (h b hb).trans hx
theorem KAtL.tick {I : KerI} {W : World} {L : List Nat} {a : Addr} {D : ManD} {S : KS} {w : World} (h : KAtL I W L a D S w) (hs : SmallK bigK S) :
    Calls Tryz.prog 10 #[.pointer (some a)] w fun e w' => e = .returned (.tuple #[]) ∧ KAtL I W L a D (tickK S) w' ∧ sameL L w w' := by
  obtain ⟨o, h1, h2, h3, h4⟩ := h
  exact Calls.mono (I.tick h1 hs) fun _ _ ⟨e1, e2⟩ => ⟨e1, KAtL.aft h2 h3 h4 e2⟩
theorem KAtL.running {I : KerI} {W : World} {L : List Nat} {a : Addr} {D : ManD} {S : KS} {w : World} (h : KAtL I W L a D S w) (hs : SmallK bigK S) :
    Calls Tryz.prog 9 #[.pointer (some a)] w fun e w' => e = .returned (.int .i64 (runF D S)) ∧ KAtL I W L a D S w' ∧ sameL L w w' := by
  obtain ⟨o, h1, h2, h3, h4⟩ := h
  exact Calls.mono (I.running h1 hs) fun _ _ ⟨e1, e2⟩ => ⟨e1, KAtL.aft h2 h3 h4 e2⟩
theorem KAtL.read {I : KerI} {W : World} {L : List Nat} {a : Addr} {D : ManD} {S : KS} {w : World} (h : KAtL I W L a D S w) (hs : SmallK bigK S) {p x : Int} (hp : inR p) (hx : inR x) :
    Calls Tryz.prog 21 #[.pointer (some a), .int .i64 p, .int .i64 x] w fun e w' => e = .returned (.tuple #[.int .i64 (readF D S p x).1, .int .i64 (readF D S p x).2.1]) ∧ KAtL I W L a D (readF D S p x).2.2 w' ∧ sameL L w w' := by
  obtain ⟨o, h1, h2, h3, h4⟩ := h
  exact Calls.mono (I.read h1 hs hp hx) fun _ _ ⟨e1, e2⟩ => ⟨e1, KAtL.aft h2 h3 h4 e2⟩
theorem KAtL.write {I : KerI} {W : World} {L : List Nat} {a : Addr} {D : ManD} {S : KS} {w : World} (h : KAtL I W L a D S w) (hs : SmallK bigK S) {p x b : Int} (hp : inR p) (hx : inR x) (hb : inR b) :
    Calls Tryz.prog 20 #[.pointer (some a), .int .i64 p, .int .i64 x, .int .i64 b] w fun e w' => e = .returned (.int .i64 (writeF D S p x b).1) ∧ KAtL I W L a D (writeF D S p x b).2 w' ∧ sameL L w w' := by
  obtain ⟨o, h1, h2, h3, h4⟩ := h
  exact Calls.mono (I.write h1 hs hp hx hb) fun _ _ ⟨e1, e2⟩ => ⟨e1, KAtL.aft h2 h3 h4 e2⟩
theorem KAtL.send {I : KerI} {W : World} {L : List Nat} {a : Addr} {D : ManD} {S : KS} {w : World} (h : KAtL I W L a D S w) (hs : SmallK bigK S) {p c : Int} {s : ByteArray} (hp : inR p) (hc : inR c) (hz : s.size ≤ 9223372036854775807) :
    Calls Tryz.prog 22 #[.pointer (some a), .int .i64 p, .int .i64 c, .string s] w fun e w' => e = .returned (.int .i64 (sendF D S p c s).1) ∧ KAtL I W L a D (sendF D S p c s).2 w' ∧ sameL L w w' := by
  obtain ⟨o, h1, h2, h3, h4⟩ := h
  exact Calls.mono (I.send h1 hs hp hc hz) fun _ _ ⟨e1, e2⟩ => ⟨e1, KAtL.aft h2 h3 h4 e2⟩
theorem KAtL.recv {I : KerI} {W : World} {L : List Nat} {a : Addr} {D : ManD} {S : KS} {w : World} (h : KAtL I W L a D S w) (hs : SmallK bigK S) {p c : Int} (hp : inR p) (hc : inR c) :
    Calls Tryz.prog 24 #[.pointer (some a), .int .i64 p, .int .i64 c] w fun e w' => e = .returned (.tuple #[.string (recvF D S p c).1.1, .bool (recvF D S p c).1.2.1, .int .i64 (recvF D S p c).1.2.2]) ∧ KAtL I W L a D (recvF D S p c).2 w' ∧ sameL L w w' := by
  obtain ⟨o, h1, h2, h3, h4⟩ := h
  exact Calls.mono (I.recv h1 hs hp hc) fun _ _ ⟨e1, e2⟩ => ⟨e1, KAtL.aft h2 h3 h4 e2⟩
theorem KAtL.raise {I : KerI} {W : World} {L : List Nat} {a : Addr} {D : ManD} {S : KS} {w : World} (h : KAtL I W L a D S w) (hs : SmallK bigK S) {p : Int} (hp : inR p) :
    Calls Tryz.prog 25 #[.pointer (some a), .int .i64 p] w fun e w' => e = .returned (.int .i64 (raiseF D S p).1) ∧ KAtL I W L a D (raiseF D S p).2 w' ∧ sameL L w w' := by
  obtain ⟨o, h1, h2, h3, h4⟩ := h
  exact Calls.mono (I.raise h1 hs hp) fun _ _ ⟨e1, e2⟩ => ⟨e1, KAtL.aft h2 h3 h4 e2⟩
theorem KAtL.state {I : KerI} {W : World} {L : List Nat} {a : Addr} {D : ManD} {S : KS} {w : World} (h : KAtL I W L a D S w) (hs : SmallK bigK S) {p : Int} (hp : inR p) :
    Calls Tryz.prog 11 #[.pointer (some a), .int .i64 p] w fun e w' => e = .returned (.tuple #[stV (stateF D S p).1, .int .i64 (stateF D S p).2]) ∧ KAtL I W L a D S w' ∧ sameL L w w' := by
  obtain ⟨o, h1, h2, h3, h4⟩ := h
  exact Calls.mono (I.state h1 hs hp) fun _ _ ⟨e1, e2⟩ => ⟨e1, KAtL.aft h2 h3 h4 e2⟩
end Go.Proofs.YteioennfpkoagabGreatDoor.C
namespace Go.Proofs.YteioennfpkoagabGreatDoor.C
open Go.RowKit K
attribute [local go_sem ↓] Go.wp_at_zero Go.wp_at_succ

section
variable {w : World} {L : Lay} {pl : List Int} {ps : List PartD} {cs : List ChanD} {S : KS} {tm : Nat}
theorem KVs.cPlan (h : KVs w L pl ps cs S tm) : ∃ va cap, L.pv = .slice va pl.length cap ∧ w.cell? ⟨L.kb, 0, none⟩ = some (.slice va pl.length cap) ∧ ∀ t, t < pl.length → ∃ g, va = some ⟨g, 0, none⟩ ∧ w.cell? ⟨g, t, none⟩ = some (.int .i64 (pl.getD t 0)) := by
  obtain ⟨va, cap, e, hr⟩ := h.plan
  refine ⟨va, cap, e, by rw [cell_of_blk h.kerB, ← e]; rfl, fun t ht => ?_⟩
  obtain ⟨g, h1, _, h3⟩ := hr t ht
  exact ⟨g, h1, h3⟩
theorem KVs.cTick (h : KVs w L pl ps cs S tm) : w.cell? ⟨L.kb, 1, none⟩ = some (.int .i64 ((tm % pl.length : Nat) : Int)) := by rw [cell_of_blk h.kerB]; rfl
theorem KVs.cParts (h : KVs w L pl ps cs S tm) : ∃ va cap, w.cell? ⟨L.kb, 2, none⟩ = some (.slice va ps.length cap) ∧ ∀ i, i < ps.length → ∃ g, va = some ⟨g, 0, none⟩ ∧ w.cell? ⟨g, i, none⟩ = some (ptrV (L.pb i)) := by
  obtain ⟨va, cap, e, hr⟩ := h.parts
  refine ⟨va, cap, by rw [cell_of_blk h.kerB, ← e]; rfl, fun t ht => ?_⟩
  obtain ⟨g, h1, _, h3⟩ := hr t ht
  exact ⟨g, h1, h3⟩
theorem KVs.cChans (h : KVs w L pl ps cs S tm) : ∃ va cap, w.cell? ⟨L.kb, 3, none⟩ = some (.slice va cs.length cap) ∧ ∀ i, i < cs.length → ∃ g, va = some ⟨g, 0, none⟩ ∧ w.cell? ⟨g, i, none⟩ = some (ptrV (L.cb i)) := by
  obtain ⟨va, cap, e, hr⟩ := h.chans
  refine ⟨va, cap, by rw [cell_of_blk h.kerB, ← e]; rfl, fun t ht => ?_⟩
  obtain ⟨g, h1, _, h3⟩ := hr t ht
  exact ⟨g, h1, h3⟩
end
section
variable {w : World} {L : Lay} {D : ManD} {S : KS} {pl : List Int} {ps : List PartD} {cs : List ChanD} {tm : Nat}
set_option maxRecDepth 100000 in
set_option maxHeartbeats 1000000 in
theorem has_any (h : KVs w L pl ps cs S tm) (p : Int) (hp : inR p) (_hn : ps.length ≤ 255) :
    Calls Tryz.prog 27 #[ptrV L.kb, .int .i64 p] w fun e w' => e = .returned (.bool (decide (0 ≤ p ∧ p < (ps.length : Int)))) ∧ w' = w := by
  obtain ⟨va, cap, c2, _⟩ := h.cParts
  clear h
  unfold ptrV
  obtain ⟨hp1, hp2⟩ := hp
  generalize L.kb = kb at *
  rcases (show p < 0 ∨ (0 ≤ p ∧ (ps.length : Int) ≤ p) ∨ (0 ≤ p ∧ p < (ps.length : Int)) by omega) with h1 | h1 | h1
  · have e1 : ¬ (0 : Int) ≤ p := by omega
    go_enter Tryz.func27, Tryz.ntmps27
    go_wp2_with fail
    go_ret
    exact ⟨by simp; omega, rfl⟩
  · obtain ⟨e0, e1⟩ := h1
    have e2 : ¬ p < (ps.length : Int) := by omega
    go_enter Tryz.func27, Tryz.ntmps27
    go_wp2_with fail
    go_ret
    exact ⟨by simp [e2], rfl⟩
  · obtain ⟨e0, e1⟩ := h1
    go_enter Tryz.func27, Tryz.ntmps27
    go_wp2_with fail
    go_ret
    exact ⟨by simp [e0, e1], rfl⟩
theorem who_plan (hz : checkF D = 0) : (planF D).length = D.frame.toNat ∧ 1 ≤ (planF D).length ∧ (planF D).length ≤ 240 ∧ (planF D).getD (S.time % (planF D).length) 0 = whoF D S ∧ S.time % (planF D).length < (planF D).length := by
  obtain ⟨h1, h2, h3, h4, _⟩ := check_ok hz
  have e : (planF D).length = D.frame.toNat := (planN_len D.parts D.frame.toNat).1
  have hlt : S.time % D.frame.toNat < D.frame.toNat := Nat.mod_lt _ (by omega)
  refine ⟨e, by omega, by omega, ?_, by rw [e]; exact hlt⟩
  rw [e]
  exact plan_at D.parts D.frame.toNat _ hlt
def ActA (D : ManD) (S : KS) (L : Lay) (p : Int) (e : Ending) : Prop :=
  (turnF D S p ≠ 0 ∧ e = .returned (.tuple #[.pointer none, .int .i64 (turnF D S p)])) ∨ (turnF D S p = 0 ∧ ∃ i : Nat, p = i ∧ i < D.parts.length ∧ e = .returned (.tuple #[ptrV (L.pb i), .int .i64 0]))
set_option maxRecDepth 100000 in
set_option maxHeartbeats 2000000 in
theorem acting_any (hz : checkF D = 0) (h : KVi w L (planF D) D.parts D.chans S) (p : Int) (hp : inR p) :
    Calls Tryz.prog 44 #[ptrV L.kb, .int .i64 p] w fun e w' => ActA D S L p e ∧ Below w.heap.size w w' := by
  have hco := check_ok hz
  have hn : D.parts.length ≤ 8 := hco.2.2.1
  have HHAS : Hid _ := has_any h.s p hp (by omega)
  obtain ⟨hl, hl1, hl2, hwho, hlt⟩ := who_plan (S := S) hz
  obtain ⟨va, cap, _, c0, cp⟩ := h.s.cPlan
  obtain ⟨g, rfl, ct⟩ := cp _ hlt
  rw [hwho] at ct
  have c1 := h.s.cTick
  obtain ⟨vb, capb, c2, cq⟩ := h.s.cParts
  have HPT : Hid (∀ i, i < D.parts.length → w.cell? ⟨L.pb i, 0, none⟩ = some (.bool (S.sts i).stopped)) := fun i hi => by
    have h1 := (h.s.part i _ (List.getElem?_eq_getElem hi)).2
    rw [cell_of_blk h1]; rfl
  have HCQ : Hid _ := cq
  clear cp cq h hco hz hwho
  obtain ⟨n, hnn⟩ : ∃ n, D.parts.length = n := ⟨_, rfl⟩
  generalize hwv : whoF D S = wv at *
  have HWV : Hid (whoF D S = wv) := hwv
  clear hwv
  generalize hk : S.time % (planF D).length = k at *
  clear hk
  generalize (planF D).length = plen at *
  rcases (show (p < 0 ∨ (D.parts.length : Int) ≤ p) ∨ (0 ≤ p ∧ p < (D.parts.length : Int)) by omega) with h1 | ⟨h1, h2⟩
  · have ht : turnF D S p = 19 := by unfold turnF; rw [if_pos h1]
    have hb : decide (0 ≤ p ∧ p < (D.parts.length : Int)) = false := by simp; omega
    have HT : Hid _ := ht
    clear ht hnn
    rw [hb] at HHAS
    go_enter Tryz.func44, Tryz.ntmps44
    unfold ptrV at *
    go_wp2_with fail
    refine Calls.mono HHAS.out ?_
    rintro e w' ⟨rfl, rfl⟩
    go_wp2_with fail
    go_ret2
    exact ⟨.inl ⟨by rw [HT.out]; decide, by rw [HT.out]; rfl⟩, Below.refl _ _⟩
  · obtain ⟨i, rfl⟩ : ∃ i : Nat, p = i := ⟨p.toNat, by omega⟩
    have hi : i < D.parts.length := by omega
    have hb : decide (0 ≤ (i : Int) ∧ (i : Int) < (D.parts.length : Int)) = true := by simp; omega
    rw [hb] at HHAS
    have s0 := HPT.out i hi
    obtain ⟨gb, rfl, cb⟩ := HCQ.out i hi
    have HT : Hid (turnF D S i = if (S.sts i).stopped = true then 20 else if wv ≠ (i : Int) then 21 else 0) := by
      show _ = _
      unfold turnF
      rw [if_neg (by omega), HWV.out, Int.toNat_natCast]
    clear HPT HCQ hb hp hnn
    generalize (S.sts i).stopped = st at *
    have hi0 : (0 : Int) ≤ (i : Int) := by omega
    have hk0 : (0 : Int) ≤ (k : Int) := by omega
    have hk1 : (k : Int) < (plen : Int) := by omega
    unfold ptrV at *
    cases st
    · by_cases hw : wv = (i : Int)
      · subst hw
        go_enter Tryz.func44, Tryz.ntmps44
        go_wp2_with fail
        refine Calls.mono HHAS.out ?_
        rintro e w' ⟨rfl, rfl⟩
        go_wp2_with fail
        go_quiet (fail)
        go_wp2_with fail
        go_ret2
        have ht : turnF D S i = 0 := by rw [HT.out]; simp
        exact ⟨.inr ⟨ht, i, rfl, hi, rfl⟩, below_drewN (Below.refl _ _) _⟩
      · go_enter Tryz.func44, Tryz.ntmps44
        go_wp2_with fail
        refine Calls.mono HHAS.out ?_
        rintro e w' ⟨rfl, rfl⟩
        go_wp2_with fail
        go_quiet (fail)
        go_wp2_with fail
        go_ret2
        have ht : turnF D S i = 21 := by rw [HT.out]; simp [hw]
        exact ⟨.inl ⟨by rw [ht]; decide, by rw [ht]; rfl⟩, below_drewN (Below.refl _ _) _⟩
    · go_enter Tryz.func44, Tryz.ntmps44
      go_wp2_with fail
      refine Calls.mono HHAS.out ?_
      rintro e w' ⟨rfl, rfl⟩
      go_wp2_with fail
      go_ret2
      have ht : turnF D S i = 20 := by rw [HT.out]; simp
      exact ⟨.inl ⟨by rw [ht]; decide, by rw [ht]; rfl⟩, Below.refl _ _⟩
end
end Go.Proofs.YteioennfpkoagabGreatDoor.C
namespace Go.Proofs.YteioennfpkoagabGreatDoor.C
open Go.RowKit K
attribute [local go_sem ↓] Go.wp_at_zero Go.wp_at_succ

def hitA (r : RegD) (a : Int) : Prop := 64 * r.page ≤ a ∧ a < 64 * (r.page + r.pages)
instance (r : RegD) (a : Int) : Decidable (hitA r a) := by unfold hitA; exact inferInstance
theorem rights_cons (r : RegD) (rs : List RegD) (a : Int) : rightsF (r :: rs) a = if hitA r a then r.rights else rightsF rs a := rfl
structure RegG (r : RegD) : Prop where
  page : 0 ≤ r.page ∧ r.page ≤ 63
  pages : 1 ≤ r.pages ∧ r.pages ≤ 64
  top : r.page + r.pages ≤ 64
  rights : r.rights = 1 ∨ r.rights = 2
theorem regG_of {r : RegD} (h : regB r = true) : RegG r := by
  unfold regB at h
  simp only [decide_eq_true_eq] at h
  exact ⟨by omega, by omega, by omega, by omega⟩
theorem part_regs {D : ManD} (hz : checkF D = 0) {i : Nat} {x : PartD} (hx : D.parts[i]? = some x) : (1 ≤ x.action ∧ x.action ≤ 3) ∧ RegsOK x.regs ∧ x.regs.length ≤ 4 := by
  obtain ⟨hi, rfl⟩ := List.getElem?_eq_some_iff.1 hx
  obtain ⟨h1, h2⟩ := (check_ok hz).2.2.2.2.1 i hi
  unfold partErr at h2
  split at h2
  · cases h2
  split at h2
  · cases h2
  split at h2
  · cases h2
  split at h2
  · cases h2
  split at h2
  · cases h2
  rename_i a b c d e
  exact ⟨by omega, (regsF_iff _).1 (by simpa using e), h1⟩
section
variable {w : World} {L : Lay} {D : ManD} {S : KS} {pl : List Int} {ps : List PartD} {cs : List ChanD} {tm : Nat}
theorem KVs.cReg (h : KVs w L pl ps cs S tm) {i j : Nat} {x : PartD} {r : RegD} (hx : ps[i]? = some x) (hr : x.regs[j]? = some r) :
    w.cell? ⟨L.rb i j, 0, none⟩ = some (.int .i64 (64 * r.page)) ∧ w.cell? ⟨L.rb i j, 1, none⟩ = some (.slice (some ⟨L.mb i j, 0, none⟩) (64 * r.pages).toNat (L.mc i j)) ∧ w.cell? ⟨L.rb i j, 2, none⟩ = some (.bool (decide (r.rights = 2))) := by
  have h2 := (h.reg i x hx j r hr).2.1
  refine ⟨?_, ?_, ?_⟩ <;> rw [cell_of_blk h2] <;> rfl
set_option maxRecDepth 100000 in
set_option maxHeartbeats 1000000 in
theorem rhas_any (b m c : Nat) (r : RegD) (hg : RegG r) (a : Int) (ha : inR a) (c0 : w.cell? ⟨b, 0, none⟩ = some (.int .i64 (64 * r.page))) (c1 : w.cell? ⟨b, 1, none⟩ = some (.slice (some ⟨m, 0, none⟩) (64 * r.pages).toNat c)) :
    Calls Tryz.prog 75 #[ptrV b, .int .i64 a] w fun e w' => e = .returned (.bool (decide (hitA r a))) ∧ Below w.heap.size w w' := by
  obtain ⟨h1, h2, h3, _⟩ := hg
  obtain ⟨ha1, ha2⟩ := ha
  unfold ptrV
  have e0 : (((64 * r.pages).toNat : Nat) : Int) = 64 * r.pages := by omega
  generalize (64 * r.pages).toNat = ln at *
  rcases (show a < 64 * r.page ∨ (64 * r.page ≤ a ∧ 64 * (r.page + r.pages) ≤ a) ∨ hitA r a by unfold hitA; omega) with h | h | h
  · have e1 : decide (64 * r.page ≤ a) = false := decide_eq_false (by omega)
    have HF : Hid (decide (hitA r a) = false) := decide_eq_false (by unfold hitA; omega)
    go_enter Tryz.func75, Tryz.ntmps75
    go_wp2_with fail
    go_quiet (fail)
    go_wp2_with fail
    go_ret
    exact ⟨by rw [HF.out]; rfl, below_drewN (Below.refl _ _) _⟩
  · obtain ⟨e1, e3⟩ := h
    have e1 : decide (64 * r.page ≤ a) = true := decide_eq_true e1
    have e2 : decide (a < 64 * r.page + 64 * r.pages) = false := decide_eq_false (by omega)
    have HF : Hid (decide (hitA r a) = false) := decide_eq_false (by unfold hitA; omega)
    go_enter Tryz.func75, Tryz.ntmps75
    go_wp2_with fail
    go_quiet (fail)
    go_wp2_with fail
    go_ret
    exact ⟨by rw [HF.out]; rfl, below_drewN (Below.refl _ _) _⟩
  · obtain ⟨e1, e3⟩ := h
    have e2 : decide (a < 64 * r.page + 64 * r.pages) = true := decide_eq_true (by omega)
    have HF : Hid (decide (hitA r a) = true) := decide_eq_true (by unfold hitA; omega)
    have e1 : decide (64 * r.page ≤ a) = true := decide_eq_true e1
    go_enter Tryz.func75, Tryz.ntmps75
    go_wp2_with fail
    go_quiet (fail)
    go_wp2_with fail
    go_ret
    exact ⟨by rw [HF.out]; rfl, below_drewN (Below.refl _ _) _⟩
theorem rights_none {rs : List RegD} {a : Int} (h : ∀ r ∈ rs, RegG r) (h0 : rightsF rs a = 0) : ∀ r ∈ rs, ¬ hitA r a := by
  induction rs with
  | nil => intro r hr; cases hr
  | cons x rs ih =>
    intro r hr
    rw [rights_cons] at h0
    by_cases hx : hitA x a
    · rw [if_pos hx] at h0
      have := (h x (by simp)).rights
      omega
    · rw [if_neg hx] at h0
      rcases List.mem_cons.1 hr with rfl | hr
      · exact hx
      · exact ih (fun y hy => h y (by simp [hy])) h0 r hr
def RegA (L : Lay) (i : Nat) (rs : List RegD) (a : Int) (e : Ending) : Prop :=
  (rightsF rs a = 0 ∧ e = .returned (.pointer none)) ∨ ∃ j r, rs[j]? = some r ∧ hitA r a ∧ rightsF rs a = r.rights ∧ e = .returned (ptrV (L.rb i j))
set_option maxRecDepth 100000 in
set_option maxHeartbeats 2000000 in
theorem regionOf_any (h : KVs w L pl ps cs S tm) {i : Nat} {x : PartD} (hx : ps[i]? = some x) (hok : RegsOK x.regs) (hrl : x.regs.length ≤ 4) (a : Int) (ha : inR a) :
    Calls Tryz.prog 45 #[ptrV (L.pb i), .int .i64 a] w fun e w' => RegA L i x.regs a e ∧ Below w.heap.size w w' := by
  have c3 : w.cell? ⟨L.pb i, 3, none⟩ = some (L.rv i) := by rw [cell_of_blk (h.part i x hx).2]; rfl
  obtain ⟨va, cap, erv, hrow⟩ := h.regs i x hx
  rw [erv] at c3
  have HROW : Hid (∀ j, j < x.regs.length → ∃ g, va = some ⟨g, 0, none⟩ ∧ w.cell? ⟨g, j, none⟩ = some (ptrV (L.rb i j))) := fun j hj => by
    obtain ⟨g, h1, _, h3⟩ := hrow j hj
    exact ⟨g, h1, h3⟩
  have HREG : Hid (∀ j (hj : j < x.regs.length), w.cell? ⟨L.rb i j, 0, none⟩ = some (.int .i64 (64 * x.regs[j].page)) ∧ w.cell? ⟨L.rb i j, 1, none⟩ = some (.slice (some ⟨L.mb i j, 0, none⟩) (64 * x.regs[j].pages).toNat (L.mc i j))) := fun j hj => by
    have := h.cReg hx (List.getElem?_eq_getElem hj)
    exact ⟨this.1, this.2.1⟩
  have HG : Hid (∀ j (hj : j < x.regs.length), RegG x.regs[j]) := fun j hj => regG_of (hok.1 _ (List.getElem_mem hj))
  obtain ⟨rs, hrs⟩ : ∃ rs, x.regs = rs := ⟨_, rfl⟩
  rw [hrs] at hrl HROW HREG c3
  have HG2 : Hid (∀ j (hj : j < rs.length), RegG rs[j]) := fun j hj => by subst hrs; exact HG.out j hj
  rw [hrs]
  clear hrow erv h hok hx hrs HG
  unfold ptrV at *
  generalize L.pb i = pb at *
  go_enter Tryz.func45, Tryz.ntmps45
  go_wp2_with fail
  go_loopw [12] (fun v wr => ∃ (k : Nat), v = .int .i64 k ∧ k ≤ rs.length ∧ Hid (rightsF rs a = rightsF (rs.drop k) a) ∧ Below w.heap.size w wr) (fun v _ => rs.length - (intOf v).toNat)
  case atStart => exact ⟨0, rfl, by omega, rfl, Below.refl _ _⟩
  case round =>
    obtain ⟨k, rfl, hk, HK, hbel⟩ := hrel
    by_cases hlt : k < rs.length
    · have hlt' : (k : Int) < (rs.length : Int) := by omega
      have hk0 : (0 : Int) ≤ (k : Int) := by omega
      obtain ⟨g, rfl, hcell⟩ := HROW.out k hlt
      obtain ⟨r0, r1⟩ := HREG.out k hlt
      have d0 := (hbel.cell (by exact World.block_lt_of_cell? w _ hcell)).trans hcell
      have d1 := (hbel.cell (by exact World.block_lt_of_cell? w _ r0)).trans r0
      have d2 := (hbel.cell (by exact World.block_lt_of_cell? w _ r1)).trans r1
      have HHAS : Hid _ := rhas_any (w := wr) (L.rb i k) (L.mb i k) (L.mc i k) rs[k] (HG2.out k hlt) a ha d1 d2
      have HD : Hid (rightsF (rs.drop k) a = if hitA rs[k] a then rs[k].rights else rightsF (rs.drop (k + 1)) a) := by
        show _ = _
        rw [List.drop_eq_getElem_cons hlt, rights_cons]
      have HAT : Hid (rs[k]? = some rs[k]) := List.getElem?_eq_getElem hlt
      have HBE : Hid (Below w.heap.size w wr) := hbel
      clear hcell r0 r1 d1 d2 hbel
      generalize rs[k] = r at *
      unfold ptrV at HHAS
      go_wp2_with fail
      refine Calls.mono HHAS.out ?_
      rintro e w2 ⟨rfl, hb2⟩
      by_cases hh : hitA r a
      · have HX : Hid (rightsF rs a = r.rights) := by show _ = _; rw [HK.out, HD.out, if_pos hh]
        have e1 : decide (hitA r a) = true := decide_eq_true hh
        rw [e1]
        go_wp2_with fail
        go_ret
        exact ⟨.inr ⟨k, r, HAT.out, hh, HX.out, rfl⟩, HBE.out.trans (hb2.mono HBE.out.size)⟩
      · have HX : Hid (rightsF rs a = rightsF (rs.drop (k + 1)) a) := by show _ = _; rw [HK.out, HD.out, if_neg hh]
        have e1 : decide (hitA r a) = false := decide_eq_false hh
        rw [e1]
        go_wp2_with fail
        exact ⟨⟨k + 1, by go_num, by omega, HX, HBE.out.trans (hb2.mono HBE.out.size)⟩, by simp [intOf]; omega⟩
    · have hlt' : ¬ (k : Int) < (rs.length : Int) := by omega
      go_wp2_with fail
      go_ret
      refine ⟨.inl ⟨?_, rfl⟩, hbel⟩
      rw [HK.out, List.drop_of_length_le (by omega)]
      rfl
end
end Go.Proofs.YteioennfpkoagabGreatDoor.C
namespace Go.Proofs.YteioennfpkoagabGreatDoor.C
open Go.RowKit K
attribute [local go_sem ↓] Go.wp_at_zero Go.wp_at_succ

/- a new block -/
structure NewB (w w' : World) (b : Nat) (o : Obj) : Prop where
  bel : Below w.heap.size w w'
  at' : w'.heap[b]? = some o
  lo : w.heap.size ≤ b
theorem NewB.lt {w w' : World} {b : Nat} {o : Obj} (h : NewB w w' b o) : b < w'.heap.size := lt_of_blk h.at'
theorem NewB.two (w : World) (o1 o2 : Obj) : NewB w ((w.alloc o1).alloc o2) (w.heap.size + 1) o2 := by
  have h := heap_new (w.alloc o1) o2
  have e : (w.alloc o1).heap.size = w.heap.size + 1 := by simp
  rw [e] at h
  exact ⟨(newB w o1).trans ((newB (w.alloc o1) o2).mono (newB w o1).size), h, by omega⟩
theorem made_bytes (n : Nat) : madeCells #[Value.int .u8 0] n = (byC (List.replicate n 0)).toArray := by
  apply Array.ext_getElem?
  intro i
  simp only [madeCells, byC, List.getElem?_toArray, List.getElem?_map, List.getElem?_replicate, Array.getElem?_map, Array.getElem?_range]
  by_cases h : i < n
  · have e : i % 1 = 0 := Nat.mod_one i
    simp [h, e]
  · simp [h]

theorem make_bytes (w : World) (c : Nat) (hc : c ≤ 2000000) :
    (Instr.makeSlice 87 (.int .i64 (c : Int)) (.int .i64 (c : Int))).run Tryz.prog w = .ok (.slice (some ⟨w.heap.size, 0, none⟩) c c) (w.alloc (.cells (byC (List.replicate c 0)).toArray 5)) := by
  obtain ⟨i, hi, hz, hs, hby⟩ := parts_of infoByte
  have hbi : (i.bytes : Int) * (c : Int) ≤ 281474976710656 := by rw [hby]; omega
  have hr := run_make (P := Tryz.prog) w 87 5 i (.int .u8 0) Tryz.underlying87 hi hz .i64 .i64 c c (by omega) (by omega) hbi (by omega)
  simp only [Int.toNat_natCast, hs, Nat.mul_one] at hr
  rw [show (Value.int IntKind.u8 0).cells = #[Value.int .u8 0] from rfl, made_bytes] at hr
  exact hr
set_option maxRecDepth 100000 in
set_option maxHeartbeats 1000000 in
theorem newChannel_any (w : World) (y : ChanD) :
    Calls Tryz.prog 29 #[.agg #[.string y.name, .int .i64 y.source, .int .i64 y.target, .int .i64 y.kind, .int .i64 y.size, .int .i64 y.depth]] w fun e w' => ∃ b, e = .returned (ptrV b) ∧ NewB w w' b (.cells (chanB y (.slice none 0 0) 0) 109) := by
  unfold ptrV chanB
  by_cases h : y.kind = 1
  · have e1 : decide (y.kind = 1) = true := decide_eq_true h
    rw [e1]
    go_enter Tryz.func29, Tryz.ntmps29
    go_wp2_with fail
    go_ret
    exact ⟨_, rfl, NewB.two w _ _⟩
  · have e1 : decide (y.kind = 1) = false := decide_eq_false h
    have e2 : (y.kind == 1) = false := by simpa using h
    rw [e1]
    go_enter Tryz.func29, Tryz.ntmps29
    go_wp2_with fail
    go_ret
    exact ⟨_, rfl, NewB.two w _ _⟩
set_option maxRecDepth 100000 in
set_option maxHeartbeats 1000000 in
theorem newRegion_any (w : World) (r : RegD) (hg : RegG r) :
    Calls Tryz.prog 60 #[.agg #[.int .i64 r.page, .int .i64 r.pages, .int .i64 r.rights]] w fun e w' => ∃ b m, e = .returned (ptrV b) ∧ NewB w w' b (.cells #[.int .i64 (64 * r.page), .slice (some ⟨m, 0, none⟩) (64 * r.pages).toNat (64 * r.pages).toNat, .bool (decide (r.rights = 2))] 103) ∧ NewB w w' m (.cells (byC (List.replicate (64 * r.pages).toNat 0)).toArray 5) ∧ b ≠ m := by
  obtain ⟨h1, h2, h3, h4⟩ := hg
  have e0 : (((64 * r.pages).toNat : Nat) : Int) = r.pages * 64 := by omega
  have e1 : r.page * 64 = 64 * r.page := by omega
  obtain ⟨ln, hln⟩ : ∃ ln, (64 * r.pages).toNat = ln := ⟨_, rfl⟩
  rw [hln] at e0 ⊢
  have hw1 : IntKind.i64.wrap (r.page * 64) = 64 * r.page := by rw [e1]; exact wrap_small _ (by omega) (by omega)
  have hw2 : IntKind.i64.wrap (r.pages * 64) = (ln : Int) := by rw [← e0]; exact wrap_small _ (by omega) (by omega)
  have hmk := make_bytes (w.alloc (.cells #[.int .i64 r.page, .int .i64 r.pages, .int .i64 r.rights] 56)).drew ln (by omega)
  have hsz : (w.alloc (.cells #[.int .i64 r.page, .int .i64 r.pages, .int .i64 r.rights] 56)).drew.heap.size = w.heap.size + 1 := by simp
  rw [hsz] at hmk
  have y0 : (w.alloc (.cells #[.int .i64 r.page, .int .i64 r.pages, .int .i64 r.rights] 56)).cell? ⟨w.heap.size, 0, none⟩ = some (.int .i64 r.page) := by rw [cell_of_blk (heap_new w _)]; rfl
  have y1 : (w.alloc (.cells #[.int .i64 r.page, .int .i64 r.pages, .int .i64 r.rights] 56)).cell? ⟨w.heap.size, 1, none⟩ = some (.int .i64 r.pages) := by rw [cell_of_blk (heap_new w _)]; rfl
  have y2 : (w.alloc (.cells #[.int .i64 r.page, .int .i64 r.pages, .int .i64 r.rights] 56)).cell? ⟨w.heap.size, 2, none⟩ = some (.int .i64 r.rights) := by rw [cell_of_blk (heap_new w _)]; rfl
  have z0 : ∀ o, ((w.alloc (.cells #[.int .i64 r.page, .int .i64 r.pages, .int .i64 r.rights] 56)).alloc o).cell? ⟨w.heap.size, 0, none⟩ = some (.int .i64 r.page) := fun o => by rw [cell_of_blk (heap_old _ o (heap_new w _))]; rfl
  have z2 : ∀ o, ((w.alloc (.cells #[.int .i64 r.page, .int .i64 r.pages, .int .i64 r.rights] 56)).alloc o).cell? ⟨w.heap.size, 2, none⟩ = some (.int .i64 r.rights) := fun o => by rw [cell_of_blk (heap_old _ o (heap_new w _))]; rfl
  have HFB : Hid (NewB w (((w.alloc (.cells #[.int .i64 r.page, .int .i64 r.pages, .int .i64 r.rights] 56)).alloc (.cells (byC (List.replicate ln 0)).toArray 5)).alloc (.cells #[.int .i64 (64 * r.page), .slice (some ⟨w.heap.size + 1, 0, none⟩) ln ln, .bool (decide (r.rights = 2))] 103)).drew (w.heap.size + 2) (.cells #[.int .i64 (64 * r.page), .slice (some ⟨w.heap.size + 1, 0, none⟩) ln ln, .bool (decide (r.rights = 2))] 103)) := by
    have h := heap_new ((w.alloc (.cells #[.int .i64 r.page, .int .i64 r.pages, .int .i64 r.rights] 56)).alloc (.cells (byC (List.replicate ln 0)).toArray 5)) (.cells #[.int .i64 (64 * r.page), .slice (some ⟨w.heap.size + 1, 0, none⟩) ln ln, .bool (decide (r.rights = 2))] 103)
    have e : ((w.alloc (.cells #[.int .i64 r.page, .int .i64 r.pages, .int .i64 r.rights] 56)).alloc (.cells (byC (List.replicate ln 0)).toArray 5)).heap.size = w.heap.size + 2 := by simp
    rw [e] at h
    exact ⟨below_drewN ((NewB.two w _ _).bel.trans ((newB _ _).mono (NewB.two w _ _).bel.size)) 1, h, by omega⟩
  have HFM : Hid (NewB w (((w.alloc (.cells #[.int .i64 r.page, .int .i64 r.pages, .int .i64 r.rights] 56)).alloc (.cells (byC (List.replicate ln 0)).toArray 5)).alloc (.cells #[.int .i64 (64 * r.page), .slice (some ⟨w.heap.size + 1, 0, none⟩) ln ln, .bool (decide (r.rights = 2))] 103)).drew (w.heap.size + 1) (.cells (byC (List.replicate ln 0)).toArray 5)) := ⟨HFB.out.bel, heap_old _ _ (NewB.two w _ _).at', by omega⟩
  unfold ptrV
  rcases h4 with h4 | h4
  · have e2 : (r.rights == 2) = false := by simp [h4]
    have e3 : decide (r.rights = 2) = false := decide_eq_false (by omega)
    rw [e3] at HFB HFM ⊢
    clear e0 e1 hsz h4
    go_enter Tryz.func60, Tryz.ntmps60
    go_upto_region 1 with fail
    go_region_law (fail)
    all_goals go_wp2_with fail
    all_goals go_ret
    all_goals exact ⟨_, _, rfl, HFB.out, HFM.out, by omega⟩
  · have e2 : (r.rights == 2) = true := by simp [h4]
    have e3 : decide (r.rights = 2) = true := decide_eq_true h4
    rw [e3] at HFB HFM ⊢
    clear e0 e1 hsz h4
    go_enter Tryz.func60, Tryz.ntmps60
    go_upto_region 1 with fail
    go_region_law (fail)
    all_goals go_wp2_with fail
    all_goals go_ret
    all_goals exact ⟨_, _, rfl, HFB.out, HFM.out, by omega⟩
set_option maxRecDepth 100000 in
set_option maxHeartbeats 1000000 in
theorem reactionOf_any (w : World) (pb : Nat) (a : Int) (iv : Value) (ha : 1 ≤ a ∧ a ≤ 3) (hiv : ∃ va n c, iv = .slice va n c) :
    Calls Tryz.prog 61 #[ptrV pb, .int .i64 a, iv] w fun e w' => e = .returned (if a = 2 then .func (Fn.func 83) #[] #[ptrV w.heap.size] else if a = 3 then .func (Fn.func 84) #[] #[ptrV w.heap.size, ptrV (w.heap.size + 1)] else .func (Fn.func 86) #[] #[]) ∧ w' = (w.alloc (.cells #[ptrV pb] 79)).alloc (.cells #[iv] 73) := by
  obtain ⟨va, n, c, rfl⟩ := hiv
  unfold ptrV
  rcases (show a = 1 ∨ a = 2 ∨ a = 3 by omega) with rfl | rfl | rfl
  · go_enter Tryz.func61, Tryz.ntmps61
    go_wp2_with fail
    go_ret
    exact ⟨rfl, rfl⟩
  · go_enter Tryz.func61, Tryz.ntmps61
    go_wp2_with fail
    go_ret
    exact ⟨rfl, rfl⟩
  · go_enter Tryz.func61, Tryz.ntmps61
    go_wp2_with fail
    go_ret
    exact ⟨rfl, rfl⟩
end Go.Proofs.YteioennfpkoagabGreatDoor.C
