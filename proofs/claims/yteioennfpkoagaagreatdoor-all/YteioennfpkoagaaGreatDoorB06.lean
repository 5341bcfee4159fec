import Derived.Test.YteioennfpkoagaaGreatDoorB04
import Derived.Test.YteioennfpkoagaaGreatDoorB05
import Derived.Test.YteioennfpkoagaaGreatDoorB03
import Derived.Test.YteioennfpkoagaaGreatDoorB02
import Derived.Test.YteioennfpkoagaaGreatDoorRows
import Derived.Test.YteioennfpkoagaaGreatDoorB01
import Derived.WalkKit
import Derived.WalkSpells
import Derived.WalkLawsBesides
import Derived.Deep.RegionHeld3
import Derived.Deep.AppendLies
import Derived.Deep.DrawnRows
import Derived.Deep.QuietTactic
import Derived.BigQuiet
namespace Go.Proofs.YteioennfpkoagaaGreatDoor.C

structure StD where
  stopped : Bool
  faults : Int
  restarts : Int
structure MsgD where
  text : ByteArray
  time : Nat
structure KS where
  time : Nat
  sts : Nat → StD
  mem : Nat → Int → Int
  chs : Nat → List MsgD

/- what a manifest says of a partition, of a channel -/
def actF (D : ManD) (p : Nat) : Int := (D.parts[p]?.map PartD.action).getD 0
def regsAt (D : ManD) (p : Nat) : List RegD := (D.parts[p]?.map PartD.regs).getD []
def rightsF : List RegD → Int → Int
  | [], _ => 0
  | r :: rs, a => if 64 * r.page ≤ a ∧ a < 64 * (r.page + r.pages) then r.rights else rightsF rs a
def whoF (D : ManD) (k : KS) : Int := tickF D.parts (k.time % D.frame.toNat)
def turnF (D : ManD) (k : KS) (p : Int) : Int :=
  if p < 0 ∨ (D.parts.length : Int) ≤ p then 19 else if (k.sts p.toNat).stopped = true then 20 else if whoF D k ≠ p then 21 else 0
def failSt (a : Int) (s : StD) : StD := ⟨s.stopped || decide (a = 2), s.faults + 1, s.restarts + if a = 3 then 1 else 0⟩
def failF (D : ManD) (k : KS) (p : Nat) : KS where
  time := k.time
  sts q := if q = p then failSt (actF D p) (k.sts q) else k.sts q
  mem q a := if q = p ∧ actF D p = 3 then 0 else k.mem q a
  chs c := if actF D p = 3 ∧ (D.chans[c]?.map ChanD.target) = some (p : Int) then [] else k.chs c
def tickK (k : KS) : KS := { k with time := k.time + 1 }
def bootK : KS := ⟨0, fun _ => ⟨false, 0, 0⟩, fun _ _ => 0, fun _ => []⟩
def runF (D : ManD) (k : KS) : Int := if 0 ≤ whoF D k ∧ (k.sts (whoF D k).toNat).stopped = true then -1 else whoF D k
def readF (D : ManD) (k : KS) (p a : Int) : Int × Int × KS :=
  if turnF D k p ≠ 0 then (0, turnF D k p, k)
  else if rightsF (regsAt D p.toNat) a = 0 then (0, 22, failF D k p.toNat)
  else (k.mem p.toNat a, 0, k)
def setMem (k : KS) (p : Nat) (a b : Int) : KS := { k with mem := fun q x => if q = p ∧ x = a then b else k.mem q x }
def setCh (k : KS) (c : Nat) (l : List MsgD) : KS := { k with chs := fun d => if d = c then l else k.chs d }
def writeF (D : ManD) (k : KS) (p a b : Int) : Int × KS :=
  if turnF D k p ≠ 0 then (turnF D k p, k)
  else if rightsF (regsAt D p.toNat) a ≠ 2 then (22, failF D k p.toNat)
  else (0, setMem k p.toNat a (b % 256))
def portF (D : ManD) (c : Int) : Option ChanD := if c < 0 then none else D.chans[c.toNat]?
def sendF (D : ManD) (k : KS) (p c : Int) (s : ByteArray) : Int × KS :=
  if turnF D k p ≠ 0 then (turnF D k p, k)
  else match portF D c with
    | none => (23, k)
    | some x =>
      if x.source ≠ p then (23, k)
      else if x.size < (s.size : Int) then (24, k)
      else if x.kind = 1 then (if x.depth ≤ ((k.chs c.toNat).length : Int) then (25, k) else (0, setCh k c.toNat (k.chs c.toNat ++ [⟨s, k.time⟩])))
      else (0, setCh k c.toNat [⟨s, k.time⟩])
def recvF (D : ManD) (k : KS) (p c : Int) : (ByteArray × Bool × Int) × KS :=
  if turnF D k p ≠ 0 then ((ByteArray.empty, false, turnF D k p), k)
  else match portF D c with
    | none => ((ByteArray.empty, false, 23), k)
    | some x =>
      if x.target ≠ p then ((ByteArray.empty, false, 23), k)
      else match k.chs c.toNat with
        | [] => ((ByteArray.empty, false, 26), k)
        | m :: l => if x.kind = 1 then ((m.text, true, 0), setCh k c.toNat l) else ((m.text, decide ((k.time : Int) - m.time ≤ x.depth), 0), k)
def raiseF (D : ManD) (k : KS) (p : Int) : Int × KS :=
  if turnF D k p ≠ 0 then (turnF D k p, k) else (0, failF D k p.toNat)
def stateF (D : ManD) (k : KS) (p : Int) : StD × Int :=
  if p < 0 ∨ (D.parts.length : Int) ≤ p then (⟨false, 0, 0⟩, 19) else (k.sts p.toNat, 0)

/- a step of a script on one kernel -/
structure StepD where
  kind : Int
  p : Int
  n : Int
  b : Int
  text : ByteArray
structure AnsD where
  n : Int
  text : ByteArray
  yes : Bool
  e : Int
def ans0 : AnsD := ⟨0, ByteArray.empty, false, 0⟩
def cutF (s : ByteArray) : ByteArray := if 8 < s.size then s.extract 0 8 else s
def whoP (D : ManD) (o : StepD) : Int := pickF o.p D.parts.length
def chanP (D : ManD) (o : StepD) : Int := if 0 < D.chans.length then pickF o.n D.chans.length else 0
def addrP (D : ManD) (o : StepD) : Int :=
  let l := regsAt D (whoP D o).toNat
  if 0 < l.length ∧ o.b % 4 ≠ 0 then
    match l[(pickF o.b l.length).toNat]? with
    | none => 0
    | some r => 64 * r.page + pickF o.n (64 * r.pages)
  else pickF o.n 4096
def doF (D : ManD) (k : KS) (o : StepD) : AnsD × KS :=
  if o.kind = 1 then (ans0, tickK k)
  else if o.kind = 2 then (⟨(readF D k (whoP D o) (addrP D o)).1, ByteArray.empty, false, (readF D k (whoP D o) (addrP D o)).2.1⟩, (readF D k (whoP D o) (addrP D o)).2.2)
  else if o.kind = 3 then (⟨0, ByteArray.empty, false, (writeF D k (whoP D o) (addrP D o) o.b).1⟩, (writeF D k (whoP D o) (addrP D o) o.b).2)
  else if o.kind = 4 then (⟨0, ByteArray.empty, false, (sendF D k (whoP D o) (chanP D o) (cutF o.text)).1⟩, (sendF D k (whoP D o) (chanP D o) (cutF o.text)).2)
  else if o.kind = 5 then (⟨0, (recvF D k (whoP D o) (chanP D o)).1.1, (recvF D k (whoP D o) (chanP D o)).1.2.1, (recvF D k (whoP D o) (chanP D o)).1.2.2⟩, (recvF D k (whoP D o) (chanP D o)).2)
  else if o.kind = 6 then (⟨0, ByteArray.empty, false, (raiseF D k (whoP D o)).1⟩, (raiseF D k (whoP D o)).2)
  else (ans0, k)

/- nothing leaks but along the channels -/
structure Shut (D : ManD) (S : Nat → Prop) : Prop where
  back : ∀ (c : Nat) (x : ChanD), D.chans[c]? = some x → S x.target.toNat → S x.source.toNat
  forth : ∀ (c : Nat) (x : ChanD), D.chans[c]? = some x → x.kind = 1 → S x.source.toNat → S x.target.toNat
structure EqvK (D : ManD) (S : Nat → Prop) (k l : KS) : Prop where
  time : k.time = l.time
  sts : ∀ q, S q → k.sts q = l.sts q
  mem : ∀ q a, S q → k.mem q a = l.mem q a
  chs : ∀ (c : Nat) (x : ChanD), D.chans[c]? = some x → S x.target.toNat → k.chs c = l.chs c
theorem EqvK.refl (D : ManD) (S : Nat → Prop) (k : KS) : EqvK D S k k := ⟨rfl, fun _ _ => rfl, fun _ _ _ => rfl, fun _ _ _ _ => rfl⟩
theorem EqvK.who {D : ManD} {S : Nat → Prop} {k l : KS} (h : EqvK D S k l) : whoF D k = whoF D l := by
  unfold whoF; rw [h.time]
theorem EqvK.turn {D : ManD} {S : Nat → Prop} {k l : KS} (h : EqvK D S k l) {p : Int} (hp : S p.toNat) : turnF D k p = turnF D l p := by
  unfold turnF; rw [h.who, h.sts _ hp]
theorem EqvK.fail {D : ManD} {S : Nat → Prop} {k l : KS} (h : EqvK D S k l) (p : Nat) : EqvK D S (failF D k p) (failF D l p) := by
  refine ⟨h.time, fun q hq => ?_, fun q a hq => ?_, fun c x hx hs => ?_⟩
  · show (if q = p then failSt (actF D p) (k.sts q) else k.sts q) = if q = p then failSt (actF D p) (l.sts q) else l.sts q
    rw [h.sts q hq]
  · show (if q = p ∧ actF D p = 3 then 0 else k.mem q a) = if q = p ∧ actF D p = 3 then 0 else l.mem q a
    rw [h.mem q a hq]
  · show (if _ then [] else k.chs c) = if _ then [] else l.chs c
    rw [h.chs c x hx hs]
theorem EqvK.failOne {D : ManD} {S : Nat → Prop} {k l : KS} (h : EqvK D S k l) {p : Nat} (hp : ¬ S p) : EqvK D S (failF D k p) l := by
  refine ⟨h.time, fun q hq => ?_, fun q a hq => ?_, fun c x hx hs => ?_⟩
  · show (if q = p then _ else k.sts q) = _
    rw [if_neg (fun e : q = p => hp (e ▸ hq)), h.sts q hq]
  · show (if q = p ∧ _ then 0 else k.mem q a) = _
    rw [if_neg (fun e => by obtain ⟨e, _⟩ := e; exact hp (e ▸ hq)), h.mem q a hq]
  · show (if _ ∧ _ then [] else k.chs c) = _
    rw [if_neg, h.chs c x hx hs]
    rintro ⟨_, e⟩
    rw [hx] at e
    have e1 : x.target = p := by simpa using e
    rw [e1, Int.toNat_natCast] at hs
    exact hp hs
theorem EqvK.setMem {D : ManD} {S : Nat → Prop} {k l : KS} (h : EqvK D S k l) (p : Nat) (a b : Int) : EqvK D S (setMem k p a b) (setMem l p a b) := by
  refine ⟨h.time, h.sts, fun q x hq => ?_, h.chs⟩
  show (if _ then b else k.mem q x) = if _ then b else l.mem q x
  rw [h.mem q x hq]
theorem EqvK.setMemOne {D : ManD} {S : Nat → Prop} {k l : KS} (h : EqvK D S k l) {p : Nat} (hp : ¬ S p) (a b : Int) : EqvK D S (C.setMem k p a b) l := by
  refine ⟨h.time, h.sts, fun q x hq => ?_, h.chs⟩
  show (if q = p ∧ x = a then b else k.mem q x) = _
  rw [if_neg (fun e => by obtain ⟨e, _⟩ := e; exact hp (e ▸ hq)), h.mem q x hq]
theorem EqvK.setCh {D : ManD} {S : Nat → Prop} {k l : KS} (h : EqvK D S k l) (c : Nat) (m : List MsgD) : EqvK D S (setCh k c m) (setCh l c m) := by
  refine ⟨h.time, h.sts, h.mem, fun d x hd hs => ?_⟩
  show (if _ then m else k.chs d) = if _ then m else l.chs d
  rw [h.chs d x hd hs]
theorem EqvK.setChOne {D : ManD} {S : Nat → Prop} {k l : KS} (h : EqvK D S k l) {c : Nat} {y : ChanD} (hy : D.chans[c]? = some y) (hp : ¬ S y.target.toNat) (m : List MsgD) : EqvK D S (C.setCh k c m) l := by
  refine ⟨h.time, h.sts, h.mem, fun d x hd hs => ?_⟩
  show (if d = c then m else k.chs d) = _
  rw [if_neg, h.chs d x hd hs]
  intro e
  subst e
  rw [hy] at hd
  cases hd
  exact hp hs
theorem EqvK.setCh2 {D : ManD} {S : Nat → Prop} {k l : KS} (h : EqvK D S k l) {c : Nat} {y : ChanD} (hy : D.chans[c]? = some y) (hp : ¬ S y.target.toNat) (m n : List MsgD) : EqvK D S (C.setCh k c m) (C.setCh l c n) := by
  refine ⟨h.time, h.sts, h.mem, fun d x hd hs => ?_⟩
  show (if d = c then m else k.chs d) = if d = c then n else l.chs d
  rw [if_neg, if_neg, h.chs d x hd hs]
  all_goals
    intro e
    subst e
    rw [hy] at hd
    cases hd
    exact hp hs
theorem EqvK.read {D : ManD} {S : Nat → Prop} {k l : KS} (h : EqvK D S k l) {p : Int} (hp : S p.toNat) (a : Int) :
    (readF D k p a).1 = (readF D l p a).1 ∧ (readF D k p a).2.1 = (readF D l p a).2.1 ∧ EqvK D S (readF D k p a).2.2 (readF D l p a).2.2 := by
  unfold readF
  rw [h.turn hp, h.mem _ a hp]
  split
  · exact ⟨rfl, rfl, h⟩
  · split
    · exact ⟨rfl, rfl, h.fail _⟩
    · exact ⟨rfl, rfl, h⟩
theorem EqvK.readOne {D : ManD} {S : Nat → Prop} {k l : KS} (h : EqvK D S k l) {p : Int} (hp : ¬ S p.toNat) (a : Int) : EqvK D S (readF D k p a).2.2 l := by
  unfold readF
  split
  · exact h
  · split
    · exact h.failOne hp
    · exact h
theorem EqvK.write {D : ManD} {S : Nat → Prop} {k l : KS} (h : EqvK D S k l) {p : Int} (hp : S p.toNat) (a b : Int) :
    (writeF D k p a b).1 = (writeF D l p a b).1 ∧ EqvK D S (writeF D k p a b).2 (writeF D l p a b).2 := by
  unfold writeF
  rw [h.turn hp]
  split
  · exact ⟨rfl, h⟩
  · split
    · exact ⟨rfl, h.fail _⟩
    · exact ⟨rfl, h.setMem _ _ _⟩
theorem EqvK.writeOne {D : ManD} {S : Nat → Prop} {k l : KS} (h : EqvK D S k l) {p : Int} (hp : ¬ S p.toNat) (a b : Int) : EqvK D S (writeF D k p a b).2 l := by
  unfold writeF
  split
  · exact h
  · split
    · exact h.failOne hp
    · exact h.setMemOne hp _ _
theorem EqvK.raise {D : ManD} {S : Nat → Prop} {k l : KS} (h : EqvK D S k l) {p : Int} (hp : S p.toNat) :
    (raiseF D k p).1 = (raiseF D l p).1 ∧ EqvK D S (raiseF D k p).2 (raiseF D l p).2 := by
  unfold raiseF
  rw [h.turn hp]
  split
  · exact ⟨rfl, h⟩
  · exact ⟨rfl, h.fail _⟩
theorem EqvK.raiseOne {D : ManD} {S : Nat → Prop} {k l : KS} (h : EqvK D S k l) {p : Int} (hp : ¬ S p.toNat) : EqvK D S (raiseF D k p).2 l := by
  unfold raiseF
  split
  · exact h
  · exact h.failOne hp
theorem port_at {D : ManD} {c : Int} {x : ChanD} (h : portF D c = some x) : D.chans[c.toNat]? = some x := by
  unfold portF at h
  split at h
  · cases h
  · exact h
theorem EqvK.send {D : ManD} {S : Nat → Prop} {k l : KS} (hS : Shut D S) (h : EqvK D S k l) {p : Int} (hp : S p.toNat) (c : Int) (s : ByteArray) :
    (sendF D k p c s).1 = (sendF D l p c s).1 ∧ EqvK D S (sendF D k p c s).2 (sendF D l p c s).2 := by
  unfold sendF
  rw [h.turn hp]
  split
  · exact ⟨rfl, h⟩
  · split
    · exact ⟨rfl, h⟩
    · rename_i x hx
      have hx' := port_at hx
      split
      · exact ⟨rfl, h⟩
      · rename_i hs
        have hs' : x.source = p := Decidable.not_not.1 hs
        split
        · exact ⟨rfl, h⟩
        · split
          · rename_i hk
            have ht : S x.target.toNat := hS.forth _ _ hx' hk (by rw [hs']; exact hp)
            rw [h.chs _ _ hx' ht, h.time]
            split
            · exact ⟨rfl, h⟩
            · exact ⟨rfl, h.setCh _ _⟩
          · rw [h.time]
            exact ⟨rfl, h.setCh _ _⟩
theorem EqvK.sendOne {D : ManD} {S : Nat → Prop} {k l : KS} (hS : Shut D S) (h : EqvK D S k l) {p : Int} (hp : ¬ S p.toNat) (c : Int) (s : ByteArray) : EqvK D S (sendF D k p c s).2 l := by
  unfold sendF
  split
  · exact h
  · split
    · exact h
    · rename_i x hx
      have hx' := port_at hx
      split
      · exact h
      · rename_i hs
        have hs' : x.source = p := Decidable.not_not.1 hs
        have ht : ¬ S x.target.toNat := fun ht => hp (by rw [← hs']; exact hS.back _ _ hx' ht)
        split
        · exact h
        · split
          · split
            · exact h
            · exact h.setChOne hx' ht _
          · exact h.setChOne hx' ht _
theorem EqvK.recv {D : ManD} {S : Nat → Prop} {k l : KS} (h : EqvK D S k l) {p : Int} (hp : S p.toNat) (c : Int) :
    (recvF D k p c).1 = (recvF D l p c).1 ∧ EqvK D S (recvF D k p c).2 (recvF D l p c).2 := by
  unfold recvF
  rw [h.turn hp]
  split
  · exact ⟨rfl, h⟩
  · split
    · exact ⟨rfl, h⟩
    · rename_i x hx
      have hx' := port_at hx
      split
      · exact ⟨rfl, h⟩
      · rename_i hs
        have hs' : x.target = p := Decidable.not_not.1 hs
        rw [h.chs _ _ hx' (by rw [hs']; exact hp), h.time]
        split
        · exact ⟨rfl, h⟩
        · split
          · exact ⟨rfl, h.setCh _ _⟩
          · exact ⟨rfl, h⟩
theorem EqvK.recvOne {D : ManD} {S : Nat → Prop} {k l : KS} (h : EqvK D S k l) {p : Int} (hp : ¬ S p.toNat) (c : Int) : EqvK D S (recvF D k p c).2 l := by
  unfold recvF
  split
  · exact h
  · split
    · exact h
    · rename_i x hx
      have hx' := port_at hx
      split
      · exact h
      · rename_i hs
        have hs' : x.target = p := Decidable.not_not.1 hs
        split
        · exact h
        · split
          · exact h.setChOne hx' (by rw [hs']; exact hp) _
          · exact h
theorem EqvK.tick {D : ManD} {S : Nat → Prop} {k l : KS} (h : EqvK D S k l) : EqvK D S (tickK k) (tickK l) :=
  ⟨by show k.time + 1 = l.time + 1; rw [h.time], h.sts, h.mem, h.chs⟩
theorem EqvK.step {D : ManD} {S : Nat → Prop} {k l : KS} (hS : Shut D S) (h : EqvK D S k l) {o : StepD} (hp : S (whoP D o).toNat) :
    (doF D k o).1 = (doF D l o).1 ∧ EqvK D S (doF D k o).2 (doF D l o).2 := by
  unfold doF
  split
  · exact ⟨rfl, h.tick⟩
  split
  · obtain ⟨h1, h2, h3⟩ := h.read hp (addrP D o)
    exact ⟨by simp only [h1, h2], h3⟩
  split
  · obtain ⟨h1, h2⟩ := h.write hp (addrP D o) o.b
    exact ⟨by simp only [h1], h2⟩
  split
  · obtain ⟨h1, h2⟩ := h.send hS hp (chanP D o) (cutF o.text)
    exact ⟨by simp only [h1], h2⟩
  split
  · obtain ⟨h1, h2⟩ := h.recv hp (chanP D o)
    exact ⟨by simp only [h1], h2⟩
  split
  · obtain ⟨h1, h2⟩ := h.raise hp
    exact ⟨by simp only [h1], h2⟩
  · exact ⟨rfl, h⟩
theorem EqvK.stepOne {D : ManD} {S : Nat → Prop} {k l : KS} (hS : Shut D S) (h : EqvK D S k l) {o : StepD} (hk : o.kind ≠ 1) (hp : ¬ S (whoP D o).toNat) : EqvK D S (doF D k o).2 l := by
  unfold doF
  rw [if_neg hk]
  split
  · exact h.readOne hp _
  split
  · exact h.writeOne hp _ _
  split
  · exact h.sendOne hS hp _ _
  split
  · exact h.recvOne hp _
  split
  · exact h.raiseOne hp
  · exact h
theorem EqvK.tickStep {D : ManD} {S : Nat → Prop} {k l : KS} (h : EqvK D S k l) {o : StepD} (hk : o.kind = 1) :
    (doF D k o).1 = ans0 ∧ (doF D l o).1 = ans0 ∧ EqvK D S (doF D k o).2 (doF D l o).2 := by
  unfold doF
  rw [if_pos hk, if_pos hk]
  exact ⟨rfl, rfl, h.tick⟩
end Go.Proofs.YteioennfpkoagaaGreatDoor.C
namespace Go.Proofs.YteioennfpkoagaaGreatDoor.C

theorem tick_zero {F : Int} {ps : List PartD} (h : PartsT F ps) (hne : ps ≠ []) : 0 ≤ tickF ps 0 := by
  have hl : 0 < ps.length := List.length_pos_iff.2 hne
  rcases run_spec ps 0 with ⟨_, h2, _⟩ | ⟨c, _, h2, _⟩
  · exfalso
    have h3 := h2 0 hl
    have h4 := h.dur 0 hl
    unfold nowF at h3
    rw [if_pos (by simp)] at h3
    unfold durF at h3
    rw [dif_pos hl] at h3
    omega
  · omega
theorem cnt_some {ps : List PartD} {i a : Nat} : ∀ r : Nat, 1 ≤ cntQ ps i a r → ∃ s, s < r ∧ tickF ps (a + s) = (i : Int) := by
  intro r
  induction r with
  | zero => intro h; simp [cntQ] at h
  | succ r ih =>
    intro h
    by_cases e : tickF ps (a + r) = (i : Int)
    · exact ⟨r, by omega, e⟩
    · simp only [cntQ] at h
      rw [if_neg e, Int.add_zero] at h
      obtain ⟨s, hs, h2⟩ := ih h
      exact ⟨s, by omega, h2⟩
theorem runs_once {F : Int} {ps : List PartD} (h : PartsT F ps) {i : Nat} (hi : i < ps.length) : ∃ t : Nat, (t : Int) < F ∧ tickF ps t = (i : Int) := by
  obtain ⟨h1, h2⟩ := h.per i hi
  have h3 := h.dur i hi
  have h4 := h.pos
  have hle : ps[i].period ≤ F := Int.le_of_dvd (by omega) (Int.dvd_of_emod_eq_zero h2)
  have hP : perF ps i = ((ps[i].period.toNat : Nat) : Int) := by
    unfold perF
    rw [dif_pos hi]; omega
  have hc := cnt_whole h hi hP 0
  have hd : durF ps i = ps[i].duration := by unfold durF; rw [dif_pos hi]
  obtain ⟨s, hs, h5⟩ := cnt_some (ps := ps) (i := i) (a := 0 * ps[i].period.toNat) ps[i].period.toNat (by rw [hc, hd]; exact h3)
  refine ⟨s, by omega, ?_⟩
  rwa [Nat.zero_mul, Nat.zero_add] at h5
theorem reach_mod (T t n : Nat) (ht : t < n) : ∃ j, j < n ∧ (T + j) % n = t := by
  have hm : T % n < n := Nat.mod_lt _ (by omega)
  rcases Nat.lt_or_ge t (T % n) with h | h
  · refine ⟨n - T % n + t, by omega, ?_⟩
    have e : T + (n - T % n + t) = t + n * (T / n + 1) := by
      have := Nat.div_add_mod T n
      rw [Nat.mul_add]
      omega
    rw [e, Nat.add_mul_mod_self_left, Nat.mod_eq_of_lt ht]
  · refine ⟨t - T % n, by omega, ?_⟩
    have e : T + (t - T % n) = t + n * (T / n) := by
      have := Nat.div_add_mod T n
      omega
    rw [e, Nat.add_mul_mod_self_left, Nat.mod_eq_of_lt ht]
def ticksK (k : KS) (j : Nat) : KS := { k with time := k.time + j }
theorem all_stopped {D : ManD} (h : PartsT D.frame D.parts) {k : KS} (hr : ∀ j, j < D.frame.toNat → runF D (ticksK k j) < 0) {i : Nat} (hi : i < D.parts.length) : (k.sts i).stopped = true := by
  obtain ⟨t, ht, he⟩ := runs_once h hi
  obtain ⟨j, hj, hm⟩ := reach_mod k.time t D.frame.toNat (by omega)
  have h1 := hr j hj
  have hw : whoF D (ticksK k j) = (i : Int) := by
    show tickF D.parts ((k.time + j) % D.frame.toNat) = _
    rw [hm, he]
  unfold runF at h1
  rw [hw] at h1
  by_cases hs : ((ticksK k j).sts (i : Int).toNat).stopped = true
  · exact hs
  · rw [if_neg (fun h => hs h.2)] at h1
    omega
/- nobody out of turn -/
theorem off_turn {D : ManD} {k : KS} {p : Nat} (hp : p < D.parts.length) (h : ¬ (whoF D k = (p : Int) ∧ (k.sts p).stopped = false)) : turnF D k p = if (k.sts p).stopped = true then 20 else 21 := by
  unfold turnF
  rw [if_neg (by omega), Int.toNat_natCast]
  split
  · rfl
  · rename_i hs
    rw [if_pos]
    intro e
    exact h ⟨e, by simpa using hs⟩
theorem turn_on {D : ManD} {k : KS} {p : Nat} (hp : p < D.parts.length) (h1 : whoF D k = (p : Int)) (h2 : (k.sts p).stopped = false) : turnF D k p = 0 := by
  unfold turnF
  rw [if_neg (by omega), Int.toNat_natCast, if_neg (by rw [h2]; simp), if_neg (fun h => h h1)]
theorem run_turn {D : ManD} {k : KS} {p : Int} (h : runF D k = p) (hp : 0 ≤ p) : whoF D k = p ∧ (k.sts p.toNat).stopped = false := by
  unfold runF at h
  split at h
  · omega
  · rename_i hn
    subst h
    refine ⟨rfl, ?_⟩
    cases hs : (k.sts (whoF D k).toNat).stopped
    · rfl
    · exact absurd ⟨hp, hs⟩ hn
theorem who_in (D : ManD) (k : KS) : -1 ≤ whoF D k ∧ whoF D k < D.parts.length := tick_in _ _
/- memory -/
theorem rights_low {rs : List RegD} (h : ∀ r ∈ rs, 0 ≤ r.page) : rightsF rs (-1) = 0 := by
  induction rs with
  | nil => rfl
  | cons r rs ih =>
    have h1 := h r (by simp)
    unfold rightsF
    rw [if_neg (by omega)]
    exact ih fun x hx => h x (by simp [hx])
theorem rights_first {r : RegD} {rs : List RegD} (h : 1 ≤ r.pages) : rightsF (r :: rs) (64 * r.page) = r.rights := by
  unfold rightsF
  rw [if_pos (by omega)]
theorem setMem_mem (k : KS) (p : Nat) (a b : Int) : (setMem k p a b).mem p a = b := by
  show (if p = p ∧ a = a then b else k.mem p a) = b
  rw [if_pos ⟨rfl, rfl⟩]
theorem setMem_boot (p : Nat) (a b : Int) : setMem (setMem bootK p a b) p a 0 = bootK := by
  unfold setMem bootK
  simp only []
  congr 1
  funext q x
  split <;> rfl
end Go.Proofs.YteioennfpkoagaaGreatDoor.C
namespace Go.Proofs.YteioennfpkoagaaGreatDoor.C
open Go.RowKit
attribute [local go_sem ↓] Go.wp_at_zero Go.wp_at_succ

theorem cat_ok {a b : ByteArray} {n m : Nat} (h1 : a.size ≤ n) (h2 : b.size ≤ m) (h : n + m ≤ 9223372036854775807) : ¬ 9223372036854775807 < a.size + b.size := by omega
theorem cat_run (a b : ByteArray) (h : ¬ 9223372036854775807 < a.size + b.size) (w : World) : (binOp .add 9 (.string a) (.string b)).run Tryz.prog w = .ok (.string (a ++ b)) w := by simp [go_sem, h]
theorem cat_le {a b : ByteArray} {n m : Nat} (h1 : a.size ≤ n) (h2 : b.size ≤ m) : (a ++ b).size ≤ n + m := by
  rw [ByteArray.size_append]; omega
theorem dec_sz (n : Int) : (ba (decF n)).size ≤ 3 := by rw [ba_size]; exact decF_len n
theorem actW_len (a : Nat) : (ba (actW a)).size ≤ 7 := by rw [ba_size]; unfold actW; split <;> simp
theorem rightW_len (a : Nat) : (ba (rightW a)).size ≤ 7 := by rw [ba_size]; unfold rightW; split <;> simp
theorem kindW_len (a : Nat) : (ba (kindW a)).size ≤ 7 := by rw [ba_size]; unfold kindW; split <;> simp
theorem act_cell {w : World} {g : Nat} (h : w.heap[g]? = some (.cells #[.string { data := #[] }, .string { data := #[105, 103, 110, 111, 114, 101] }, .string { data := #[115, 116, 111, 112] }, .string { data := #[114, 101, 115, 116, 97, 114, 116] }] 9 (0, 0))) (a : Nat) (ha : a ≤ 3) : w.cell? ⟨g, a, none⟩ = some (.string (ba (actW a))) := by
  rw [cell_of_blk h]
  rcases (show a = 0 ∨ a = 1 ∨ a = 2 ∨ a = 3 by omega) with rfl | rfl | rfl | rfl <;> rfl
theorem right_cell {w : World} {g : Nat} (h : w.heap[g]? = some (.cells #[.string { data := #[] }, .string { data := #[108, 111, 111, 107] }, .string { data := #[99, 104, 97, 110, 103, 101] }] 9 (0, 0))) (a : Nat) (ha : a ≤ 2) : w.cell? ⟨g, a, none⟩ = some (.string (ba (rightW a))) := by
  rw [cell_of_blk h]
  rcases (show a = 0 ∨ a = 1 ∨ a = 2 by omega) with rfl | rfl | rfl <;> rfl
theorem kind_cell {w : World} {g : Nat} (h : w.heap[g]? = some (.cells #[.string { data := #[] }, .string { data := #[113, 117, 101, 117, 101] }, .string { data := #[115, 97, 109, 112, 108, 101] }] 9 (0, 0))) (a : Nat) (ha : a ≤ 2) : w.cell? ⟨g, a, none⟩ = some (.string (ba (kindW a))) := by
  rw [cell_of_blk h]
  rcases (show a = 0 ∨ a = 1 ∨ a = 2 by omega) with rfl | rfl | rfl <;> rfl
theorem keep5 {B : Nat} {W w1 w2 : World} {a0 a1 a2 a3 a4 : Addr} {v0 v1 v2 v3 v4 : Value} (h : w1.cell? a0 = some v0 ∧ w1.cell? a1 = some v1 ∧ w1.cell? a2 = some v2 ∧ w1.cell? a3 = some v3 ∧ w1.cell? a4 = some v4 ∧ Below B W w1) (hb : Below w1.heap.size w1 w2) (hB : B ≤ W.heap.size) : w2.cell? a0 = some v0 ∧ w2.cell? a1 = some v1 ∧ w2.cell? a2 = some v2 ∧ w2.cell? a3 = some v3 ∧ w2.cell? a4 = some v4 ∧ Below B W w2 := by
  obtain ⟨h0, h1, h2, h3, h4, hx⟩ := h
  exact ⟨keepC h0 hb, keepC h1 hb, keepC h2 hb, keepC h3 hb, keepC h4 hb, hx.trans (hb.mono (Nat.le_trans hB hx.size))⟩
theorem keep4 {B : Nat} {W w1 w2 : World} {a0 a1 a2 a3 : Addr} {v0 v1 v2 v3 : Value} (h : w1.cell? a0 = some v0 ∧ w1.cell? a1 = some v1 ∧ w1.cell? a2 = some v2 ∧ w1.cell? a3 = some v3 ∧ Below B W w1) (hb : Below w1.heap.size w1 w2) (hB : B ≤ W.heap.size) : w2.cell? a0 = some v0 ∧ w2.cell? a1 = some v1 ∧ w2.cell? a2 = some v2 ∧ w2.cell? a3 = some v3 ∧ Below B W w2 := by
  obtain ⟨h0, h1, h2, h3, hx⟩ := h
  exact ⟨keepC h0 hb, keepC h1 hb, keepC h2 hb, keepC h3 hb, hx.trans (hb.mono (Nat.le_trans hB hx.size))⟩
theorem keep10 {B : Nat} {W w1 w2 : World} {a0 a1 a2 a3 a4 a5 a6 a7 a8 a9 : Addr} {v0 v1 v2 v3 v4 v5 v6 v7 v8 v9 : Value} (h : w1.cell? a0 = some v0 ∧ w1.cell? a1 = some v1 ∧ w1.cell? a2 = some v2 ∧ w1.cell? a3 = some v3 ∧ w1.cell? a4 = some v4 ∧ w1.cell? a5 = some v5 ∧ w1.cell? a6 = some v6 ∧ w1.cell? a7 = some v7 ∧ w1.cell? a8 = some v8 ∧ w1.cell? a9 = some v9 ∧ Below B W w1) (hb : Below w1.heap.size w1 w2) (hB : B ≤ W.heap.size) : w2.cell? a0 = some v0 ∧ w2.cell? a1 = some v1 ∧ w2.cell? a2 = some v2 ∧ w2.cell? a3 = some v3 ∧ w2.cell? a4 = some v4 ∧ w2.cell? a5 = some v5 ∧ w2.cell? a6 = some v6 ∧ w2.cell? a7 = some v7 ∧ w2.cell? a8 = some v8 ∧ w2.cell? a9 = some v9 ∧ Below B W w2 := by
  obtain ⟨h0, h1, h2, h3, h4, h5, h6, h7, h8, h9, hx⟩ := h
  exact ⟨keepC h0 hb, keepC h1 hb, keepC h2 hb, keepC h3 hb, keepC h4 hb, keepC h5 hb, keepC h6 hb, keepC h7 hb, keepC h8 hb, keepC h9 hb, hx.trans (hb.mono (Nat.le_trans hB hx.size))⟩
theorem ba_of {s : ByteArray} {l : List UInt8} (h : s.data.toList = l) : s = ba l := by
  subst h; cases s; simp [ba]
theorem keepW {w V : World} {a : Addr} {v : Value} (h : w.cell? a = some v) (hb : Below w.heap.size w V) : V.cell? a = some v := keepC h hb
/- what stands while Print goes on -/
def PrB (w : World) (f : Int) (pa ca : Option Addr) (n pcap m ccap ab : Nat) (V : World) : Prop :=
  V.heap[w.heap.size]? = some (.cells #[.int .i64 f, .slice pa n pcap, .slice ca m ccap] 34 (0, 0)) ∧ V.heap[ab]? = some (.cells #[.string { data := #[] }, .string { data := #[105, 103, 110, 111, 114, 101] }, .string { data := #[115, 116, 111, 112] }, .string { data := #[114, 101, 115, 116, 97, 114, 116] }] 9 (0, 0)) ∧ V.heap[ab + 1]? = some (.cells #[.string { data := #[] }, .string { data := #[108, 111, 111, 107] }, .string { data := #[99, 104, 97, 110, 103, 101] }] 9 (0, 0)) ∧ V.heap[ab + 1 + 1]? = some (.cells #[.string { data := #[] }, .string { data := #[113, 117, 101, 117, 101] }, .string { data := #[115, 97, 109, 112, 108, 101] }] 9 (0, 0)) ∧ Below w.heap.size w V
theorem PrB.below {w V V' : World} {f : Int} {pa ca : Option Addr} {n pcap m ccap ab : Nat} (h : PrB w f pa ca n pcap m ccap ab V) (hb : Below V.heap.size V V') : PrB w f pa ca n pcap m ccap ab V' := by
  obtain ⟨h1, h2, h3, h4, h5⟩ := h
  exact ⟨(hb.block _ (lt_of_blk h1)).trans h1, (hb.block _ (lt_of_blk h2)).trans h2, (hb.block _ (lt_of_blk h3)).trans h3, (hb.block _ (lt_of_blk h4)).trans h4, h5.trans (hb.mono h5.size)⟩
end Go.Proofs.YteioennfpkoagaaGreatDoor.C
namespace Go.Proofs.YteioennfpkoagaaGreatDoor.C
open Go.RowKit
attribute [local go_sem ↓] Go.wp_at_zero Go.wp_at_succ

theorem small_any (n : Int) (w : World) :
    Calls Tryz.prog 192 #[.int .u8 n] w fun e w' => e = .returned (.bool (smallB n)) ∧ w' = w := by
  go_enter Tryz.func192, Tryz.ntmps192
  go_wp2
  · go_ret
    exact ⟨by simp [smallB, *], rfl⟩
  · go_ret
    exact ⟨by simp [smallB]; omega, rfl⟩
theorem digit_any (n : Int) (w : World) :
    Calls Tryz.prog 193 #[.int .u8 n] w fun e w' => e = .returned (.bool (digitB n)) ∧ w' = w := by
  go_enter Tryz.func193, Tryz.ntmps193
  go_wp2
  · go_ret
    exact ⟨by simp [digitB, *], rfl⟩
  · go_ret
    exact ⟨by simp [digitB]; omega, rfl⟩
set_option maxHeartbeats 400000 in
theorem inside_any (n : Int) (w : World) :
    Calls Tryz.prog 194 #[.int .u8 n] w fun e w' => e = .returned (.bool (insideB n)) ∧ w' = w := by
  go_enter Tryz.func194, Tryz.ntmps194
  go_wp2_with (first | (go_at_call 192; refine (small_any _ _).mono ?_; rintro e w' ⟨rfl, rfl⟩) | (go_at_call 193; refine (digit_any _ _).mono ?_; rintro e w' ⟨rfl, rfl⟩))
  all_goals
    go_ret
    exact ⟨by simp [insideB, *], rfl⟩

set_option maxRecDepth 100000 in
set_option maxHeartbeats 1000000 in
theorem nameOK_any (s : ByteArray) (w : World) :
    Calls Tryz.prog 209 #[.string s] w fun e w' => e = .returned (.bool (nameF s.data.toList)) ∧ w' = w := by
  by_cases h1 : s.size < 1
  · have q1 : decide ((s.size : Int) < 1) = true := by simp; omega
    have hf : nameF s.data.toList = false := by unfold nameF; simp; omega
    rw [hf]
    go_enter Tryz.func209, Tryz.ntmps209
    go_wp2_with fail
    go_ret
    exact ⟨rfl, rfl⟩
  by_cases h2 : 16 < s.size
  · have q1 : decide ((s.size : Int) < 1) = false := by simp; omega
    have q2 : decide ((16 : Int) < (s.size : Int)) = true := by simp; omega
    have hf : nameF s.data.toList = false := by unfold nameF; simp; omega
    rw [hf]
    go_enter Tryz.func209, Tryz.ntmps209
    go_wp2_with fail
    go_ret
    exact ⟨rfl, rfl⟩
  have q1 : decide ((s.size : Int) < 1) = false := by simp; omega
  have q2 : decide ((16 : Int) < (s.size : Int)) = false := by simp; omega
  have hz : 0 < s.size := by omega
  go_enter Tryz.func209, Tryz.ntmps209
  go_wp2_with fail
  refine (small_any _ _).mono ?_
  rintro e w1 ⟨rfl, rfl⟩
  go_wp2_with fail
  go_loopw [4] (fun i wr => ∃ k : Nat, i = .int .i64 k ∧ k ≤ s.size ∧ wr = w1 ∧ Hid ((s.data.toList.take k).all (fun b => insideB b.toNat) = true)) (fun i _ => s.size - (intOf i).toNat)
  case atStart => exact ⟨0, rfl, by omega, rfl, by simp [Hid]⟩
  case round =>
    obtain ⟨k, rfl, hk, rfl, HA⟩ := hrel
    by_cases hlt : k < s.size
    · have hlt' : (k : Int) < (s.size : Int) := by omega
      have hk0 : (0 : Int) ≤ (k : Int) := by omega
      go_wp2_with fail
      refine (inside_any _ _).mono ?_
      rintro e w2 ⟨rfl, rfl⟩
      cases hb : insideB s[k].toNat
      · go_wp2_with fail
        go_ret
        exact ⟨by rw [nameF_bad hlt hb]; rfl, rfl⟩
      · go_wp2_with fail
        go_roundw
        case rel => exact ⟨k + 1, by go_num, by omega, trivial, by show _ = _; rw [take_snoc s k hlt, List.all_append, HA.out]; simp [hb]⟩
        case measure => simp [intOf]; omega
    · have hkn : k = s.size := by omega
      subst hkn
      go_wp2_with fail
      go_ret
      exact ⟨by rw [nameF_end (by omega) (by omega) HA.out]; rfl, rfl⟩
end Go.Proofs.YteioennfpkoagaaGreatDoor.C
namespace Go.Proofs.YteioennfpkoagaaGreatDoor.C
open Go.RowKit
attribute [local go_sem ↓] Go.wp_at_zero Go.wp_at_succ

set_option maxRecDepth 100000 in
set_option maxHeartbeats 4000000 in
theorem regionsOK_any (rs : List RegD) (v : Value) (w : World) (hv : RegsV w v rs) (hl : rs.length ≤ 4611686018427387903) :
    Calls Tryz.prog 210 #[v] w fun e w' => e = .returned (.bool (regsF rs)) ∧ Below w.heap.size w w' := by
  obtain ⟨va, cap, rfl, hc⟩ := hv
  have HC : Hid _ := hc
  clear hc
  go_enter Tryz.func210, Tryz.ntmps210
  go_wp2_with fail
  have hu0 : (w.alloc (.cells #[.bool false, .bool false, .bool false, .bool false, .bool false, .bool false, .bool false, .bool false, .bool false, .bool false, .bool false, .bool false, .bool false, .bool false, .bool false, .bool false, .bool false, .bool false, .bool false, .bool false, .bool false, .bool false, .bool false, .bool false, .bool false, .bool false, .bool false, .bool false, .bool false, .bool false, .bool false, .bool false, .bool false, .bool false, .bool false, .bool false, .bool false, .bool false, .bool false, .bool false, .bool false, .bool false, .bool false, .bool false, .bool false, .bool false, .bool false, .bool false, .bool false, .bool false, .bool false, .bool false, .bool false, .bool false, .bool false, .bool false, .bool false, .bool false, .bool false, .bool false, .bool false, .bool false, .bool false, .bool false] 325)).heap[w.heap.size]? = some (.cells (usedV fun _ => false) 325 (0, 0)) := by rw [used_lit]; exact heap_new _ _
  have hb0 : Below w.heap.size w (w.alloc (.cells #[.bool false, .bool false, .bool false, .bool false, .bool false, .bool false, .bool false, .bool false, .bool false, .bool false, .bool false, .bool false, .bool false, .bool false, .bool false, .bool false, .bool false, .bool false, .bool false, .bool false, .bool false, .bool false, .bool false, .bool false, .bool false, .bool false, .bool false, .bool false, .bool false, .bool false, .bool false, .bool false, .bool false, .bool false, .bool false, .bool false, .bool false, .bool false, .bool false, .bool false, .bool false, .bool false, .bool false, .bool false, .bool false, .bool false, .bool false, .bool false, .bool false, .bool false, .bool false, .bool false, .bool false, .bool false, .bool false, .bool false, .bool false, .bool false, .bool false, .bool false, .bool false, .bool false, .bool false, .bool false] 325)) := (Below.refl _ _).alloc (Nat.le_refl _) _
  generalize w.alloc (.cells #[.bool false, .bool false, .bool false, .bool false, .bool false, .bool false, .bool false, .bool false, .bool false, .bool false, .bool false, .bool false, .bool false, .bool false, .bool false, .bool false, .bool false, .bool false, .bool false, .bool false, .bool false, .bool false, .bool false, .bool false, .bool false, .bool false, .bool false, .bool false, .bool false, .bool false, .bool false, .bool false, .bool false, .bool false, .bool false, .bool false, .bool false, .bool false, .bool false, .bool false, .bool false, .bool false, .bool false, .bool false, .bool false, .bool false, .bool false, .bool false, .bool false, .bool false, .bool false, .bool false, .bool false, .bool false, .bool false, .bool false, .bool false, .bool false, .bool false, .bool false, .bool false, .bool false, .bool false, .bool false] 325) = W0 at *
  go_loopw [4] (fun i wr => ∃ (k : Nat) (u : Nat → Bool), i = .int .i64 k ∧ k ≤ rs.length ∧ wr.heap[w.heap.size]? = some (.cells (usedV u) 325 (0, 0)) ∧ Below w.heap.size w wr ∧ Hid (RegsOK (rs.take k)) ∧ Hid (∀ q : Nat, q < 64 → (u q = true ↔ ∃ a ∈ rs.take k, hit a q))) (fun i _ => rs.length - (intOf i).toNat)
  case atStart => exact ⟨0, _, rfl, by omega, hu0, hb0, by simp [Hid, RegsOK], by simp [Hid]⟩
  case round =>
    obtain ⟨k, u, rfl, hk, hu, hbel, HO, HU⟩ := hrel
    by_cases hlt : k < rs.length
    · obtain ⟨b, off, rfl, c0, c1, c2⟩ := HC.out k hlt
      have hbl := World.block_lt_of_cell? w _ c0
      have d0 := (hbel.cell (by exact hbl)).trans c0
      have d1 := (hbel.cell (by exact hbl)).trans c1
      have d2 := (hbel.cell (by exact hbl)).trans c2
      have hlt' : (k : Int) < (rs.length : Int) := by omega
      have hk0 : (0 : Int) ≤ (k : Int) := by omega
      have hub := lt_of_blk hu
      by_cases hbad : regB rs[k] = false
      · have hF := regs_bad hlt hbad
        have hwr : 0 ≤ rs[k].page → rs[k].page ≤ 63 → 1 ≤ rs[k].pages → rs[k].pages ≤ 64 → IntKind.i64.wrap (rs[k].page + rs[k].pages) = rs[k].page + rs[k].pages := fun _ _ _ _ => wrap_small _ (by omega) (by omega)
        have HF : Hid _ := hF
        clear hF
        generalize rs[k] = r at *
        unfold regB at hbad
        simp only [decide_eq_false_iff_not] at hbad
        have hcase : r.page < 0 ∨ (¬ r.page < 0 ∧ 63 < r.page) ∨ (¬ r.page < 0 ∧ ¬ 63 < r.page ∧ r.pages < 1) ∨ (¬ r.page < 0 ∧ ¬ 63 < r.page ∧ ¬ r.pages < 1 ∧ 64 < r.pages) ∨ (¬ r.page < 0 ∧ ¬ 63 < r.page ∧ ¬ r.pages < 1 ∧ ¬ 64 < r.pages ∧ 64 < r.page + r.pages) ∨ (¬ r.page < 0 ∧ ¬ 63 < r.page ∧ ¬ r.pages < 1 ∧ ¬ 64 < r.pages ∧ ¬ 64 < r.page + r.pages ∧ ¬ r.rights = 1 ∧ ¬ r.rights = 2) := by omega
        clear hbad
        rcases hcase with h1 | ⟨h1, h2⟩ | ⟨h1, h2, h3⟩ | ⟨h1, h2, h3, h4⟩ | ⟨h1, h2, h3, h4, h5⟩ | ⟨h1, h2, h3, h4, h5, h6, h7⟩
        all_goals (try have hw := hwr (by omega) (by omega) (by omega) (by omega))
        all_goals clear hwr
        all_goals (try have hr1 : (r.rights != 1 && r.rights != 2) = true := by simp; omega)
        all_goals (try (have h6' : (r.rights != 1) = true := by simp; omega))
        all_goals (try (have h7' : (r.rights != 2) = true := by simp; omega))
        all_goals go_wp2_with fail
        all_goals go_ret
        all_goals exact ⟨by rw [HF.out]; rfl, hbel.alloc hbel.size _⟩
      · have hgood : regB rs[k] = true := by simpa using hbad
        clear hbad
        have HG : Hid _ := hgood
        have hpg : 0 ≤ rs[k].page ∧ rs[k].page ≤ 63 ∧ 1 ≤ rs[k].pages ∧ rs[k].pages ≤ 64 ∧ rs[k].page + rs[k].pages ≤ 64 ∧ (rs[k].rights = 1 ∨ rs[k].rights = 2) := by unfold regB at hgood; simpa using hgood
        clear hgood
        generalize hrk : rs[k] = r at *
        have HRK : Hid _ := hrk
        clear hrk
        generalize wr = wz at *
        obtain ⟨h1, h2, h3, h4, h5, h6⟩ := hpg
        have hr : (r.rights != 1) = false ∨ ((r.rights != 1) = true ∧ (r.rights != 2) = false) := by
          rcases h6 with h | h
          · left; rw [h]; rfl
          · right; rw [h]; exact ⟨rfl, rfl⟩
        clear h6
        have hw : IntKind.i64.wrap (r.page + r.pages) = r.page + r.pages := wrap_small _ (by omega) (by omega)
        have n1 : ¬ r.page < 0 := by omega
        have n2 : ¬ 63 < r.page := by omega
        have n3 : ¬ r.pages < 1 := by omega
        have n4 : ¬ 64 < r.pages := by omega
        have n5 : ¬ 64 < r.page + r.pages := by omega
        rcases hr with q1 | ⟨q1, q2⟩
        all_goals (
          go_wp2_with fail
          have hb1 := hbel.alloc hbel.size (.cells #[.int .i64 r.page, .int .i64 r.pages, .int .i64 r.rights] 90)
          have hu1 := heap_old wz (.cells #[.int .i64 r.page, .int .i64 r.pages, .int .i64 r.rights] 90) hu
          have hr1 := heap_new wz (.cells #[.int .i64 r.page, .int .i64 r.pages, .int .i64 r.rights] 90)
          have hne : wz.heap.size ≠ w.heap.size := by omega
          have hsz := hbel.size
          clear hbel hu hub d0 d1 d2 n1 n2 n3 n4 n5 hu0 hb0
          generalize wz.alloc (.cells #[.int .i64 r.page, .int .i64 r.pages, .int .i64 r.rights] 90) = W1 at *
          generalize wz.heap.size = rb at *
          go_loopw [6] (fun i wx => ∃ (q : Nat) (u' : Nat → Bool), i = .int .i64 q ∧ r.page ≤ q ∧ q ≤ r.page + r.pages ∧ wx.heap[w.heap.size]? = some (.cells (usedV u') 325 (0, 0)) ∧ wx.heap[rb]? = some (.cells #[.int .i64 r.page, .int .i64 r.pages, .int .i64 r.rights] 90 (0, 0)) ∧ Below w.heap.size w wx ∧ Hid (∀ j : Nat, j < 64 → (u' j = true ↔ u j = true ∨ (r.page ≤ j ∧ j < q))) ∧ Hid (∀ j : Nat, r.page ≤ j → j < q → u j = false)) (fun i _ => (r.page + r.pages).toNat - (intOf i).toNat)
          case atStart => exact ⟨r.page.toNat, u, by congr; omega, by omega, by omega, hu1, hr1, hb1, by intro j hj; constructor; exact fun h => .inl h; rintro (h | h); exact h; omega, by intro j h7 h8; omega⟩
          case round =>
            obtain ⟨q, u', rfl, hq1, hq2, hux, hrx, hbx, HU', HN⟩ := hrel
            have x0 : wr.cell? ⟨rb, 0, none⟩ = some (.int .i64 r.page) := by rw [cell_of_blk hrx]; rfl
            have x1 : wr.cell? ⟨rb, 1, none⟩ = some (.int .i64 r.pages) := by rw [cell_of_blk hrx]; rfl
            by_cases hqlt : (q : Int) < r.page + r.pages
            · have hq64 : q < 64 := by omega
              have hq64' : (q : Int) < 64 := by omega
              have hq0 : (0 : Int) ≤ (q : Int) := by omega
              have y0 : wr.cell? ⟨w.heap.size, q, none⟩ = some (.bool (u' q)) := by rw [cell_of_blk hux, usedV_at u' q hq64]
              have z0 := frozen_of_blk (i := q) hux
              cases hcu : u' q
              · rw [hcu] at y0
                go_wp2_with fail
                go_roundw
                case rel =>
                  refine ⟨q + 1, fun j => if j = q then true else u' j, by go_num, by omega, by omega, ?_, ?_, hbx.setCell (Nat.le_refl _) _, ?_, ?_⟩
                  · rw [blk_set q _ hux, usedV_set]
                  · rw [blk_far _ _ hne]; exact hrx
                  · intro j hj
                    by_cases e : j = q
                    · subst e; simp; omega
                    · simp only [if_neg e]; rw [HU'.out j hj]; constructor
                      · rintro (h | h)
                        · exact .inl h
                        · exact .inr (by omega)
                      · rintro (h | h)
                        · exact .inl h
                        · exact .inr (by omega)
                  · intro j h7 h8
                    by_cases e : j = q
                    · subst e
                      have := HU'.out j hq64
                      rw [hcu] at this
                      cases hu : u j
                      · rfl
                      · rw [hu] at this; simp at this
                    · exact HN.out j h7 (by omega)
                case measure => simp [intOf]; omega
              · rw [hcu] at y0
                go_wp2_with fail
                go_ret
                have hF : regsF rs = false := by
                  refine regs_hit (q := q) hlt (by rw [HRK.out]; exact ⟨hq1, hqlt⟩) ?_
                  rw [← HU.out q hq64]
                  have := (HU'.out q hq64).1 hcu
                  rcases this with h | h
                  · exact h
                  · omega
                exact ⟨by rw [hF]; rfl, hbx⟩
            · have hqe : (q : Int) = r.page + r.pages := by omega
              go_wp2_with fail
              go_roundw
              case rel =>
                refine ⟨k + 1, u', by go_num, by omega, hux, hbx, ?_, ?_⟩
                · refine regs_step hlt HO.out (by rw [HRK.out]; exact HG.out) ?_
                  rw [HRK.out]
                  intro j hj h7
                  rw [← HU.out j hj, HN.out j h7.1 (by have := h7.2; omega)]
                  simp
                · intro j hj
                  rw [HU'.out j hj, HU.out j hj, hit_step hlt, HRK.out]
                  unfold hit
                  constructor
                  · rintro (h | h)
                    · exact .inl h
                    · exact .inr (by omega)
                  · rintro (h | h)
                    · exact .inl h
                    · exact .inr (by omega)
              case measure => simp [intOf]; omega)
    · have hkn : k = rs.length := by omega
      subst hkn
      go_wp2_with fail
      go_ret
      exact ⟨by rw [(regsF_iff rs).2 (by have := HO.out; rwa [List.take_length] at this)]; rfl, hbel⟩
end Go.Proofs.YteioennfpkoagaaGreatDoor.C
