import Derived.Test.YteioennfpkoagabGreatDoorH04
import Derived.Test.YteioennfpkoagabGreatDoorH05
namespace Go.Proofs.YteioennfpkoagabGreatDoor.C

structure StD where
  stopped : Bool
  faults : Int
  restarts : Int
structure MsgD where
  text : ByteArray
  time : Nat
structure KS where
  time : Nat
  sts : Nat → StD
  mem : Nat → Int → Int
  chs : Nat → List MsgD

/- what a manifest says of a partition, of a channel -/
def actF (D : ManD) (p : Nat) : Int := (D.parts[p]?.map PartD.action).getD 0
def regsAt (D : ManD) (p : Nat) : List RegD := (D.parts[p]?.map PartD.regs).getD []
def rightsF : List RegD → Int → Int
  | [], _ => 0
  | r :: rs, a => if 64 * r.page ≤ a ∧ a < 64 * (r.page + r.pages) then r.rights else rightsF rs a
def whoF (D : ManD) (k : KS) : Int := tickF D.parts (k.time % D.frame.toNat)
def turnF (D : ManD) (k : KS) (p : Int) : Int :=
  if p < 0 ∨ (D.parts.length : Int) ≤ p then 19 else if (k.sts p.toNat).stopped = true then 20 else if whoF D k ≠ p then 21 else 0
def failSt (a : Int) (s : StD) : StD := ⟨s.stopped || decide (a = 2), s.faults + 1, s.restarts + if a = 3 then 1 else 0⟩
def failF (D : ManD) (k : KS) (p : Nat) : KS where
  time := k.time
  sts q := if q = p then failSt (actF D p) (k.sts q) else k.sts q
  mem q a := if q = p ∧ actF D p = 3 then 0 else k.mem q a
  chs c := if actF D p = 3 ∧ (D.chans[c]?.map ChanD.target) = some (p : Int) then [] else k.chs c
def tickK (k : KS) : KS := { k with time := k.time + 1 }
def bootK : KS := ⟨0, fun _ => ⟨false, 0, 0⟩, fun _ _ => 0, fun _ => []⟩
def runF (D : ManD) (k : KS) : Int := if 0 ≤ whoF D k ∧ (k.sts (whoF D k).toNat).stopped = true then -1 else whoF D k
def readF (D : ManD) (k : KS) (p a : Int) : Int × Int × KS :=
  if turnF D k p ≠ 0 then (0, turnF D k p, k)
  else if rightsF (regsAt D p.toNat) a = 0 then (0, 22, failF D k p.toNat)
  else (k.mem p.toNat a, 0, k)
def setMem (k : KS) (p : Nat) (a b : Int) : KS := { k with mem := fun q x => if q = p ∧ x = a then b else k.mem q x }
def setCh (k : KS) (c : Nat) (l : List MsgD) : KS := { k with chs := fun d => if d = c then l else k.chs d }
def writeF (D : ManD) (k : KS) (p a b : Int) : Int × KS :=
  if turnF D k p ≠ 0 then (turnF D k p, k)
  else if rightsF (regsAt D p.toNat) a ≠ 2 then (22, failF D k p.toNat)
  else (0, setMem k p.toNat a (b % 256))
def portF (D : ManD) (c : Int) : Option ChanD := if c < 0 then none else D.chans[c.toNat]?
def sendF (D : ManD) (k : KS) (p c : Int) (s : ByteArray) : Int × KS :=
  if turnF D k p ≠ 0 then (turnF D k p, k)
  else match portF D c with
    | none => (23, k)
    | some x =>
      if x.source ≠ p then (23, k)
      else if x.size < (s.size : Int) then (24, k)
      else if x.kind = 1 then (if x.depth ≤ ((k.chs c.toNat).length : Int) then (25, k) else (0, setCh k c.toNat (k.chs c.toNat ++ [⟨s, k.time⟩])))
      else (0, setCh k c.toNat [⟨s, k.time⟩])
def recvF (D : ManD) (k : KS) (p c : Int) : (ByteArray × Bool × Int) × KS :=
  if turnF D k p ≠ 0 then ((ByteArray.empty, false, turnF D k p), k)
  else match portF D c with
    | none => ((ByteArray.empty, false, 23), k)
    | some x =>
      if x.target ≠ p then ((ByteArray.empty, false, 23), k)
      else match k.chs c.toNat with
        | [] => ((ByteArray.empty, false, 26), k)
        | m :: l => if x.kind = 1 then ((m.text, true, 0), setCh k c.toNat l) else ((m.text, decide ((k.time : Int) - m.time ≤ x.depth), 0), k)
def raiseF (D : ManD) (k : KS) (p : Int) : Int × KS :=
  if turnF D k p ≠ 0 then (turnF D k p, k) else (0, failF D k p.toNat)
def stateF (D : ManD) (k : KS) (p : Int) : StD × Int :=
  if p < 0 ∨ (D.parts.length : Int) ≤ p then (⟨false, 0, 0⟩, 19) else (k.sts p.toNat, 0)

/- a step of a script on one kernel -/
structure StepD where
  kind : Int
  p : Int
  n : Int
  b : Int
  text : ByteArray
structure AnsD where
  n : Int
  text : ByteArray
  yes : Bool
  e : Int
def ans0 : AnsD := ⟨0, ByteArray.empty, false, 0⟩
def cutF (s : ByteArray) : ByteArray := if 8 < s.size then s.extract 0 8 else s
def whoP (D : ManD) (o : StepD) : Int := pickF o.p D.parts.length
def chanP (D : ManD) (o : StepD) : Int := if 0 < D.chans.length then pickF o.n D.chans.length else 0
def addrP (D : ManD) (o : StepD) : Int :=
  let l := regsAt D (whoP D o).toNat
  if 0 < l.length ∧ o.b % 4 ≠ 0 then
    match l[(pickF o.b l.length).toNat]? with
    | none => 0
    | some r => 64 * r.page + pickF o.n (64 * r.pages)
  else pickF o.n 4096
def doF (D : ManD) (k : KS) (o : StepD) : AnsD × KS :=
  if o.kind = 1 then (ans0, tickK k)
  else if o.kind = 2 then (⟨(readF D k (whoP D o) (addrP D o)).1, ByteArray.empty, false, (readF D k (whoP D o) (addrP D o)).2.1⟩, (readF D k (whoP D o) (addrP D o)).2.2)
  else if o.kind = 3 then (⟨0, ByteArray.empty, false, (writeF D k (whoP D o) (addrP D o) o.b).1⟩, (writeF D k (whoP D o) (addrP D o) o.b).2)
  else if o.kind = 4 then (⟨0, ByteArray.empty, false, (sendF D k (whoP D o) (chanP D o) (cutF o.text)).1⟩, (sendF D k (whoP D o) (chanP D o) (cutF o.text)).2)
  else if o.kind = 5 then (⟨0, (recvF D k (whoP D o) (chanP D o)).1.1, (recvF D k (whoP D o) (chanP D o)).1.2.1, (recvF D k (whoP D o) (chanP D o)).1.2.2⟩, (recvF D k (whoP D o) (chanP D o)).2)
  else if o.kind = 6 then (⟨0, ByteArray.empty, false, (raiseF D k (whoP D o)).1⟩, (raiseF D k (whoP D o)).2)
  else (ans0, k)

/- nothing leaks but along the channels -/
structure Shut (D : ManD) (S : Nat → Prop) : Prop where
  back : ∀ (c : Nat) (x : ChanD), D.chans[c]? = some x → S x.target.toNat → S x.source.toNat
  forth : ∀ (c : Nat) (x : ChanD), D.chans[c]? = some x → x.kind = 1 → S x.source.toNat → S x.target.toNat
structure EqvK (D : ManD) (S : Nat → Prop) (k l : KS) : Prop where
  time : k.time = l.time
  sts : ∀ q, S q → k.sts q = l.sts q
  mem : ∀ q a, S q → k.mem q a = l.mem q a
  chs : ∀ (c : Nat) (x : ChanD), D.chans[c]? = some x → S x.target.toNat → k.chs c = l.chs c
theorem EqvK.refl (D : ManD) (S : Nat → Prop) (k : KS) : EqvK D S k k := ⟨rfl, fun _ _ => rfl, fun _ _ _ => rfl, fun _ _ _ _ => rfl⟩
theorem EqvK.who {D : ManD} {S : Nat → Prop} {k l : KS} (h : EqvK D S k l) : whoF D k = whoF D l := by
  unfold whoF; rw [h.time]
theorem EqvK.turn {D : ManD} {S : Nat → Prop} {k l : KS} (h : EqvK D S k l) {p : Int} (hp : S p.toNat) : turnF D k p = turnF D l p := by
  unfold turnF; rw [h.who, h.sts _ hp]
theorem EqvK.fail {D : ManD} {S : Nat → Prop} {k l : KS} (h : EqvK D S k l) (p : Nat) : EqvK D S (failF D k p) (failF D l p) := by
  refine ⟨h.time, fun q hq => ?_, fun q a hq => ?_, fun c x hx hs => ?_⟩
  · show (if q = p then failSt (actF D p) (k.sts q) else k.sts q) = if q = p then failSt (actF D p) (l.sts q) else l.sts q
    rw [h.sts q hq]
  · show (if q = p ∧ actF D p = 3 then 0 else k.mem q a) = if q = p ∧ actF D p = 3 then 0 else l.mem q a
    rw [h.mem q a hq]
  · show (if _ then [] else k.chs c) = if _ then [] else l.chs c
    rw [h.chs c x hx hs]
theorem EqvK.failOne {D : ManD} {S : Nat → Prop} {k l : KS} (h : EqvK D S k l) {p : Nat} (hp : ¬ S p) : EqvK D S (failF D k p) l := by
  refine ⟨h.time, fun q hq => ?_, fun q a hq => ?_, fun c x hx hs => ?_⟩
  · show (if q = p then _ else k.sts q) = _
    rw [if_neg (fun e : q = p => hp (e ▸ hq)), h.sts q hq]
  · show (if q = p ∧ _ then 0 else k.mem q a) = _
    rw [if_neg (fun e => by obtain ⟨e, _⟩ := e; exact hp (e ▸ hq)), h.mem q a hq]
  · show (if _ ∧ _ then [] else k.chs c) = _
    rw [if_neg, h.chs c x hx hs]
    rintro ⟨_, e⟩
    rw [hx] at e
    have e1 : x.target = p := by simpa using e
    rw [e1, Int.toNat_natCast] at hs
    exact hp hs
theorem EqvK.setMem {D : ManD} {S : Nat → Prop} {k l : KS} (h : EqvK D S k l) (p : Nat) (a b : Int) : EqvK D S (setMem k p a b) (setMem l p a b) := by
  refine ⟨h.time, h.sts, fun q x hq => ?_, h.chs⟩
  show (if _ then b else k.mem q x) = if _ then b else l.mem q x
  rw [h.mem q x hq]
theorem EqvK.setMemOne {D : ManD} {S : Nat → Prop} {k l : KS} (h : EqvK D S k l) {p : Nat} (hp : ¬ S p) (a b : Int) : EqvK D S (C.setMem k p a b) l := by
  refine ⟨h.time, h.sts, fun q x hq => ?_, h.chs⟩
  show (if q = p ∧ x = a then b else k.mem q x) = _
  rw [if_neg (fun e => by obtain ⟨e, _⟩ := e; exact hp (e ▸ hq)), h.mem q x hq]
theorem EqvK.setCh {D : ManD} {S : Nat → Prop} {k l : KS} (h : EqvK D S k l) (c : Nat) (m : List MsgD) : EqvK D S (setCh k c m) (setCh l c m) := by
  refine ⟨h.time, h.sts, h.mem, fun d x hd hs => ?_⟩
  show (if _ then m else k.chs d) = if _ then m else l.chs d
  rw [h.chs d x hd hs]
theorem EqvK.setChOne {D : ManD} {S : Nat → Prop} {k l : KS} (h : EqvK D S k l) {c : Nat} {y : ChanD} (hy : D.chans[c]? = some y) (hp : ¬ S y.target.toNat) (m : List MsgD) : EqvK D S (C.setCh k c m) l := by
  refine ⟨h.time, h.sts, h.mem, fun d x hd hs => ?_⟩
  show (if d = c then m else k.chs d) = _
  rw [if_neg, h.chs d x hd hs]
  intro e
  subst e
  rw [hy] at hd
  cases hd
  exact hp hs
theorem EqvK.setCh2 {D : ManD} {S : Nat → Prop} {k l : KS} (h : EqvK D S k l) {c : Nat} {y : ChanD} (hy : D.chans[c]? = some y) (hp : ¬ S y.target.toNat) (m n : List MsgD) : EqvK D S (C.setCh k c m) (C.setCh l c n) := by
  refine ⟨h.time, h.sts, h.mem, fun d x hd hs => ?_⟩
  show (if d = c then m else k.chs d) = if d = c then n else l.chs d
  rw [if_neg, if_neg, h.chs d x hd hs]
  all_goals
    intro e
    subst e
    rw [hy] at hd
    cases hd
    exact hp hs
theorem EqvK.read {D : ManD} {S : Nat → Prop} {k l : KS} (h : EqvK D S k l) {p : Int} (hp : S p.toNat) (a : Int) :
    (readF D k p a).1 = (readF D l p a).1 ∧ (readF D k p a).2.1 = (readF D l p a).2.1 ∧ EqvK D S (readF D k p a).2.2 (readF D l p a).2.2 := by
  unfold readF
  rw [h.turn hp, h.mem _ a hp]
  split
  · exact ⟨rfl, rfl, h⟩
  · split
    · exact ⟨rfl, rfl, h.fail _⟩
    · exact ⟨rfl, rfl, h⟩
theorem EqvK.readOne {D : ManD} {S : Nat → Prop} {k l : KS} (h : EqvK D S k l) {p : Int} (hp : ¬ S p.toNat) (a : Int) : EqvK D S (readF D k p a).2.2 l := by
  unfold readF
  split
  · exact h
  · split
    · exact h.failOne hp
    · exact h
theorem EqvK.write {D : ManD} {S : Nat → Prop} {k l : KS} (h : EqvK D S k l) {p : Int} (hp : S p.toNat) (a b : Int) :
    (writeF D k p a b).1 = (writeF D l p a b).1 ∧ EqvK D S (writeF D k p a b).2 (writeF D l p a b).2 := by
  unfold writeF
  rw [h.turn hp]
  split
  · exact ⟨rfl, h⟩
  · split
    · exact ⟨rfl, h.fail _⟩
    · exact ⟨rfl, h.setMem _ _ _⟩
theorem EqvK.writeOne {D : ManD} {S : Nat → Prop} {k l : KS} (h : EqvK D S k l) {p : Int} (hp : ¬ S p.toNat) (a b : Int) : EqvK D S (writeF D k p a b).2 l := by
  unfold writeF
  split
  · exact h
  · split
    · exact h.failOne hp
    · exact h.setMemOne hp _ _
theorem EqvK.raise {D : ManD} {S : Nat → Prop} {k l : KS} (h : EqvK D S k l) {p : Int} (hp : S p.toNat) :
    (raiseF D k p).1 = (raiseF D l p).1 ∧ EqvK D S (raiseF D k p).2 (raiseF D l p).2 := by
  unfold raiseF
  rw [h.turn hp]
  split
  · exact ⟨rfl, h⟩
  · exact ⟨rfl, h.fail _⟩
theorem EqvK.raiseOne {D : ManD} {S : Nat → Prop} {k l : KS} (h : EqvK D S k l) {p : Int} (hp : ¬ S p.toNat) : EqvK D S (raiseF D k p).2 l := by
  unfold raiseF
  split
  · exact h
  · exact h.failOne hp
theorem port_at {D : ManD} {c : Int} {x : ChanD} (h : portF D c = some x) : D.chans[c.toNat]? = some x := by
  unfold portF at h
  split at h
  · cases h
  · exact h
theorem EqvK.send {D : ManD} {S : Nat → Prop} {k l : KS} (hS : Shut D S) (h : EqvK D S k l) {p : Int} (hp : S p.toNat) (c : Int) (s : ByteArray) :
    (sendF D k p c s).1 = (sendF D l p c s).1 ∧ EqvK D S (sendF D k p c s).2 (sendF D l p c s).2 := by
  unfold sendF
  rw [h.turn hp]
  split
  · exact ⟨rfl, h⟩
  · split
    · exact ⟨rfl, h⟩
    · rename_i x hx
      have hx' := port_at hx
      split
      · exact ⟨rfl, h⟩
      · rename_i hs
        have hs' : x.source = p := Decidable.not_not.1 hs
        split
        · exact ⟨rfl, h⟩
        · split
          · rename_i hk
            have ht : S x.target.toNat := hS.forth _ _ hx' hk (by rw [hs']; exact hp)
            rw [h.chs _ _ hx' ht, h.time]
            split
            · exact ⟨rfl, h⟩
            · exact ⟨rfl, h.setCh _ _⟩
          · rw [h.time]
            exact ⟨rfl, h.setCh _ _⟩
theorem EqvK.sendOne {D : ManD} {S : Nat → Prop} {k l : KS} (hS : Shut D S) (h : EqvK D S k l) {p : Int} (hp : ¬ S p.toNat) (c : Int) (s : ByteArray) : EqvK D S (sendF D k p c s).2 l := by
  unfold sendF
  split
  · exact h
  · split
    · exact h
    · rename_i x hx
      have hx' := port_at hx
      split
      · exact h
      · rename_i hs
        have hs' : x.source = p := Decidable.not_not.1 hs
        have ht : ¬ S x.target.toNat := fun ht => hp (by rw [← hs']; exact hS.back _ _ hx' ht)
        split
        · exact h
        · split
          · split
            · exact h
            · exact h.setChOne hx' ht _
          · exact h.setChOne hx' ht _
theorem EqvK.recv {D : ManD} {S : Nat → Prop} {k l : KS} (h : EqvK D S k l) {p : Int} (hp : S p.toNat) (c : Int) :
    (recvF D k p c).1 = (recvF D l p c).1 ∧ EqvK D S (recvF D k p c).2 (recvF D l p c).2 := by
  unfold recvF
  rw [h.turn hp]
  split
  · exact ⟨rfl, h⟩
  · split
    · exact ⟨rfl, h⟩
    · rename_i x hx
      have hx' := port_at hx
      split
      · exact ⟨rfl, h⟩
      · rename_i hs
        have hs' : x.target = p := Decidable.not_not.1 hs
        rw [h.chs _ _ hx' (by rw [hs']; exact hp), h.time]
        split
        · exact ⟨rfl, h⟩
        · split
          · exact ⟨rfl, h.setCh _ _⟩
          · exact ⟨rfl, h⟩
theorem EqvK.recvOne {D : ManD} {S : Nat → Prop} {k l : KS} (h : EqvK D S k l) {p : Int} (hp : ¬ S p.toNat) (c : Int) : EqvK D S (recvF D k p c).2 l := by
  unfold recvF
  split
  · exact h
  · split
    · exact h
    · rename_i x hx
      have hx' := port_at hx
      split
      · exact h
      · rename_i hs
        have hs' : x.target = p := Decidable.not_not.1 hs
        split
        · exact h
        · split
          · exact h.setChOne hx' (by rw [hs']; exact hp) _
          · exact h
theorem EqvK.tick {D : ManD} {S : Nat → Prop} {k l : KS} (h : EqvK D S k l) : EqvK D S (tickK k) (tickK l) :=
  ⟨by show k.time + 1 = l.time + 1; rw [h.time], h.sts, h.mem, h.chs⟩
theorem EqvK.step {D : ManD} {S : Nat → Prop} {k l : KS} (hS : Shut D S) (h : EqvK D S k l) {o : StepD} (hp : S (whoP D o).toNat) :
    (doF D k o).1 = (doF D l o).1 ∧ EqvK D S (doF D k o).2 (doF D l o).2 := by
  unfold doF
  split
  · exact ⟨rfl, h.tick⟩
  split
  · obtain ⟨h1, h2, h3⟩ := h.read hp (addrP D o)
    exact ⟨by simp only [h1, h2], h3⟩
  split
  · obtain ⟨h1, h2⟩ := h.write hp (addrP D o) o.b
    exact ⟨by simp only [h1], h2⟩
  split
  · obtain ⟨h1, h2⟩ := h.send hS hp (chanP D o) (cutF o.text)
    exact ⟨by simp only [h1], h2⟩
  split
  · obtain ⟨h1, h2⟩ := h.recv hp (chanP D o)
    exact ⟨by simp only [h1], h2⟩
  split
  · obtain ⟨h1, h2⟩ := h.raise hp
    exact ⟨by simp only [h1], h2⟩
  · exact ⟨rfl, h⟩
theorem EqvK.stepOne {D : ManD} {S : Nat → Prop} {k l : KS} (hS : Shut D S) (h : EqvK D S k l) {o : StepD} (hk : o.kind ≠ 1) (hp : ¬ S (whoP D o).toNat) : EqvK D S (doF D k o).2 l := by
  unfold doF
  rw [if_neg hk]
  split
  · exact h.readOne hp _
  split
  · exact h.writeOne hp _ _
  split
  · exact h.sendOne hS hp _ _
  split
  · exact h.recvOne hp _
  split
  · exact h.raiseOne hp
  · exact h
theorem EqvK.tickStep {D : ManD} {S : Nat → Prop} {k l : KS} (h : EqvK D S k l) {o : StepD} (hk : o.kind = 1) :
    (doF D k o).1 = ans0 ∧ (doF D l o).1 = ans0 ∧ EqvK D S (doF D k o).2 (doF D l o).2 := by
  unfold doF
  rw [if_pos hk, if_pos hk]
  exact ⟨rfl, rfl, h.tick⟩
end Go.Proofs.YteioennfpkoagabGreatDoor.C
namespace Go.Proofs.YteioennfpkoagabGreatDoor.C

theorem tick_zero {F : Int} {ps : List PartD} (h : PartsT F ps) (hne : ps ≠ []) : 0 ≤ tickF ps 0 := by
  have hl : 0 < ps.length := List.length_pos_iff.2 hne
  rcases run_spec ps 0 with ⟨_, h2, _⟩ | ⟨c, _, h2, _⟩
  · exfalso
    have h3 := h2 0 hl
    have h4 := h.dur 0 hl
    unfold nowF at h3
    rw [if_pos (by simp)] at h3
    unfold durF at h3
    rw [dif_pos hl] at h3
    omega
  · omega
theorem cnt_some {ps : List PartD} {i a : Nat} : ∀ r : Nat, 1 ≤ cntQ ps i a r → ∃ s, s < r ∧ tickF ps (a + s) = (i : Int) := by
  intro r
  induction r with
  | zero => intro h; simp [cntQ] at h
  | succ r ih =>
    intro h
    by_cases e : tickF ps (a + r) = (i : Int)
    · exact ⟨r, by omega, e⟩
    · simp only [cntQ] at h
      rw [if_neg e, Int.add_zero] at h
      obtain ⟨s, hs, h2⟩ := ih h
      exact ⟨s, by omega, h2⟩
theorem runs_once {F : Int} {ps : List PartD} (h : PartsT F ps) {i : Nat} (hi : i < ps.length) : ∃ t : Nat, (t : Int) < F ∧ tickF ps t = (i : Int) := by
  obtain ⟨h1, h2⟩ := h.per i hi
  have h3 := h.dur i hi
  have h4 := h.pos
  have hle : ps[i].period ≤ F := Int.le_of_dvd (by omega) (Int.dvd_of_emod_eq_zero h2)
  have hP : perF ps i = ((ps[i].period.toNat : Nat) : Int) := by
    unfold perF
    rw [dif_pos hi]; omega
  have hc := cnt_whole h hi hP 0
  have hd : durF ps i = ps[i].duration := by unfold durF; rw [dif_pos hi]
  obtain ⟨s, hs, h5⟩ := cnt_some (ps := ps) (i := i) (a := 0 * ps[i].period.toNat) ps[i].period.toNat (by rw [hc, hd]; exact h3)
  refine ⟨s, by omega, ?_⟩
  rwa [Nat.zero_mul, Nat.zero_add] at h5
theorem reach_mod (T t n : Nat) (ht : t < n) : ∃ j, j < n ∧ (T + j) % n = t := by
  have hm : T % n < n := Nat.mod_lt _ (by omega)
  rcases Nat.lt_or_ge t (T % n) with h | h
  · refine ⟨n - T % n + t, by omega, ?_⟩
    have e : T + (n - T % n + t) = t + n * (T / n + 1) := by
      have := Nat.div_add_mod T n
      rw [Nat.mul_add]
      omega
    rw [e, Nat.add_mul_mod_self_left, Nat.mod_eq_of_lt ht]
  · refine ⟨t - T % n, by omega, ?_⟩
    have e : T + (t - T % n) = t + n * (T / n) := by
      have := Nat.div_add_mod T n
      omega
    rw [e, Nat.add_mul_mod_self_left, Nat.mod_eq_of_lt ht]
def ticksK (k : KS) (j : Nat) : KS := { k with time := k.time + j }
theorem all_stopped {D : ManD} (h : PartsT D.frame D.parts) {k : KS} (hr : ∀ j, j < D.frame.toNat → runF D (ticksK k j) < 0) {i : Nat} (hi : i < D.parts.length) : (k.sts i).stopped = true := by
  obtain ⟨t, ht, he⟩ := runs_once h hi
  obtain ⟨j, hj, hm⟩ := reach_mod k.time t D.frame.toNat (by omega)
  have h1 := hr j hj
  have hw : whoF D (ticksK k j) = (i : Int) := by
    show tickF D.parts ((k.time + j) % D.frame.toNat) = _
    rw [hm, he]
  unfold runF at h1
  rw [hw] at h1
  by_cases hs : ((ticksK k j).sts (i : Int).toNat).stopped = true
  · exact hs
  · rw [if_neg (fun h => hs h.2)] at h1
    omega
/- nobody out of turn -/
theorem off_turn {D : ManD} {k : KS} {p : Nat} (hp : p < D.parts.length) (h : ¬ (whoF D k = (p : Int) ∧ (k.sts p).stopped = false)) : turnF D k p = if (k.sts p).stopped = true then 20 else 21 := by
  unfold turnF
  rw [if_neg (by omega), Int.toNat_natCast]
  split
  · rfl
  · rename_i hs
    rw [if_pos]
    intro e
    exact h ⟨e, by simpa using hs⟩
theorem turn_on {D : ManD} {k : KS} {p : Nat} (hp : p < D.parts.length) (h1 : whoF D k = (p : Int)) (h2 : (k.sts p).stopped = false) : turnF D k p = 0 := by
  unfold turnF
  rw [if_neg (by omega), Int.toNat_natCast, if_neg (by rw [h2]; simp), if_neg (fun h => h h1)]
theorem run_turn {D : ManD} {k : KS} {p : Int} (h : runF D k = p) (hp : 0 ≤ p) : whoF D k = p ∧ (k.sts p.toNat).stopped = false := by
  unfold runF at h
  split at h
  · omega
  · rename_i hn
    subst h
    refine ⟨rfl, ?_⟩
    cases hs : (k.sts (whoF D k).toNat).stopped
    · rfl
    · exact absurd ⟨hp, hs⟩ hn
theorem who_in (D : ManD) (k : KS) : -1 ≤ whoF D k ∧ whoF D k < D.parts.length := tick_in _ _
/- memory -/
theorem rights_low {rs : List RegD} (h : ∀ r ∈ rs, 0 ≤ r.page) : rightsF rs (-1) = 0 := by
  induction rs with
  | nil => rfl
  | cons r rs ih =>
    have h1 := h r (by simp)
    unfold rightsF
    rw [if_neg (by omega)]
    exact ih fun x hx => h x (by simp [hx])
theorem rights_first {r : RegD} {rs : List RegD} (h : 1 ≤ r.pages) : rightsF (r :: rs) (64 * r.page) = r.rights := by
  unfold rightsF
  rw [if_pos (by omega)]
theorem setMem_mem (k : KS) (p : Nat) (a b : Int) : (setMem k p a b).mem p a = b := by
  show (if p = p ∧ a = a then b else k.mem p a) = b
  rw [if_pos ⟨rfl, rfl⟩]
theorem setMem_boot (p : Nat) (a b : Int) : setMem (setMem bootK p a b) p a 0 = bootK := by
  unfold setMem bootK
  simp only []
  congr 1
  funext q x
  split <;> rfl
end Go.Proofs.YteioennfpkoagabGreatDoor.C
