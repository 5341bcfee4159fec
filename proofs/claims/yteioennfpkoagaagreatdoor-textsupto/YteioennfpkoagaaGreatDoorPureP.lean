import Derived.Test.YteioennfpkoagaaGreatDoorPureR
namespace Go.Proofs.YteioennfpkoagaaGreatDoor
open Go.RowKit

/- what is read: a region, a partition, a channel -/
structure Reg where
  page : Int
  pages : Int
  rights : Nat
structure Part where
  name : List UInt8
  period : Int
  duration : Int
  action : Nat
  regs : List Reg
structure Chan where
  name : List UInt8
  source : Nat
  target : Nat
  kind : Nat
  size : Int
  depth : Int
def kModule : List UInt8 := [109, 111, 100, 117, 108, 101]
def kPartition : List UInt8 := [112, 97, 114, 116, 105, 116, 105, 111, 110]
def kPeriod : List UInt8 := [112, 101, 114, 105, 111, 100]
def kDuration : List UInt8 := [100, 117, 114, 97, 116, 105, 111, 110]
def kFault : List UInt8 := [102, 97, 117, 108, 116]
def kMemory : List UInt8 := [109, 101, 109, 111, 114, 121]
def kChannel : List UInt8 := [99, 104, 97, 110, 110, 101, 108]
def kActions : List (List UInt8) := [[105, 103, 110, 111, 114, 101], [115, 116, 111, 112], [114, 101, 115, 116, 97, 114, 116]]
def kRights : List (List UInt8) := [[108, 111, 111, 107], [99, 104, 97, 110, 103, 101]]
def kKinds : List (List UInt8) := [[113, 117, 101, 117, 101], [115, 97, 109, 112, 108, 101]]
def kOpen : List UInt8 := [123]
def kShut : List UInt8 := [125]
def kSemi : List UInt8 := [59]
def kArrow : List UInt8 := [45, 62]

/- Measures: how many tokens are left, none if something was wrong. -/
def leftR (N : Nat) (r : RS) : Nat := if r.e ≠ 0 then 0 else N - r.at'
/- r2 comes behind r1: not back in the text, and an error stays -/
def LeR (r1 r2 : RS) : Prop := r1.at' ≤ r2.at' ∧ (r1.e ≠ 0 → r2.e ≠ 0)
theorem LeR.refl (r : RS) : LeR r r := ⟨Nat.le_refl _, id⟩
theorem LeR.trans {a b c : RS} (h : LeR a b) (k : LeR b c) : LeR a c := ⟨Nat.le_trans h.1 k.1, fun x => k.2 (h.2 x)⟩
theorem failR_le (l : List UInt8) (r : RS) (er : Nat) : LeR r (failR l r er) := by
  unfold failR; split
  · exact LeR.refl r
  · exact ⟨Nat.le_refl _, fun h => absurd h (by assumption)⟩
theorem nextR_le (r : RS) : LeR r (nextR r) := ⟨Nat.le_succ _, id⟩
theorem mustR_le (l : List UInt8) (r : RS) (kws : List (List UInt8)) : LeR r (mustR l r kws) := by
  induction kws generalizing r with
  | nil => exact LeR.refl r
  | cons kw t ih =>
    simp only [mustR]; split
    · exact (nextR_le r).trans (ih _)
    · exact failR_le l r 1
theorem someR_le (l : List UInt8) (r : RS) (st : Nat) : LeR r (someR l r st).2 := by
  unfold someR; split
  · exact LeR.refl r
  · split
    · exact failR_le l r 1
    · exact nextR_le r
theorem numberR_le (l : List UInt8) (r : RS) : LeR r (numberR l r).2 := someR_le l r 2
theorem oneOfR_le (l : List UInt8) (r : RS) (i : Nat) (kws : List (List UInt8)) : LeR r (oneOfR l r i kws).2 := by
  induction kws generalizing i with
  | nil => exact failR_le l r 1
  | cons kw t ih =>
    simp only [oneOfR]; split
    · exact nextR_le r
    · exact ih _
theorem endGo_le (l : List UInt8) (r : RS) (i : Nat) (kws : List (List UInt8)) : LeR r (endGo l r i kws).2 := by
  induction kws generalizing i with
  | nil => exact failR_le l r _
  | cons kw t ih =>
    simp only [endGo]; split
    · exact nextR_le r
    · exact ih _
theorem endR_le (l : List UInt8) (r : RS) (names : List (List UInt8)) : LeR r (endR l r names).2 := by
  unfold endR; split
  · exact LeR.refl r
  · exact endGo_le l r 0 names

def regionR (l : List UInt8) (r0 : RS) : Reg × RS :=
  let r := nextR r0
  let p := numberR l r
  let q := numberR l p.2
  let o := oneOfR l q.2 0 kRights
  (⟨p.1, q.1, o.1⟩, mustR l o.2 [kSemi])
theorem regionR_le (l : List UInt8) (r : RS) : LeR (nextR r) (regionR l r).2 :=
  (((numberR_le l _).trans (numberR_le l _)).trans (oneOfR_le l _ 0 _)).trans (mustR_le l _ _)
def regsR (l : List UInt8) : Nat → RS → List Reg → List Reg × RS
  | 0, r, acc => (acc, r)
  | f + 1, r, acc => if isR l r kMemory = true then regsR l f (regionR l r).2 (acc ++ [(regionR l r).1]) else (acc, r)
theorem isR_e {l : List UInt8} {r : RS} {kw : List UInt8} (h : isR l r kw = true) : r.e = 0 := by simp [isR] at h; exact h.1
theorem left_lt {N : Nat} {r r' : RS} (hat : r.at' < N) (he : r.e = 0) (h : LeR (nextR r) r') : leftR N r' < leftR N r := by
  have h1 : r.at' + 1 ≤ r'.at' := h.1
  have e : leftR N r = N - r.at' := by unfold leftR; rw [if_neg (by simp [he])]
  rw [e]; unfold leftR
  split <;> omega
theorem regsR_stop (l : List UInt8) (f : Nat) (r : RS) (acc : List Reg) (h : isR l r kMemory = false) : regsR l f r acc = (acc, r) := by
  cases f <;> simp [regsR, h]
theorem regsR_on (l : List UInt8) (f : Nat) (r : RS) (acc : List Reg) (h : isR l r kMemory = true) : regsR l (f + 1) r acc = regsR l f (regionR l r).2 (acc ++ [(regionR l r).1]) := by
  simp [regsR, h]
def partHeadR (l : List UInt8) (r0 : RS) : (List UInt8 × Int × Int × Nat) × RS :=
  let r1 := mustR l r0 [kPartition]
  let n := someR l r1 1
  let p := numberR l (mustR l n.2 [kOpen, kPeriod])
  let d := numberR l (mustR l p.2 [kSemi, kDuration])
  let a := oneOfR l (mustR l d.2 [kSemi, kFault]) 0 kActions
  ((n.1, p.1, d.1, a.1), mustR l a.2 [kSemi])
def partitionR (l : List UInt8) (F : Nat) (r0 : RS) : Part × RS :=
  let h := partHeadR l r0
  let g := regsR l F h.2 []
  (⟨h.1.1, h.1.2.1, h.1.2.2.1, h.1.2.2.2, g.1⟩, mustR l g.2 [kShut])
def channelR (l : List UInt8) (names : List (List UInt8)) (r0 : RS) : Chan × RS :=
  let n := someR l (mustR l r0 [kChannel]) 1
  let s := endR l n.2 names
  let t := endR l (mustR l s.2 [kArrow]) names
  let k := oneOfR l t.2 0 kKinds
  let z := numberR l k.2
  let d := numberR l z.2
  (⟨n.1, s.1, t.1, k.1, z.1, d.1⟩, mustR l d.2 [kSemi])
end Go.Proofs.YteioennfpkoagaaGreatDoor
