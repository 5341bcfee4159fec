import Derived.Test.YteioennfpkoagaaGreatDoorPureP
namespace Go.Proofs.YteioennfpkoagaaGreatDoor
open Go.RowKit

theorem mustR_one {l : List UInt8} {r : RS} {kw : List UInt8} (h : isR l r kw = true) : mustR l r [kw] = nextR r := by simp [mustR, h]
theorem regsR_le (l : List UInt8) (f : Nat) (r : RS) (acc : List Reg) : LeR r (regsR l f r acc).2 := by
  induction f generalizing r acc with
  | zero => exact LeR.refl r
  | succ f ih =>
    simp only [regsR]; split
    · exact ((nextR_le r).trans (regionR_le l r)).trans (ih _ _)
    · exact LeR.refl r
theorem partHeadR_le (l : List UInt8) (r : RS) : LeR (mustR l r [kPartition]) (partHeadR l r).2 := by
  unfold partHeadR
  simp only []
  refine LeR.trans ?_ (mustR_le _ _ _)
  refine LeR.trans ?_ (oneOfR_le _ _ _ _)
  refine LeR.trans ?_ (mustR_le _ _ _)
  refine LeR.trans ?_ (numberR_le _ _)
  refine LeR.trans ?_ (mustR_le _ _ _)
  refine LeR.trans ?_ (numberR_le _ _)
  refine LeR.trans ?_ (mustR_le _ _ _)
  exact someR_le _ _ _
theorem partitionR_le (l : List UInt8) (F : Nat) (r : RS) (h : isR l r kPartition = true) : LeR (nextR r) (partitionR l F r).2 := by
  have h1 := partHeadR_le l r
  rw [mustR_one h] at h1
  unfold partitionR
  simp only []
  refine LeR.trans ?_ (mustR_le _ _ _)
  refine LeR.trans ?_ (regsR_le _ _ _ _)
  exact h1
theorem channelR_le (l : List UInt8) (names : List (List UInt8)) (r : RS) (h : isR l r kChannel = true) : LeR (nextR r) (channelR l names r).2 := by
  have : LeR (mustR l r [kChannel]) (channelR l names r).2 := by
    unfold channelR
    simp only []
    refine LeR.trans ?_ (mustR_le _ _ _)
    refine LeR.trans ?_ (numberR_le _ _)
    refine LeR.trans ?_ (numberR_le _ _)
    refine LeR.trans ?_ (oneOfR_le _ _ _ _)
    refine LeR.trans ?_ (endR_le _ _ _)
    refine LeR.trans ?_ (mustR_le _ _ _)
    refine LeR.trans ?_ (endR_le _ _ _)
    exact someR_le _ _ _
  rw [mustR_one h] at this
  exact this
def partsR (l : List UInt8) (N : Nat) : Nat → RS → List Part → List Part × RS
  | 0, r, acc => (acc, r)
  | f + 1, r, acc => if isR l r kPartition = true then partsR l N f (partitionR l N r).2 (acc ++ [(partitionR l N r).1]) else (acc, r)
theorem partsR_stop (l : List UInt8) (N f : Nat) (r : RS) (acc : List Part) (h : isR l r kPartition = false) : partsR l N f r acc = (acc, r) := by
  cases f <;> simp [partsR, h]
theorem partsR_on (l : List UInt8) (N f : Nat) (r : RS) (acc : List Part) (h : isR l r kPartition = true) : partsR l N (f + 1) r acc = partsR l N f (partitionR l N r).2 (acc ++ [(partitionR l N r).1]) := by
  simp [partsR, h]
def chansR (l : List UInt8) (names : List (List UInt8)) : Nat → RS → List Chan → List Chan × RS
  | 0, r, acc => (acc, r)
  | f + 1, r, acc => if isR l r kChannel = true then chansR l names f (channelR l names r).2 (acc ++ [(channelR l names r).1]) else (acc, r)
theorem chansR_stop (l : List UInt8) (names : List (List UInt8)) (f : Nat) (r : RS) (acc : List Chan) (h : isR l r kChannel = false) : chansR l names f r acc = (acc, r) := by
  cases f <;> simp [chansR, h]
theorem chansR_on (l : List UInt8) (names : List (List UInt8)) (f : Nat) (r : RS) (acc : List Chan) (h : isR l r kChannel = true) : chansR l names (f + 1) r acc = chansR l names f (channelR l names r).2 (acc ++ [(channelR l names r).1]) := by
  simp [chansR, h]
/- all of it -/
structure Mani where
  frame : Int
  parts : List Part
  chans : List Chan
def parseR (l : List UInt8) (N : Nat) : Mani × RS :=
  let f := numberR l (mustR l ⟨0, 0, 0, 0⟩ [kModule])
  let p := partsR l N N (mustR l f.2 [kSemi]) []
  let c := chansR l (p.1.map Part.name) N p.2 []
  (⟨f.1, p.1, c.1⟩, if c.2.e = 0 ∧ (tk l c.2.at').sort ≠ 0 then failR l c.2 1 else c.2)
/- N is the number of a text's tokens, the end with them -/
def TokN (l : List UInt8) (N : Nat) : Prop := 1 ≤ N ∧ pos l (N - 1) = l.length ∧ ∀ j, j < N - 1 → pos l j < l.length
end Go.Proofs.YteioennfpkoagaaGreatDoor
