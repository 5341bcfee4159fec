/-
  DERIVED. GIVEN WITH THE SEED: THE CARDS: each row of YteioennfpkoagabGreatDoorRows.lean that lists a variable, with what it lists TIED to the program's text (the seventh form; the later family's looks); each row that meets fmt, with fmt's text TOLD by the authors' own Lean function (tested against real Go, not proved from fmt's source: count such statements apart). THE CARD IS WHAT COUNTS. Prove the row's statement (the work); the ties are given (YteioennfpkoagabGreatDoorTie.lean); close each card by the builder's one call (the guide's Derived/Test/ToyasCard.lean, 'card_holds'). Laid BY PROGRAM, IN A SANDBOX (cutbox-door.mjs). By AI agents, Wed Nov 11 2026. No macro, syntax, notation, axiom, sorry.
-/
import Derived.Test.YteioennfpkoagabGreatDoorRows
import GoSem.ClaimSeven
namespace Go.Proofs.YteioennfpkoagabGreatDoor
namespace Rows

/-- THE TIED CARD OF 'bulkheadkeep.Ahead'. -/
def aheadCard : Claim7 := { stood := { row := aheadRow, standIns := [], harness := (true, "a80f1e9cd97642d28403a71d947adac2699d2afe795e62d1e3e6c9a3cf88e0f5"), looks := true }, kinds := [], alts := [], laidByText := true, laidKinds := [.data, .data, .data], laidTests := true, laidLooks := .later }
def AheadCardSaid : Prop := Claim7.holds Tryz.pinned (.plain (OpenSpec.ofChange aheadSpec)) aheadCard

/-- THE SECOND FORM's CARD OF 'bulkheadkeep.Ahead'. -/
def aheadUptoCard : Claim7 := { stood := { row := aheadUptoRow, standIns := [], harness := (true, "a80f1e9cd97642d28403a71d947adac2699d2afe795e62d1e3e6c9a3cf88e0f5"), looks := true }, kinds := [], alts := [], laidByText := true, laidKinds := [.data, .data, .data], laidTests := true, laidLooks := .later }
def AheadUptoCardSaid : Prop := Claim7.holds Tryz.pinned (.plain (OpenSpec.upto aheadSpec)) aheadUptoCard
end Rows
end Go.Proofs.YteioennfpkoagabGreatDoor
