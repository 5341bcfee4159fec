/-
  DERIVED. GIVEN WITH THE SEED: THE CARDS: each row of YteioennfpkoagaaGreatDoorRows.lean that lists a variable, with what it lists TIED to the program's text (the seventh form; the later family's looks); each row that meets fmt, with fmt's text TOLD by the authors' own Lean function (tested against real Go, not proved from fmt's source: count such statements apart). THE CARD IS WHAT COUNTS. Prove the row's statement (the work); the ties are given (YteioennfpkoagaaGreatDoorTie.lean); close each card by the builder's one call (the guide's Derived/Test/ToyasCard.lean, 'card_holds'). Laid BY PROGRAM, IN A SANDBOX (cutbox-door.mjs). By AI agents, Wed Nov 11 2026. No macro, syntax, notation, axiom, sorry.
-/
import Derived.Test.YteioennfpkoagaaGreatDoorRows
import GoSem.ClaimSeven
namespace Go.Proofs.YteioennfpkoagaaGreatDoor
namespace Rows

/-- THE TIED CARD OF 'bulkheadlaw.Texts'. -/
def textsCard : Claim7 := { stood := { row := textsRow, standIns := [], harness := (true, "51ecc67746daf8b865e28e179682ebb214595f640be1c71e45a3824f392b68f6"), looks := true }, kinds := [], alts := [], laidByText := true, laidKinds := [.data, .data, .data, .handle, .sentinel, .sentinel, .sentinel, .sentinel, .sentinel, .sentinel], laidTests := true, laidLooks := .later }
def TextsCardSaid : Prop := Claim7.holds Tryz.pinned (.plain (OpenSpec.ofChange textsSpec)) textsCard

/-- THE TIED CARD OF 'bulkheadlaw.All'. -/
def allCard : Claim7 := { stood := { row := allRow, standIns := [], harness := (true, "51ecc67746daf8b865e28e179682ebb214595f640be1c71e45a3824f392b68f6"), looks := true }, kinds := [], alts := [], laidByText := true, laidKinds := [.data, .data, .data], laidTests := true, laidLooks := .later }
def AllCardSaid : Prop := Claim7.holds Tryz.pinned (.plain (OpenSpec.ofChange allSpec)) allCard

/-- THE TIED CARD OF 'bulkheadkeep.Printed'. -/
def printedCard : Claim7 := { stood := { row := printedRow, standIns := [], harness := (true, "51ecc67746daf8b865e28e179682ebb214595f640be1c71e45a3824f392b68f6"), looks := true }, kinds := [], alts := [], laidByText := true, laidKinds := [.data, .data, .data, .handle, .sentinel, .sentinel, .sentinel, .sentinel, .sentinel, .sentinel], laidTests := true, laidLooks := .later }
def PrintedCardSaid : Prop := Claim7.holds Tryz.pinned (.plain (OpenSpec.ofChange printedSpec)) printedCard

/-- THE TIED CARD OF 'bulkheadkeep.Loaded'. -/
def loadedCard : Claim7 := { stood := { row := loadedRow, standIns := [], harness := (true, "51ecc67746daf8b865e28e179682ebb214595f640be1c71e45a3824f392b68f6"), looks := true }, kinds := [], alts := [], laidByText := true, laidKinds := [.data, .data, .data], laidTests := true, laidLooks := .later }
def LoadedCardSaid : Prop := Claim7.holds Tryz.pinned (.plain (OpenSpec.ofChange loadedSpec)) loadedCard

/-- THE TIED CARD OF 'bulkheadkeep.Damaged'. -/
def damagedCard : Claim7 := { stood := { row := damagedRow, standIns := [], harness := (true, "51ecc67746daf8b865e28e179682ebb214595f640be1c71e45a3824f392b68f6"), looks := true }, kinds := [], alts := [], laidByText := true, laidKinds := [.data, .data, .data], laidTests := true, laidLooks := .later }
def DamagedCardSaid : Prop := Claim7.holds Tryz.pinned (.plain (OpenSpec.ofChange damagedSpec)) damagedCard

/-- THE TIED CARD OF 'bulkheadkeep.Apart'. -/
def apartCard : Claim7 := { stood := { row := apartRow, standIns := [], harness := (true, "51ecc67746daf8b865e28e179682ebb214595f640be1c71e45a3824f392b68f6"), looks := true }, kinds := [], alts := [], laidByText := true, laidKinds := [.data, .data, .data], laidTests := true, laidLooks := .later }
def ApartCardSaid : Prop := Claim7.holds Tryz.pinned (.plain (OpenSpec.ofChange apartSpec)) apartCard

/-- THE TIED CARD OF 'bulkheadkeep.Windows'. -/
def windowsCard : Claim7 := { stood := { row := windowsRow, standIns := [], harness := (true, "51ecc67746daf8b865e28e179682ebb214595f640be1c71e45a3824f392b68f6"), looks := true }, kinds := [], alts := [], laidByText := true, laidKinds := [.data, .data, .data], laidTests := true, laidLooks := .later }
def WindowsCardSaid : Prop := Claim7.holds Tryz.pinned (.plain (OpenSpec.ofChange windowsSpec)) windowsCard

/-- THE TIED CARD OF 'bulkheadkeep.Fails'. -/
def failsCard : Claim7 := { stood := { row := failsRow, standIns := [], harness := (true, "51ecc67746daf8b865e28e179682ebb214595f640be1c71e45a3824f392b68f6"), looks := true }, kinds := [], alts := [], laidByText := true, laidKinds := [.data, .data, .data], laidTests := true, laidLooks := .later }
def FailsCardSaid : Prop := Claim7.holds Tryz.pinned (.plain (OpenSpec.ofChange failsSpec)) failsCard

/-- THE TIED CARD OF 'bulkheadkeep.Queued'. -/
def queuedCard : Claim7 := { stood := { row := queuedRow, standIns := [], harness := (true, "51ecc67746daf8b865e28e179682ebb214595f640be1c71e45a3824f392b68f6"), looks := true }, kinds := [], alts := [], laidByText := true, laidKinds := [.data, .data, .data], laidTests := true, laidLooks := .later }
def QueuedCardSaid : Prop := Claim7.holds Tryz.pinned (.plain (OpenSpec.ofChange queuedSpec)) queuedCard

/-- THE SECOND FORM's CARD OF 'bulkheadlaw.Texts'. -/
def textsUptoCard : Claim7 := { stood := { row := textsUptoRow, standIns := [], harness := (true, "51ecc67746daf8b865e28e179682ebb214595f640be1c71e45a3824f392b68f6"), looks := true }, kinds := [], alts := [], laidByText := true, laidKinds := [.data, .data, .data, .handle, .sentinel, .sentinel, .sentinel, .sentinel, .sentinel, .sentinel], laidTests := true, laidLooks := .later }
def TextsUptoCardSaid : Prop := Claim7.holds Tryz.pinned (.plain (OpenSpec.upto textsSpec)) textsUptoCard

/-- THE SECOND FORM's CARD OF 'bulkheadlaw.All'. -/
def allUptoCard : Claim7 := { stood := { row := allUptoRow, standIns := [], harness := (true, "51ecc67746daf8b865e28e179682ebb214595f640be1c71e45a3824f392b68f6"), looks := true }, kinds := [], alts := [], laidByText := true, laidKinds := [.data, .data, .data], laidTests := true, laidLooks := .later }
def AllUptoCardSaid : Prop := Claim7.holds Tryz.pinned (.plain (OpenSpec.upto allSpec)) allUptoCard

/-- THE SECOND FORM's CARD OF 'bulkheadkeep.Printed'. -/
def printedUptoCard : Claim7 := { stood := { row := printedUptoRow, standIns := [], harness := (true, "51ecc67746daf8b865e28e179682ebb214595f640be1c71e45a3824f392b68f6"), looks := true }, kinds := [], alts := [], laidByText := true, laidKinds := [.data, .data, .data, .handle, .sentinel, .sentinel, .sentinel, .sentinel, .sentinel, .sentinel], laidTests := true, laidLooks := .later }
def PrintedUptoCardSaid : Prop := Claim7.holds Tryz.pinned (.plain (OpenSpec.upto printedSpec)) printedUptoCard

/-- THE SECOND FORM's CARD OF 'bulkheadkeep.Loaded'. -/
def loadedUptoCard : Claim7 := { stood := { row := loadedUptoRow, standIns := [], harness := (true, "51ecc67746daf8b865e28e179682ebb214595f640be1c71e45a3824f392b68f6"), looks := true }, kinds := [], alts := [], laidByText := true, laidKinds := [.data, .data, .data], laidTests := true, laidLooks := .later }
def LoadedUptoCardSaid : Prop := Claim7.holds Tryz.pinned (.plain (OpenSpec.upto loadedSpec)) loadedUptoCard

/-- THE SECOND FORM's CARD OF 'bulkheadkeep.Damaged'. -/
def damagedUptoCard : Claim7 := { stood := { row := damagedUptoRow, standIns := [], harness := (true, "51ecc67746daf8b865e28e179682ebb214595f640be1c71e45a3824f392b68f6"), looks := true }, kinds := [], alts := [], laidByText := true, laidKinds := [.data, .data, .data], laidTests := true, laidLooks := .later }
def DamagedUptoCardSaid : Prop := Claim7.holds Tryz.pinned (.plain (OpenSpec.upto damagedSpec)) damagedUptoCard

/-- THE SECOND FORM's CARD OF 'bulkheadkeep.Apart'. -/
def apartUptoCard : Claim7 := { stood := { row := apartUptoRow, standIns := [], harness := (true, "51ecc67746daf8b865e28e179682ebb214595f640be1c71e45a3824f392b68f6"), looks := true }, kinds := [], alts := [], laidByText := true, laidKinds := [.data, .data, .data], laidTests := true, laidLooks := .later }
def ApartUptoCardSaid : Prop := Claim7.holds Tryz.pinned (.plain (OpenSpec.upto apartSpec)) apartUptoCard

/-- THE SECOND FORM's CARD OF 'bulkheadkeep.Windows'. -/
def windowsUptoCard : Claim7 := { stood := { row := windowsUptoRow, standIns := [], harness := (true, "51ecc67746daf8b865e28e179682ebb214595f640be1c71e45a3824f392b68f6"), looks := true }, kinds := [], alts := [], laidByText := true, laidKinds := [.data, .data, .data], laidTests := true, laidLooks := .later }
def WindowsUptoCardSaid : Prop := Claim7.holds Tryz.pinned (.plain (OpenSpec.upto windowsSpec)) windowsUptoCard

/-- THE SECOND FORM's CARD OF 'bulkheadkeep.Fails'. -/
def failsUptoCard : Claim7 := { stood := { row := failsUptoRow, standIns := [], harness := (true, "51ecc67746daf8b865e28e179682ebb214595f640be1c71e45a3824f392b68f6"), looks := true }, kinds := [], alts := [], laidByText := true, laidKinds := [.data, .data, .data], laidTests := true, laidLooks := .later }
def FailsUptoCardSaid : Prop := Claim7.holds Tryz.pinned (.plain (OpenSpec.upto failsSpec)) failsUptoCard

/-- THE SECOND FORM's CARD OF 'bulkheadkeep.Queued'. -/
def queuedUptoCard : Claim7 := { stood := { row := queuedUptoRow, standIns := [], harness := (true, "51ecc67746daf8b865e28e179682ebb214595f640be1c71e45a3824f392b68f6"), looks := true }, kinds := [], alts := [], laidByText := true, laidKinds := [.data, .data, .data], laidTests := true, laidLooks := .later }
def QueuedUptoCardSaid : Prop := Claim7.holds Tryz.pinned (.plain (OpenSpec.upto queuedSpec)) queuedUptoCard
end Rows
end Go.Proofs.YteioennfpkoagaaGreatDoor
