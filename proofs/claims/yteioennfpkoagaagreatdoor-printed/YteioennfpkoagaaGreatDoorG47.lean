import Derived.Test.YteioennfpkoagaaGreatDoorG45
import Derived.Test.YteioennfpkoagaaGreatDoorG46
namespace Go.Proofs.YteioennfpkoagaaGreatDoor
theorem printedCard : Rows.PrintedCardSaid := C.printedCard_of C.madeK_true
end Go.Proofs.YteioennfpkoagaaGreatDoor
