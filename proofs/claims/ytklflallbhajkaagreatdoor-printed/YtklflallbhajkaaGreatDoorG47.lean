import Derived.Test.YtklflallbhajkaaGreatDoorG45
import Derived.Test.YtklflallbhajkaaGreatDoorG46
namespace Go.Proofs.YtklflallbhajkaaGreatDoor
theorem printedCard : Rows.PrintedCardSaid := C.printedCard_of C.madeK_true
end Go.Proofs.YtklflallbhajkaaGreatDoor
