import Derived.Test.YtklflallbhajkaaPnB
import Derived.Test.YtklflallbhajkaaMkZ
namespace Go.Proofs.Ytklflallbhajkaa
theorem plannedUpto : Rows.PlannedUptoSaid := C.planned_said C.madeK_true
end Go.Proofs.Ytklflallbhajkaa
