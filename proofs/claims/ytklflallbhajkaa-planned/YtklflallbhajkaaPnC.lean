import Derived.Test.YtklflallbhajkaaPnB
import Derived.Test.YtklflallbhajkaaMkC
namespace Go.Proofs.Ytklflallbhajkaa
theorem planned : Rows.PlannedSaid := C.planned_said C.madeK_true
end Go.Proofs.Ytklflallbhajkaa
