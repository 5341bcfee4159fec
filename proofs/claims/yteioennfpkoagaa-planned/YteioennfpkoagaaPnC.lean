import Derived.Test.YteioennfpkoagaaPnB
import Derived.Test.YteioennfpkoagaaMkC
namespace Go.Proofs.Yteioennfpkoagaa
theorem planned : Rows.PlannedSaid := C.planned_said C.madeK_true
end Go.Proofs.Yteioennfpkoagaa
