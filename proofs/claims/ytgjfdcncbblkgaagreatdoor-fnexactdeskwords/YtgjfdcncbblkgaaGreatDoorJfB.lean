/- The closed facts of the row: a part. -/
import Derived.Test.YtgjfdcncbblkgaaGreatDoorRows
import Derived.JoinedOf
import Derived.JoinedCond
import Derived.KernelRfl
namespace Go.Proofs.YtgjfdcncbblkgaaGreatDoor
open Go
set_option maxRecDepth 100000
theorem jf_2 : (laidOutB Tryz.pinned.checked.prog) = true := by kernel_rfl
end Go.Proofs.YtgjfdcncbblkgaaGreatDoor
