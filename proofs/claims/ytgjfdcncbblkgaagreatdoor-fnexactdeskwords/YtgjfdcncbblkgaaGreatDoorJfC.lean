/- The closed facts of the row: a part. -/
import Derived.Test.YtgjfdcncbblkgaaGreatDoorRows
import Derived.JoinedOf
import Derived.JoinedCond
import Derived.KernelRfl
namespace Go.Proofs.YtgjfdcncbblkgaaGreatDoor
open Go
set_option maxRecDepth 100000
theorem jf_3 : (mapsRowed Tryz.pinned.checked.prog) = true := by kernel_rfl
theorem jf_25 : (Tryz.pinned.checked.prog.stopsHeard) = true := by kernel_rfl
theorem jf_26 : (Tryz.pinned.checked.prog.mayEnter) = true := by kernel_rfl
end Go.Proofs.YtgjfdcncbblkgaaGreatDoor
