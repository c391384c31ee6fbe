/- A tie of our own: the names. -/
import Derived.Test.YtgjfdcncbblkgaaGreatDoorTwA
namespace Go.Proofs.YtgjfdcncbblkgaaGreatDoor
open Go
set_option maxRecDepth 100000
theorem tie_hn : varsNamedLaterB Tryz.prog (varsId Tryz.prog) tieL = true := by kernel_rfl
end Go.Proofs.YtgjfdcncbblkgaaGreatDoor
