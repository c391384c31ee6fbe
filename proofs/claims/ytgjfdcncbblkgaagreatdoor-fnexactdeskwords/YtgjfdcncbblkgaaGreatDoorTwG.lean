/- A tie of our own: the places. -/
import Derived.Test.YtgjfdcncbblkgaaGreatDoorTwF
namespace Go.Proofs.YtgjfdcncbblkgaaGreatDoor
open Go
set_option maxRecDepth 100000
theorem tie_a : ∀ os tape, (DataW.laidRun Tryz.prog (varsWorld Tryz.prog 400 (varsId Tryz.prog) os tape).memory 8 ((tieL.filter fun x => x.2.handleName?.isNone).map (·.1))).map (·.2) = some psE := fun _ _ => by kernel_rfl
end Go.Proofs.YtgjfdcncbblkgaaGreatDoor
