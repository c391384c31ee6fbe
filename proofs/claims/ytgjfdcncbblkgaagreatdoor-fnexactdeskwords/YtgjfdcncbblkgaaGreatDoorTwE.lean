/- A tie of our own: the handles. -/
import Derived.Test.YtgjfdcncbblkgaaGreatDoorTwA
namespace Go.Proofs.YtgjfdcncbblkgaaGreatDoor
open Go
set_option maxRecDepth 100000
theorem tie_h3 : ∀ os tape, (tieL.filter fun x => x.2.handleName?.isSome).all (handleAtB Tryz.prog (varsWorld Tryz.prog 400 (varsId Tryz.prog) os tape).memory) = true := fun _ _ => by kernel_rfl
end Go.Proofs.YtgjfdcncbblkgaaGreatDoor
