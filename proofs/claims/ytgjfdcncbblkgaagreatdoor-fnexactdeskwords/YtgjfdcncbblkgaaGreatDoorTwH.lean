/- A tie of our own: their rows. -/
import Derived.Test.YtgjfdcncbblkgaaGreatDoorTwF
namespace Go.Proofs.YtgjfdcncbblkgaaGreatDoor
open Go
set_option maxRecDepth 100000
theorem tie_c : ∀ os tape, laidRowsB Tryz.prog (varsWorld Tryz.prog 400 (varsId Tryz.prog) os tape).memory psE = true := fun _ _ => by kernel_rfl
end Go.Proofs.YtgjfdcncbblkgaaGreatDoor
