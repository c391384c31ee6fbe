/- Its interfaces. -/
import Derived.Test.YtgjfdcncbblkgaaGreatDoorFwA
namespace Go.Proofs.YtgjfdcncbblkgaaGreatDoor.faceW
open Go.ChangeShapes Go.WideShapes Go.ChangeAt Go.RowKit
set_option maxRecDepth 100000
theorem ifaces (os : Os) : ({ World.holding Tryz.prog os ⟨#[], #[], []⟩ with heap := Tab.putCells (World.holding Tryz.prog os ⟨#[], #[], []⟩).heap 4 etCells } : World).layIfaces Tryz.prog laidP (({ World.holding Tryz.prog os ⟨#[], #[], []⟩ with heap := Tab.putCells (World.holding Tryz.prog os ⟨#[], #[], []⟩).heap 4 etCells } : World).layVars Tryz.prog laidP) = true := by kernel_rfl
end Go.Proofs.YtgjfdcncbblkgaaGreatDoor.faceW
