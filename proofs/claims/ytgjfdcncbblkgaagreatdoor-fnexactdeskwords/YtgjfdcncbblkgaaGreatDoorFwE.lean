/- Its shape. -/
import Derived.Test.YtgjfdcncbblkgaaGreatDoorFwD
namespace Go.Proofs.YtgjfdcncbblkgaaGreatDoor.faceW
open Go.ChangeShapes Go.WideShapes Go.ChangeAt Go.RowKit
set_option maxRecDepth 100000
theorem shp (os : Os) : ((({ World.holding Tryz.prog os ⟨#[], #[], []⟩ with heap := Tab.putCells (World.holding Tryz.prog os ⟨#[], #[], []⟩).heap 4 etCells } : World).layVars Tryz.prog laidP).forCall (fun _ _ => 0) ⟨#[], args0, []⟩).Shaped Tryz.prog := World.shaped_of_ZipB (by kernel_rfl) (by kernel_rfl)
end Go.Proofs.YtgjfdcncbblkgaaGreatDoor.faceW
