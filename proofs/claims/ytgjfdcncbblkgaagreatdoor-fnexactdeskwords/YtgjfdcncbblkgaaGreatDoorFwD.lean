/- What it reads as. -/
import Derived.Test.YtgjfdcncbblkgaaGreatDoorFwA
namespace Go.Proofs.YtgjfdcncbblkgaaGreatDoor.faceW
open Go.ChangeShapes Go.WideShapes Go.ChangeAt Go.RowKit
set_option maxRecDepth 100000
def args0 : Array Value := #[]
theorem reads (os : Os) {H : Type} (enc : TypeId × Value → H) : ∃ gs places, DataW.whole enc Tryz.prog ((({ World.holding Tryz.prog os ⟨#[], #[], []⟩ with heap := Tab.putCells (World.holding Tryz.prog os ⟨#[], #[], []⟩).heap 4 etCells } : World).layVars Tryz.prog laidP).forCall (fun _ _ => 0) ⟨#[], args0, []⟩).memory Tryz.f3.params.toList Rows.fnExactDeskWordsSpec.vars false args0.toList 8 = some ([], gs, places) :=
  ⟨[Rows.laid_loop_example_g00352_impl_nameStarts, Rows.laid_loop_example_g00352_impl_nameParts], (List.range 32).map (MemPlace.cell 0) ++ (List.range 10).map (MemPlace.cell 1), by kernel_rfl⟩
theorem okB (os : Os) : Input.okWideB Tryz.prog ((({ World.holding Tryz.prog os ⟨#[], #[], []⟩ with heap := Tab.putCells (World.holding Tryz.prog os ⟨#[], #[], []⟩).heap 4 etCells } : World).layVars Tryz.prog laidP).forCall (fun _ _ => 0) ⟨#[], args0, []⟩) 3 ⟨#[], args0, []⟩ = true := by kernel_rfl
end Go.Proofs.YtgjfdcncbblkgaaGreatDoor.faceW
