/- A tie of our own: no place twice. -/
import Derived.Test.YtgjfdcncbblkgaaGreatDoorTwA
namespace Go.Proofs.YtgjfdcncbblkgaaGreatDoor
open Go
set_option maxRecDepth 100000
abbrev psE : List MemPlace := (List.range 32).map (MemPlace.cell 0) ++ (List.range 10).map (MemPlace.cell 1) ++ (List.range 32).map (MemPlace.cell 8) ++ (List.range 128).map (MemPlace.cell 9) ++ (List.range 1).map (MemPlace.cell 10) ++ (List.range 188).map (MemPlace.cell 21) ++ (List.range 1).map (MemPlace.cell 12) ++ (List.range 1).map (MemPlace.cell 20) ++ (List.range 1).map (MemPlace.cell 13) ++ (List.range 1).map (MemPlace.cell 19) ++ (List.range 20).map (MemPlace.cell 2) ++ (List.range 32).map (MemPlace.cell 5) ++ (List.range 64).map (MemPlace.cell 6)
theorem tie_b : decide psE.Nodup = true := by kernel_rfl
end Go.Proofs.YtgjfdcncbblkgaaGreatDoor
