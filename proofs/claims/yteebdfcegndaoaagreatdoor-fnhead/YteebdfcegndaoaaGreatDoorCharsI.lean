/- The contract of the program's CharRight: it returns whether its number is a character, and leaves the world as it was. -/
import Derived.Test.YteebdfcegndaoaaGreatDoorProg
import Derived.Test.YteebdfcegndaoaaGreatDoorPlA
import Derived.WalkKit
namespace Go.Proofs.YteebdfcegndaoaaGreatDoor
open Go.RowKit Plain1

theorem implChar_any (n : Int) (w : World) :
    Calls Tryz.prog 71 #[.int .i64 n] w fun e w' => e = .returned (.bool (charB n)) ∧ w' = w := by
  go_enter Tryz.func71, Tryz.ntmps71
  go_wp2
  all_goals
    go_ret
    exact ⟨ret_bool (by rw [Bool.eq_iff_iff, charB_iff]; simp at *; omega), rfl⟩
end Go.Proofs.YteebdfcegndaoaaGreatDoor
