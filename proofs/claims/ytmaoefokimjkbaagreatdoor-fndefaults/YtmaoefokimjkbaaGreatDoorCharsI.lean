import Derived.Test.YtmaoefokimjkbaaGreatDoorProg
import Derived.Test.YtmaoefokimjkbaaGreatDoorPlA
import Derived.WalkKit
namespace Go.Proofs.YtmaoefokimjkbaaGreatDoor
open Go.RowKit Plain1
theorem implChar_any (n : Int) (w : World) :
 Calls Tryz.prog 20 #[.int .i64 n] w fun e w' => e = .returned (.bool (charB n)) ∧ w' = w := by
 go_enter Tryz.func20, Tryz.ntmps20
 go_wp2
 all_goals
  go_ret
  exact ⟨ret_bool (by rw [Bool.eq_iff_iff, charB_iff]; simp at *; omega), rfl⟩
end Go.Proofs.YtmaoefokimjkbaaGreatDoor
