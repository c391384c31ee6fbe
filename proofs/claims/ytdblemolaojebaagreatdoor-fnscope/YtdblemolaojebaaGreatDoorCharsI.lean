import Derived.Test.YtdblemolaojebaaGreatDoorProg
import Derived.Test.YtdblemolaojebaaGreatDoorPlA
namespace Go.Proofs.YtdblemolaojebaaGreatDoor
open Go.RowKit Plain1
theorem aKt (n : Int) (w : World) :
 Calls Tryz.prog 15 #[.int .i64 n] w fun e w' => e = .returned (.bool (aZq n)) ∧ w' = w := by
 go_enter Tryz.func15, Tryz.ntmps15
 go_wp2
 all_goals
  go_ret
  exact ⟨aVc (by rw [Bool.eq_iff_iff, aJi]; simp at *; omega), rfl⟩
end Go.Proofs.YtdblemolaojebaaGreatDoor
