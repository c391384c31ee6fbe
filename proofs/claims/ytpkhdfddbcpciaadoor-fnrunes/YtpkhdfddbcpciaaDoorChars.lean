/- The contract of the model's CharRight: it returns whether its number is a character, and leaves the world as it was. -/
import Derived.Test.YtpkhdfddbcpciaaDoorProg
import Derived.Test.YtpkhdfddbcpciaaDoorPlain1
import Derived.Test.YtpkhdfddbcpciaaDoorCharsI
import Derived.WalkKit
namespace Go.Proofs.YtpkhdfddbcpciaaDoor
open Go.RowKit Plain1

theorem l01Is_any (n lo hi : Int) (w : World) :
    Calls Tryd.prog 42 #[.int .i64 n, .int .i64 lo, .int .i64 hi] w fun e w' => e = .returned (.bool (decide (lo ≤ n ∧ n ≤ hi))) ∧ w' = w := by
  go_enter Tryd.func42, Tryd.ntmps42
  go_wp2
  all_goals
    go_ret
    exact ⟨ret_bool (by rw [Bool.eq_iff_iff]; simp at *; omega), rfl⟩

theorem specChar_any (n : Int) (w : World) :
    Calls Tryd.prog 21 #[.int .i64 n] w fun e w' => e = .returned (.bool (charB n)) ∧ w' = w := by
  go_enter Tryd.func21, Tryd.ntmps21
  go_wp2
  all_goals
    go_ret
    exact ⟨ret_bool (by rw [Bool.eq_iff_iff, charB_iff]; simp at *; omega), rfl⟩

end Go.Proofs.YtpkhdfddbcpciaaDoor
