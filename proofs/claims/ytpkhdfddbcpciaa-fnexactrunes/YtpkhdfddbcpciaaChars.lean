/- The contract of the model's CharRight: it returns whether its number is a character, and leaves the world as it was. -/
import Derived.Test.YtpkhdfddbcpciaaProg
import Derived.Test.YtpkhdfddbcpciaaPlain1
import Derived.Test.YtpkhdfddbcpciaaCharsI
import Derived.WalkKit
namespace Go.Proofs.Ytpkhdfddbcpciaa
open Go.RowKit Plain1

theorem l01Is_any (n lo hi : Int) (w : World) :
    Calls Try.prog 28 #[.int .i64 n, .int .i64 lo, .int .i64 hi] w fun e w' => e = .returned (.bool (decide (lo ≤ n ∧ n ≤ hi))) ∧ w' = w := by
  go_enter Try.func28, Try.ntmps28
  go_wp2
  all_goals
    go_ret
    exact ⟨ret_bool (by rw [Bool.eq_iff_iff]; simp at *; omega), rfl⟩

theorem specChar_any (n : Int) (w : World) :
    Calls Try.prog 8 #[.int .i64 n] w fun e w' => e = .returned (.bool (charB n)) ∧ w' = w := by
  go_enter Try.func8, Try.ntmps8
  go_wp2
  all_goals
    go_ret
    exact ⟨ret_bool (by rw [Bool.eq_iff_iff, charB_iff]; simp at *; omega), rfl⟩

end Go.Proofs.Ytpkhdfddbcpciaa
