/- The contract of the model's NamePart. -/
import Derived.Test.YtpkhdfddbcpciaaDoorStartsModel
namespace Go.Proofs.YtpkhdfddbcpciaaDoor
open Go.RowKit Plain1 Plain2

theorem specPart_any (n : Int) (w : World) :
    Calls Tryd.prog 25 #[.int .i64 n] w fun e w' => e = .returned (.bool (partB n)) ∧ Below w.heap.size w w' := by
  by_cases hs : startB n = true
  · go_enter Tryd.func25, Tryd.ntmps25
    go_wp2_with (first | (go_at_call 23; refine (specStart_any _ _).mono ?_; rintro e w1 ⟨rfl, hb1⟩) | go_in)
    go_ret
    exact ⟨ret_bool (by rw [partB_eq, hs]; rfl), hb1⟩
  · have hs' : startB n = false := by simpa using hs
    clear hs
    go_enter Tryd.func25, Tryd.ntmps25
    go_wp2_with (first | (go_at_call 23; refine (specStart_any _ _).mono ?_; rintro e w1 ⟨rfl, hb1⟩) | go_in)
    all_goals
      go_ret
      exact ⟨ret_bool (by rw [partB_eq, hs']; apply Bool.eq_iff_iff.2; simp at *; try omega), by assumption⟩
end Go.Proofs.YtpkhdfddbcpciaaDoor
