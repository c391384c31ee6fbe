/- Plain mathematics of the first layer's characters: which numbers are characters. Nothing of the program is named here. -/
import Derived.WalkKit
namespace Go.Proofs.YtgjfdcncbblkgaaGreatDoor.Plain1

/-- The numbers that are characters. -/
def charB (n : Int) : Bool :=
  decide (n = 9 ∨ n = 10 ∨ n = 13 ∨ (32 ≤ n ∧ n ≤ 55295) ∨ (57344 ≤ n ∧ n ≤ 65533) ∨ (65536 ≤ n ∧ n ≤ 1114111))

theorem charB_yes {n : Int} (h : n = 9 ∨ n = 10 ∨ n = 13 ∨ (32 ≤ n ∧ n ≤ 55295) ∨ (57344 ≤ n ∧ n ≤ 65533) ∨ (65536 ≤ n ∧ n ≤ 1114111)) : charB n = true := by
  unfold charB; exact decide_eq_true h
theorem charB_no {n : Int} (h : ¬ (n = 9 ∨ n = 10 ∨ n = 13 ∨ (32 ≤ n ∧ n ≤ 55295) ∨ (57344 ≤ n ∧ n ≤ 65533) ∨ (65536 ≤ n ∧ n ≤ 1114111))) : charB n = false := by
  unfold charB; exact decide_eq_false h
theorem charB_iff (n : Int) : charB n = true ↔ (n = 9 ∨ n = 10 ∨ n = 13 ∨ (32 ≤ n ∧ n ≤ 55295) ∨ (57344 ≤ n ∧ n ≤ 65533) ∨ (65536 ≤ n ∧ n ≤ 1114111)) := by
  unfold charB; exact decide_eq_true_iff

theorem ret_bool {a b : Bool} (h : a = b) : Ending.returned (.bool a) = .returned (.bool b) := by rw [h]
theorem ret_int {k : IntKind} {a b : Int} (h : a = b) : Ending.returned (.int k a) = .returned (.int k b) := by rw [h]
end Go.Proofs.YtgjfdcncbblkgaaGreatDoor.Plain1
