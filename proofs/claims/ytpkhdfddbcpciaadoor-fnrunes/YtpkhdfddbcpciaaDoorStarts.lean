/- The contract of impl.NameStart and of the method has: a loop over a table of ranges. -/
import Derived.Test.YtpkhdfddbcpciaaDoorProg
import Derived.Test.YtpkhdfddbcpciaaDoorPlain1
import Derived.Test.YtpkhdfddbcpciaaDoorPlain2
import Derived.WalkKit
import Derived.Laws.Rows
namespace Go.Proofs.YtpkhdfddbcpciaaDoor
open Go.RowKit Plain1 Plain2

theorem has_any (n lo hi : Int) (w : World) :
    Calls Tryd.prog 43 #[.agg #[.int .i64 lo, .int .i64 hi], .int .i64 n] w fun e w' => e = .returned (.bool (decide (lo ≤ n ∧ n ≤ hi))) ∧ Below w.heap.size w w' := by
  go_enter Tryd.func43, Tryd.ntmps43
  go_wp2
  all_goals
    go_ret
    exact ⟨ret_bool (by rw [Bool.eq_iff_iff]; simp at *; omega), (Below.refl _ _).alloc (Nat.le_refl _) _⟩

theorem idxS0 (w : World) : (Instr.index 56 (.agg startCells) (.int .i64 0)).run Tryd.prog w = .ok (.agg #[.int .i64 (loOf startsL 0), .int .i64 (hiOf startsL 0)]) w := by kernel_rfl
theorem idxS1 (w : World) : (Instr.index 56 (.agg startCells) (.int .i64 1)).run Tryd.prog w = .ok (.agg #[.int .i64 (loOf startsL 1), .int .i64 (hiOf startsL 1)]) w := by kernel_rfl
theorem idxS2 (w : World) : (Instr.index 56 (.agg startCells) (.int .i64 2)).run Tryd.prog w = .ok (.agg #[.int .i64 (loOf startsL 2), .int .i64 (hiOf startsL 2)]) w := by kernel_rfl
theorem idxS3 (w : World) : (Instr.index 56 (.agg startCells) (.int .i64 3)).run Tryd.prog w = .ok (.agg #[.int .i64 (loOf startsL 3), .int .i64 (hiOf startsL 3)]) w := by kernel_rfl
theorem idxS4 (w : World) : (Instr.index 56 (.agg startCells) (.int .i64 4)).run Tryd.prog w = .ok (.agg #[.int .i64 (loOf startsL 4), .int .i64 (hiOf startsL 4)]) w := by kernel_rfl
theorem idxS5 (w : World) : (Instr.index 56 (.agg startCells) (.int .i64 5)).run Tryd.prog w = .ok (.agg #[.int .i64 (loOf startsL 5), .int .i64 (hiOf startsL 5)]) w := by kernel_rfl
theorem idxS6 (w : World) : (Instr.index 56 (.agg startCells) (.int .i64 6)).run Tryd.prog w = .ok (.agg #[.int .i64 (loOf startsL 6), .int .i64 (hiOf startsL 6)]) w := by kernel_rfl
theorem idxS7 (w : World) : (Instr.index 56 (.agg startCells) (.int .i64 7)).run Tryd.prog w = .ok (.agg #[.int .i64 (loOf startsL 7), .int .i64 (hiOf startsL 7)]) w := by kernel_rfl
theorem idxS8 (w : World) : (Instr.index 56 (.agg startCells) (.int .i64 8)).run Tryd.prog w = .ok (.agg #[.int .i64 (loOf startsL 8), .int .i64 (hiOf startsL 8)]) w := by kernel_rfl
theorem idxS9 (w : World) : (Instr.index 56 (.agg startCells) (.int .i64 9)).run Tryd.prog w = .ok (.agg #[.int .i64 (loOf startsL 9), .int .i64 (hiOf startsL 9)]) w := by kernel_rfl
theorem idxS10 (w : World) : (Instr.index 56 (.agg startCells) (.int .i64 10)).run Tryd.prog w = .ok (.agg #[.int .i64 (loOf startsL 10), .int .i64 (hiOf startsL 10)]) w := by kernel_rfl
theorem idxS11 (w : World) : (Instr.index 56 (.agg startCells) (.int .i64 11)).run Tryd.prog w = .ok (.agg #[.int .i64 (loOf startsL 11), .int .i64 (hiOf startsL 11)]) w := by kernel_rfl
theorem idxS12 (w : World) : (Instr.index 56 (.agg startCells) (.int .i64 12)).run Tryd.prog w = .ok (.agg #[.int .i64 (loOf startsL 12), .int .i64 (hiOf startsL 12)]) w := by kernel_rfl
theorem idxS13 (w : World) : (Instr.index 56 (.agg startCells) (.int .i64 13)).run Tryd.prog w = .ok (.agg #[.int .i64 (loOf startsL 13), .int .i64 (hiOf startsL 13)]) w := by kernel_rfl
theorem idxS14 (w : World) : (Instr.index 56 (.agg startCells) (.int .i64 14)).run Tryd.prog w = .ok (.agg #[.int .i64 (loOf startsL 14), .int .i64 (hiOf startsL 14)]) w := by kernel_rfl
theorem idxS15 (w : World) : (Instr.index 56 (.agg startCells) (.int .i64 15)).run Tryd.prog w = .ok (.agg #[.int .i64 (loOf startsL 15), .int .i64 (hiOf startsL 15)]) w := by kernel_rfl
theorem idxStart (k : Nat) (hk : k < 16) (w : World) : (Instr.index 56 (.agg startCells) (.int .i64 (k : Int))).run Tryd.prog w = .ok (.agg #[.int .i64 (loOf startsL k), .int .i64 (hiOf startsL k)]) w := by
  have h : k = 0 ∨ k = 1 ∨ k = 2 ∨ k = 3 ∨ k = 4 ∨ k = 5 ∨ k = 6 ∨ k = 7 ∨ k = 8 ∨ k = 9 ∨ k = 10 ∨ k = 11 ∨ k = 12 ∨ k = 13 ∨ k = 14 ∨ k = 15 := by omega
  rcases h with rfl | rfl | rfl | rfl | rfl | rfl | rfl | rfl | rfl | rfl | rfl | rfl | rfl | rfl | rfl | rfl
  · exact idxS0 w
  · exact idxS1 w
  · exact idxS2 w
  · exact idxS3 w
  · exact idxS4 w
  · exact idxS5 w
  · exact idxS6 w
  · exact idxS7 w
  · exact idxS8 w
  · exact idxS9 w
  · exact idxS10 w
  · exact idxS11 w
  · exact idxS12 w
  · exact idxS13 w
  · exact idxS14 w
  · exact idxS15 w

theorem implStart_any (n : Int) (w : World) (t : TypeId) (fr : Nat × Nat) (hg : w.heap[0]? = some (.cells startCells t fr)) :
    Calls Tryd.prog 22 #[.int .i64 n] w fun e w' => e = .returned (.bool (startB n)) ∧ Below w.heap.size w w' := by
  go_enter Tryd.func22, Tryd.ntmps22
  go_wp2_with (refine wpList_load_row rfl 56 _ rfl 0 rfl t _ fr _ hg Tryd.underlying56 rfl (by kernel_rfl) ?_)
  go_loopw [6] (fun i wr => ∃ k : Nat, k ≤ 16 ∧ i = .int .i64 k ∧ inTo startsL k n = false ∧ Below w.heap.size w wr) (fun i _ => 16 - (intOf i).toNat)
  case atStart => exact ⟨0, Nat.zero_le _, rfl, inTo_zero _ _, Below.refl _ _⟩
  case round =>
    obtain ⟨k, hk, rfl, hno, hb⟩ := hrel
    by_cases hlt : k < 16
    · have hidx := idxStart k hlt
      have hsz := hb.size
      have hsn := inTo_succ startsL k n (by simpa [startsL] using hlt)
      rw [hno, Bool.false_or] at hsn
      have HS : Hid (inTo startsL (k + 1) n = decide (loOf startsL k ≤ n ∧ n ≤ hiOf startsL k)) := hsn
      have HN : Hid (inTo startsL k n = false) := hno
      clear hsn hno
      by_cases hin : loOf startsL k ≤ n ∧ n ≤ hiOf startsL k
      · have hd : decide (loOf startsL k ≤ n ∧ n ≤ hiOf startsL k) = true := decide_eq_true hin
        clear hin
        go_wp2_with (go_at_call 43; refine (has_any _ _ _ _).mono ?_; rintro e w' ⟨rfl, hb'⟩)
        go_ret
        exact ⟨ret_bool (inTo_mono (l := startsL) (k := k + 1) (by rw [HS.out]; exact hd)).symm, hb.trans (((Below.refl _ _).alloc (Nat.le_refl _) _).trans (hb'.mono (by simp)) |>.mono hsz)⟩
      · have hd : decide (loOf startsL k ≤ n ∧ n ≤ hiOf startsL k) = false := decide_eq_false hin
        clear hin
        go_wp2_with (go_at_call 43; refine (has_any _ _ _ _).mono ?_; rintro e w' ⟨rfl, hb'⟩)
        go_roundw
        case rel => exact ⟨k + 1, by omega, by go_num, by rw [HS.out]; exact hd, hb.trans (((Below.refl _ _).alloc (Nat.le_refl _) _).trans (hb'.mono (by simp)) |>.mono hsz)⟩
        case measure => simp [intOf]; omega
    · have : k = 16 := by omega
      subst this
      go_wp2_with fail
      go_ret
      exact ⟨ret_bool (by unfold startB; rw [hno]), hb⟩
end Go.Proofs.YtpkhdfddbcpciaaDoor
