/- The contract of the model's NameStart: below 128 by tests, else a loop over a slice of ranges. -/
import Derived.Test.YtpkhdfddbcpciaaDoorChars
import Derived.Test.YtpkhdfddbcpciaaDoorPlain2
import Derived.WalkKit
import Derived.WalkSmall
import Derived.Deep.QuietTactic
import Derived.BigQuiet
namespace Go.Proofs.YtpkhdfddbcpciaaDoor
open Go.RowKit Plain1 Plain2

theorem specStart_low (n : Int) (w : World) (h : n < 128) :
    Calls Tryd.prog 23 #[.int .i64 n] w fun e w' => e = .returned (.bool (startB n)) ∧ Below w.heap.size w w' := by
  rw [startB_low h]
  go_enter Tryd.func23, Tryd.ntmps23
  go_wp2
  all_goals
    go_ret
    exact ⟨ret_bool (by apply Bool.eq_iff_iff.2; simp at *; try omega), Below.refl _ _⟩

theorem modelCell (j : Nat) (hj : j < 24) : (#[.int .i64 192, .int .i64 214, .int .i64 216, .int .i64 246, .int .i64 248, .int .i64 767, .int .i64 880, .int .i64 893, .int .i64 895, .int .i64 8191, .int .i64 8204, .int .i64 8205, .int .i64 8304, .int .i64 8591, .int .i64 11264, .int .i64 12271, .int .i64 12289, .int .i64 55295, .int .i64 63744, .int .i64 64975, .int .i64 65008, .int .i64 65533, .int .i64 65536, .int .i64 983039] : Array Value)[j]? = some (.int .i64 (modelL.getD j 0)) := by
  have e : (#[.int .i64 192, .int .i64 214, .int .i64 216, .int .i64 246, .int .i64 248, .int .i64 767, .int .i64 880, .int .i64 893, .int .i64 895, .int .i64 8191, .int .i64 8204, .int .i64 8205, .int .i64 8304, .int .i64 8591, .int .i64 11264, .int .i64 12271, .int .i64 12289, .int .i64 55295, .int .i64 63744, .int .i64 64975, .int .i64 65008, .int .i64 65533, .int .i64 65536, .int .i64 983039] : Array Value) = (modelL.map (Value.int .i64)).toArray := rfl
  rw [e]
  have hl : j < modelL.length := hj
  simp [List.getD, hl]
theorem modelPair (k : Nat) (hk : k < 12) : modelL.getD (2 * k) 0 = loOf modelP k ∧ modelL.getD (2 * k + 1) 0 = hiOf modelP k := by
  have h : k = 0 ∨ k = 1 ∨ k = 2 ∨ k = 3 ∨ k = 4 ∨ k = 5 ∨ k = 6 ∨ k = 7 ∨ k = 8 ∨ k = 9 ∨ k = 10 ∨ k = 11 := by omega
  rcases h with rfl | rfl | rfl | rfl | rfl | rfl | rfl | rfl | rfl | rfl | rfl | rfl <;> exact ⟨rfl, rfl⟩

theorem specStart_high (n : Int) (w : World) (h : 128 ≤ n) :
    Calls Tryd.prog 23 #[.int .i64 n] w fun e w' => e = .returned (.bool (startB n)) ∧ Below w.heap.size w w' := by
  rw [startB_high h]
  go_enter Tryd.func23, Tryd.ntmps23
  go_wp2
  go_loopw [4] (fun i wr => ∃ k : Nat, k ≤ 12 ∧ i = .int .i64 ((2 * k : Nat) : Int) ∧ inTo modelP k n = false ∧ Below w.heap.size w wr ∧ ∀ j, j < 24 → wr.cell? ⟨w.heap.size, j, none⟩ = some (.int .i64 (modelL.getD j 0))) (fun i _ => 24 - (intOf i).toNat)
  case atStart =>
    refine ⟨0, Nat.zero_le _, rfl, inTo_zero _ _, (Below.refl _ _).alloc (Nat.le_refl _) _, fun j hj => ?_⟩
    rw [World.cell?_alloc_new]
    exact modelCell j hj
  case round =>
    obtain ⟨k, hk, rfl, hno, hb, hc⟩ := hrel
    by_cases hlt : k < 12
    · have c0 := hc (2 * k) (by omega)
      have c1 := hc (2 * k + 1) (by omega)
      rw [(modelPair k hlt).1] at c0
      rw [(modelPair k hlt).2] at c1
      have HC : Hid (∀ j, j < 24 → wr.cell? ⟨w.heap.size, j, none⟩ = some (.int .i64 (modelL.getD j 0))) := hc
      clear hc
      have hsn := inTo_succ modelP k n (by simpa [modelP, startsL] using hlt)
      rw [hno, Bool.false_or] at hsn
      have HS : Hid (inTo modelP (k + 1) n = decide (loOf modelP k ≤ n ∧ n ≤ hiOf modelP k)) := hsn
      clear hsn hno
      have HB : Hid (Below w.heap.size w wr) := hb
      clear hb
      go_wp2_with fail
      go_quiet ((go_at_call 42; exact Calls.quiet_of_same (l01Is_any _ _ _ _)))
      go_wp2
      · have hin : loOf modelP k ≤ n ∧ n ≤ hiOf modelP k := by assumption
        go_ret
        exact ⟨ret_bool (inTo_mono (l := modelP) (k := k + 1) (by rw [HS.out]; exact decide_eq_true hin)).symm, below_drewN HB.out _⟩
      · have hin : ¬ (loOf modelP k ≤ n ∧ n ≤ hiOf modelP k) := by assumption
        go_roundw
        case rel => exact ⟨k + 1, by omega, by go_num, by rw [HS.out]; exact decide_eq_false hin, below_drewN HB.out _, fun j hj => HC.out j hj⟩
        case measure => simp [intOf]; omega
    · have : k = 12 := by omega
      subst this
      clear hc
      go_wp2
      go_ret
      exact ⟨ret_bool hno.symm, hb⟩

theorem specStart_any (n : Int) (w : World) :
    Calls Tryd.prog 23 #[.int .i64 n] w fun e w' => e = .returned (.bool (startB n)) ∧ Below w.heap.size w w' := by
  by_cases h : n < 128
  · exact specStart_low n w h
  · exact specStart_high n w (by omega)
end Go.Proofs.YtpkhdfddbcpciaaDoor
