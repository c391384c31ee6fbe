/- The contract of impl.NamePart: a loop over a table of ranges, then NameStart. -/
import Derived.Test.YtpkhdfddbcpciaaDoorStarts
namespace Go.Proofs.YtpkhdfddbcpciaaDoor
open Go.RowKit Plain1 Plain2

theorem idxP0 (w : World) : (Instr.index 57 (.agg partCells) (.int .i64 0)).run Tryd.prog w = .ok (.agg #[.int .i64 (loOf partsL 0), .int .i64 (hiOf partsL 0)]) w := by kernel_rfl
theorem idxP1 (w : World) : (Instr.index 57 (.agg partCells) (.int .i64 1)).run Tryd.prog w = .ok (.agg #[.int .i64 (loOf partsL 1), .int .i64 (hiOf partsL 1)]) w := by kernel_rfl
theorem idxP2 (w : World) : (Instr.index 57 (.agg partCells) (.int .i64 2)).run Tryd.prog w = .ok (.agg #[.int .i64 (loOf partsL 2), .int .i64 (hiOf partsL 2)]) w := by kernel_rfl
theorem idxP3 (w : World) : (Instr.index 57 (.agg partCells) (.int .i64 3)).run Tryd.prog w = .ok (.agg #[.int .i64 (loOf partsL 3), .int .i64 (hiOf partsL 3)]) w := by kernel_rfl
theorem idxP4 (w : World) : (Instr.index 57 (.agg partCells) (.int .i64 4)).run Tryd.prog w = .ok (.agg #[.int .i64 (loOf partsL 4), .int .i64 (hiOf partsL 4)]) w := by kernel_rfl
theorem idxPart (k : Nat) (hk : k < 5) (w : World) : (Instr.index 57 (.agg partCells) (.int .i64 (k : Int))).run Tryd.prog w = .ok (.agg #[.int .i64 (loOf partsL k), .int .i64 (hiOf partsL k)]) w := by
  have h : k = 0 ∨ k = 1 ∨ k = 2 ∨ k = 3 ∨ k = 4 := by omega
  rcases h with rfl | rfl | rfl | rfl | rfl
  · exact idxP0 w
  · exact idxP1 w
  · exact idxP2 w
  · exact idxP3 w
  · exact idxP4 w

theorem implPart_any (n : Int) (w : World) (t : TypeId) (fr : Nat × Nat) (hg : w.heap[1]? = some (.cells partCells t fr)) (ts : TypeId) (frs : Nat × Nat) (hgs : w.heap[0]? = some (.cells startCells ts frs)) :
    Calls Tryd.prog 24 #[.int .i64 n] w fun e w' => e = .returned (.bool (partB n)) ∧ Below w.heap.size w w' := by
  have hz : 0 < w.heap.size := (Array.getElem?_eq_some_iff.1 hgs).1
  have HG : Hid (w.heap[0]? = some (.cells startCells ts frs)) := hgs
  clear hgs
  go_enter Tryd.func24, Tryd.ntmps24
  go_wp2_with (refine wpList_load_row rfl 57 _ rfl 1 rfl t _ fr _ hg Tryd.underlying57 rfl (by kernel_rfl) ?_)
  clear hg
  go_loopw [6] (fun i wr => ∃ k : Nat, k ≤ 5 ∧ i = .int .i64 k ∧ inTo partsL k n = false ∧ Below w.heap.size w wr) (fun i _ => 5 - (intOf i).toNat)
  case atStart => exact ⟨0, Nat.zero_le _, rfl, inTo_zero _ _, Below.refl _ _⟩
  case round =>
    obtain ⟨k, hk, rfl, hno, hb⟩ := hrel
    by_cases hlt : k < 5
    · have hidx := idxPart k hlt
      have hsz := hb.size
      have hsn := inTo_succ partsL k n (by simpa [partsL] using hlt)
      rw [hno, Bool.false_or] at hsn
      have HS : Hid (inTo partsL (k + 1) n = decide (loOf partsL k ≤ n ∧ n ≤ hiOf partsL k)) := hsn
      clear hsn hno
      by_cases hin : loOf partsL k ≤ n ∧ n ≤ hiOf partsL k
      · have hd : decide (loOf partsL k ≤ n ∧ n ≤ hiOf partsL k) = true := decide_eq_true hin
        clear hin
        go_wp2_with (go_at_call 43; refine (has_any _ _ _ _).mono ?_; rintro e w' ⟨rfl, hb'⟩)
        go_ret
        refine ⟨ret_bool ?_, hb.trans (((Below.refl _ _).alloc (Nat.le_refl _) _).trans (hb'.mono (by simp)) |>.mono hsz)⟩
        have := inTo_mono (l := partsL) (k := k + 1) (n := n) (by rw [HS.out]; exact hd)
        unfold partB
        rw [show inTo partsL 5 n = true from this]
        rfl
      · have hd : decide (loOf partsL k ≤ n ∧ n ≤ hiOf partsL k) = false := decide_eq_false hin
        clear hin
        go_wp2_with (go_at_call 43; refine (has_any _ _ _ _).mono ?_; rintro e w' ⟨rfl, hb'⟩)
        go_roundw
        case rel => exact ⟨k + 1, by omega, by go_num, by rw [HS.out]; exact hd, hb.trans (((Below.refl _ _).alloc (Nat.le_refl _) _).trans (hb'.mono (by simp)) |>.mono hsz)⟩
        case measure => simp [intOf]; omega
    · have : k = 5 := by omega
      subst this
      have hg1 : wr.heap[0]? = some (.cells startCells ts frs) := (hb.block _ hz).trans HG.out
      have HG1 : Hid (wr.heap[0]? = some (.cells startCells ts frs)) := hg1
      clear hg1
      go_wp2_with (go_at_call 22; refine (implStart_any _ _ ts frs HG1.out).mono ?_; rintro e w' ⟨rfl, hb'⟩)
      go_ret
      exact ⟨ret_bool (by unfold partB; rw [hno]; rfl), hb.trans (hb'.mono hb.size)⟩
end Go.Proofs.YtpkhdfddbcpciaaDoor
