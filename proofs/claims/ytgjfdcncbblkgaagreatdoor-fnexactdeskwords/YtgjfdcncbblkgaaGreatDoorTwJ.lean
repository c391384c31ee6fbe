/- A tie of our own: put together. -/
import Derived.Test.YtgjfdcncbblkgaaGreatDoorTwB
import Derived.Test.YtgjfdcncbblkgaaGreatDoorTwC
import Derived.Test.YtgjfdcncbblkgaaGreatDoorTwD
import Derived.Test.YtgjfdcncbblkgaaGreatDoorTwE
import Derived.Test.YtgjfdcncbblkgaaGreatDoorTwG
import Derived.Test.YtgjfdcncbblkgaaGreatDoorTwH
import Derived.Test.YtgjfdcncbblkgaaGreatDoorTwI
namespace Go.Proofs.YtgjfdcncbblkgaaGreatDoor
open Go
set_option maxRecDepth 100000
theorem tie_h2 : ∀ os tape, (DataW.laidRun Tryz.prog (varsWorld Tryz.prog 400 (varsId Tryz.prog) os tape).memory 8 ((tieL.filter fun x => x.2.handleName?.isNone).map (·.1))).map (fun x => decide x.2.Nodup && laidRowsB Tryz.prog (varsWorld Tryz.prog 400 (varsId Tryz.prog) os tape).memory x.2) = some true := fun os tape => by
  have a := tie_a os tape
  have c := tie_c os tape
  cases hR : DataW.laidRun Tryz.prog (varsWorld Tryz.prog 400 (varsId Tryz.prog) os tape).memory 8 ((tieL.filter fun x => x.2.handleName?.isNone).map (·.1)) with
  | none => rw [hR] at a; cases a
  | some x =>
    rw [hR, Option.map_some] at a
    have e : x.2 = psE := Option.some.inj a
    rw [Option.map_some, e, tie_b, c]
    rfl
theorem tie : Tryz.prog.laidByTextLater tieL [.data, .data, .data, .handle, .data, .data, .sentinel, .sentinel, .data, .data, .data] true :=
  Program.laidByTextLater_by_run_h 400 8 tie_hw tie_hw1 tie_hroot tie_hk tie_hg tie_hn tie_hd tie_h1 tie_h2 tie_h3
theorem fnExactDeskWords_row_tie : Rows.fnExactDeskWordsRow.laidByTextAt .later Tryz.pinned [.data, .data, .pinned, .data, .handle, .data, .data, .pinned, .sentinel, .sentinel, .data, .data, .data] true :=
  OpenClaim.laidByTextAt_pinned rfl rfl tie rfl rfl rfl rfl (fun y hy _e => by
    simp only [Rows.fnExactDeskWordsRow, List.zip_cons_cons, List.zip_nil_right, List.mem_cons, List.mem_nil_iff, or_false] at hy
    rcases hy with rfl | rfl | rfl | rfl | rfl | rfl | rfl | rfl | rfl | rfl | rfl | rfl | rfl
    · cases _e
    · cases _e
    · exact ⟨pin_laid_unicode_utf8_first, by kernel_rfl⟩
    · cases _e
    · cases _e
    · cases _e
    · cases _e
    · exact ⟨pin_laid_unicode_CaseRanges, by kernel_rfl⟩
    · cases _e
    · cases _e
    · cases _e
    · cases _e
    · cases _e) fits1
end Go.Proofs.YtgjfdcncbblkgaaGreatDoor
