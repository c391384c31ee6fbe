/- The closed facts of the row: all. -/
import Derived.Test.YtgjfdcncbblkgaaGreatDoorJfA
import Derived.Test.YtgjfdcncbblkgaaGreatDoorJfB
import Derived.Test.YtgjfdcncbblkgaaGreatDoorJfC
import Derived.Test.YtgjfdcncbblkgaaGreatDoorJfD
import Derived.Test.YtgjfdcncbblkgaaGreatDoorJfE
import Derived.Test.YtgjfdcncbblkgaaGreatDoorJfF
import Derived.Test.YtgjfdcncbblkgaaGreatDoorJfG
namespace Go.Proofs.YtgjfdcncbblkgaaGreatDoor
open Go
set_option maxRecDepth 100000
theorem and_tt {a b : Bool} (h : a = true) (k : b = true) : (a && b) = true := by rw [h, k]; rfl
theorem jf_all : joinedFacts Tryz.pinned.checked.prog 3 Tryz.f3 (OpenSpec.ofChange Rows.fnExactDeskWordsSpec).bare Rows.fnExactDeskWordsRow = true := by
  unfold joinedFacts
  exact and_tt (and_tt (and_tt (and_tt (and_tt (and_tt (and_tt (and_tt (and_tt (and_tt (and_tt (and_tt (and_tt (and_tt (and_tt (and_tt (and_tt (and_tt (and_tt (and_tt (and_tt (and_tt (and_tt (and_tt (and_tt (and_tt (and_tt (and_tt (and_tt (and_tt (and_tt jf_1 jf_2) jf_3) jf_4) jf_5) jf_6) jf_7) jf_8) jf_9) jf_10) jf_11) jf_12) jf_13) jf_14) jf_15) jf_16) jf_17) jf_18) jf_19) jf_20) jf_21) jf_22) jf_23) jf_24) jf_25) jf_26) jf_27) jf_28) jf_29) jf_30) jf_31) jf_32
end Go.Proofs.YtgjfdcncbblkgaaGreatDoor
