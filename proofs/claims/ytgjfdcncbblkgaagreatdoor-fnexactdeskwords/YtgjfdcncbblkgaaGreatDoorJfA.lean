/- The closed facts of the row: a part. -/
import Derived.Test.YtgjfdcncbblkgaaGreatDoorRows
import Derived.JoinedOf
import Derived.JoinedCond
import Derived.KernelRfl
namespace Go.Proofs.YtgjfdcncbblkgaaGreatDoor
open Go
set_option maxRecDepth 100000
theorem jf_1 : (Rows.fnExactDeskWordsRow.wf (OpenSpec.ofChange (OpenSpec.ofChange Rows.fnExactDeskWordsSpec).bare)) = true := by kernel_rfl
theorem jf_4 : (Tryz.f3.params.all (Tryz.pinned.checked.prog.readableRec ·)) = true := by kernel_rfl
theorem jf_5 : (namedTie Tryz.pinned.checked.prog Rows.fnExactDeskWordsRow.named (OpenSpec.ofChange Rows.fnExactDeskWordsSpec).bare.vars) = true := by kernel_rfl
theorem jf_6 : ((Rows.fnExactDeskWordsRow.stops == [])) = true := by kernel_rfl
theorem jf_7 : ((Tryz.pinned.checked.prog.stops == [])) = true := by kernel_rfl
theorem jf_8 : ((Rows.fnExactDeskWordsRow.knobs == [])) = true := by kernel_rfl
theorem jf_9 : ((Tryz.pinned.checked.prog.stopKnobs == [])) = true := by kernel_rfl
theorem jf_14 : ((Rows.fnExactDeskWordsRow.maps == (Tryz.f3.params.toList ++ (OpenSpec.ofChange Rows.fnExactDeskWordsSpec).bare.plain.varTypes Tryz.pinned.checked.prog).any (Tryz.pinned.checked.prog.mapsRec ·))) = true := by kernel_rfl
theorem jf_15 : ((Rows.fnExactDeskWordsRow.ifaces == (Tryz.f3.params.toList ++ (OpenSpec.ofChange Rows.fnExactDeskWordsSpec).bare.plain.varTypes Tryz.pinned.checked.prog).any (Tryz.pinned.checked.prog.ifacesRec ·))) = true := by kernel_rfl
theorem jf_16 : ((Rows.fnExactDeskWordsRow.mapsOut == Tryz.pinned.checked.prog.mapsAmong Tryz.f3.resultTypes.toList)) = true := by kernel_rfl
theorem jf_17 : ((Rows.fnExactDeskWordsRow.loops == (Tryz.f3.params.toList ++ (OpenSpec.ofChange Rows.fnExactDeskWordsSpec).bare.plain.varTypes Tryz.pinned.checked.prog).any (Tryz.pinned.checked.prog.loopsFrom ·))) = true := by kernel_rfl
theorem jf_18 : ((Rows.fnExactDeskWordsRow.wideKeys == (Tryz.f3.params.toList ++ (OpenSpec.ofChange Rows.fnExactDeskWordsSpec).bare.plain.varTypes Tryz.pinned.checked.prog ++ Tryz.f3.resultTypes.toList).any (Tryz.pinned.checked.prog.wideKeysFrom ·))) = true := by kernel_rfl
theorem jf_19 : ((OpenSpec.ofChange Rows.fnExactDeskWordsSpec).bare.vars.all (Tryz.pinned.checked.prog.varReadable ·)) = true := by kernel_rfl
theorem jf_20 : (Tryz.f3.resultTypes.all (fun t => Tryz.pinned.checked.prog.readableRec t && decide (t < Tryz.pinned.checked.prog.types.size))) = true := by kernel_rfl
theorem jf_21 : ((Rows.fnExactDeskWordsRow.ifacesOut == Tryz.f3.resultTypes.toList.any (Tryz.pinned.checked.prog.ifacesRec ·))) = true := by kernel_rfl
theorem jf_22 : ((Rows.fnExactDeskWordsRow.loopsOut == Tryz.f3.resultTypes.toList.any (Tryz.pinned.checked.prog.loopsFrom ·))) = true := by kernel_rfl
theorem jf_23 : ((Rows.fnExactDeskWordsRow.plainKeys == Tryz.pinned.checked.prog.plainKeys)) = true := by kernel_rfl
theorem jf_24 : (Rows.fnExactDeskWordsRow.shortTexts.isNone) = true := by kernel_rfl
theorem jf_27 : ((Rows.fnExactDeskWordsRow.lifted == Tryz.pinned.checked.prog.liftsFinal)) = true := by kernel_rfl
theorem jf_28 : ((Tryz.pinned.checked.prog.make == some Rows.fnExactDeskWordsRow.make)) = true := by kernel_rfl
theorem jf_29 : ((Rows.fnExactDeskWordsRow.kinds == (if Rows.fnExactDeskWordsRow.domain.isEmpty then [] else Tryz.f3.params.toList.map fun t => match Tryz.pinned.checked.prog.underlying t with | some (.int k) => some k | _ => none))) = true := by kernel_rfl
theorem jf_30 : ((Rows.fnExactDeskWordsRow.pinned == Rows.fnExactDeskWordsRow.pinnedBy)) = true := by kernel_rfl
theorem jf_31 : ((Rows.fnExactDeskWordsRow.veiled == (Tryz.f3.params.toList ++ (OpenSpec.ofChange Rows.fnExactDeskWordsSpec).bare.plain.varTypes Tryz.pinned.checked.prog ++ Tryz.f3.resultTypes.toList).any (Tryz.pinned.checked.prog.veiledRec ·))) = true := by kernel_rfl
theorem jf_32 : (Rows.fnExactDeskWordsRow.veiledFits Tryz.pinned.checked.prog Tryz.f3.params.toList (Tryz.f3.params.toList ++ (OpenSpec.ofChange Rows.fnExactDeskWordsSpec).bare.plain.varTypes Tryz.pinned.checked.prog ++ Tryz.f3.resultTypes.toList)) = true := by kernel_rfl
end Go.Proofs.YtgjfdcncbblkgaaGreatDoor
