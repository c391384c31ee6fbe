/- A tie of our own: what is pinned, and what fits. -/
import Derived.Test.YtgjfdcncbblkgaaGreatDoorTwA
namespace Go.Proofs.YtgjfdcncbblkgaaGreatDoor
open Go
set_option maxRecDepth 100000
theorem pin_laid_unicode_utf8_first : Tryz.pinned.checked.prog.pinnedFits "unicode/utf8.first" = true := by kernel_rfl
theorem pin_laid_unicode_CaseRanges : Tryz.pinned.checked.prog.pinnedFits "unicode.CaseRanges" = true := by kernel_rfl
theorem noOwnUnsafe : Tryz.pinned.checked.prog.headLifts.contains "ownunsafe" = false := by kernel_rfl
theorem fit_0 : Tryz.pinned.checked.prog.funcsFit [("loop.example/g00352/impl.nameStarts", Rows.laid_loop_example_g00352_impl_nameStarts)] = true := by kernel_rfl
theorem fit_1 : Tryz.pinned.checked.prog.funcsFit [("loop.example/g00352/impl.nameParts", Rows.laid_loop_example_g00352_impl_nameParts)] = true := by kernel_rfl
theorem fit_2 : Tryz.pinned.checked.prog.funcsFit [("unicode/utf8.first", Rows.laid_unicode_utf8_first)] = true := by kernel_rfl
theorem fit_3 : Tryz.pinned.checked.prog.funcsFit [("unicode/utf8.acceptRanges", Rows.laid_unicode_utf8_acceptRanges)] = true := by kernel_rfl
theorem fit_4 : Tryz.pinned.checked.prog.funcsFit [("errors.errorType", Rows.laid_errors_errorType)] = true := by kernel_rfl
theorem fit_5 : Tryz.pinned.checked.prog.funcsFit [("unicode.asciiFold", Rows.laid_unicode_asciiFold)] = true := by kernel_rfl
theorem fit_6 : Tryz.pinned.checked.prog.funcsFit [("unicode.caseOrbit", Rows.laid_unicode_caseOrbit)] = true := by kernel_rfl
theorem fit_7 : Tryz.pinned.checked.prog.funcsFit [("unicode.CaseRanges", Rows.laid_unicode_CaseRanges)] = true := by kernel_rfl
theorem fit_8 : Tryz.pinned.checked.prog.funcsFit [("strconv.ErrSyntax", Rows.laid_strconv_ErrSyntax)] = true := by kernel_rfl
theorem fit_9 : Tryz.pinned.checked.prog.funcsFit [("strconv.ErrRange", Rows.laid_strconv_ErrRange)] = true := by kernel_rfl
theorem fit_10 : Tryz.pinned.checked.prog.funcsFit [("internal/strconv.uint64pow10", Rows.laid_internal_strconv_uint64pow10)] = true := by kernel_rfl
theorem fit_11 : Tryz.pinned.checked.prog.funcsFit [("math/bits.deBruijn32tab", Rows.laid_math_bits_deBruijn32tab)] = true := by kernel_rfl
theorem fit_12 : Tryz.pinned.checked.prog.funcsFit [("math/bits.deBruijn64tab", Rows.laid_math_bits_deBruijn64tab)] = true := by kernel_rfl
theorem fit_cons {P : Program} {x : String × DataW Unit} {r : List (String × DataW Unit)} (h : P.funcsFit [x] = true) (hr : P.funcsFit r = true) : P.funcsFit (x :: r) = true := by
  unfold Program.funcsFit at *
  rw [List.all_cons, hr]
  rw [List.all_cons, List.all_nil] at h
  exact h
theorem fit_nil {P : Program} : P.funcsFit [] = true := rfl
theorem fits1 : Tryz.pinned.checked.prog.listedFits [("loop.example/g00352/impl.nameStarts", Rows.laid_loop_example_g00352_impl_nameStarts), ("loop.example/g00352/impl.nameParts", Rows.laid_loop_example_g00352_impl_nameParts), ("unicode/utf8.first", Rows.laid_unicode_utf8_first), ("unicode/utf8.acceptRanges", Rows.laid_unicode_utf8_acceptRanges), ("errors.errorType", Rows.laid_errors_errorType), ("unicode.asciiFold", Rows.laid_unicode_asciiFold), ("unicode.caseOrbit", Rows.laid_unicode_caseOrbit), ("unicode.CaseRanges", Rows.laid_unicode_CaseRanges), ("strconv.ErrSyntax", Rows.laid_strconv_ErrSyntax), ("strconv.ErrRange", Rows.laid_strconv_ErrRange), ("internal/strconv.uint64pow10", Rows.laid_internal_strconv_uint64pow10), ("math/bits.deBruijn32tab", Rows.laid_math_bits_deBruijn32tab), ("math/bits.deBruijn64tab", Rows.laid_math_bits_deBruijn64tab)] = true := by
  unfold Program.listedFits
  rw [noOwnUnsafe, show Tryz.pinned.checked.prog.funcsFit [("loop.example/g00352/impl.nameStarts", Rows.laid_loop_example_g00352_impl_nameStarts), ("loop.example/g00352/impl.nameParts", Rows.laid_loop_example_g00352_impl_nameParts), ("unicode/utf8.first", Rows.laid_unicode_utf8_first), ("unicode/utf8.acceptRanges", Rows.laid_unicode_utf8_acceptRanges), ("errors.errorType", Rows.laid_errors_errorType), ("unicode.asciiFold", Rows.laid_unicode_asciiFold), ("unicode.caseOrbit", Rows.laid_unicode_caseOrbit), ("unicode.CaseRanges", Rows.laid_unicode_CaseRanges), ("strconv.ErrSyntax", Rows.laid_strconv_ErrSyntax), ("strconv.ErrRange", Rows.laid_strconv_ErrRange), ("internal/strconv.uint64pow10", Rows.laid_internal_strconv_uint64pow10), ("math/bits.deBruijn32tab", Rows.laid_math_bits_deBruijn32tab), ("math/bits.deBruijn64tab", Rows.laid_math_bits_deBruijn64tab)] = true from fit_cons fit_0 (fit_cons fit_1 (fit_cons fit_2 (fit_cons fit_3 (fit_cons fit_4 (fit_cons fit_5 (fit_cons fit_6 (fit_cons fit_7 (fit_cons fit_8 (fit_cons fit_9 (fit_cons fit_10 (fit_cons fit_11 (fit_cons fit_12 (fit_nil)))))))))))))]
  rfl
end Go.Proofs.YtgjfdcncbblkgaaGreatDoor
