/-
  NARROWER THAN 'FOR EVERY INPUT', by the rows' own cells (each row's printed sentence says how): FnRunes: laid · FnExactNameStart: laid · FnExactNamePart: laid · FnExactEnds: laid · FnExactNameRight: laid · FnExactSplit: laid.
  DERIVED. THE GIVEN ROWS OF THIS SEAT. 6 by the template 'for every input the law returns true; each argument reads behind the call as it read before'; 0 by the template 'total and deterministic' (their statements: YtpkhdfddbcpciaaDoorTotals.lean).
  GIVEN WITH THE SEED: the statements are not yours to turn. If you find one false, say at which input.
  Laid BY PROGRAM, IN A SANDBOX (cutbox-rows.mjs): the forced cells as the released guide's own fill.sh prints them over the translation a64975759dcd6a62… (all of the seat's roots in one cut). By AI agents, Wed Nov 11 2026. No macro, syntax, notation, axiom, sorry.
-/
import Derived.Test.YtpkhdfddbcpciaaDoorChecked
import GoSem.PinnedTables
import GoSem.Claim
import GoSem.ClaimJoined
import GoSem.ClaimMapViews
import Derived.JoinedTies
import Derived.KernelRfl
namespace Go.Proofs.YtpkhdfddbcpciaaDoor
/- THE CELL 'sum', in the pinned program and in every row, IS THE sha256 OF THE DUMP (.gsa) THAT YtpkhdfddbcpciaaDoorProg.lean LOADS. Nothing in Lean hashes anything: it is a label: what it is worth is what the hold of that sum in a sandbox is worth. -/
noncomputable def Tryd.pinned : Pinned := { name := "ytpkhdfddbcpciaadoor", sum := "a64975759dcd6a628d02c96f649cd7b1dced5d13b1a9fba25af9d114668cc685", checked := Tryd.checked }
namespace Rows
def none {H : Type} : Left H := { results := [], args := [] }

/- WHAT THE LISTED PACKAGE-LEVEL VARIABLES READ AS WHEN THE CALL BEGINS. Each datum BY PROGRAM (the guide's laid-datum.mjs) off the statement by which the dump's own 'gosem.cut.vars' lays the variable. In a bare row this is a premise. The card (YtpkhdfddbcpciaaDoorCards.lean) ties it to the program's text. -/
def laid_unicode_utf8_acceptRanges {H : Type} : DataW H := .agg [.agg [.lit (.int .u8 128), .lit (.int .u8 191)], .agg [.lit (.int .u8 160), .lit (.int .u8 191)], .agg [.lit (.int .u8 128), .lit (.int .u8 159)], .agg [.lit (.int .u8 144), .lit (.int .u8 191)], .agg [.lit (.int .u8 128), .lit (.int .u8 143)], .agg [.lit (.int .u8 0), .lit (.int .u8 0)], .agg [.lit (.int .u8 0), .lit (.int .u8 0)], .agg [.lit (.int .u8 0), .lit (.int .u8 0)], .agg [.lit (.int .u8 0), .lit (.int .u8 0)], .agg [.lit (.int .u8 0), .lit (.int .u8 0)], .agg [.lit (.int .u8 0), .lit (.int .u8 0)], .agg [.lit (.int .u8 0), .lit (.int .u8 0)], .agg [.lit (.int .u8 0), .lit (.int .u8 0)], .agg [.lit (.int .u8 0), .lit (.int .u8 0)], .agg [.lit (.int .u8 0), .lit (.int .u8 0)], .agg [.lit (.int .u8 0), .lit (.int .u8 0)]]
def laid_loop_example_g00352_impl_nameStarts {H : Type} : DataW H := .agg [.agg [.lit (.int .i64 58), .lit (.int .i64 58)], .agg [.lit (.int .i64 65), .lit (.int .i64 90)], .agg [.lit (.int .i64 95), .lit (.int .i64 95)], .agg [.lit (.int .i64 97), .lit (.int .i64 122)], .agg [.lit (.int .i64 192), .lit (.int .i64 214)], .agg [.lit (.int .i64 216), .lit (.int .i64 246)], .agg [.lit (.int .i64 248), .lit (.int .i64 767)], .agg [.lit (.int .i64 880), .lit (.int .i64 893)], .agg [.lit (.int .i64 895), .lit (.int .i64 8191)], .agg [.lit (.int .i64 8204), .lit (.int .i64 8205)], .agg [.lit (.int .i64 8304), .lit (.int .i64 8591)], .agg [.lit (.int .i64 11264), .lit (.int .i64 12271)], .agg [.lit (.int .i64 12289), .lit (.int .i64 55295)], .agg [.lit (.int .i64 63744), .lit (.int .i64 64975)], .agg [.lit (.int .i64 65008), .lit (.int .i64 65533)], .agg [.lit (.int .i64 65536), .lit (.int .i64 983039)]]
def laid_loop_example_g00352_impl_nameParts {H : Type} : DataW H := .agg [.agg [.lit (.int .i64 45), .lit (.int .i64 46)], .agg [.lit (.int .i64 48), .lit (.int .i64 57)], .agg [.lit (.int .i64 183), .lit (.int .i64 183)], .agg [.lit (.int .i64 768), .lit (.int .i64 879)], .agg [.lit (.int .i64 8255), .lit (.int .i64 8256)]]
/-- One of Go's own tables, pinned by name: the form's constant. -/
def laid_unicode_utf8_first : DataW Unit := Go.Pinned.utf8First

/-- 'laws.FnRunes': WHATEVER THE INPUT: true; the input reads as it did. -/
def fnRunesSpec : ChangeSpec := { name := "fnRunes", vars := ["loop.example/g00352/impl.nameStarts", "loop.example/g00352/impl.nameParts"], fn := fun _ => fun
  | [d1, d2, g1, g2] => { results := [.lit (.bool true)], args := [d1, d2], vars := [g1, g2] }
  | _ => none }
def fnRunesRow : OpenClaim := { program := "ytpkhdfddbcpciaadoor", sum := "a64975759dcd6a628d02c96f649cd7b1dced5d13b1a9fba25af9d114668cc685", func := "loop.example/g00352/laws.FnRunes", spec := "fnRunes", inPlace := ["internal/bytealg.CountString", "internal/bytealg.IndexByteString", "internal/bytealg.IndexString", "internal/abi.NoEscape", "internal/bytealg.MakeNoZero"], named := ["internal/bytealg.MaxLen", "unicode/utf8.first", "unicode/utf8.acceptRanges", "loop.example/g00352/impl.nameStarts", "loop.example/g00352/impl.nameParts"], apart := false, laid := [("unicode/utf8.acceptRanges", laid_unicode_utf8_acceptRanges), ("loop.example/g00352/impl.nameStarts", laid_loop_example_g00352_impl_nameStarts), ("loop.example/g00352/impl.nameParts", laid_loop_example_g00352_impl_nameParts), ("unicode/utf8.first", laid_unicode_utf8_first)] }
def FnRunesSaid : Prop := fnRunesRow.holds Tryd.pinned (OpenSpec.ofChange fnRunesSpec)

/-- ITS FALSE NEIGHBOUR: 'it returns false'. Refute it at one input. -/
def fnRunesWrong : ChangeSpec := { name := "fnRunes", vars := ["loop.example/g00352/impl.nameStarts", "loop.example/g00352/impl.nameParts"], fn := fun _ => fun
  | [d1, d2, g1, g2] => { results := [.lit (.bool false)], args := [d1, d2], vars := [g1, g2] }
  | _ => none }
def FnRunesWrongFalsely : Prop := fnRunesRow.holds Tryd.pinned (OpenSpec.ofChange fnRunesWrong)

/-- 'laws.FnExactNameStart': WHATEVER THE INPUT: true; the input reads as it did. -/
def fnExactNameStartSpec : ChangeSpec := { name := "fnExactNameStart", vars := ["loop.example/g00352/impl.nameStarts"], fn := fun _ => fun
  | [d, g1] => { results := [.lit (.bool true)], args := [d], vars := [g1] }
  | _ => none }
def fnExactNameStartRow : OpenClaim := { program := "ytpkhdfddbcpciaadoor", sum := "a64975759dcd6a628d02c96f649cd7b1dced5d13b1a9fba25af9d114668cc685", func := "loop.example/g00352/laws.FnExactNameStart", spec := "fnExactNameStart", named := ["loop.example/g00352/impl.nameStarts"], apart := false, laid := [("loop.example/g00352/impl.nameStarts", laid_loop_example_g00352_impl_nameStarts)] }
def FnExactNameStartSaid : Prop := fnExactNameStartRow.holds Tryd.pinned (OpenSpec.ofChange fnExactNameStartSpec)

/-- ITS FALSE NEIGHBOUR: 'it returns false'. Refute it at one input. -/
def fnExactNameStartWrong : ChangeSpec := { name := "fnExactNameStart", vars := ["loop.example/g00352/impl.nameStarts"], fn := fun _ => fun
  | [d, g1] => { results := [.lit (.bool false)], args := [d], vars := [g1] }
  | _ => none }
def FnExactNameStartWrongFalsely : Prop := fnExactNameStartRow.holds Tryd.pinned (OpenSpec.ofChange fnExactNameStartWrong)

/-- 'laws.FnExactNamePart': WHATEVER THE INPUT: true; the input reads as it did. -/
def fnExactNamePartSpec : ChangeSpec := { name := "fnExactNamePart", vars := ["loop.example/g00352/impl.nameParts", "loop.example/g00352/impl.nameStarts"], fn := fun _ => fun
  | [d, g1, g2] => { results := [.lit (.bool true)], args := [d], vars := [g1, g2] }
  | _ => none }
def fnExactNamePartRow : OpenClaim := { program := "ytpkhdfddbcpciaadoor", sum := "a64975759dcd6a628d02c96f649cd7b1dced5d13b1a9fba25af9d114668cc685", func := "loop.example/g00352/laws.FnExactNamePart", spec := "fnExactNamePart", named := ["loop.example/g00352/impl.nameParts", "loop.example/g00352/impl.nameStarts"], apart := false, laid := [("loop.example/g00352/impl.nameStarts", laid_loop_example_g00352_impl_nameStarts), ("loop.example/g00352/impl.nameParts", laid_loop_example_g00352_impl_nameParts)] }
def FnExactNamePartSaid : Prop := fnExactNamePartRow.holds Tryd.pinned (OpenSpec.ofChange fnExactNamePartSpec)

/-- ITS FALSE NEIGHBOUR: 'it returns false'. Refute it at one input. -/
def fnExactNamePartWrong : ChangeSpec := { name := "fnExactNamePart", vars := ["loop.example/g00352/impl.nameParts", "loop.example/g00352/impl.nameStarts"], fn := fun _ => fun
  | [d, g1, g2] => { results := [.lit (.bool false)], args := [d], vars := [g1, g2] }
  | _ => none }
def FnExactNamePartWrongFalsely : Prop := fnExactNamePartRow.holds Tryd.pinned (OpenSpec.ofChange fnExactNamePartWrong)

/-- 'laws.FnExactEnds': WHATEVER THE INPUT: true; the input reads as it did. -/
def fnExactEndsSpec : ChangeSpec := { name := "fnExactEnds", fn := fun _ => fun
  | [d] => { results := [.lit (.bool true)], args := [d] }
  | _ => none }
def fnExactEndsRow : OpenClaim := { program := "ytpkhdfddbcpciaadoor", sum := "a64975759dcd6a628d02c96f649cd7b1dced5d13b1a9fba25af9d114668cc685", func := "loop.example/g00352/laws.FnExactEnds", spec := "fnExactEnds", inPlace := ["internal/bytealg.CountString", "internal/bytealg.IndexByteString", "internal/bytealg.IndexString", "internal/abi.NoEscape", "internal/bytealg.MakeNoZero"], named := ["internal/bytealg.MaxLen", "unicode/utf8.first", "unicode/utf8.acceptRanges"], apart := false, laid := [("unicode/utf8.acceptRanges", laid_unicode_utf8_acceptRanges), ("unicode/utf8.first", laid_unicode_utf8_first)] }
def FnExactEndsSaid : Prop := fnExactEndsRow.holds Tryd.pinned (OpenSpec.ofChange fnExactEndsSpec)

/-- ITS FALSE NEIGHBOUR: 'it returns false'. Refute it at one input. -/
def fnExactEndsWrong : ChangeSpec := { name := "fnExactEnds", fn := fun _ => fun
  | [d] => { results := [.lit (.bool false)], args := [d] }
  | _ => none }
def FnExactEndsWrongFalsely : Prop := fnExactEndsRow.holds Tryd.pinned (OpenSpec.ofChange fnExactEndsWrong)

/-- 'laws.FnExactNameRight': WHATEVER THE INPUT: true; the input reads as it did. -/
def fnExactNameRightSpec : ChangeSpec := { name := "fnExactNameRight", vars := ["loop.example/g00352/impl.nameStarts", "loop.example/g00352/impl.nameParts"], fn := fun _ => fun
  | [d, g1, g2] => { results := [.lit (.bool true)], args := [d], vars := [g1, g2] }
  | _ => none }
def fnExactNameRightRow : OpenClaim := { program := "ytpkhdfddbcpciaadoor", sum := "a64975759dcd6a628d02c96f649cd7b1dced5d13b1a9fba25af9d114668cc685", func := "loop.example/g00352/laws.FnExactNameRight", spec := "fnExactNameRight", named := ["loop.example/g00352/impl.nameStarts", "loop.example/g00352/impl.nameParts"], apart := false, laid := [("loop.example/g00352/impl.nameStarts", laid_loop_example_g00352_impl_nameStarts), ("loop.example/g00352/impl.nameParts", laid_loop_example_g00352_impl_nameParts)] }
def FnExactNameRightSaid : Prop := fnExactNameRightRow.holds Tryd.pinned (OpenSpec.ofChange fnExactNameRightSpec)

/-- ITS FALSE NEIGHBOUR: 'it returns false'. Refute it at one input. -/
def fnExactNameRightWrong : ChangeSpec := { name := "fnExactNameRight", vars := ["loop.example/g00352/impl.nameStarts", "loop.example/g00352/impl.nameParts"], fn := fun _ => fun
  | [d, g1, g2] => { results := [.lit (.bool false)], args := [d], vars := [g1, g2] }
  | _ => none }
def FnExactNameRightWrongFalsely : Prop := fnExactNameRightRow.holds Tryd.pinned (OpenSpec.ofChange fnExactNameRightWrong)

/-- 'laws.FnExactSplit': WHATEVER THE INPUT: true; the input reads as it did. -/
def fnExactSplitSpec : ChangeSpec := { name := "fnExactSplit", vars := ["loop.example/g00352/impl.nameStarts", "loop.example/g00352/impl.nameParts"], fn := fun _ => fun
  | [d, g1, g2] => { results := [.lit (.bool true)], args := [d], vars := [g1, g2] }
  | _ => none }
def fnExactSplitRow : OpenClaim := { program := "ytpkhdfddbcpciaadoor", sum := "a64975759dcd6a628d02c96f649cd7b1dced5d13b1a9fba25af9d114668cc685", func := "loop.example/g00352/laws.FnExactSplit", spec := "fnExactSplit", inPlace := ["internal/bytealg.IndexByteString", "internal/bytealg.IndexString"], named := ["internal/bytealg.MaxLen", "loop.example/g00352/impl.nameStarts", "loop.example/g00352/impl.nameParts"], apart := false, laid := [("loop.example/g00352/impl.nameStarts", laid_loop_example_g00352_impl_nameStarts), ("loop.example/g00352/impl.nameParts", laid_loop_example_g00352_impl_nameParts)] }
def FnExactSplitSaid : Prop := fnExactSplitRow.holds Tryd.pinned (OpenSpec.ofChange fnExactSplitSpec)

/-- ITS FALSE NEIGHBOUR: 'it returns false'. Refute it at one input. -/
def fnExactSplitWrong : ChangeSpec := { name := "fnExactSplit", vars := ["loop.example/g00352/impl.nameStarts", "loop.example/g00352/impl.nameParts"], fn := fun _ => fun
  | [d, g1, g2] => { results := [.lit (.bool false)], args := [d], vars := [g1, g2] }
  | _ => none }
def FnExactSplitWrongFalsely : Prop := fnExactSplitRow.holds Tryd.pinned (OpenSpec.ofChange fnExactSplitWrong)

/- THE SECOND FORM. 'bulk': how many values and letters a reading holds, each counted each time it is reached (what is shared counts as often as it is met; a slice's spare places count too). A statement '..UptoSaid' is the law's where the arguments, and the package variables that the reading takes, are together of bulk at most 1048576: NARROWER than '..Said'. Prove '..Said' where nothing that the law and all that it calls make is longer than what came in: it says more and counts as full. Else prove '..UptoSaid'. A law counts once. -/
mutual
def uptoBulk {H : Type} : DataW H → Nat
  | .lit (.string bytes) => bytes.length + 1
  | .lit _ => 1
  | .nil => 1
  | .ptr d => uptoBulk d + 1
  | .slice elems spare => uptoBulkAll elems + uptoBulkAll spare + 1
  | .agg parts => uptoBulkAll parts + 1
  | .iface _ d => uptoBulk d + 1
  | .map entries => uptoBulkEntries entries + 1
  | .held _ => 1
def uptoBulkAll {H : Type} : List (DataW H) → Nat
  | [] => 0
  | d :: r => uptoBulk d + uptoBulkAll r
def uptoBulkEntries {H : Type} : List (Lit × DataW H) → Nat
  | [] => 0
  | x :: r => uptoBulkEntry x + uptoBulkEntries r
def uptoBulkEntry {H : Type} : Lit × DataW H → Nat
  | (.string bytes, d) => bytes.length + uptoBulk d + 1
  | (_, d) => uptoBulk d + 1
 end
def uptoSmall : (H : Type) → List (DataW H) → Bool := fun _ ds => decide (uptoBulkAll ds ≤ 1048576)
def OpenSpec.upto (s : _root_.Go.ChangeSpec) : _root_.Go.OpenSpec := { _root_.Go.OpenSpec.ofChange s with cond := some uptoSmall }

/-- 'laws.FnRunes', WHERE WHAT IT READS IS OF BULK AT MOST 1048576: true; the input reads as it did. -/
def fnRunesUptoRow : OpenClaim := { program := "ytpkhdfddbcpciaadoor", sum := "a64975759dcd6a628d02c96f649cd7b1dced5d13b1a9fba25af9d114668cc685", func := "loop.example/g00352/laws.FnRunes", spec := "fnRunes", inPlace := ["internal/bytealg.CountString", "internal/bytealg.IndexByteString", "internal/bytealg.IndexString", "internal/abi.NoEscape", "internal/bytealg.MakeNoZero"], named := ["internal/bytealg.MaxLen", "unicode/utf8.first", "unicode/utf8.acceptRanges", "loop.example/g00352/impl.nameStarts", "loop.example/g00352/impl.nameParts"], apart := false, laid := [("unicode/utf8.acceptRanges", laid_unicode_utf8_acceptRanges), ("loop.example/g00352/impl.nameStarts", laid_loop_example_g00352_impl_nameStarts), ("loop.example/g00352/impl.nameParts", laid_loop_example_g00352_impl_nameParts), ("unicode/utf8.first", laid_unicode_utf8_first)], narrowed := true }
def FnRunesUptoSaid : Prop := fnRunesUptoRow.holds Tryd.pinned (OpenSpec.upto fnRunesSpec)

/-- 'laws.FnExactNameStart', WHERE WHAT IT READS IS OF BULK AT MOST 1048576: true; the input reads as it did. -/
def fnExactNameStartUptoRow : OpenClaim := { program := "ytpkhdfddbcpciaadoor", sum := "a64975759dcd6a628d02c96f649cd7b1dced5d13b1a9fba25af9d114668cc685", func := "loop.example/g00352/laws.FnExactNameStart", spec := "fnExactNameStart", named := ["loop.example/g00352/impl.nameStarts"], apart := false, laid := [("loop.example/g00352/impl.nameStarts", laid_loop_example_g00352_impl_nameStarts)], narrowed := true }
def FnExactNameStartUptoSaid : Prop := fnExactNameStartUptoRow.holds Tryd.pinned (OpenSpec.upto fnExactNameStartSpec)

/-- 'laws.FnExactNamePart', WHERE WHAT IT READS IS OF BULK AT MOST 1048576: true; the input reads as it did. -/
def fnExactNamePartUptoRow : OpenClaim := { program := "ytpkhdfddbcpciaadoor", sum := "a64975759dcd6a628d02c96f649cd7b1dced5d13b1a9fba25af9d114668cc685", func := "loop.example/g00352/laws.FnExactNamePart", spec := "fnExactNamePart", named := ["loop.example/g00352/impl.nameParts", "loop.example/g00352/impl.nameStarts"], apart := false, laid := [("loop.example/g00352/impl.nameStarts", laid_loop_example_g00352_impl_nameStarts), ("loop.example/g00352/impl.nameParts", laid_loop_example_g00352_impl_nameParts)], narrowed := true }
def FnExactNamePartUptoSaid : Prop := fnExactNamePartUptoRow.holds Tryd.pinned (OpenSpec.upto fnExactNamePartSpec)

/-- 'laws.FnExactEnds', WHERE WHAT IT READS IS OF BULK AT MOST 1048576: true; the input reads as it did. -/
def fnExactEndsUptoRow : OpenClaim := { program := "ytpkhdfddbcpciaadoor", sum := "a64975759dcd6a628d02c96f649cd7b1dced5d13b1a9fba25af9d114668cc685", func := "loop.example/g00352/laws.FnExactEnds", spec := "fnExactEnds", inPlace := ["internal/bytealg.CountString", "internal/bytealg.IndexByteString", "internal/bytealg.IndexString", "internal/abi.NoEscape", "internal/bytealg.MakeNoZero"], named := ["internal/bytealg.MaxLen", "unicode/utf8.first", "unicode/utf8.acceptRanges"], apart := false, laid := [("unicode/utf8.acceptRanges", laid_unicode_utf8_acceptRanges), ("unicode/utf8.first", laid_unicode_utf8_first)], narrowed := true }
def FnExactEndsUptoSaid : Prop := fnExactEndsUptoRow.holds Tryd.pinned (OpenSpec.upto fnExactEndsSpec)

/-- 'laws.FnExactNameRight', WHERE WHAT IT READS IS OF BULK AT MOST 1048576: true; the input reads as it did. -/
def fnExactNameRightUptoRow : OpenClaim := { program := "ytpkhdfddbcpciaadoor", sum := "a64975759dcd6a628d02c96f649cd7b1dced5d13b1a9fba25af9d114668cc685", func := "loop.example/g00352/laws.FnExactNameRight", spec := "fnExactNameRight", named := ["loop.example/g00352/impl.nameStarts", "loop.example/g00352/impl.nameParts"], apart := false, laid := [("loop.example/g00352/impl.nameStarts", laid_loop_example_g00352_impl_nameStarts), ("loop.example/g00352/impl.nameParts", laid_loop_example_g00352_impl_nameParts)], narrowed := true }
def FnExactNameRightUptoSaid : Prop := fnExactNameRightUptoRow.holds Tryd.pinned (OpenSpec.upto fnExactNameRightSpec)

/-- 'laws.FnExactSplit', WHERE WHAT IT READS IS OF BULK AT MOST 1048576: true; the input reads as it did. -/
def fnExactSplitUptoRow : OpenClaim := { program := "ytpkhdfddbcpciaadoor", sum := "a64975759dcd6a628d02c96f649cd7b1dced5d13b1a9fba25af9d114668cc685", func := "loop.example/g00352/laws.FnExactSplit", spec := "fnExactSplit", inPlace := ["internal/bytealg.IndexByteString", "internal/bytealg.IndexString"], named := ["internal/bytealg.MaxLen", "loop.example/g00352/impl.nameStarts", "loop.example/g00352/impl.nameParts"], apart := false, laid := [("loop.example/g00352/impl.nameStarts", laid_loop_example_g00352_impl_nameStarts), ("loop.example/g00352/impl.nameParts", laid_loop_example_g00352_impl_nameParts)], narrowed := true }
def FnExactSplitUptoSaid : Prop := fnExactSplitUptoRow.holds Tryd.pinned (OpenSpec.upto fnExactSplitSpec)

end Rows
end Go.Proofs.YtpkhdfddbcpciaaDoor
