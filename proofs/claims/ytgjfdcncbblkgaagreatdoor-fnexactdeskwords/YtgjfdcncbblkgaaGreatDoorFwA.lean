/- A world that meets the list of the row's variables: the world. -/
import Derived.Test.YtgjfdcncbblkgaaGreatDoorRows
import Derived.Test.YtgjfdcncbblkgaaGreatDoorTab
import Derived.WalkKit
import Derived.ProofKit
import Derived.OpenShut
import Derived.ShutString
import Derived.OpenVars
import Derived.Deep.DeepHandedRow
import Derived.Lib.LaidTab
import Derived.LaidLaws
import Derived.LaidHandle
import Derived.HandedShaped
import Derived.Lay
import Derived.ChangeOld
namespace Go.Proofs.YtgjfdcncbblkgaaGreatDoor.faceW
open Go.ChangeShapes Go.WideShapes Go.ChangeAt Go.RowKit
set_option maxRecDepth 100000
def etCells : Array Value := #[.iface 313 (.agg #[.pointer (some ⟨14, 109, none⟩)])]
def laidP : List (String × DataW Unit) := [("loop.example/g00352/impl.nameStarts", Rows.laid_loop_example_g00352_impl_nameStarts), ("loop.example/g00352/impl.nameParts", Rows.laid_loop_example_g00352_impl_nameParts), ("unicode/utf8.first", Rows.laid_unicode_utf8_first), ("unicode/utf8.acceptRanges", Rows.laid_unicode_utf8_acceptRanges), ("unicode.asciiFold", Rows.laid_unicode_asciiFold), ("unicode.caseOrbit", Rows.laid_unicode_caseOrbit), ("unicode.CaseRanges", Rows.laid_unicode_CaseRanges), ("strconv.ErrSyntax", Rows.laid_strconv_ErrSyntax), ("strconv.ErrRange", Rows.laid_strconv_ErrRange), ("internal/strconv.uint64pow10", Rows.laid_internal_strconv_uint64pow10), ("math/bits.deBruijn32tab", Rows.laid_math_bits_deBruijn32tab), ("math/bits.deBruijn64tab", Rows.laid_math_bits_deBruijn64tab)]
theorem lw_os (os : Os) : (({ World.holding Tryz.prog os ⟨#[], #[], []⟩ with heap := Tab.putCells (World.holding Tryz.prog os ⟨#[], #[], []⟩).heap 4 etCells } : World).layVars Tryz.prog laidP).os = os := World.layVars_os _ _ _
end Go.Proofs.YtgjfdcncbblkgaaGreatDoor.faceW
