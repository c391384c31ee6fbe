import Derived.Test.YtmaoefokimjkbaaGreatDoorCards
import Derived.Test.YtmaoefokimjkbaaGreatDoorTie
import Derived.Test.YtmaoefokimjkbaaGreatDoorHd15
import Derived.Test.YtmaoefokimjkbaaGreatDoorTbl
import Derived.WalkKit
import Derived.ProofKit
import Derived.OpenShut
import Derived.ShutString
import Derived.OpenVars
import Derived.Deep.DeepHandedRow
import Derived.Lib.LaidTab
import Derived.LaidLaws
import Derived.LaidHandle
import Derived.HandedShaped
import Derived.Lay
namespace Go.Proofs.YtmaoefokimjkbaaGreatDoor.frameH
open Go.ChangeShapes Go.WideShapes Go.ChangeAt Go.RowKit
theorem own : ownKnob Tryz.prog.godebug = none := by kernel_rfl
theorem laidOut : laidOutB Tryz.prog = true := by kernel_rfl
theorem peel {P : Program} {x : String × DataW Unit} {r : List (String × DataW Unit)} {W : World} (h : laidMet P (x :: r) W) : laidMet P r W := by
 obtain ⟨ps, ⟨g, t, cs, fuel, p, q, h1, h2, h3, h4, h5, rfl⟩, hn, hc⟩ := h
 exact ⟨q, h5, (List.nodup_append.1 hn).2.1, fun b off hm => hc b off (List.mem_append.2 (.inr hm))⟩
theorem maxCell {W : World} (h : W.ShapedOpen Tryz.prog) : ∃ m, W.cell? ⟨1, 0, none⟩ = some (.int .i64 m) :=
 Go.Proofs.cell_of_shapedOpen_int (zero := #[.int .i64 0]) (t := 3) h (of_decide_eq_true (by kernel_rfl)) (by kernel_rfl) rfl (by kernel_rfl) (by kernel_rfl) Tryz.underlying3
theorem gEt : Tryz.prog.globalNamed "errors.errorType" = some 0 := by kernel_rfl
theorem gRt : (Tryz.prog.cutTypes.find? (·.1 == "internal/reflectlite.rtype")).map (·.2) = some 228 := by kernel_rfl
theorem oneRow : ((List.range (427 - 100)).filter fun t => Tryz.prog.rowNamed t [101, 114, 114, 111, 114]) = [95] := by kernel_rfl
theorem tSize : Tryz.prog.types.size = 427 - 100 := by kernel_rfl
theorem etOf {W : World} (h : handlesMet Tryz.prog [("errors.errorType", Rows.laid_errors_errorType)] W) : EtCell W := by
 obtain ⟨name, u, ty, e1, e2, e3, e4, e5⟩ := h _ (List.mem_singleton.2 rfl)
 have en : name = [101, 114, 114, 111, 114] := (Option.some.inj e1).symm
 subst en
 obtain rfl := Option.some.inj (gRt.symm.trans e2)
 have hm : ty ∈ (List.range (427 - 100)).filter fun t => Tryz.prog.rowNamed t [101, 114, 114, 111, 114] := List.mem_filter.2 ⟨List.mem_range.2 (by rw [← tSize]; exact e3), e4⟩
 rw [oneRow] at hm
 obtain rfl := List.mem_singleton.1 hm
 have hh : typeHandle Tryz.prog 95 = .pointer (some ⟨14, 95, none⟩) := by kernel_rfl
 rw [hh] at e5
 unfold EtCell
 simpa using World.var?_cell gEt e5 0
def numsOf : DataW Unit → List Int
 | .agg ps => ps.map fun | .lit (.int _ n) => n | _ => 0
 | _ => []
theorem gFold : Tryz.prog.globalNamed "unicode.asciiFold" = some 4 := by kernel_rfl
theorem gFoldType : (Tryz.prog.globals[4]?).map (·.type) = some 254 := by kernel_rfl
theorem foldData : (Rows.laid_unicode_asciiFold : DataW Unit) = Lib.tabData .u16 (numsOf Rows.laid_unicode_asciiFold) := by kernel_rfl
theorem foldOf {rest : List (String × DataW Unit)} {W : World} (h : laidMet Tryz.prog (("unicode.asciiFold", Rows.laid_unicode_asciiFold) :: rest) W) :
 ∀ i z, (i, z) ∈ foldL → W.cell? ⟨4, i, none⟩ = some (.int .u16 z) := by
 rw [foldData] at h
 have ht := Lib.tabIs_of_head gFold gFoldType Tryz.underlying254 Tryz.underlying253 (by kernel_rfl) (by kernel_rfl) h
 intro i z hz
 have key : ∀ x ∈ foldL, x.1 < (numsOf Rows.laid_unicode_asciiFold).length ∧ (numsOf Rows.laid_unicode_asciiFold).getD x.1 0 = x.2 := by decide +kernel
 obtain ⟨k1, k2⟩ := key _ hz
 rw [ht.cell gFold i k1, k2]
theorem gSyn : Tryz.prog.globalNamed "strconv.ErrSyntax" = some 9 := by kernel_rfl
theorem gSynType : (Tryz.prog.globals[9]?).map (·.type) = some 95 := by kernel_rfl
theorem synCell {P : Program} {W : World} {n nm : String} {d : DataW Unit} {g : Nat} {ti : TypeId} {ms : Array (String × TypeId)} {rest : List (String × DataW Unit)} (h : laidMet P ((n, .iface nm d) :: rest) W) (hg : P.globalNamed n = some g) (ht : (P.globals[g]?).map (·.type) = some ti) (hi : P.underlying ti = some (.interface ms)) :
 ∃ u v, W.cell? ⟨g, 0, none⟩ = some (.iface u v) := by
 obtain ⟨ps, ⟨g0, t0, cs0, f0, p0, q0, hg0, ht0, hv0, hd0, _, _⟩, _, _⟩ := h
 obtain rfl := Option.some.inj (hg.symm.trans hg0)
 obtain rfl := Option.some.inj (ht.symm.trans ht0)
 obtain ⟨l0⟩ := cs0
 obtain ⟨f1, u, v, hl, _, _⟩ := iface_of_trod hi hd0
 have hc := World.var?_cell hg hv0 0
 simp only at hl
 subst hl
 exact ⟨u, v, by simpa using hc⟩
theorem synOf {rest : List (String × DataW Unit)} {W : World} (h : laidMet Tryz.prog (("strconv.ErrSyntax", Rows.laid_strconv_ErrSyntax) :: rest) W) : SynCell W := by
 obtain ⟨u, v, hc⟩ := synCell h gSyn gSynType Tryz.underlying95
 exact ⟨_, hc, .inr ⟨u, v, rfl⟩⟩
theorem envOf {W : World} (h : laidMetH Tryz.prog [("math/bits.deBruijn32tab", Rows.laid_math_bits_deBruijn32tab), ("math/bits.deBruijn64tab", Rows.laid_math_bits_deBruijn64tab), ("internal/strconv.uint64pow10", Rows.laid_internal_strconv_uint64pow10), ("unicode/utf8.acceptRanges", Rows.laid_unicode_utf8_acceptRanges), ("errors.errorType", Rows.laid_errors_errorType), ("strconv.ErrRange", Rows.laid_strconv_ErrRange), ("strconv.ErrSyntax", Rows.laid_strconv_ErrSyntax), ("unicode.asciiFold", Rows.laid_unicode_asciiFold), ("unicode.caseOrbit", Rows.laid_unicode_caseOrbit), ("loop.example/g00352/impl.nameStarts", Rows.laid_loop_example_g00352_impl_nameStarts), ("loop.example/g00352/impl.nameParts", Rows.laid_loop_example_g00352_impl_nameParts), ("unicode.CaseRanges", Rows.laid_unicode_CaseRanges), ("unicode/utf8.first", Rows.laid_unicode_utf8_first)] W) (hsh : W.ShapedOpen Tryz.prog) : ∃ m, EnvH W m ∧ EtCell W := by
 have h' : laidMet Tryz.prog [("math/bits.deBruijn32tab", Rows.laid_math_bits_deBruijn32tab), ("math/bits.deBruijn64tab", Rows.laid_math_bits_deBruijn64tab), ("internal/strconv.uint64pow10", Rows.laid_internal_strconv_uint64pow10), ("unicode/utf8.acceptRanges", Rows.laid_unicode_utf8_acceptRanges), ("strconv.ErrRange", Rows.laid_strconv_ErrRange), ("strconv.ErrSyntax", Rows.laid_strconv_ErrSyntax), ("unicode.asciiFold", Rows.laid_unicode_asciiFold), ("unicode.caseOrbit", Rows.laid_unicode_caseOrbit), ("loop.example/g00352/impl.nameStarts", Rows.laid_loop_example_g00352_impl_nameStarts), ("loop.example/g00352/impl.nameParts", Rows.laid_loop_example_g00352_impl_nameParts), ("unicode.CaseRanges", Rows.laid_unicode_CaseRanges), ("unicode/utf8.first", Rows.laid_unicode_utf8_first)] W ∧ handlesMet Tryz.prog [("errors.errorType", Rows.laid_errors_errorType)] W := h
 obtain ⟨m, hm⟩ := maxCell hsh
 have h0 := peel (peel (peel (peel (peel h'.1))))
 have h1 := peel h0
 have h3 := peel (peel h1)
 exact ⟨m, ⟨⟨⟨(tableBoth h3).1, (tableBoth h3).2⟩, hm, foldOf h1⟩, synOf h0⟩, etOf h'.2⟩
def etCells : Array Value := #[.iface 228 (.agg #[.pointer (some ⟨14, 95, none⟩)])]
def laidP : List (String × DataW Unit) := [("math/bits.deBruijn32tab", Rows.laid_math_bits_deBruijn32tab), ("math/bits.deBruijn64tab", Rows.laid_math_bits_deBruijn64tab), ("internal/strconv.uint64pow10", Rows.laid_internal_strconv_uint64pow10), ("unicode/utf8.acceptRanges", Rows.laid_unicode_utf8_acceptRanges), ("strconv.ErrRange", Rows.laid_strconv_ErrRange), ("strconv.ErrSyntax", Rows.laid_strconv_ErrSyntax), ("unicode.asciiFold", Rows.laid_unicode_asciiFold), ("unicode.caseOrbit", Rows.laid_unicode_caseOrbit), ("loop.example/g00352/impl.nameStarts", Rows.laid_loop_example_g00352_impl_nameStarts), ("loop.example/g00352/impl.nameParts", Rows.laid_loop_example_g00352_impl_nameParts), ("unicode.CaseRanges", Rows.laid_unicode_CaseRanges), ("unicode/utf8.first", Rows.laid_unicode_utf8_first)]
theorem lw_os (os : Os) : ((({ World.holding Tryz.prog os ⟨#[], #[], []⟩ with heap := Tab.putCells (World.holding Tryz.prog os ⟨#[], #[], []⟩).heap 0 etCells } : World)).layVars Tryz.prog laidP).os = os := World.layVars_os _ _ _
theorem fits (os : Os) : ({ World.holding Tryz.prog os ⟨#[], #[], []⟩ with heap := Tab.putCells (World.holding Tryz.prog os ⟨#[], #[], []⟩).heap 0 etCells } : World).layFits Tryz.prog laidP [] = true := by kernel_rfl
theorem ifaces (os : Os) : ({ World.holding Tryz.prog os ⟨#[], #[], []⟩ with heap := Tab.putCells (World.holding Tryz.prog os ⟨#[], #[], []⟩).heap 0 etCells } : World).layIfaces Tryz.prog laidP ((({ World.holding Tryz.prog os ⟨#[], #[], []⟩ with heap := Tab.putCells (World.holding Tryz.prog os ⟨#[], #[], []⟩).heap 0 etCells } : World)).layVars Tryz.prog laidP) = true := by kernel_rfl
theorem met (os : Os) (args : Array Value) : laidMet Tryz.prog laidP (((({ World.holding Tryz.prog os ⟨#[], #[], []⟩ with heap := Tab.putCells (World.holding Tryz.prog os ⟨#[], #[], []⟩).heap 0 etCells } : World)).layVars Tryz.prog laidP).forCall (fun _ _ => 0) ⟨#[], args, []⟩).memory := by
 have e1 : (laidP.filter fun x => (laidP.map (·.1)).contains x.1) = laidP := List.filter_eq_self.2 fun x hx => List.contains_iff_mem.2 (List.mem_map.2 ⟨x, hx, rfl⟩)
 have e2 : (laidP.filter fun x => !(laidP.map (·.1)).contains x.1) = [] := List.filter_eq_nil_iff.2 fun x hx => by rw [List.contains_iff_mem.2 (List.mem_map.2 ⟨x, hx, rfl⟩)]; simp
 have h : laidMet Tryz.prog laidP ((({ World.holding Tryz.prog os ⟨#[], #[], []⟩ with heap := Tab.putCells (World.holding Tryz.prog os ⟨#[], #[], []⟩).heap 0 etCells } : World)).layVars Tryz.prog laidP) := laidMet_layVars (w0 := ({ World.holding Tryz.prog os ⟨#[], #[], []⟩ with heap := Tab.putCells (World.holding Tryz.prog os ⟨#[], #[], []⟩).heap 0 etCells } : World)) (laidP.map (·.1)) [] (by rw [e1]) (by rw [e1]; exact fits os) (by rw [e1]; exact ifaces os) (by rw [e2]; exact LaidIn.none)
 exact h.of_heap (by simp [World.memory, World.forCall, Input.heap])
end Go.Proofs.YtmaoefokimjkbaaGreatDoor.frameH
