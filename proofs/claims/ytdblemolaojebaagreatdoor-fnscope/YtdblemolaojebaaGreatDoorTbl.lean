import Derived.ProofKit
import Derived.OpenShut
import Derived.Test.YtdblemolaojebaaGreatDoorRows
import Derived.Test.YtdblemolaojebaaGreatDoorCards
import Derived.Test.YtdblemolaojebaaGreatDoorTie
import Derived.Test.YtdblemolaojebaaGreatDoorHd15
import Derived.ShutString
import Derived.OpenVars
import Derived.Deep.DeepHandedRow
import Derived.LaidHandle
import Derived.HandedShaped
import Derived.Lay
namespace Go.Proofs.YtdblemolaojebaaGreatDoor.Tab
open Go.ChangeShapes Go.WideShapes Go.ChangeAt Go.RowKit
theorem aYt {α : Type} (f : α → List Value) : ∀ (zs : List α) (cs : List Value), cs.length = zs.length * 2 → (∀ i (h : i < zs.length), (cs.drop (i * 2)).take 2 = f zs[i]) → cs = zs.flatMap f
 | [], cs, hl, _ => by simp at hl; simp [hl]
 | z :: zs, cs, hl, hf => by
  have h0 := hf 0 (by simp)
  simp at h0
  have hr := aYt f zs (cs.drop 2) (by simp at hl ⊢; omega) (fun i h => by
   have := hf (i + 1) (by simpa using h)
   rw [List.drop_drop]
   rw [show 2 + i * 2 = (i + 1) * 2 by omega]
   simpa using this)
  rw [List.flatMap_cons, ← hr, ← h0, List.take_append_drop]
theorem aYx {H : Type} {enc : TypeId × Value → H} {P : Program} {w : World} {base : Nat} {sp : Nat → Bool} {held : Bool} {fuel : Nat} {t e i : TypeId} {n : Nat} {k : IntKind} {f0 f1 : Field} {cs : List Value} {zs : List (Int × Int)} {p : List MemPlace}
 (ht : P.underlying t = some (.array n e)) (he : P.underlying e = some (.struct #[f0, f1])) (t0 : f0.type = i) (t1 : f1.type = i) (o0 : f0.offset = 0) (o1 : f1.offset = 1)
 (hi : P.underlying i = some (.int k)) (hci : P.cellsOf i = 1) (hce : P.cellsOf e = 2) (hct : P.cellsOf t = n * 2)
 (h : DataW.trod enc P w base sp held fuel t cs = some (.agg (zs.map fun z => .agg [.lit (.int k z.1), .lit (.int k z.2)]), p)) :
 cs = zs.flatMap fun z => [Value.int k z.1, .int k z.2] := by
 obtain ⟨xs, m, _, hx, hl, hlen, hf⟩ := DataW.trod_array ht h
 simp only [Prod.mk.injEq, DataW.agg.injEq] at hx
 obtain ⟨hx, _⟩ := hx
 have hzl : zs.length = n := by
  have := congrArg List.length hx
  simp at this; omega
 refine aYt _ zs cs (by rw [hl, hct, hzl]) (fun j hj => ?_)
 have h1 := hf j (by omega)
 rw [hce] at h1
 have hj' : j < xs.length := by omega
 rw [List.getElem?_eq_getElem hj'] at h1
 have hxj : xs[j].1 = .agg [.lit (.int k zs[j].1), .lit (.int k zs[j].2)] := by
  have := congrArg (fun l => l[j]?) hx
  simp [hj, hj'] at this
  exact this.symm
 obtain ⟨y0, y1, m', hy, hcl, q0, q1⟩ := trod_struct2 he h1
 rw [t0, o0, hci] at q0
 rw [t1, o1, hci] at q1
 obtain ⟨a, ea, rfl, _⟩ := DataW.trod_int hi q0
 obtain ⟨b, eb, rfl, _⟩ := DataW.trod_int hi q1
 rw [hy] at hxj
 simp only [DataW.agg.injEq, List.cons.injEq, DataW.lit.injEq, Lit.int.injEq, true_and, and_true] at hxj
 obtain ⟨rfl, rfl⟩ := hxj
 generalize hch : (cs.drop (j * 2)).take 2 = ch at *
 rw [hce] at hcl
 match ch, hcl with
 | [c0, c1], _ =>
  simp at ea eb
  rw [ea, eb]
def aJk (h : Array Obj) (g : Nat) (cs : Array Value) : Array Obj := h.modify g fun
 | .cells _ t fr => .cells cs t fr
 | o => o
theorem bXs {P : Program} {W : World} {name : String} {g : Nat} {cs : Array Value} (hg : P.globalNamed name = some g) (h : W.var? P name = some cs) : ∃ t fr, W.heap[g]? = some (.cells cs t fr) := by
 unfold World.var? at h
 rw [hg] at h
 simp only [Option.bind_some] at h
 split at h
 · rename_i c t fr hh
   simp at h
   subst h
   exact ⟨t, fr, hh⟩
 · cases h
end Go.Proofs.YtdblemolaojebaaGreatDoor.Tab
namespace Go.Proofs.YtdblemolaojebaaGreatDoor
open Go.ChangeShapes Go.WideShapes Go.ChangeAt Go.RowKit Plain2
theorem gStarts : Tryz.prog.globalNamed "loop.example/g00352/impl.nameStarts" = some 7 := by kernel_rfl
theorem gStartsType : (Tryz.prog.globals[7]?).map (·.type) = some 263 := by kernel_rfl
theorem tableStarts {rest : List (String × DataW Unit)} {W : World} (h : laidMet Tryz.prog (("loop.example/g00352/impl.nameStarts", Rows.laid_loop_example_g00352_impl_nameStarts) :: rest) W) : ∃ t fr, W.heap[7]? = some (.cells aQg t fr) := by
 obtain ⟨ps, ⟨g', t', cs, fuel, p, q, hg', ht', hvar, hd, _, _⟩, _⟩ := h
 obtain rfl := Option.some.inj (gStarts.symm.trans hg')
 obtain rfl := Option.some.inj (gStartsType.symm.trans ht')
 have e := Tab.aYx (zs := aQl) Tryz.underlying263 Tryz.underlying262 rfl rfl rfl rfl Tryz.underlying2 (by kernel_rfl) (by kernel_rfl) (by kernel_rfl) hd
 have e' : cs = aQg := by
  unfold aQg bZ3
  rw [← e]
 subst e'
 exact Tab.bXs gStarts hvar
theorem gParts : Tryz.prog.globalNamed "loop.example/g00352/impl.nameParts" = some 8 := by kernel_rfl
theorem gPartsType : (Tryz.prog.globals[8]?).map (·.type) = some 264 := by kernel_rfl
theorem tableBoth {rest : List (String × DataW Unit)} {W : World} (h : laidMet Tryz.prog (("loop.example/g00352/impl.nameStarts", Rows.laid_loop_example_g00352_impl_nameStarts) :: ("loop.example/g00352/impl.nameParts", Rows.laid_loop_example_g00352_impl_nameParts) :: rest) W) :
 (∃ t fr, W.heap[7]? = some (.cells aQg t fr)) ∧ (∃ t fr, W.heap[8]? = some (.cells aXr t fr)) := by
 refine ⟨tableStarts h, ?_⟩
 obtain ⟨ps, ⟨_, _, _, _, _, _, _, _, _, _, ⟨g', t', cs, fuel, p, q, hg', ht', hvar, hd, _, _⟩, _⟩, _⟩ := h
 obtain rfl := Option.some.inj (gParts.symm.trans hg')
 obtain rfl := Option.some.inj (gPartsType.symm.trans ht')
 have e := Tab.aYx (zs := aZb) Tryz.underlying264 Tryz.underlying262 rfl rfl rfl rfl Tryz.underlying2 (by kernel_rfl) (by kernel_rfl) (by kernel_rfl) hd
 have e' : cs = aXr := by
  unfold aXr bZ3
  rw [← e]
 subst e'
 exact Tab.bXs gParts hvar
open Go.RowKit
def IsRow (k : IntKind) (w : World) (a : Option Addr) (len cap : Nat) (zs : List Int) : Prop :=
 (a = none ∧ len = 0 ∧ cap = 0 ∧ zs = []) ∨
 ∃ x, a = some x ∧ len ≤ cap ∧ cap ≤ maxLen ∧ zs.length = cap ∧ (∀ i, i < zs.length → w.cell? (x.add i) = some (.int k (zs.getD i 0))) ∧ ∀ n ∈ zs, (Lit.int k n).wf = true
end Go.Proofs.YtdblemolaojebaaGreatDoor
namespace Go.Proofs.YtdblemolaojebaaGreatDoor.frameH
open Go.ChangeShapes Go.WideShapes Go.ChangeAt Go.RowKit
theorem own : ownKnob Tryz.prog.godebug = none := by kernel_rfl
theorem laidOut : laidOutB Tryz.prog = true := by kernel_rfl
theorem peel {P : Program} {x : String × DataW Unit} {r : List (String × DataW Unit)} {W : World} (h : laidMet P (x :: r) W) : laidMet P r W := by
 obtain ⟨ps, ⟨g, t, cs, fuel, p, q, h1, h2, h3, h4, h5, rfl⟩, hn, hc⟩ := h
 exact ⟨q, h5, (List.nodup_append.1 hn).2.1, fun b off hm => hc b off (List.mem_append.2 (.inr hm))⟩
theorem maxCell {W : World} (h : W.ShapedOpen Tryz.prog) : ∃ m, W.cell? ⟨1, 0, none⟩ = some (.int .i64 m) :=
 Go.Proofs.cell_of_shapedOpen_int (zero := #[.int .i64 0]) (t := 3) h (of_decide_eq_true (by kernel_rfl)) (by kernel_rfl) rfl (by kernel_rfl) (by kernel_rfl) Tryz.underlying3
theorem gEt : Tryz.prog.globalNamed "errors.errorType" = some 0 := by kernel_rfl
theorem gRt : (Tryz.prog.cutTypes.find? (·.1 == "internal/reflectlite.rtype")).map (·.2) = some 225 := by kernel_rfl
theorem oneRow : ((List.range (424 - 100)).filter fun t => Tryz.prog.rowNamed t [101, 114, 114, 111, 114]) = [90] := by kernel_rfl
theorem tSize : Tryz.prog.types.size = 424 - 100 := by kernel_rfl
theorem etOf {W : World} (h : handlesMet Tryz.prog [("errors.errorType", Rows.laid_errors_errorType)] W) : aV3 W := by
 obtain ⟨name, u, ty, e1, e2, e3, e4, e5⟩ := h _ (List.mem_singleton.2 rfl)
 have en : name = [101, 114, 114, 111, 114] := (Option.some.inj e1).symm
 subst en
 obtain rfl := Option.some.inj (gRt.symm.trans e2)
 have hm : ty ∈ (List.range (424 - 100)).filter fun t => Tryz.prog.rowNamed t [101, 114, 114, 111, 114] := List.mem_filter.2 ⟨List.mem_range.2 (by rw [← tSize]; exact e3), e4⟩
 rw [oneRow] at hm
 obtain rfl := List.mem_singleton.1 hm
 have hh : typeHandle Tryz.prog 90 = .pointer (some ⟨14, 90, none⟩) := by kernel_rfl
 rw [hh] at e5
 unfold aV3
 simpa using World.var?_cell gEt e5 0
def numsOf : DataW Unit → List Int
 | .agg ps => ps.map fun | .lit (.int _ n) => n | _ => 0
 | _ => []
theorem gFold : Tryz.prog.globalNamed "unicode.asciiFold" = some 4 := by kernel_rfl
theorem gFoldType : (Tryz.prog.globals[4]?).map (·.type) = some 251 := by kernel_rfl
theorem foldData : (Rows.laid_unicode_asciiFold : DataW Unit) = Lib.tabData .u16 (numsOf Rows.laid_unicode_asciiFold) := by kernel_rfl
theorem foldOf {rest : List (String × DataW Unit)} {W : World} (h : laidMet Tryz.prog (("unicode.asciiFold", Rows.laid_unicode_asciiFold) :: rest) W) :
 ∀ i z, (i, z) ∈ bZ0 → W.cell? ⟨4, i, none⟩ = some (.int .u16 z) := by
 rw [foldData] at h
 have ht := Lib.tabIs_of_head gFold gFoldType Tryz.underlying251 Tryz.underlying250 (by kernel_rfl) (by kernel_rfl) h
 intro i z hz
 have key : ∀ x ∈ bZ0, x.1 < (numsOf Rows.laid_unicode_asciiFold).length ∧ (numsOf Rows.laid_unicode_asciiFold).getD x.1 0 = x.2 := by decide +kernel
 obtain ⟨k1, k2⟩ := key _ hz
 rw [ht.cell gFold i k1, k2]
theorem gSyn : Tryz.prog.globalNamed "strconv.ErrSyntax" = some 9 := by kernel_rfl
theorem gSynType : (Tryz.prog.globals[9]?).map (·.type) = some 90 := by kernel_rfl
theorem synCell {P : Program} {W : World} {n nm : String} {d : DataW Unit} {g : Nat} {ti : TypeId} {ms : Array (String × TypeId)} {rest : List (String × DataW Unit)} (h : laidMet P ((n, .iface nm d) :: rest) W) (hg : P.globalNamed n = some g) (ht : (P.globals[g]?).map (·.type) = some ti) (hi : P.underlying ti = some (.interface ms)) :
 ∃ u v, W.cell? ⟨g, 0, none⟩ = some (.iface u v) := by
 obtain ⟨ps, ⟨g0, t0, cs0, f0, p0, q0, hg0, ht0, hv0, hd0, _, _⟩, _, _⟩ := h
 obtain rfl := Option.some.inj (hg.symm.trans hg0)
 obtain rfl := Option.some.inj (ht.symm.trans ht0)
 obtain ⟨l0⟩ := cs0
 obtain ⟨f1, u, v, hl, _, _⟩ := iface_of_trod hi hd0
 have hc := World.var?_cell hg hv0 0
 simp only at hl
 subst hl
 exact ⟨u, v, by simpa using hc⟩
theorem synOf {rest : List (String × DataW Unit)} {W : World} (h : laidMet Tryz.prog (("strconv.ErrSyntax", Rows.laid_strconv_ErrSyntax) :: rest) W) : SynCell W := by
 obtain ⟨u, v, hc⟩ := synCell h gSyn gSynType Tryz.underlying90
 exact ⟨_, hc, .inr ⟨u, v, rfl⟩⟩
theorem envOf {W : World} (h : laidMetH Tryz.prog [("math/bits.deBruijn32tab", Rows.laid_math_bits_deBruijn32tab), ("math/bits.deBruijn64tab", Rows.laid_math_bits_deBruijn64tab), ("internal/strconv.uint64pow10", Rows.laid_internal_strconv_uint64pow10), ("unicode/utf8.acceptRanges", Rows.laid_unicode_utf8_acceptRanges), ("errors.errorType", Rows.laid_errors_errorType), ("strconv.ErrRange", Rows.laid_strconv_ErrRange), ("strconv.ErrSyntax", Rows.laid_strconv_ErrSyntax), ("unicode.asciiFold", Rows.laid_unicode_asciiFold), ("unicode.caseOrbit", Rows.laid_unicode_caseOrbit), ("loop.example/g00352/impl.nameStarts", Rows.laid_loop_example_g00352_impl_nameStarts), ("loop.example/g00352/impl.nameParts", Rows.laid_loop_example_g00352_impl_nameParts), ("unicode.CaseRanges", Rows.laid_unicode_CaseRanges), ("unicode/utf8.first", Rows.laid_unicode_utf8_first)] W) (hsh : W.ShapedOpen Tryz.prog) : ∃ m, EnvH W m ∧ aV3 W := by
 have h' : laidMet Tryz.prog [("math/bits.deBruijn32tab", Rows.laid_math_bits_deBruijn32tab), ("math/bits.deBruijn64tab", Rows.laid_math_bits_deBruijn64tab), ("internal/strconv.uint64pow10", Rows.laid_internal_strconv_uint64pow10), ("unicode/utf8.acceptRanges", Rows.laid_unicode_utf8_acceptRanges), ("strconv.ErrRange", Rows.laid_strconv_ErrRange), ("strconv.ErrSyntax", Rows.laid_strconv_ErrSyntax), ("unicode.asciiFold", Rows.laid_unicode_asciiFold), ("unicode.caseOrbit", Rows.laid_unicode_caseOrbit), ("loop.example/g00352/impl.nameStarts", Rows.laid_loop_example_g00352_impl_nameStarts), ("loop.example/g00352/impl.nameParts", Rows.laid_loop_example_g00352_impl_nameParts), ("unicode.CaseRanges", Rows.laid_unicode_CaseRanges), ("unicode/utf8.first", Rows.laid_unicode_utf8_first)] W ∧ handlesMet Tryz.prog [("errors.errorType", Rows.laid_errors_errorType)] W := h
 obtain ⟨m, hm⟩ := maxCell hsh
 have h0 := peel (peel (peel (peel (peel h'.1))))
 have h1 := peel h0
 have h3 := peel (peel h1)
 exact ⟨m, ⟨⟨⟨(tableBoth h3).1, (tableBoth h3).2⟩, hm, foldOf h1⟩, synOf h0⟩, etOf h'.2⟩
def aVv : Array Value := #[.iface 225 (.agg #[.pointer (some ⟨14, 90, none⟩)])]
def aWm : List (String × DataW Unit) := [("math/bits.deBruijn32tab", Rows.laid_math_bits_deBruijn32tab), ("math/bits.deBruijn64tab", Rows.laid_math_bits_deBruijn64tab), ("internal/strconv.uint64pow10", Rows.laid_internal_strconv_uint64pow10), ("unicode/utf8.acceptRanges", Rows.laid_unicode_utf8_acceptRanges), ("strconv.ErrRange", Rows.laid_strconv_ErrRange), ("strconv.ErrSyntax", Rows.laid_strconv_ErrSyntax), ("unicode.asciiFold", Rows.laid_unicode_asciiFold), ("unicode.caseOrbit", Rows.laid_unicode_caseOrbit), ("loop.example/g00352/impl.nameStarts", Rows.laid_loop_example_g00352_impl_nameStarts), ("loop.example/g00352/impl.nameParts", Rows.laid_loop_example_g00352_impl_nameParts), ("unicode.CaseRanges", Rows.laid_unicode_CaseRanges), ("unicode/utf8.first", Rows.laid_unicode_utf8_first)]
theorem lw_os (os : Os) : ((({ World.holding Tryz.prog os ⟨#[], #[], []⟩ with heap := Tab.aJk (World.holding Tryz.prog os ⟨#[], #[], []⟩).heap 0 aVv } : World)).layVars Tryz.prog aWm).os = os := World.layVars_os _ _ _
theorem fits (os : Os) : ({ World.holding Tryz.prog os ⟨#[], #[], []⟩ with heap := Tab.aJk (World.holding Tryz.prog os ⟨#[], #[], []⟩).heap 0 aVv } : World).layFits Tryz.prog aWm [] = true := by kernel_rfl
theorem ifaces (os : Os) : ({ World.holding Tryz.prog os ⟨#[], #[], []⟩ with heap := Tab.aJk (World.holding Tryz.prog os ⟨#[], #[], []⟩).heap 0 aVv } : World).layIfaces Tryz.prog aWm ((({ World.holding Tryz.prog os ⟨#[], #[], []⟩ with heap := Tab.aJk (World.holding Tryz.prog os ⟨#[], #[], []⟩).heap 0 aVv } : World)).layVars Tryz.prog aWm) = true := by kernel_rfl
theorem met (os : Os) (args : Array Value) : laidMet Tryz.prog aWm (((({ World.holding Tryz.prog os ⟨#[], #[], []⟩ with heap := Tab.aJk (World.holding Tryz.prog os ⟨#[], #[], []⟩).heap 0 aVv } : World)).layVars Tryz.prog aWm).forCall (fun _ _ => 0) ⟨#[], args, []⟩).memory := by
 have e1 : (aWm.filter fun x => (aWm.map (·.1)).contains x.1) = aWm := List.filter_eq_self.2 fun x hx => List.contains_iff_mem.2 (List.mem_map.2 ⟨x, hx, rfl⟩)
 have e2 : (aWm.filter fun x => !(aWm.map (·.1)).contains x.1) = [] := List.filter_eq_nil_iff.2 fun x hx => by rw [List.contains_iff_mem.2 (List.mem_map.2 ⟨x, hx, rfl⟩)]; simp
 have h : laidMet Tryz.prog aWm ((({ World.holding Tryz.prog os ⟨#[], #[], []⟩ with heap := Tab.aJk (World.holding Tryz.prog os ⟨#[], #[], []⟩).heap 0 aVv } : World)).layVars Tryz.prog aWm) := laidMet_layVars (w0 := ({ World.holding Tryz.prog os ⟨#[], #[], []⟩ with heap := Tab.aJk (World.holding Tryz.prog os ⟨#[], #[], []⟩).heap 0 aVv } : World)) (aWm.map (·.1)) [] (by rw [e1]) (by rw [e1]; exact fits os) (by rw [e1]; exact ifaces os) (by rw [e2]; exact LaidIn.none)
 exact h.of_heap (by simp [World.memory, World.forCall, Input.heap])
end Go.Proofs.YtdblemolaojebaaGreatDoor.frameH
