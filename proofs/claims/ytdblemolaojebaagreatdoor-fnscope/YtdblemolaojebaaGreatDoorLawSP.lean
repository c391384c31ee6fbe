/- Proved: whatever bytes are drawn from, the law FnScope of the landed code returns true, that is, of the 42 documents of elements within one another, with a prefix or without, that declare a space at the outermost element and at another one, impl.Read and impl.Spaced tell nodes each of which has the space that is declared nearest around it, and the one outside again behind that; the argument and the tables impl.nameStarts and impl.nameParts read behind the call as before. No condition but that the listed variables hold what their initialisers lay, which the card ties to the program's text. -/
import Derived.Test.YtdblemolaojebaaGreatDoorLwS
import Derived.Test.YtdblemolaojebaaGreatDoorTbl
set_option maxRecDepth 100000
namespace Go.Proofs.YtdblemolaojebaaGreatDoor.fnScope
open Go.ChangeShapes Go.WideShapes Go.ChangeAt Go.RowKit
theorem walk (a : Option Addr) (n cap : Nat) (w : World) (m : Int) (hF : n ≤ 1048576 → ∃ zs, FedL w a n zs) (hE : EnvH w m) (hT : aV3 w) :
 Calls Tryz.prog 3 #[.slice a n cap] w fun e w' => e = .returned (.bool true) ∧ Below w.heap.size w w' := by
 by_cases hn : 1048576 < n
 · exact long a n cap w hn
 obtain ⟨zs, hS⟩ := hF (by omega)
 have a0 := lwV_lt zs 0 2 (by decide)
 have a1 := lwV_lt zs 1 6 (by decide)
 have a2 := lwV_lt zs 2 (1 + lwV zs 1 6) (by omega)
 obtain ⟨p, hp⟩ : ∃ p : Bool, lwV zs 0 2 = qS p := by
  have : lwV zs 0 2 = 0 ∨ lwV zs 0 2 = 1 := by omega
  rcases this with h | h
  · exact ⟨false, h⟩
  · exact ⟨true, h⟩
 exact walk1 a n cap w m zs hS ⟨hE, hT⟩ p hp _ _ rfl rfl a1 a2
theorem fed_of_row {w : World} {a : Option Addr} {len cap : Nat} {zs : List Int} (h : IsRow .u8 w a len cap zs) (hl : len ≤ 1048576) : ∃ zs, FedL w a len zs := by
 rcases h with ⟨rfl, rfl, rfl, rfl⟩ | ⟨x, rfl, h1, h2, h3, hc, hwf⟩
 · exact ⟨[], rfl, hl, Lists.Ints.nil _ _ _, fun i hi => by simp at hi⟩
 · have hrow : IsRow .u8 w (some x) len cap zs := .inr ⟨x, rfl, h1, h2, h3, hc, hwf⟩
   refine ⟨zs.take len, by simp; omega, hl, ?_, fun i hi => ?_⟩
   · by_cases h0 : 0 < cap
     · obtain ⟨b, off, rfl, hc'⟩ := ints_at hc (by omega)
       refine ⟨b, off, fun _ => rfl, fun i hi => ?_⟩
       simp at hi
       have := hc' i (by omega)
       rw [this]
       have hz : i < zs.length := by omega
       simp [List.getD, hi, hz]
     · have : zs = [] := List.eq_nil_of_length_eq_zero (by omega)
       subst this
       simp
       exact Lists.Ints.nil _ _ _
   · simp at hi
     have hz : i < zs.length := by omega
     have hm : zs[i] ∈ zs := List.getElem_mem hz
     have := bounds_u8 (hwf _ hm)
     simp [List.getD, hi]
     omega
theorem contract (H : Type) (enc : TypeId × Value → H) (W : World) (base : Nat) (args : Array Value) (ds gs : List (DataW H)) (before : List MemPlace)
 (hval : ∀ (j : Nat) t v, Tryz.f3.params[j]? = some t → args[j]? = some v → Value.okWide Tryz.prog W .any base t v)
 (hW : DataW.Whole enc Tryz.prog Tryz.f3.params.toList Rows.fnScopeSpec.vars false W args.toList ds gs before) (hL : laidMetH Tryz.prog Rows.fnScopeRow.laid W) (hsh : W.ShapedOpen Tryz.prog) :
 Calls Tryz.prog 3 args W fun e W' => ∃ v, e = .returned v ∧ Rows.fnScopeSpec.post enc Tryz.prog Tryz.f3 false true false false W args v W' := by
 have hW' := hW
 obtain ⟨p, q, hA0, hV, rfl, hfz, hnd⟩ := hW
 have hA : DataW.TrodAll enc Tryz.prog W 0 (fun _ => true) true Tryz.f3.params.toList args.toList ds p := hA0
 rw [Tryz.params3] at hA hval
 obtain ⟨v0, vs0, d0, ds0, p0, q0, hargs, rfl, rfl, h0, r0⟩ := trodAll_cons hA
 obtain ⟨rfl, rfl, rfl⟩ := trodAll_nil r0
 obtain rfl : args = #[v0] := Array.ext' hargs
 obtain ⟨a0, len0, cap0, rfl⟩ := okWide_slice Tryz.underlying22 (hval 0 22 v0 rfl rfl)
 have k0 := h0
 have lt0 : ∀ x ∈ p0, x.block < W.heap.size := by obtain ⟨m, hm⟩ := k0; exact DataW.trod_lt m _ _ _ hm
 obtain ⟨z0, w0⟩ : ∃ zs, IsRow .u8 W a0 len0 cap0 zs := by
  obtain ⟨fuel, hf⟩ := h0
  rcases open_ints Tryz.underlying22 Tryz.underlying5 (by kernel_rfl) hf with ⟨hcs, _⟩ | ⟨x, l, c, zs, hcs, _, hl, hm, hz, _, hcell, hwz⟩
  · simp [Value.cells] at hcs
    obtain ⟨rfl, rfl, rfl⟩ := hcs
    exact ⟨[], .inl ⟨rfl, rfl, rfl, rfl⟩⟩
  · simp [Value.cells] at hcs
    obtain ⟨rfl, rfl, rfl⟩ := hcs
    exact ⟨zs, .inr ⟨_, rfl, hl, hm, by simpa using hz, hcell, hwz⟩⟩
 obtain ⟨m, hE, hT⟩ := frameH.envOf hL hsh
 clear hA0
 match gs, hV with
 | [g1, g2], hV =>
  refine (walk a0 len0 cap0 W m (fun hl => fed_of_row w0 hl) hE hT).mono fun e W' ⟨he, bel⟩ => ?_
  subst he
  exact ⟨_, rfl, _, _, _, [], _, _, hW', trodAll_mk1 (shut_bool Tryz.underlying4 _), (trodAll_cons_mk (Below.trod frameH.laidOut (by kernel_rfl) (of_decide_eq_true (by kernel_rfl)) k0 bel lt0) trodAll_mk0), Below.trodVars frameH.laidOut bel (by kernel_rfl) hV, bel.frame _, fun h => by cases h⟩
def args0 : Array Value := #[.slice none 0 0]
theorem laid_met (os : Os) : laidMetH Tryz.prog Rows.fnScopeRow.laid (((({ World.holding Tryz.prog os ⟨#[], #[], []⟩ with heap := Tab.aJk (World.holding Tryz.prog os ⟨#[], #[], []⟩).heap 0 frameH.aVv } : World)).layVars Tryz.prog frameH.aWm).forCall (fun _ _ => 0) ⟨#[], args0, []⟩).memory :=
 laidMetH_of_parts (frameH.met os args0) (by kernel_rfl)
theorem reads (os : Os) {H : Type} (enc : TypeId × Value → H) : ∃ gs places, DataW.whole enc Tryz.prog (((({ World.holding Tryz.prog os ⟨#[], #[], []⟩ with heap := Tab.aJk (World.holding Tryz.prog os ⟨#[], #[], []⟩).heap 0 frameH.aVv } : World)).layVars Tryz.prog frameH.aWm).forCall (fun _ _ => 0) ⟨#[], args0, []⟩).memory Tryz.f3.params.toList Rows.fnScopeSpec.vars false args0.toList 8 = some ([.nil], gs, places) :=
 ⟨[Rows.laid_loop_example_g00352_impl_nameStarts, Rows.laid_loop_example_g00352_impl_nameParts], (List.range 32).map (MemPlace.cell 7) ++ (List.range 10).map (MemPlace.cell 8), by kernel_rfl⟩
theorem okB (os : Os) : Input.okWideB Tryz.prog (((({ World.holding Tryz.prog os ⟨#[], #[], []⟩ with heap := Tab.aJk (World.holding Tryz.prog os ⟨#[], #[], []⟩).heap 0 frameH.aVv } : World)).layVars Tryz.prog frameH.aWm).forCall (fun _ _ => 0) ⟨#[], args0, []⟩) 3 ⟨#[], args0, []⟩ = true := by kernel_rfl
theorem shp (os : Os) : (((({ World.holding Tryz.prog os ⟨#[], #[], []⟩ with heap := Tab.aJk (World.holding Tryz.prog os ⟨#[], #[], []⟩).heap 0 frameH.aVv } : World)).layVars Tryz.prog frameH.aWm).forCall (fun _ _ => 0) ⟨#[], args0, []⟩).Shaped Tryz.prog := World.shaped_of_ZipB (by kernel_rfl) (by kernel_rfl)
theorem lifted (os : Os) (started : os.Started) (H : Type) (enc : TypeId × Value → H) (F : Stop.Interp) :
 ReturnsInHanded {} Tryz.checked os 3 .any ((OpenSpec.ofChange Rows.fnScopeSpec).preRow enc Tryz.prog Tryz.f3 Rows.fnScopeRow.domain false Rows.fnScopeRow.laid) (((OpenSpec.ofChange Rows.fnScopeSpec).at F).post enc Tryz.prog Tryz.f3 false true false false) := by
 obtain ⟨gs, places, hx⟩ := reads os enc
 refine returnsInHanded_of_row (C := Tryz.checked) (s := OpenSpec.ofChange Rows.fnScopeSpec) frameH.own started (by kernel_rfl) Tryz.func3
  ⟨((({ World.holding Tryz.prog os ⟨#[], #[], []⟩ with heap := Tab.aJk (World.holding Tryz.prog os ⟨#[], #[], []⟩).heap 0 frameH.aVv } : World)).layVars Tryz.prog frameH.aWm), fun _ _ => 0, ⟨#[], args0, []⟩, frameH.lw_os os, shp os, (Input.okWide_of_okWideB (base := 0) (okB os)).1, (Input.okWide_of_okWideB (okB os)).2,
   OpenSpec.preRow_of_cond 8 hx (by kernel_rfl) (fun k hk => by cases hk) (by kernel_rfl) (laid_met os), by
    simp only [Assume.holds]
    exact ⟨by simp, by simp, fun _ => Modest.zero, by simp, by simp⟩⟩ ?_
 intro W base args ds gs before hval hW _ _ _ hL hsh _
 exact contract H enc W base args ds gs before hval hW hL hsh
theorem said : Rows.FnScopeSaid :=
 OpenClaim.holds_of_cond 3 Tryz.f3 rfl rfl rfl rfl rfl rfl rfl ⟨rfl, rfl, rfl, rfl, rfl⟩ rfl rfl rfl rfl rfl (by kernel_rfl) Tryz.func3 (by kernel_rfl)
  (of_decide_eq_true (by kernel_rfl)) (by unfold Func.isWrapper; first | (rw [if_pos (by decide +kernel)]; kernel_rfl) | (rw [if_neg (by decide +kernel)]; exact ⟨rfl, rfl⟩))
  (fun os started H enc _ F => by rw [OpenClaim.pre_eq_preRow]; exact lifted os started H enc F)
theorem plain (f : FuncId) (fn : Func) (hf : Tryz.pinned.checked.prog.funcNamed "loop.example/g00352/laws.FnScope" = some f) (hfn : Tryz.pinned.checked.prog.funcs[f]? = some fn) :
 true = Tryz.pinned.checked.prog.looks [] ∧ ∀ (j : Nat) t, fn.params[j]? = some t → Tryz.pinned.checked.prog.wantsStandIn t = false := by
 obtain rfl : f = 3 := Option.some.inj ((show Tryz.prog.funcNamed "loop.example/g00352/laws.FnScope" = some 3 by kernel_rfl).symm.trans hf) |>.symm
 obtain rfl : fn = Tryz.f3 := (Option.some.inj (Tryz.func3.symm.trans hfn)).symm
 refine ⟨by kernel_rfl, fun j t ht => ?_⟩
 rw [Tryz.params3] at ht
 obtain rfl : t = 22 := by simpa using Array.mem_of_getElem? ht
 exact (show Tryz.prog.wantsStandIn 22 = false by kernel_rfl)
end Go.Proofs.YtdblemolaojebaaGreatDoor.fnScope
namespace Go.Proofs.YtdblemolaojebaaGreatDoor
theorem fnScope_holds : Rows.FnScopeCardSaid :=
 Claim7.holds_tied_plain_at .later [] _ _ _ _ fnScope.said (fun _ h => by cases h) (by kernel_rfl) (fun _ h => by cases h) fnScope_row_tie rfl ⟨rfl, rfl⟩ (by kernel_rfl) rfl fnScope.plain (by kernel_rfl)
#print axioms fnScope_holds
end Go.Proofs.YtdblemolaojebaaGreatDoor
