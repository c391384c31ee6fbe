/- Proved: for every text, every place and both ways to close it the law FnExactNext of the landed code returns true, that is, impl.Next answers as its model, field by field, its answer owns its memory, also behind another call; the arguments and the tables impl.nameStarts and impl.nameParts read behind the call as before. No condition but that the listed variables hold what their initialisers lay, which the card ties to the program's text. -/
import Derived.Test.YtpkhdfddbcpciaaGreatDoorLawN3
import Derived.Test.YtpkhdfddbcpciaaGreatDoorFrameN
namespace Go.Proofs.YtpkhdfddbcpciaaGreatDoor.fnExactNext
open Go.ChangeShapes Go.WideShapes Go.ChangeAt Go.RowKit Plain1 Plain2 Plain6
open Go.ChangeMaps (open_string shut_string)

set_option maxRecDepth 100000 in
theorem contract (H : Type) (enc : TypeId × Value → H) (W : World) (base : Nat) (args : Array Value) (ds gs : List (DataW H)) (before : List MemPlace)
    (hval : ∀ (j : Nat) t v, Tryz.f3.params[j]? = some t → args[j]? = some v → Value.okWide Tryz.prog W .any base t v)
    (hW : DataW.Whole enc Tryz.prog Tryz.f3.params.toList Rows.fnExactNextSpec.vars false W args.toList ds gs before) (hL : laidMetH Tryz.prog Rows.fnExactNextRow.laid W) (hsh : W.ShapedOpen Tryz.prog) :
    Calls Tryz.prog 3 args W fun e W' => ∃ v, e = .returned v ∧ Rows.fnExactNextSpec.post enc Tryz.prog Tryz.f3 false true false false W args v W' := by
  have hW' := hW
  obtain ⟨p, q, hA0, hV, rfl, hfz, hnd⟩ := hW
  have hA : DataW.TrodAll enc Tryz.prog W 0 (fun _ => true) true Tryz.f3.params.toList args.toList ds p := hA0
  rw [Tryz.params3] at hA hval
  obtain ⟨v0, vs0, d0, ds0, p0, q0, hargs, rfl, rfl, h0, r0⟩ := trodAll_cons hA
  obtain ⟨v1, vs1, d1, ds1, p1, q1, rfl, rfl, rfl, h1, r1⟩ := trodAll_cons r0
  obtain ⟨v2, vs2, d2, ds2, p2, q2, rfl, rfl, rfl, h2, r2⟩ := trodAll_cons r1
  obtain ⟨rfl, rfl, rfl⟩ := trodAll_nil r2
  obtain rfl : args = #[v0, v1, v2] := Array.ext' hargs
  obtain ⟨a0, rfl, rfl, rfl, w0⟩ := open_string Tryz.underlying9 (hval 0 9 v0 rfl rfl) h0
  obtain ⟨a1, rfl, rfl, rfl, w1⟩ := open_int Tryz.underlying2 (hval 1 2 v1 rfl rfl) h1
  obtain ⟨a2, rfl, rfl, rfl⟩ := open_bool Tryz.underlying4 (hval 2 4 v2 rfl rfl) h2
  obtain ⟨m, hE, hT⟩ := frameN.envOf hL hsh
  clear hA0
  match gs, hV with
  | [g1, g2], hV =>
    refine (walk a0 a1 a2 W m hE hT).mono fun e W' ⟨he, bel⟩ => ?_
    subst he
    exact ⟨_, rfl, _, _, _, [], _, _, hW', trodAll_mk1 (shut_bool Tryz.underlying4 _), (trodAll_cons_mk (shut_string Tryz.underlying9 w0) (trodAll_cons_mk (shut_int Tryz.underlying2 w1) (trodAll_cons_mk (shut_bool Tryz.underlying4 _) trodAll_mk0))), Below.trodVars frameN.laidOut bel (by kernel_rfl) hV, bel.frame _, fun h => by cases h⟩

def args0 : Array Value := #[.string ByteArray.empty, .int .i64 0, .bool false]
theorem laid_met (os : Os) : laidMetH Tryz.prog Rows.fnExactNextRow.laid (((({ World.holding Tryz.prog os ⟨#[], #[], []⟩ with heap := Tab.putCells (World.holding Tryz.prog os ⟨#[], #[], []⟩).heap 0 frameN.etCells } : World)).layVars Tryz.prog frameN.laidP).forCall (fun _ _ => 0) ⟨#[], args0, []⟩).memory :=
  laidMetH_of_parts (frameN.met os args0) (by kernel_rfl)
theorem reads (os : Os) {H : Type} (enc : TypeId × Value → H) : ∃ gs places, DataW.whole enc Tryz.prog (((({ World.holding Tryz.prog os ⟨#[], #[], []⟩ with heap := Tab.putCells (World.holding Tryz.prog os ⟨#[], #[], []⟩).heap 0 frameN.etCells } : World)).layVars Tryz.prog frameN.laidP).forCall (fun _ _ => 0) ⟨#[], args0, []⟩).memory Tryz.f3.params.toList Rows.fnExactNextSpec.vars false args0.toList 8 = some ([.lit (.string []), .lit (.int .i64 0), .lit (.bool false)], gs, places) :=
  ⟨[Rows.laid_loop_example_g00352_impl_nameStarts, Rows.laid_loop_example_g00352_impl_nameParts], (List.range 32).map (MemPlace.cell 5) ++ (List.range 10).map (MemPlace.cell 6), by kernel_rfl⟩
theorem okB (os : Os) : Input.okWideB Tryz.prog (((({ World.holding Tryz.prog os ⟨#[], #[], []⟩ with heap := Tab.putCells (World.holding Tryz.prog os ⟨#[], #[], []⟩).heap 0 frameN.etCells } : World)).layVars Tryz.prog frameN.laidP).forCall (fun _ _ => 0) ⟨#[], args0, []⟩) 3 ⟨#[], args0, []⟩ = true := by kernel_rfl
theorem shp (os : Os) : (((({ World.holding Tryz.prog os ⟨#[], #[], []⟩ with heap := Tab.putCells (World.holding Tryz.prog os ⟨#[], #[], []⟩).heap 0 frameN.etCells } : World)).layVars Tryz.prog frameN.laidP).forCall (fun _ _ => 0) ⟨#[], args0, []⟩).Shaped Tryz.prog := World.shaped_of_ZipB (by kernel_rfl) (by kernel_rfl)

set_option maxRecDepth 100000 in
theorem lifted (os : Os) (started : os.Started) (H : Type) (enc : TypeId × Value → H) (F : Stop.Interp) :
    ReturnsInHanded {} Tryz.checked os 3 .any ((OpenSpec.ofChange Rows.fnExactNextSpec).preRow enc Tryz.prog Tryz.f3 Rows.fnExactNextRow.domain false Rows.fnExactNextRow.laid) (((OpenSpec.ofChange Rows.fnExactNextSpec).at F).post enc Tryz.prog Tryz.f3 false true false false) := by
  obtain ⟨gs, places, hx⟩ := reads os enc
  refine returnsInHanded_of_row (C := Tryz.checked) (s := OpenSpec.ofChange Rows.fnExactNextSpec) frameN.own started (by kernel_rfl) Tryz.func3
    ⟨((({ World.holding Tryz.prog os ⟨#[], #[], []⟩ with heap := Tab.putCells (World.holding Tryz.prog os ⟨#[], #[], []⟩).heap 0 frameN.etCells } : World)).layVars Tryz.prog frameN.laidP), fun _ _ => 0, ⟨#[], args0, []⟩, frameN.lw_os os, shp os, (Input.okWide_of_okWideB (base := 0) (okB os)).1, (Input.okWide_of_okWideB (okB os)).2,
      OpenSpec.preRow_of_cond 8 hx (by kernel_rfl) (fun k hk => by cases hk) (by kernel_rfl) (laid_met os), by
        simp only [Assume.holds]
        exact ⟨by simp, by simp, fun _ => Modest.zero, by simp, by simp⟩⟩ ?_
  intro W base args ds gs before hval hW _ _ _ hL hsh _
  exact contract H enc W base args ds gs before hval hW hL hsh

theorem said : Rows.FnExactNextSaid :=
  OpenClaim.holds_of_cond 3 Tryz.f3 rfl rfl rfl rfl rfl rfl rfl ⟨rfl, rfl, rfl, rfl, rfl⟩ rfl rfl rfl rfl rfl (by kernel_rfl) Tryz.func3 (by kernel_rfl)
    (of_decide_eq_true (by kernel_rfl)) (by unfold Func.isWrapper; first | (rw [if_pos (by decide +kernel)]; kernel_rfl) | (rw [if_neg (by decide +kernel)]; exact ⟨rfl, rfl⟩))
    (fun os started H enc _ F => by rw [OpenClaim.pre_eq_preRow]; exact lifted os started H enc F)

theorem plain (f : FuncId) (fn : Func) (hf : Tryz.pinned.checked.prog.funcNamed "loop.example/g00352/laws.FnExactNext" = some f) (hfn : Tryz.pinned.checked.prog.funcs[f]? = some fn) :
    true = Tryz.pinned.checked.prog.looks [] ∧ ∀ (j : Nat) t, fn.params[j]? = some t → Tryz.pinned.checked.prog.wantsStandIn t = false := by
  obtain rfl : f = 3 := Option.some.inj ((show Tryz.prog.funcNamed "loop.example/g00352/laws.FnExactNext" = some 3 by kernel_rfl).symm.trans hf) |>.symm
  obtain rfl : fn = Tryz.f3 := (Option.some.inj (Tryz.func3.symm.trans hfn)).symm
  refine ⟨by kernel_rfl, fun j t ht => ?_⟩
  rw [Tryz.params3] at ht
  have h3 : t = 9 ∨ t = 2 ∨ t = 4 := by simpa using Array.mem_of_getElem? ht
  rcases h3 with rfl | rfl | rfl
  · exact (show Tryz.prog.wantsStandIn 9 = false by kernel_rfl)
  · exact (show Tryz.prog.wantsStandIn 2 = false by kernel_rfl)
  · exact (show Tryz.prog.wantsStandIn 4 = false by kernel_rfl)
end Go.Proofs.YtpkhdfddbcpciaaGreatDoor.fnExactNext
namespace Go.Proofs.YtpkhdfddbcpciaaGreatDoor
theorem fnExactNext_holds : Rows.FnExactNextCardSaid :=
  Claim7.holds_tied_plain_at .later [] _ _ _ _ fnExactNext.said (fun _ h => by cases h) (by kernel_rfl) (fun _ h => by cases h) fnExactNext_row_tie rfl ⟨rfl, rfl⟩ (by kernel_rfl) rfl fnExactNext.plain (by kernel_rfl)
#print axioms fnExactNext_holds
end Go.Proofs.YtpkhdfddbcpciaaGreatDoor
