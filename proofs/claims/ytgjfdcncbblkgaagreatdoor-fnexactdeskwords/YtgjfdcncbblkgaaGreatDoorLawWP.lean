/- Proved: the law FnExactDeskWords of the landed code, which has no argument, returns true, that is, impl.DeskWords answers as its model, word by word, its answer owns its memory, behind another call too; the tables impl.nameStarts and impl.nameParts read behind the call as before. No condition but that the listed variables hold what their initialisers lay, which the card ties to the program's text (by a tie of our own: TwA to TwJ). -/
import Derived.Test.YtgjfdcncbblkgaaGreatDoorCards
import Derived.Test.YtgjfdcncbblkgaaGreatDoorTwJ
import Derived.Test.YtgjfdcncbblkgaaGreatDoorDw2
import Derived.Test.YtgjfdcncbblkgaaGreatDoorFwB
import Derived.Test.YtgjfdcncbblkgaaGreatDoorFwC
import Derived.Test.YtgjfdcncbblkgaaGreatDoorFwE
import Derived.Test.YtgjfdcncbblkgaaGreatDoorJfH
namespace Go.Proofs.YtgjfdcncbblkgaaGreatDoor.faceW
open Go.ChangeShapes Go.WideShapes Go.ChangeAt Go.RowKit
set_option maxRecDepth 100000
theorem own : ownKnob Tryz.prog.godebug = none := by kernel_rfl
theorem laidOut : laidOutB Tryz.prog = true := by kernel_rfl
theorem met (os : Os) (args : Array Value) : laidMet Tryz.prog laidP ((({ World.holding Tryz.prog os ⟨#[], #[], []⟩ with heap := Tab.putCells (World.holding Tryz.prog os ⟨#[], #[], []⟩).heap 4 etCells } : World).layVars Tryz.prog laidP).forCall (fun _ _ => 0) ⟨#[], args, []⟩).memory := by
  have e1 : (laidP.filter fun x => (laidP.map (·.1)).contains x.1) = laidP := List.filter_eq_self.2 fun x hx => List.contains_iff_mem.2 (List.mem_map.2 ⟨x, hx, rfl⟩)
  have e2 : (laidP.filter fun x => !(laidP.map (·.1)).contains x.1) = [] := List.filter_eq_nil_iff.2 fun x hx => by rw [List.contains_iff_mem.2 (List.mem_map.2 ⟨x, hx, rfl⟩)]; simp
  have h : laidMet Tryz.prog laidP (({ World.holding Tryz.prog os ⟨#[], #[], []⟩ with heap := Tab.putCells (World.holding Tryz.prog os ⟨#[], #[], []⟩).heap 4 etCells } : World).layVars Tryz.prog laidP) := laidMet_layVars (w0 := ({ World.holding Tryz.prog os ⟨#[], #[], []⟩ with heap := Tab.putCells (World.holding Tryz.prog os ⟨#[], #[], []⟩).heap 4 etCells } : World)) (laidP.map (·.1)) [] (by rw [e1]) (by rw [e1]; exact fits os) (by rw [e1]; exact ifaces os) (by rw [e2]; exact LaidIn.none)
  exact h.of_heap (by simp [World.memory, World.forCall, Input.heap])
theorem laid_met (os : Os) : laidMetH Tryz.prog Rows.fnExactDeskWordsRow.laid ((({ World.holding Tryz.prog os ⟨#[], #[], []⟩ with heap := Tab.putCells (World.holding Tryz.prog os ⟨#[], #[], []⟩).heap 4 etCells } : World).layVars Tryz.prog laidP).forCall (fun _ _ => 0) ⟨#[], args0, []⟩).memory :=
  laidMetH_of_parts (met os args0) (by kernel_rfl)
theorem contract (H : Type) (enc : TypeId × Value → H) (W : World) (args : Array Value) (ds gs : List (DataW H)) (before : List MemPlace)
    (hW : DataW.Whole enc Tryz.prog Tryz.f3.params.toList Rows.fnExactDeskWordsSpec.vars false W args.toList ds gs before) :
    Calls Tryz.prog 3 args W fun e W' => ∃ v, e = .returned v ∧ Rows.fnExactDeskWordsSpec.post enc Tryz.prog Tryz.f3 false true false false W args v W' := by
  have hW' := hW
  obtain ⟨p, q, hA0, hV, rfl, hfz, hnd⟩ := hW
  have hA : DataW.TrodAll enc Tryz.prog W 0 (fun _ => true) true Tryz.f3.params.toList args.toList ds p := hA0
  rw [Tryz.params3] at hA
  obtain ⟨hargs, rfl, rfl⟩ := trodAll_nil hA
  obtain rfl : args = #[] := Array.ext' hargs
  clear hA0
  match gs, hV with
  | [g1, g2], hV =>
    refine (walkW W).mono fun e W' ⟨he, bel⟩ => ?_
    subst he
    exact ⟨_, rfl, _, _, _, [], _, _, hW', trodAll_mk1 (shut_bool Tryz.underlying4 _), trodAll_mk0, Below.trodVars laidOut bel (by kernel_rfl) hV, bel.frame _, fun h => by cases h⟩
theorem lifted (os : Os) (started : os.Started) (H : Type) (enc : TypeId × Value → H) (F : Stop.Interp) :
    ReturnsInHanded {} Tryz.checked os 3 .any ((OpenSpec.ofChange Rows.fnExactDeskWordsSpec).preRow enc Tryz.prog Tryz.f3 Rows.fnExactDeskWordsRow.domain false Rows.fnExactDeskWordsRow.laid) (((OpenSpec.ofChange Rows.fnExactDeskWordsSpec).at F).post enc Tryz.prog Tryz.f3 false true false false) := by
  obtain ⟨gs, places, hx⟩ := reads os enc
  refine returnsInHanded_of_row (C := Tryz.checked) (s := OpenSpec.ofChange Rows.fnExactDeskWordsSpec) own started (by kernel_rfl) Tryz.func3
    ⟨({ World.holding Tryz.prog os ⟨#[], #[], []⟩ with heap := Tab.putCells (World.holding Tryz.prog os ⟨#[], #[], []⟩).heap 4 etCells } : World).layVars Tryz.prog laidP, fun _ _ => 0, ⟨#[], args0, []⟩, lw_os os, shp os, (Input.okWide_of_okWideB (base := 0) (okB os)).1, (Input.okWide_of_okWideB (okB os)).2,
      OpenSpec.preRow_of_cond 8 hx (by kernel_rfl) (fun k hk => by cases hk) (by kernel_rfl) (laid_met os), by
        simp only [Assume.holds]
        exact ⟨by simp, by simp, fun _ => Modest.zero, by simp, by simp⟩⟩ ?_
  intro W base args ds gs before hval hW _ _ _ hL hsh _
  exact contract H enc W args ds gs before hW
theorem said : Rows.FnExactDeskWordsSaid :=
  OpenClaim.holds_of_cond 3 Tryz.f3 rfl rfl rfl rfl rfl rfl rfl ⟨rfl, rfl, rfl, rfl, rfl⟩ rfl rfl rfl rfl rfl (by kernel_rfl) Tryz.func3 jf_all
    (of_decide_eq_true (by kernel_rfl)) (by unfold Func.isWrapper; first | (rw [if_pos (by decide +kernel)]; kernel_rfl) | (rw [if_neg (by decide +kernel)]; exact ⟨rfl, rfl⟩))
    (fun os started H enc _ F => by rw [OpenClaim.pre_eq_preRow]; exact lifted os started H enc F)
theorem plain (f : FuncId) (fn : Func) (hf : Tryz.pinned.checked.prog.funcNamed "loop.example/g00352/laws.FnExactDeskWords" = some f) (hfn : Tryz.pinned.checked.prog.funcs[f]? = some fn) :
    true = Tryz.pinned.checked.prog.looks [] ∧ ∀ (j : Nat) t, fn.params[j]? = some t → Tryz.pinned.checked.prog.wantsStandIn t = false := by
  obtain rfl : f = 3 := Option.some.inj ((show Tryz.prog.funcNamed "loop.example/g00352/laws.FnExactDeskWords" = some 3 by kernel_rfl).symm.trans hf) |>.symm
  obtain rfl : fn = Tryz.f3 := (Option.some.inj (Tryz.func3.symm.trans hfn)).symm
  refine ⟨by kernel_rfl, fun j t ht => ?_⟩
  rw [Tryz.params3] at ht
  simp at ht
end Go.Proofs.YtgjfdcncbblkgaaGreatDoor.faceW
namespace Go.Proofs.YtgjfdcncbblkgaaGreatDoor
theorem fnExactDeskWords_holds : Rows.FnExactDeskWordsCardSaid :=
  Claim7.holds_tied_plain_at .later [] _ _ _ _ faceW.said (fun _ h => by cases h) (by kernel_rfl) (fun _ h => by cases h) fnExactDeskWords_row_tie rfl ⟨rfl, rfl⟩ (by kernel_rfl) rfl faceW.plain (by kernel_rfl)
#print axioms fnExactDeskWords_holds
end Go.Proofs.YtgjfdcncbblkgaaGreatDoor
