/- Proved: for every row of events the law FnExactSpaced of the landed code returns true, that is, impl.Spaced answers as its model, field by field, writes into no argument and keeps nothing of one, and its answer owns its memory, behind another call too; the argument and the tables impl.nameStarts and impl.nameParts read behind the call as before. No condition but that the tables hold what their initialisers lay, which the card ties to the program's text. -/
import Derived.Test.YtlfcmlcpdpkibaaDoorCards
import Derived.Test.YtlfcmlcpdpkibaaDoorTie
import Derived.Test.YtlfcmlcpdpkibaaDoorLawX1
import Derived.Test.YtlfcmlcpdpkibaaDoorEvA
import Derived.Test.YtlfcmlcpdpkibaaDoorTbl
import Derived.WalkKit
import Derived.ProofKit
import Derived.OpenShut
import Derived.OpenVars
import Derived.ChangeOld
import Derived.Deep.DeepHandedRow
import Derived.Lib.LaidTab
namespace Go.Proofs.YtlfcmlcpdpkibaaDoor.fnExactSpaced
open Go.ChangeShapes Go.WideShapes Go.ChangeAt Go.RowKit Plain2 Lists PlainR PlainN

theorem own : ownKnob Tryd.prog.godebug = none := by kernel_rfl
theorem laidOut : laidOutB Tryd.prog = true := by kernel_rfl
theorem maxCell {W : World} (h : W.ShapedOpen Tryd.prog) : ∃ m, W.cell? ⟨0, 0, none⟩ = some (.int .i64 m) :=
  Go.Proofs.cell_of_shapedOpen_int (zero := #[.int .i64 0]) (t := 3) h (of_decide_eq_true (by kernel_rfl)) (by kernel_rfl) rfl (by kernel_rfl) (by kernel_rfl) Tryd.underlying3

set_option maxRecDepth 100000 in
theorem contract (H : Type) (enc : TypeId × Value → H) (W : World) (base : Nat) (args : Array Value) (ds gs : List (DataW H)) (before : List MemPlace)
    (hval : ∀ (j : Nat) t v, Tryd.f3.params[j]? = some t → args[j]? = some v → Value.okWide Tryd.prog W .any base t v)
    (hW : DataW.Whole enc Tryd.prog Tryd.f3.params.toList Rows.fnExactSpacedSpec.vars false W args.toList ds gs before) (hL : laidMetH Tryd.prog Rows.fnExactSpacedRow.laid W) (hsh : W.ShapedOpen Tryd.prog) :
    Calls Tryd.prog 3 args W fun e W' => ∃ v, e = .returned v ∧ Rows.fnExactSpacedSpec.post enc Tryd.prog Tryd.f3 false true false false W args v W' := by
  have hW' := hW
  obtain ⟨p, q, hA0, hV, rfl, hfz, hnd⟩ := hW
  have hA : DataW.TrodAll enc Tryd.prog W 0 (fun _ => true) true Tryd.f3.params.toList args.toList ds p := hA0
  rw [Tryd.params3] at hA hval
  obtain ⟨v0, vs0, d0, ds0, p0, q0, hargs, rfl, rfl, h0, r0⟩ := trodAll_cons hA
  obtain ⟨rfl, rfl, rfl⟩ := trodAll_nil r0
  obtain rfl : args = #[v0] := Array.ext' hargs
  obtain ⟨a0, len0, cap0, rfl⟩ := okWide_slice Tryd.underlying22 (hval 0 22 v0 rfl rfl)
  have k0 := h0
  have lt0 : ∀ x ∈ p0, x.block < W.heap.size := by obtain ⟨m, hm⟩ := k0; exact DataW.trod_lt m _ _ _ hm
  obtain ⟨fuel, hf⟩ := h0
  obtain ⟨a, c, l, hv, hI, hl, hz⟩ := open_evs hf
  cases hv
  obtain ⟨⟨t, fr, hg⟩, ⟨tp, frp, hgp⟩⟩ := tableBoth (rest := []) hL
  obtain ⟨m, hm⟩ := maxCell hsh
  clear hA0
  match gs, hV with
  | [g1, g2], hV =>
    refine (walk a0 cap0 l W m hI hl hz ⟨⟨t, fr, hg⟩, ⟨tp, frp, hgp⟩, hm⟩).mono fun e W' ⟨he, bel⟩ => ?_
    subst he
    exact ⟨_, rfl, _, _, _, [], _, _, hW', trodAll_mk1 (shut_bool Tryd.underlying4 _), (trodAll_cons_mk (Below.trod laidOut (by kernel_rfl) (of_decide_eq_true (by kernel_rfl)) k0 bel lt0) trodAll_mk0), Below.trodVars laidOut bel (by kernel_rfl) hV, bel.frame _, fun h => by cases h⟩

theorem laid_met (os : Os) : laidMet Tryd.prog Rows.fnExactSpacedRow.laid (({ World.holding Tryd.prog os ⟨#[], #[], []⟩ with heap := Tab.putCells (Tab.putCells (World.holding Tryd.prog os ⟨#[], #[], []⟩).heap 1 startCells) 2 partCells } : World).forCall (fun _ _ => 0) ⟨#[], #[.slice none 0 0], []⟩).memory :=
  laidMet_of_run' 8 (by kernel_rfl) (by kernel_rfl)
theorem reads (os : Os) {H : Type} (enc : TypeId × Value → H) : ∃ gs places, DataW.whole enc Tryd.prog (({ World.holding Tryd.prog os ⟨#[], #[], []⟩ with heap := Tab.putCells (Tab.putCells (World.holding Tryd.prog os ⟨#[], #[], []⟩).heap 1 startCells) 2 partCells } : World).forCall (fun _ _ => 0) ⟨#[], #[.slice none 0 0], []⟩).memory Tryd.f3.params.toList Rows.fnExactSpacedSpec.vars false #[Value.slice none 0 0].toList 8 = some ([.nil], gs, places) :=
  ⟨[Rows.laid_loop_example_g00352_impl_nameStarts, Rows.laid_loop_example_g00352_impl_nameParts], (List.range 32).map (MemPlace.cell 1) ++ (List.range 10).map (MemPlace.cell 2), by kernel_rfl⟩

set_option maxRecDepth 100000 in
theorem lifted (os : Os) (started : os.Started) (H : Type) (enc : TypeId × Value → H) (F : Stop.Interp) :
    ReturnsInHanded {} Tryd.checked os 3 .any ((OpenSpec.ofChange Rows.fnExactSpacedSpec).preRow enc Tryd.prog Tryd.f3 Rows.fnExactSpacedRow.domain false Rows.fnExactSpacedRow.laid) (((OpenSpec.ofChange Rows.fnExactSpacedSpec).at F).post enc Tryd.prog Tryd.f3 false true false false) := by
  obtain ⟨gs, places, hx⟩ := reads os enc
  refine returnsInHanded_of_row (C := Tryd.checked) (s := OpenSpec.ofChange Rows.fnExactSpacedSpec) own started (by kernel_rfl) Tryd.func3
    (witness_row_at (enc := enc) (C := Tryd.checked) false ({ World.holding Tryd.prog os ⟨#[], #[], []⟩ with heap := Tab.putCells (Tab.putCells (World.holding Tryd.prog os ⟨#[], #[], []⟩).heap 1 startCells) 2 partCells } : World) #[.slice none 0 0] rfl (by kernel_rfl) (by kernel_rfl) (by kernel_rfl)
      (OpenSpec.preRow_of_cond 8 hx (by kernel_rfl) (fun k hk => by cases hk) (by kernel_rfl) (laid_met os))) ?_
  intro W base args ds gs before hval hW _ _ _ hL hsh _
  exact contract H enc W base args ds gs before hval hW hL hsh

theorem said : Rows.FnExactSpacedSaid :=
  OpenClaim.holds_of_cond 3 Tryd.f3 rfl rfl rfl rfl rfl rfl rfl ⟨rfl, rfl, rfl, rfl, rfl⟩ rfl rfl rfl rfl rfl (by kernel_rfl) Tryd.func3 (by kernel_rfl)
    (of_decide_eq_true (by kernel_rfl)) (by unfold Func.isWrapper; first | (rw [if_pos (by decide +kernel)]; kernel_rfl) | (rw [if_neg (by decide +kernel)]; exact ⟨rfl, rfl⟩))
    (fun os started H enc _ F => by rw [OpenClaim.pre_eq_preRow]; exact lifted os started H enc F)

theorem plain (f : FuncId) (fn : Func) (hf : Tryd.pinned.checked.prog.funcNamed "loop.example/g00352/laws.FnExactSpaced" = some f) (hfn : Tryd.pinned.checked.prog.funcs[f]? = some fn) :
    false = Tryd.pinned.checked.prog.looks [] ∧ ∀ (j : Nat) t, fn.params[j]? = some t → Tryd.pinned.checked.prog.wantsStandIn t = false := by
  obtain rfl : f = 3 := Option.some.inj ((show Tryd.prog.funcNamed "loop.example/g00352/laws.FnExactSpaced" = some 3 by kernel_rfl).symm.trans hf) |>.symm
  obtain rfl : fn = Tryd.f3 := (Option.some.inj (Tryd.func3.symm.trans hfn)).symm
  refine ⟨by kernel_rfl, fun j t ht => ?_⟩
  rw [Tryd.params3] at ht
  obtain rfl : t = 22 := by simpa using Array.mem_of_getElem? ht
  exact (show Tryd.prog.wantsStandIn 22 = false by kernel_rfl)
end Go.Proofs.YtlfcmlcpdpkibaaDoor.fnExactSpaced
namespace Go.Proofs.YtlfcmlcpdpkibaaDoor
theorem fnExactSpaced_holds : Rows.FnExactSpacedCardSaid :=
  Claim7.holds_tied_plain_at .later [] _ _ _ _ fnExactSpaced.said (fun _ h => by cases h) (by kernel_rfl) (fun _ h => by cases h) fnExactSpaced_row_tie rfl ⟨rfl, rfl⟩ (by kernel_rfl) rfl fnExactSpaced.plain (by kernel_rfl)
#print axioms fnExactSpaced_holds
end Go.Proofs.YtlfcmlcpdpkibaaDoor
