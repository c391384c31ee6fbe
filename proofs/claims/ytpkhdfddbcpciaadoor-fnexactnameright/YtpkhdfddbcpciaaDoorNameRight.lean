/- Proved: for every text the law FnExactNameRight of the landed code returns true, that is, impl.NameRight answers as its model; its argument and the tables impl.nameStarts and impl.nameParts read behind the call as before. No condition but that the tables hold what their initialisers lay, which the card ties to the program's text. -/
import Derived.Test.YtpkhdfddbcpciaaDoorCards
import Derived.Test.YtpkhdfddbcpciaaDoorTie
import Derived.Test.YtpkhdfddbcpciaaDoorNameModel2
import Derived.Test.YtpkhdfddbcpciaaDoorNameImpl
import Derived.Test.YtpkhdfddbcpciaaDoorTables
import Derived.Test.YtpkhdfddbcpciaaDoorTab
import Derived.WalkKit
import Derived.ProofKit
import Derived.OpenShut
import Derived.ShutString
import Derived.OpenVars
import Derived.Deep.DeepHandedRow
import Derived.Lib.LaidTab
namespace Go.Proofs.YtpkhdfddbcpciaaDoor.nameRight
open Go.ChangeShapes Go.WideShapes Go.ChangeAt Go.RowKit Plain1 Plain2 Plain6
open Go.ChangeMaps (open_string shut_string)

theorem own : ownKnob Tryd.prog.godebug = none := by kernel_rfl
theorem laidOut : laidOutB Tryd.prog = true := by kernel_rfl
theorem walk (a0 : ByteArray) (w : World) (t : TypeId) (fr : Nat × Nat) (hg : w.heap[0]? = some (.cells startCells t fr)) (tp : TypeId) (frp : Nat × Nat) (hgp : w.heap[1]? = some (.cells partCells tp frp)) :
    Calls Tryd.prog 7 #[.string a0] w fun e w' => e = .returned (.bool true) ∧ Below w.heap.size w w' := by
  have hz : 0 < w.heap.size := (Array.getElem?_eq_some_iff.1 hg).1
  have hzp : 1 < w.heap.size := (Array.getElem?_eq_some_iff.1 hgp).1
  by_cases hbig : 1048576 < a0.size
  · go_enter Tryd.func7, Tryd.ntmps7
    go_wp2
    go_ret
    exact ⟨rfl, Below.refl _ _⟩
  cases hb : nameB a0
  all_goals
    go_enter Tryd.func7, Tryd.ntmps7
    go_wp2_with (go_at_call 26; refine (specName_any _ _).mono ?_; rintro e w1 ⟨rfl, hb1⟩)
    have hg1 := hg
    rw [← hb1.block _ hz] at hg1
    have hgp1 := hgp
    rw [← hb1.block _ hzp] at hgp1
    go_wp2_with (go_at_call 27; refine (implName_any _ _ t fr hg1 tp frp hgp1).mono ?_; rintro e w2 ⟨rfl, hb2⟩)
    go_ret
    exact ⟨rfl, hb1.trans (hb2.mono hb1.size)⟩

theorem contract (H : Type) (enc : TypeId × Value → H) (W : World) (base : Nat) (args : Array Value) (ds gs : List (DataW H)) (before : List MemPlace)
    (hval : ∀ (j : Nat) t v, Tryd.f7.params[j]? = some t → args[j]? = some v → Value.okWide Tryd.prog W .any base t v)
    (hW : DataW.Whole enc Tryd.prog Tryd.f7.params.toList Rows.fnExactNameRightSpec.vars false W args.toList ds gs before) (hL : laidMetH Tryd.prog Rows.fnExactNameRightRow.laid W) :
    Calls Tryd.prog 7 args W fun e W' => ∃ v, e = .returned v ∧ Rows.fnExactNameRightSpec.post enc Tryd.prog Tryd.f7 false true false false W args v W' := by
  have hW' := hW
  obtain ⟨p, q, hA0, hV, rfl, hfz, hnd⟩ := hW
  have hA : DataW.TrodAll enc Tryd.prog W 0 (fun _ => true) true Tryd.f7.params.toList args.toList ds p := hA0
  rw [Tryd.params7] at hA hval
  obtain ⟨v0, vs0, d0, ds0, p0, q0, hargs, rfl, rfl, h0, r0⟩ := trodAll_cons hA
  obtain ⟨rfl, rfl, rfl⟩ := trodAll_nil r0
  obtain rfl : args = #[v0] := by cases args; simp_all
  obtain ⟨a0, rfl, rfl, rfl, w0⟩ := open_string Tryd.underlying9 (hval 0 9 v0 rfl rfl) h0
  obtain ⟨⟨t, fr, hg⟩, ⟨tp, frp, hgp⟩⟩ := tableBoth (rest := []) hL
  clear hA0
  match gs, hV with
  | [g1, g2], hV =>
    refine (walk a0 W t fr hg tp frp hgp).mono fun e W' ⟨he, bel⟩ => ?_
    subst he
    exact ⟨_, rfl, _, _, _, [], _, _, hW', trodAll_mk1 (shut_bool Tryd.underlying4 _), (trodAll_cons_mk (shut_string Tryd.underlying9 w0) trodAll_mk0), Below.trodVars laidOut bel (by kernel_rfl) hV, bel.frame _, fun h => by cases h⟩

theorem laid_met (os : Os) : laidMet Tryd.prog Rows.fnExactNameRightRow.laid (({ World.holding Tryd.prog os ⟨#[], #[], []⟩ with heap := Tab.putCells (Tab.putCells (World.holding Tryd.prog os ⟨#[], #[], []⟩).heap 0 startCells) 1 partCells } : World).forCall (fun _ _ => 0) ⟨#[], #[.string ByteArray.empty], []⟩).memory :=
  laidMet_of_run' 8 (by kernel_rfl) (by kernel_rfl)
theorem reads (os : Os) {H : Type} (enc : TypeId × Value → H) : ∃ gs places, DataW.whole enc Tryd.prog (({ World.holding Tryd.prog os ⟨#[], #[], []⟩ with heap := Tab.putCells (Tab.putCells (World.holding Tryd.prog os ⟨#[], #[], []⟩).heap 0 startCells) 1 partCells } : World).forCall (fun _ _ => 0) ⟨#[], #[.string ByteArray.empty], []⟩).memory Tryd.f7.params.toList Rows.fnExactNameRightSpec.vars false #[Value.string ByteArray.empty].toList 8 = some ([.lit (.string [])], gs, places) :=
  ⟨[Rows.laid_loop_example_g00352_impl_nameStarts, Rows.laid_loop_example_g00352_impl_nameParts], (List.range 32).map (MemPlace.cell 0) ++ (List.range 10).map (MemPlace.cell 1), by kernel_rfl⟩

set_option maxRecDepth 100000 in
theorem lifted (os : Os) (started : os.Started) (H : Type) (enc : TypeId × Value → H) (F : Stop.Interp) :
    ReturnsInHanded {} Tryd.checked os 7 .any ((OpenSpec.ofChange Rows.fnExactNameRightSpec).preRow enc Tryd.prog Tryd.f7 Rows.fnExactNameRightRow.domain false Rows.fnExactNameRightRow.laid) (((OpenSpec.ofChange Rows.fnExactNameRightSpec).at F).post enc Tryd.prog Tryd.f7 false true false false) := by
  obtain ⟨gs, places, hx⟩ := reads os enc
  refine returnsInHanded_of_row (C := Tryd.checked) (s := OpenSpec.ofChange Rows.fnExactNameRightSpec) own started (by kernel_rfl) Tryd.func7
    (witness_row_at (enc := enc) (C := Tryd.checked) false ({ World.holding Tryd.prog os ⟨#[], #[], []⟩ with heap := Tab.putCells (Tab.putCells (World.holding Tryd.prog os ⟨#[], #[], []⟩).heap 0 startCells) 1 partCells } : World) #[.string ByteArray.empty] rfl (by kernel_rfl) (by kernel_rfl) (by kernel_rfl)
      (OpenSpec.preRow_of_cond 8 hx (by kernel_rfl) (fun k hk => by cases hk) (by kernel_rfl) (laid_met os))) ?_
  intro W base args ds gs before hval hW _ _ _ hL _ _
  exact contract H enc W base args ds gs before hval hW hL

theorem said : Rows.FnExactNameRightSaid :=
  OpenClaim.holds_of_cond 7 Tryd.f7 rfl rfl rfl rfl rfl rfl rfl ⟨rfl, rfl, rfl, rfl, rfl⟩ rfl rfl rfl rfl rfl (by kernel_rfl) Tryd.func7 (by kernel_rfl)
    (of_decide_eq_true (by kernel_rfl)) (by unfold Func.isWrapper; first | (rw [if_pos (by decide +kernel)]; kernel_rfl) | (rw [if_neg (by decide +kernel)]; exact ⟨rfl, rfl⟩))
    (fun os started H enc _ F => by rw [OpenClaim.pre_eq_preRow]; exact lifted os started H enc F)

theorem plain (f : FuncId) (fn : Func) (hf : Tryd.pinned.checked.prog.funcNamed "loop.example/g00352/laws.FnExactNameRight" = some f) (hfn : Tryd.pinned.checked.prog.funcs[f]? = some fn) :
    false = Tryd.pinned.checked.prog.looks [] ∧ ∀ (j : Nat) t, fn.params[j]? = some t → Tryd.pinned.checked.prog.wantsStandIn t = false := by
  obtain rfl : f = 7 := Option.some.inj ((show Tryd.prog.funcNamed "loop.example/g00352/laws.FnExactNameRight" = some 7 by kernel_rfl).symm.trans hf) |>.symm
  obtain rfl : fn = Tryd.f7 := (Option.some.inj (Tryd.func7.symm.trans hfn)).symm
  refine ⟨by kernel_rfl, fun j t ht => ?_⟩
  rw [Tryd.params7] at ht
  obtain rfl : t = 9 := by simpa using Array.mem_of_getElem? ht
  exact (show Tryd.prog.wantsStandIn 9 = false by kernel_rfl)
end Go.Proofs.YtpkhdfddbcpciaaDoor.nameRight
namespace Go.Proofs.YtpkhdfddbcpciaaDoor
theorem fnExactNameRight_holds : Rows.FnExactNameRightCardSaid :=
  Claim7.holds_tied_plain_at .later [] _ _ _ _ nameRight.said (fun _ h => by cases h) (by kernel_rfl) (fun _ h => by cases h) fnExactNameRight_row_tie rfl ⟨rfl, rfl⟩ (by kernel_rfl) rfl nameRight.plain (by kernel_rfl)
#print axioms fnExactNameRight_holds
end Go.Proofs.YtpkhdfddbcpciaaDoor
