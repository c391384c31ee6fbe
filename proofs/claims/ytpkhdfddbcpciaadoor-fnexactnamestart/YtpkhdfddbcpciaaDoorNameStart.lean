/- Proved: for every int64 the law FnExactNameStart of the landed code returns true, that is, impl.NameStart answers as its model; its argument and the table impl.nameStarts read behind the call as before. No condition but that the table holds what its initialiser lays, which the card ties to the program's text. -/
import Derived.Test.YtpkhdfddbcpciaaDoorCards
import Derived.Test.YtpkhdfddbcpciaaDoorTie
import Derived.Test.YtpkhdfddbcpciaaDoorStarts
import Derived.Test.YtpkhdfddbcpciaaDoorStartsModel
import Derived.Test.YtpkhdfddbcpciaaDoorTab
import Derived.WalkKit
import Derived.ProofKit
import Derived.OpenShut
import Derived.OpenVars
import Derived.Deep.DeepHandedRow
import Derived.Lib.LaidTab
namespace Go.Proofs.YtpkhdfddbcpciaaDoor.nameStart
open Go.ChangeShapes Go.WideShapes Go.ChangeAt Go.RowKit Plain1 Plain2

theorem own : ownKnob Tryd.prog.godebug = none := by kernel_rfl
theorem laidOut : laidOutB Tryd.prog = true := by kernel_rfl
theorem gStarts : Tryd.prog.globalNamed "loop.example/g00352/impl.nameStarts" = some 0 := by kernel_rfl
theorem gStartsType : (Tryd.prog.globals[0]?).map (·.type) = some 56 := by kernel_rfl

theorem table {rest : List (String × DataW Unit)} {W : World} (h : laidMet Tryd.prog (("loop.example/g00352/impl.nameStarts", Rows.laid_loop_example_g00352_impl_nameStarts) :: rest) W) : ∃ t fr, W.heap[0]? = some (.cells startCells t fr) := by
  obtain ⟨ps, ⟨g', t', cs, fuel, p, q, hg', ht', hvar, hd, _, _⟩, _⟩ := h
  obtain rfl := Option.some.inj (gStarts.symm.trans hg')
  obtain rfl := Option.some.inj (gStartsType.symm.trans ht')
  have e := Tab.cells_of_pairs (zs := startsL) Tryd.underlying56 Tryd.underlying55 rfl rfl rfl rfl Tryd.underlying2 (by kernel_rfl) (by kernel_rfl) (by kernel_rfl) hd
  have e' : cs = startCells := by
    unfold startCells tabCells
    rw [← e]
  subst e'
  exact Tab.block_of_var gStarts hvar

theorem walk (n : Int) (w : World) (t : TypeId) (fr : Nat × Nat) (hg : w.heap[0]? = some (.cells startCells t fr)) (hz : 0 < w.heap.size) :
    Calls Tryd.prog 4 #[.int .i64 n] w fun e w' => e = .returned (.bool true) ∧ Below w.heap.size w w' := by
  by_cases hb : startB n = true
  all_goals
    go_enter Tryd.func4, Tryd.ntmps4
    go_wp2_with (go_at_call 23; refine (specStart_any _ _).mono ?_; rintro e w1 ⟨rfl, hb1⟩)
    have hg1 := hg
    rw [← hb1.block _ hz] at hg1
    go_wp2_with (go_at_call 22; refine (implStart_any _ _ t fr hg1).mono ?_; rintro e w2 ⟨rfl, hb2⟩)
    go_ret
    exact ⟨rfl, hb1.trans (hb2.mono hb1.size)⟩

theorem contract (H : Type) (enc : TypeId × Value → H) (W : World) (base : Nat) (args : Array Value) (ds gs : List (DataW H)) (before : List MemPlace)
    (hval : ∀ (j : Nat) t v, Tryd.f4.params[j]? = some t → args[j]? = some v → Value.okWide Tryd.prog W .any base t v)
    (hW : DataW.Whole enc Tryd.prog Tryd.f4.params.toList Rows.fnExactNameStartSpec.vars false W args.toList ds gs before) (hL : laidMetH Tryd.prog Rows.fnExactNameStartRow.laid W) :
    Calls Tryd.prog 4 args W fun e W' => ∃ v, e = .returned v ∧ Rows.fnExactNameStartSpec.post enc Tryd.prog Tryd.f4 false true false false W args v W' := by
  have hW' := hW
  obtain ⟨p, q, hA0, hV, rfl, hfz, hnd⟩ := hW
  have hA : DataW.TrodAll enc Tryd.prog W 0 (fun _ => true) true Tryd.f4.params.toList args.toList ds p := hA0
  rw [Tryd.params4] at hA hval
  obtain ⟨v0, vs0, d0, ds0, p0, q0, hargs, rfl, rfl, h0, r0⟩ := trodAll_cons hA
  obtain ⟨rfl, rfl, rfl⟩ := trodAll_nil r0
  obtain rfl : args = #[v0] := by cases args; simp_all
  obtain ⟨a0, rfl, rfl, rfl, w0⟩ := open_int Tryd.underlying2 (hval 0 2 v0 rfl rfl) h0
  obtain ⟨t, fr, hg⟩ := table (rest := []) hL
  have hz : 0 < W.heap.size := (Array.getElem?_eq_some_iff.1 hg).1
  clear hA0
  match gs, hV with
  | [g1], hV =>
    refine (walk a0 W t fr hg hz).mono fun e W' ⟨he, bel⟩ => ?_
    subst he
    exact ⟨_, rfl, _, _, _, [], _, _, hW', trodAll_mk1 (shut_bool Tryd.underlying4 _), (trodAll_cons_mk (shut_int Tryd.underlying2 w0) trodAll_mk0), Below.trodVars laidOut bel (by kernel_rfl) hV, bel.frame _, fun h => by cases h⟩

theorem laid_met (os : Os) : laidMet Tryd.prog Rows.fnExactNameStartRow.laid (({ World.holding Tryd.prog os ⟨#[], #[], []⟩ with heap := Tab.putCells (World.holding Tryd.prog os ⟨#[], #[], []⟩).heap 0 startCells } : World).forCall (fun _ _ => 0) ⟨#[], #[.int .i64 0], []⟩).memory :=
  laidMet_of_run' 8 (by kernel_rfl) (by kernel_rfl)
theorem reads (os : Os) {H : Type} (enc : TypeId × Value → H) : ∃ gs places, DataW.whole enc Tryd.prog (({ World.holding Tryd.prog os ⟨#[], #[], []⟩ with heap := Tab.putCells (World.holding Tryd.prog os ⟨#[], #[], []⟩).heap 0 startCells } : World).forCall (fun _ _ => 0) ⟨#[], #[.int .i64 0], []⟩).memory Tryd.f4.params.toList Rows.fnExactNameStartSpec.vars false #[Value.int .i64 0].toList 8 = some ([.lit (.int .i64 0)], gs, places) :=
  ⟨[Rows.laid_loop_example_g00352_impl_nameStarts], (List.range 32).map (MemPlace.cell 0), by kernel_rfl⟩

set_option maxRecDepth 100000 in
theorem lifted (os : Os) (started : os.Started) (H : Type) (enc : TypeId × Value → H) (F : Stop.Interp) :
    ReturnsInHanded {} Tryd.checked os 4 .any ((OpenSpec.ofChange Rows.fnExactNameStartSpec).preRow enc Tryd.prog Tryd.f4 Rows.fnExactNameStartRow.domain false Rows.fnExactNameStartRow.laid) (((OpenSpec.ofChange Rows.fnExactNameStartSpec).at F).post enc Tryd.prog Tryd.f4 false true false false) := by
  obtain ⟨gs, places, hx⟩ := reads os enc
  refine returnsInHanded_of_row (C := Tryd.checked) (s := OpenSpec.ofChange Rows.fnExactNameStartSpec) own started (by kernel_rfl) Tryd.func4
    (witness_row_at (enc := enc) (C := Tryd.checked) false ({ World.holding Tryd.prog os ⟨#[], #[], []⟩ with heap := Tab.putCells (World.holding Tryd.prog os ⟨#[], #[], []⟩).heap 0 startCells } : World) #[.int .i64 0] rfl (by kernel_rfl) (by kernel_rfl) (by kernel_rfl)
      (OpenSpec.preRow_of_cond 8 hx (by kernel_rfl) (fun k hk => by cases hk) (by kernel_rfl) (laid_met os))) ?_
  intro W base args ds gs before hval hW _ _ _ hL _ _
  exact contract H enc W base args ds gs before hval hW hL

theorem said : Rows.FnExactNameStartSaid :=
  OpenClaim.holds_of_cond 4 Tryd.f4 rfl rfl rfl rfl rfl rfl rfl ⟨rfl, rfl, rfl, rfl, rfl⟩ rfl rfl rfl rfl rfl (by kernel_rfl) Tryd.func4 (by kernel_rfl)
    (of_decide_eq_true (by kernel_rfl)) (by unfold Func.isWrapper; first | (rw [if_pos (by decide +kernel)]; kernel_rfl) | (rw [if_neg (by decide +kernel)]; exact ⟨rfl, rfl⟩))
    (fun os started H enc _ F => by rw [OpenClaim.pre_eq_preRow]; exact lifted os started H enc F)

theorem plain (f : FuncId) (fn : Func) (hf : Tryd.pinned.checked.prog.funcNamed "loop.example/g00352/laws.FnExactNameStart" = some f) (hfn : Tryd.pinned.checked.prog.funcs[f]? = some fn) :
    false = Tryd.pinned.checked.prog.looks [] ∧ ∀ (j : Nat) t, fn.params[j]? = some t → Tryd.pinned.checked.prog.wantsStandIn t = false := by
  obtain rfl : f = 4 := Option.some.inj ((show Tryd.prog.funcNamed "loop.example/g00352/laws.FnExactNameStart" = some 4 by kernel_rfl).symm.trans hf) |>.symm
  obtain rfl : fn = Tryd.f4 := (Option.some.inj (Tryd.func4.symm.trans hfn)).symm
  refine ⟨by kernel_rfl, fun j t ht => ?_⟩
  rw [Tryd.params4] at ht
  obtain rfl : t = 2 := by simpa using Array.mem_of_getElem? ht
  exact (show Tryd.prog.wantsStandIn 2 = false by kernel_rfl)
end Go.Proofs.YtpkhdfddbcpciaaDoor.nameStart
namespace Go.Proofs.YtpkhdfddbcpciaaDoor
theorem fnExactNameStart_holds : Rows.FnExactNameStartCardSaid :=
  Claim7.holds_tied_plain_at .later [] _ _ _ _ nameStart.said (fun _ h => by cases h) (by kernel_rfl) (fun _ h => by cases h) fnExactNameStart_row_tie rfl ⟨rfl, rfl⟩ (by kernel_rfl) rfl nameStart.plain (by kernel_rfl)
#print axioms fnExactNameStart_holds
end Go.Proofs.YtpkhdfddbcpciaaDoor
