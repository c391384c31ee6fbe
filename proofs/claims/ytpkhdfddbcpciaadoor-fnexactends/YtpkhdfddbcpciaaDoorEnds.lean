/- Proved: for every text the law FnExactEnds of the landed code returns true, that is, impl.Ends answers as its model; the argument reads behind the call as before. No condition but that two tables of the library (unicode/utf8.acceptRanges and first), which no road of this call reads, hold what the card ties to the program text. -/
import Derived.Test.YtpkhdfddbcpciaaDoorCards
import Derived.Test.YtpkhdfddbcpciaaDoorTie
import Derived.Test.YtpkhdfddbcpciaaDoorEndsModel
import Derived.Test.YtpkhdfddbcpciaaDoorEndsImpl
import Derived.Test.YtpkhdfddbcpciaaDoorTab
import Derived.WalkKit
import Derived.ProofKit
import Derived.OpenShut
import Derived.ShutString
import Derived.OpenVars
import Derived.Deep.DeepHandedRow
import Derived.Lib.LaidTab
namespace Go.Proofs.YtpkhdfddbcpciaaDoor.endsLaw
open Go.ChangeShapes Go.WideShapes Go.ChangeAt Go.RowKit Plain1
open Go.ChangeMaps (open_string shut_string)

theorem own : ownKnob Tryd.prog.godebug = none := by kernel_rfl
theorem laidOut : laidOutB Tryd.prog = true := by kernel_rfl
theorem walk (a0 : ByteArray) (m : Int) (w : World) (hm : w.cell? ⟨2, 0, none⟩ = some (.int .i64 m)) :
    Calls Tryd.prog 6 #[.string a0] w fun e w' => e = .returned (.bool true) ∧ Below w.heap.size w w' := by
  have hz : 2 < w.heap.size := Lists.block_lt hm
  have HM : Hid (w.cell? ⟨2, 0, none⟩ = some (.int .i64 m)) := hm
  clear hm
  by_cases hbig : 1048576 < a0.size
  · go_enter Tryd.func6, Tryd.ntmps6
    go_wp2
    go_ret
    exact ⟨rfl, Below.refl _ _⟩
  go_enter Tryd.func6, Tryd.ntmps6
  go_wp2_with fail
  refine (specEnds_any a0 w).mono ?_
  rintro e w1 ⟨rfl, hb1⟩
  have c2 := implEnds_any a0 m w1 ((hb1.cell (p := ⟨2, 0, none⟩) hz).trans HM.out)
  go_wp2_with fail
  refine c2.mono ?_
  rintro e w2 ⟨rfl, hb2⟩
  clear c2
  go_wp2
  go_ret
  exact ⟨rfl, hb1.trans (hb2.mono hb1.size)⟩

theorem contract (H : Type) (enc : TypeId × Value → H) (W : World) (base : Nat) (args : Array Value) (ds gs : List (DataW H)) (before : List MemPlace)
    (hval : ∀ (j : Nat) t v, Tryd.f6.params[j]? = some t → args[j]? = some v → Value.okWide Tryd.prog W .any base t v)
    (hW : DataW.Whole enc Tryd.prog Tryd.f6.params.toList Rows.fnExactEndsSpec.vars false W args.toList ds gs before) (hsh : W.ShapedOpen Tryd.prog) :
    Calls Tryd.prog 6 args W fun e W' => ∃ v, e = .returned v ∧ Rows.fnExactEndsSpec.post enc Tryd.prog Tryd.f6 false true false false W args v W' := by
  have hW' := hW
  obtain ⟨p, q, hA0, hV, rfl, hfz, hnd⟩ := hW
  have hA : DataW.TrodAll enc Tryd.prog W 0 (fun _ => true) true Tryd.f6.params.toList args.toList ds p := hA0
  rw [Tryd.params6] at hA hval
  obtain ⟨v0, vs0, d0, ds0, p0, q0, hargs, rfl, rfl, h0, r0⟩ := trodAll_cons hA
  obtain ⟨rfl, rfl, rfl⟩ := trodAll_nil r0
  obtain rfl : args = #[v0] := by cases args; simp_all
  obtain ⟨a0, rfl, rfl, rfl, w0⟩ := open_string Tryd.underlying9 (hval 0 9 v0 rfl rfl) h0
  obtain ⟨m, hm⟩ := Tryd.laysM155.s1_3 W hsh
  obtain ⟨rfl, rfl⟩ := trodVars_none hV
  clear hA0
  refine (walk a0 m W hm).mono fun e W' ⟨he, bel⟩ => ?_
  subst he
  exact ⟨_, rfl, _, _, _, [], [], [], hW', trodAll_mk1 (shut_bool Tryd.underlying4 _), (trodAll_cons_mk (shut_string Tryd.underlying9 w0) trodAll_mk0), rfl, bel.frame _, fun h => by cases h⟩

/-- What a table of plain numbers holds, cell by cell (for the witness). -/
def plainCells : DataW Unit → Array Value
  | .agg ps => (ps.map fun | .lit (.int k n) => Value.int k n | _ => .nilIface).toArray
  | _ => #[]
def rangeCells : Array Value := ([128, 191, 160, 191, 128, 159, 144, 191, 128, 143] ++ List.replicate 22 0 : List Int).map (Value.int .u8) |>.toArray
theorem laid_met (os : Os) : laidMet Tryd.prog Rows.fnExactEndsRow.laid (({ World.holding Tryd.prog os ⟨#[], #[], []⟩ with heap := Tab.putCells (Tab.putCells (World.holding Tryd.prog os ⟨#[], #[], []⟩).heap 4 rangeCells) 3 (plainCells Go.Pinned.utf8First) } : World).forCall (fun _ _ => 0) ⟨#[], #[.string ByteArray.empty], []⟩).memory :=
  laidMet_of_run' 8 (by kernel_rfl) (by kernel_rfl)
theorem reads (os : Os) {H : Type} (enc : TypeId × Value → H) : ∃ gs places, DataW.whole enc Tryd.prog (({ World.holding Tryd.prog os ⟨#[], #[], []⟩ with heap := Tab.putCells (Tab.putCells (World.holding Tryd.prog os ⟨#[], #[], []⟩).heap 4 rangeCells) 3 (plainCells Go.Pinned.utf8First) } : World).forCall (fun _ _ => 0) ⟨#[], #[.string ByteArray.empty], []⟩).memory Tryd.f6.params.toList Rows.fnExactEndsSpec.vars false #[Value.string ByteArray.empty].toList 8 = some ([.lit (.string [])], gs, places) :=
  ⟨[], [], by kernel_rfl⟩

set_option maxRecDepth 100000 in
theorem lifted (os : Os) (started : os.Started) (H : Type) (enc : TypeId × Value → H) (F : Stop.Interp) :
    ReturnsInHanded {} Tryd.checked os 6 .any ((OpenSpec.ofChange Rows.fnExactEndsSpec).preRow enc Tryd.prog Tryd.f6 Rows.fnExactEndsRow.domain false Rows.fnExactEndsRow.laid) (((OpenSpec.ofChange Rows.fnExactEndsSpec).at F).post enc Tryd.prog Tryd.f6 false true false false) := by
  obtain ⟨gs, places, hx⟩ := reads os enc
  refine returnsInHanded_of_row (C := Tryd.checked) (s := OpenSpec.ofChange Rows.fnExactEndsSpec) own started (by kernel_rfl) Tryd.func6
    (witness_row_at (enc := enc) (C := Tryd.checked) false ({ World.holding Tryd.prog os ⟨#[], #[], []⟩ with heap := Tab.putCells (Tab.putCells (World.holding Tryd.prog os ⟨#[], #[], []⟩).heap 4 rangeCells) 3 (plainCells Go.Pinned.utf8First) } : World) #[.string ByteArray.empty] rfl (by kernel_rfl) (by kernel_rfl) (by kernel_rfl)
      (OpenSpec.preRow_of_cond 8 hx (by kernel_rfl) (fun k hk => by cases hk) (by kernel_rfl) (laid_met os))) ?_
  intro W base args ds gs before hval hW _ _ _ _ hsh _
  exact contract H enc W base args ds gs before hval hW hsh

theorem said : Rows.FnExactEndsSaid :=
  OpenClaim.holds_of_cond 6 Tryd.f6 rfl rfl rfl rfl rfl rfl rfl ⟨rfl, rfl, rfl, rfl, rfl⟩ rfl rfl rfl rfl rfl (by kernel_rfl) Tryd.func6 (by kernel_rfl)
    (of_decide_eq_true (by kernel_rfl)) (by unfold Func.isWrapper; first | (rw [if_pos (by decide +kernel)]; kernel_rfl) | (rw [if_neg (by decide +kernel)]; exact ⟨rfl, rfl⟩))
    (fun os started H enc _ F => by rw [OpenClaim.pre_eq_preRow]; exact lifted os started H enc F)

theorem plain (f : FuncId) (fn : Func) (hf : Tryd.pinned.checked.prog.funcNamed "loop.example/g00352/laws.FnExactEnds" = some f) (hfn : Tryd.pinned.checked.prog.funcs[f]? = some fn) :
    false = Tryd.pinned.checked.prog.looks [] ∧ ∀ (j : Nat) t, fn.params[j]? = some t → Tryd.pinned.checked.prog.wantsStandIn t = false := by
  obtain rfl : f = 6 := Option.some.inj ((show Tryd.prog.funcNamed "loop.example/g00352/laws.FnExactEnds" = some 6 by kernel_rfl).symm.trans hf) |>.symm
  obtain rfl : fn = Tryd.f6 := (Option.some.inj (Tryd.func6.symm.trans hfn)).symm
  refine ⟨by kernel_rfl, fun j t ht => ?_⟩
  rw [Tryd.params6] at ht
  obtain rfl : t = 9 := by simpa using Array.mem_of_getElem? ht
  exact (show Tryd.prog.wantsStandIn 9 = false by kernel_rfl)
end Go.Proofs.YtpkhdfddbcpciaaDoor.endsLaw
namespace Go.Proofs.YtpkhdfddbcpciaaDoor
theorem fnExactEnds_holds : Rows.FnExactEndsCardSaid :=
  Claim7.holds_tied_plain_at .later [] _ _ _ _ endsLaw.said (fun _ h => by cases h) (by kernel_rfl) (fun _ h => by cases h) fnExactEnds_row_tie rfl ⟨rfl, rfl⟩ (by kernel_rfl) rfl endsLaw.plain (by kernel_rfl)
#print axioms fnExactEnds_holds
end Go.Proofs.YtpkhdfddbcpciaaDoor
