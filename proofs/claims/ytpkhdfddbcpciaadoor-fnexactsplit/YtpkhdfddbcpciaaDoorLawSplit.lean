/- Proved: for every text the law FnExactSplit of the landed code returns true, that is, impl.Split answers as its model, field by field; its argument and the tables impl.nameStarts and impl.nameParts read behind the call as before. No condition but that the tables hold what their initialisers lay, which the card ties to the program's text. -/
import Derived.Test.YtpkhdfddbcpciaaDoorCards
import Derived.Test.YtpkhdfddbcpciaaDoorTie
import Derived.Test.YtpkhdfddbcpciaaDoorSplitImpl
import Derived.Test.YtpkhdfddbcpciaaDoorTables
import Derived.Test.YtpkhdfddbcpciaaDoorTab
import Derived.WalkKit
import Derived.ProofKit
import Derived.OpenShut
import Derived.ShutString
import Derived.OpenVars
import Derived.Deep.DeepHandedRow
import Derived.Lib.LaidTab
namespace Go.Proofs.YtpkhdfddbcpciaaDoor.splitLaw
open Go.ChangeShapes Go.WideShapes Go.ChangeAt Go.RowKit Plain1 Plain2 Plain6 Lists PlainS
open Go.ChangeMaps (open_string shut_string)

theorem own : ownKnob Tryd.prog.godebug = none := by kernel_rfl
theorem laidOut : laidOutB Tryd.prog = true := by kernel_rfl
theorem maxCell {W : World} (h : W.ShapedOpen Tryd.prog) : ∃ m, W.cell? ⟨2, 0, none⟩ = some (.int .i64 m) :=
  Go.Proofs.cell_of_shapedOpen_int (zero := #[.int .i64 0]) (t := 3) h (of_decide_eq_true (by kernel_rfl)) (by kernel_rfl) rfl (by kernel_rfl) (by kernel_rfl) Tryd.underlying3
set_option maxHeartbeats 2000000 in
theorem eqQ_any (a b : ByteArray) (c : Int) (w : World) : Calls Tryd.prog 30 #[.agg #[.string a, .string b, .int .i64 c], .agg #[.string a, .string b, .int .i64 c]] w fun e w' => e = .returned (.bool true) ∧ Below w.heap.size w w' := by
  go_enter Tryd.func30, Tryd.ntmps30
  go_wp2
  go_ret
  exact ⟨rfl, by repeat (first | exact Below.refl _ _ | refine Below.alloc ?_ (by simp; try omega) _)⟩
set_option maxHeartbeats 2000000 in
theorem walk (a0 : ByteArray) (w : World) (t : TypeId) (fr : Nat × Nat) (hg : w.heap[0]? = some (.cells startCells t fr)) (tp : TypeId) (frp : Nat × Nat) (hgp : w.heap[1]? = some (.cells partCells tp frp)) (m : Int) (hm : w.cell? ⟨2, 0, none⟩ = some (.int .i64 m)) :
    Calls Tryd.prog 8 #[.string a0] w fun e w' => e = .returned (.bool true) ∧ Below w.heap.size w w' := by
  by_cases hbig : 1048576 < a0.size
  · go_enter Tryd.func8, Tryd.ntmps8
    go_wp2
    go_ret
    exact ⟨rfl, Below.refl _ _⟩
  have c1 := specSplit_any a0 w (by omega)
  have c2 := fun W (h1 : W.heap[0]? = some (.cells startCells t fr)) (h2 : W.heap[1]? = some (.cells partCells tp frp)) (h3 : W.cell? ⟨2, 0, none⟩ = some (.int .i64 m)) => implSplit_any a0 W (by omega) t fr h1 tp frp h2 m h3
  obtain ⟨Z, hZ⟩ : ∃ Z, splOut a0 = Z := ⟨_, rfl⟩
  rw [hZ] at c1
  simp only [hZ] at c2
  clear hZ
  have hz : 0 < w.heap.size := (Array.getElem?_eq_some_iff.1 hg).1
  have hzp : 1 < w.heap.size := (Array.getElem?_eq_some_iff.1 hgp).1
  have hzm := block_lt hm
  have HG := mkHidS hg
  have HGP := mkHidS hgp
  have HM := mkHidS hm
  clear hg hgp hm
  go_enter Tryd.func8, Tryd.ntmps8
  go_wp2_with fail
  refine c1.mono ?_
  rintro e w1 ⟨rfl, hb1⟩
  have N2 := mkHidS (heap_alloc_new w1 (.cells #[.string Z.1, .string Z.2.1, .int .i64 Z.2.2] 37))
  have B2 := mkHidS (hb1.alloc hb1.size (.cells #[.string Z.1, .string Z.2.1, .int .i64 Z.2.2] 37))
  clear hb1 c1
  go_wp2_with fail
  refine (c2 _ (by rw [B2.out.block _ hz]; exact HG.out) (by rw [B2.out.block _ hzp]; exact HGP.out) ((B2.out.cell (p := ⟨2, 0, none⟩) hzm).trans HM.out)).mono ?_
  rintro e w3 ⟨rfl, hb3⟩
  have N3 : Hid (w3.heap[w1.heap.size]? = some (.cells #[.string Z.1, .string Z.2.1, .int .i64 Z.2.2] 37)) := mkHidS ((hb3.block _ (by simp)).trans N2.out)
  have B3 := mkHidS (B2.out.trans (hb3.mono B2.out.size))
  clear hb3 c2 N2 B2
  have N4 : (w3.alloc (.cells #[.string Z.1, .string Z.2.1, .int .i64 Z.2.2] 37)).heap[w1.heap.size]? = some (.cells #[.string Z.1, .string Z.2.1, .int .i64 Z.2.2] 37) := (heap_alloc_old w3 _ (Array.getElem?_eq_some_iff.1 N3.out).1).trans N3.out
  have k0 : (w3.alloc (.cells #[.string Z.1, .string Z.2.1, .int .i64 Z.2.2] 37)).cell? ⟨w1.heap.size, 0, none⟩ = some (.string Z.1) := by simp [World.cell?, N4]
  have k1 : (w3.alloc (.cells #[.string Z.1, .string Z.2.1, .int .i64 Z.2.2] 37)).cell? ⟨w1.heap.size, 1, none⟩ = some (.string Z.2.1) := by simp [World.cell?, N4]
  have k2 : (w3.alloc (.cells #[.string Z.1, .string Z.2.1, .int .i64 Z.2.2] 37)).cell? ⟨w1.heap.size, 2, none⟩ = some (.int .i64 Z.2.2) := by simp [World.cell?, N4]
  have B4 := mkHidS (B3.out.alloc B3.out.size (.cells #[.string Z.1, .string Z.2.1, .int .i64 Z.2.2] 37))
  have heq := fun W => eqQ_any Z.1 Z.2.1 Z.2.2 W
  clear N4 N3 B3
  go_wp2_with fail
  refine (heq _).mono ?_
  rintro e w5 ⟨rfl, hb5⟩
  have B5 := mkHidS (B4.out.trans (hb5.mono B4.out.size))
  clear hb5 heq
  go_wp2
  go_ret
  exact ⟨rfl, B5.out⟩

theorem contract (H : Type) (enc : TypeId × Value → H) (W : World) (base : Nat) (args : Array Value) (ds gs : List (DataW H)) (before : List MemPlace)
    (hval : ∀ (j : Nat) t v, Tryd.f8.params[j]? = some t → args[j]? = some v → Value.okWide Tryd.prog W .any base t v)
    (hW : DataW.Whole enc Tryd.prog Tryd.f8.params.toList Rows.fnExactSplitSpec.vars false W args.toList ds gs before) (hL : laidMetH Tryd.prog Rows.fnExactSplitRow.laid W) (hsh : W.ShapedOpen Tryd.prog) :
    Calls Tryd.prog 8 args W fun e W' => ∃ v, e = .returned v ∧ Rows.fnExactSplitSpec.post enc Tryd.prog Tryd.f8 false true false false W args v W' := by
  have hW' := hW
  obtain ⟨p, q, hA0, hV, rfl, hfz, hnd⟩ := hW
  have hA : DataW.TrodAll enc Tryd.prog W 0 (fun _ => true) true Tryd.f8.params.toList args.toList ds p := hA0
  rw [Tryd.params8] at hA hval
  obtain ⟨v0, vs0, d0, ds0, p0, q0, hargs, rfl, rfl, h0, r0⟩ := trodAll_cons hA
  obtain ⟨rfl, rfl, rfl⟩ := trodAll_nil r0
  obtain rfl : args = #[v0] := by cases args; simp_all
  obtain ⟨a0, rfl, rfl, rfl, w0⟩ := open_string Tryd.underlying9 (hval 0 9 v0 rfl rfl) h0
  obtain ⟨⟨t, fr, hg⟩, ⟨tp, frp, hgp⟩⟩ := tableBoth (rest := []) hL
  obtain ⟨m, hm⟩ := maxCell hsh
  clear hA0
  match gs, hV with
  | [g1, g2], hV =>
    refine (walk a0 W t fr hg tp frp hgp m hm).mono fun e W' ⟨he, bel⟩ => ?_
    subst he
    exact ⟨_, rfl, _, _, _, [], _, _, hW', trodAll_mk1 (shut_bool Tryd.underlying4 _), (trodAll_cons_mk (shut_string Tryd.underlying9 w0) trodAll_mk0), Below.trodVars laidOut bel (by kernel_rfl) hV, bel.frame _, fun h => by cases h⟩

theorem laid_met (os : Os) : laidMet Tryd.prog Rows.fnExactSplitRow.laid (({ World.holding Tryd.prog os ⟨#[], #[], []⟩ with heap := Tab.putCells (Tab.putCells (World.holding Tryd.prog os ⟨#[], #[], []⟩).heap 0 startCells) 1 partCells } : World).forCall (fun _ _ => 0) ⟨#[], #[.string ByteArray.empty], []⟩).memory :=
  laidMet_of_run' 8 (by kernel_rfl) (by kernel_rfl)
theorem reads (os : Os) {H : Type} (enc : TypeId × Value → H) : ∃ gs places, DataW.whole enc Tryd.prog (({ World.holding Tryd.prog os ⟨#[], #[], []⟩ with heap := Tab.putCells (Tab.putCells (World.holding Tryd.prog os ⟨#[], #[], []⟩).heap 0 startCells) 1 partCells } : World).forCall (fun _ _ => 0) ⟨#[], #[.string ByteArray.empty], []⟩).memory Tryd.f8.params.toList Rows.fnExactSplitSpec.vars false #[Value.string ByteArray.empty].toList 8 = some ([.lit (.string [])], gs, places) :=
  ⟨[Rows.laid_loop_example_g00352_impl_nameStarts, Rows.laid_loop_example_g00352_impl_nameParts], (List.range 32).map (MemPlace.cell 0) ++ (List.range 10).map (MemPlace.cell 1), by kernel_rfl⟩

set_option maxRecDepth 100000 in
theorem lifted (os : Os) (started : os.Started) (H : Type) (enc : TypeId × Value → H) (F : Stop.Interp) :
    ReturnsInHanded {} Tryd.checked os 8 .any ((OpenSpec.ofChange Rows.fnExactSplitSpec).preRow enc Tryd.prog Tryd.f8 Rows.fnExactSplitRow.domain false Rows.fnExactSplitRow.laid) (((OpenSpec.ofChange Rows.fnExactSplitSpec).at F).post enc Tryd.prog Tryd.f8 false true false false) := by
  obtain ⟨gs, places, hx⟩ := reads os enc
  refine returnsInHanded_of_row (C := Tryd.checked) (s := OpenSpec.ofChange Rows.fnExactSplitSpec) own started (by kernel_rfl) Tryd.func8
    (witness_row_at (enc := enc) (C := Tryd.checked) false ({ World.holding Tryd.prog os ⟨#[], #[], []⟩ with heap := Tab.putCells (Tab.putCells (World.holding Tryd.prog os ⟨#[], #[], []⟩).heap 0 startCells) 1 partCells } : World) #[.string ByteArray.empty] rfl (by kernel_rfl) (by kernel_rfl) (by kernel_rfl)
      (OpenSpec.preRow_of_cond 8 hx (by kernel_rfl) (fun k hk => by cases hk) (by kernel_rfl) (laid_met os))) ?_
  intro W base args ds gs before hval hW _ _ _ hL hsh _
  exact contract H enc W base args ds gs before hval hW hL hsh

theorem said : Rows.FnExactSplitSaid :=
  OpenClaim.holds_of_cond 8 Tryd.f8 rfl rfl rfl rfl rfl rfl rfl ⟨rfl, rfl, rfl, rfl, rfl⟩ rfl rfl rfl rfl rfl (by kernel_rfl) Tryd.func8 (by kernel_rfl)
    (of_decide_eq_true (by kernel_rfl)) (by unfold Func.isWrapper; first | (rw [if_pos (by decide +kernel)]; kernel_rfl) | (rw [if_neg (by decide +kernel)]; exact ⟨rfl, rfl⟩))
    (fun os started H enc _ F => by rw [OpenClaim.pre_eq_preRow]; exact lifted os started H enc F)

theorem plain (f : FuncId) (fn : Func) (hf : Tryd.pinned.checked.prog.funcNamed "loop.example/g00352/laws.FnExactSplit" = some f) (hfn : Tryd.pinned.checked.prog.funcs[f]? = some fn) :
    false = Tryd.pinned.checked.prog.looks [] ∧ ∀ (j : Nat) t, fn.params[j]? = some t → Tryd.pinned.checked.prog.wantsStandIn t = false := by
  obtain rfl : f = 8 := Option.some.inj ((show Tryd.prog.funcNamed "loop.example/g00352/laws.FnExactSplit" = some 8 by kernel_rfl).symm.trans hf) |>.symm
  obtain rfl : fn = Tryd.f8 := (Option.some.inj (Tryd.func8.symm.trans hfn)).symm
  refine ⟨by kernel_rfl, fun j t ht => ?_⟩
  rw [Tryd.params8] at ht
  obtain rfl : t = 9 := by simpa using Array.mem_of_getElem? ht
  exact (show Tryd.prog.wantsStandIn 9 = false by kernel_rfl)
end Go.Proofs.YtpkhdfddbcpciaaDoor.splitLaw
namespace Go.Proofs.YtpkhdfddbcpciaaDoor
theorem fnExactSplit_holds : Rows.FnExactSplitCardSaid :=
  Claim7.holds_tied_plain_at .later [] _ _ _ _ splitLaw.said (fun _ h => by cases h) (by kernel_rfl) (fun _ h => by cases h) fnExactSplit_row_tie rfl ⟨rfl, rfl⟩ (by kernel_rfl) rfl splitLaw.plain (by kernel_rfl)
#print axioms fnExactSplit_holds
end Go.Proofs.YtpkhdfddbcpciaaDoor
