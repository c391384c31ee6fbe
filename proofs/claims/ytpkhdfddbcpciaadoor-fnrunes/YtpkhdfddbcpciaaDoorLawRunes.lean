/- Proved: for every two slices of bytes the law FnRunes of the landed code returns true: drawn characters come back from their UTF-8, and a drawn text from its characters; with its ends made alike a text has no byte 13, and made alike again it is the same; the arguments and the tables of ranges read behind the call as before. No condition but that the listed tables hold what the card ties to the program text. -/
import Derived.Test.YtpkhdfddbcpciaaDoorCards
import Derived.Test.YtpkhdfddbcpciaaDoorTie
import Derived.Test.YtpkhdfddbcpciaaDoorRunesWalk
import Derived.Test.YtpkhdfddbcpciaaDoorFrames
import Derived.Test.YtpkhdfddbcpciaaDoorTables
import Derived.Test.YtpkhdfddbcpciaaDoorTab
import Derived.WalkKit
import Derived.ProofKit
import Derived.OpenShut
import Derived.ChangeOld
import Derived.Below
import Derived.OpenVars
import Derived.Deep.DeepHandedRow
import Derived.Lib.LaidTab
namespace Go.Proofs.YtpkhdfddbcpciaaDoor.runesLaw
open Go.ChangeShapes Go.WideShapes Go.ChangeAt Go.RowKit Plain1 Plain2

theorem own : ownKnob Tryd.prog.godebug = none := by kernel_rfl
theorem laidOut : laidOutB Tryd.prog = true := by kernel_rfl
set_option maxRecDepth 100000 in
theorem big0 (a0 : Option Addr) (len0 cap0 : Nat) (a1 : Option Addr) (len1 cap1 : Nat) (w : World) (h0 : 1048576 < len0) :
    Calls Tryd.prog 3 #[.slice a0 len0 cap0, .slice a1 len1 cap1] w fun e w' => e = .returned (.bool true) ∧ Below w.heap.size w w' := by
  go_enter Tryd.func3, Tryd.ntmps3
  go_wp2_with fail
  go_ret
  exact ⟨rfl, Below.refl _ _⟩
set_option maxRecDepth 100000 in
theorem big1 (a0 : Option Addr) (len0 cap0 : Nat) (a1 : Option Addr) (len1 cap1 : Nat) (w : World) (h0 : ¬ 1048576 < len0) (h1 : 1048576 < len1) :
    Calls Tryd.prog 3 #[.slice a0 len0 cap0, .slice a1 len1 cap1] w fun e w' => e = .returned (.bool true) ∧ Below w.heap.size w w' := by
  go_enter Tryd.func3, Tryd.ntmps3
  go_wp2_with fail
  go_ret
  exact ⟨rfl, Below.refl _ _⟩

theorem fed_of_row {w : World} {a : Option Addr} {len cap : Nat} {zs : List Int} (h : IsRow .u8 w a len cap zs) (hl : len ≤ 1048576) : Fed w a len := by
  rcases h with ⟨rfl, rfl, rfl, rfl⟩ | ⟨x, rfl, h1, h2, h3, hc, hwf⟩
  · exact ⟨[], rfl, hl, Lists.Ints.nil _ _ _, fun i hi => by simp at hi⟩
  · have hrow : IsRow .u8 w (some x) len cap zs := .inr ⟨x, rfl, h1, h2, h3, hc, hwf⟩
    refine ⟨zs.take len, by simp; omega, hl, ?_, fun i hi => ?_⟩
    · by_cases h0 : 0 < cap
      · obtain ⟨b, off, rfl, hc'⟩ := ints_at hc (by omega)
        refine ⟨b, off, fun _ => rfl, fun i hi => ?_⟩
        simp at hi
        have := hc' i (by omega)
        rw [this]
        have hz : i < zs.length := by omega
        simp [List.getD, hi, hz]
      · have : zs = [] := List.eq_nil_of_length_eq_zero (by omega)
        subst this
        simp
        exact Lists.Ints.nil _ _ _
    · simp at hi
      have hz : i < zs.length := by omega
      have hm : zs[i] ∈ zs := List.getElem_mem hz
      have := bounds_u8 (hwf _ hm)
      simp [List.getD, hi]
      omega

theorem walk (a0 : Option Addr) (len0 cap0 : Nat) (z0 : List Int) (a1 : Option Addr) (len1 cap1 : Nat) (z1 : List Int) (m : Int) (w : World) (w0 : IsRow .u8 w a0 len0 cap0 z0) (w1 : IsRow .u8 w a1 len1 cap1 z1)
    (t : TypeId) (fr : Nat × Nat) (hg : w.heap[0]? = some (.cells startCells t fr)) (tp : TypeId) (frp : Nat × Nat) (hgp : w.heap[1]? = some (.cells partCells tp frp)) (hm : w.cell? ⟨2, 0, none⟩ = some (.int .i64 m)) :
    Calls Tryd.prog 3 #[.slice a0 len0 cap0, .slice a1 len1 cap1] w fun e w' => e = .returned (.bool true) ∧ Below w.heap.size w w' := by
  by_cases h0 : 1048576 < len0
  · clear w0 w1 hg hgp hm
    exact big0 a0 len0 cap0 a1 len1 cap1 w h0
  by_cases h1 : 1048576 < len1
  · clear w0 w1 hg hgp hm
    exact big1 a0 len0 cap0 a1 len1 cap1 w h0 h1
  exact walk1 a0 a1 len0 len1 cap0 cap1 m w (fed_of_row w0 (by omega)) (fed_of_row w1 (by omega)) (by omega) (by omega) t fr hg tp frp hgp hm

/-- Both tables of ranges, out of the row's list. -/
theorem tables {x : String × DataW Unit} {rest : List (String × DataW Unit)} {W : World} (h : laidMet Tryd.prog (x :: ("loop.example/g00352/impl.nameStarts", Rows.laid_loop_example_g00352_impl_nameStarts) :: ("loop.example/g00352/impl.nameParts", Rows.laid_loop_example_g00352_impl_nameParts) :: rest) W) :
    (∃ t fr, W.heap[0]? = some (.cells startCells t fr)) ∧ (∃ t fr, W.heap[1]? = some (.cells partCells t fr)) := by
  obtain ⟨ps, ⟨_, _, _, _, _, _, _, _, _, _, ⟨g1, t1, cs1, fuel1, p1, q1, hg1, ht1, hvar1, hd1, ⟨g2, t2, cs2, fuel2, p2, q2, hg2, ht2, hvar2, hd2, _, _⟩, _⟩, _⟩, _⟩ := h
  obtain rfl := Option.some.inj (gStarts.symm.trans hg1)
  obtain rfl := Option.some.inj (gStartsType.symm.trans ht1)
  obtain rfl := Option.some.inj (gParts.symm.trans hg2)
  obtain rfl := Option.some.inj (gPartsType.symm.trans ht2)
  have e1 := Tab.cells_of_pairs (zs := startsL) Tryd.underlying56 Tryd.underlying55 rfl rfl rfl rfl Tryd.underlying2 (by kernel_rfl) (by kernel_rfl) (by kernel_rfl) hd1
  have e2 := Tab.cells_of_pairs (zs := partsL) Tryd.underlying57 Tryd.underlying55 rfl rfl rfl rfl Tryd.underlying2 (by kernel_rfl) (by kernel_rfl) (by kernel_rfl) hd2
  have e1' : cs1 = startCells := by unfold startCells tabCells; rw [← e1]
  have e2' : cs2 = partCells := by unfold partCells tabCells; rw [← e2]
  subst e1' e2'
  exact ⟨Tab.block_of_var gStarts hvar1, Tab.block_of_var gParts hvar2⟩

theorem contract (H : Type) (enc : TypeId × Value → H) (W : World) (base : Nat) (args : Array Value) (ds gs : List (DataW H)) (before : List MemPlace)
    (hval : ∀ (j : Nat) t v, Tryd.f3.params[j]? = some t → args[j]? = some v → Value.okWide Tryd.prog W .any base t v)
    (hW : DataW.Whole enc Tryd.prog Tryd.f3.params.toList Rows.fnRunesSpec.vars false W args.toList ds gs before) (hL : laidMetH Tryd.prog Rows.fnRunesRow.laid W) (hsh : W.ShapedOpen Tryd.prog) :
    Calls Tryd.prog 3 args W fun e W' => ∃ v, e = .returned v ∧ Rows.fnRunesSpec.post enc Tryd.prog Tryd.f3 false true false false W args v W' := by
  have hW' := hW
  obtain ⟨p, q, hA0, hV, rfl, hfz, hnd⟩ := hW
  have hA : DataW.TrodAll enc Tryd.prog W 0 (fun _ => true) true Tryd.f3.params.toList args.toList ds p := hA0
  rw [Tryd.params3] at hA hval
  obtain ⟨v0, vs0, d0, ds0, p0, q0, hargs, rfl, rfl, h0, r0⟩ := trodAll_cons hA
  obtain ⟨v1, vs1, d1, ds1, p1, q1, rfl, rfl, rfl, h1, r1⟩ := trodAll_cons r0
  obtain ⟨rfl, rfl, rfl⟩ := trodAll_nil r1
  obtain rfl : args = #[v0, v1] := by cases args; simp_all
  obtain ⟨a0, len0, cap0, rfl⟩ := okWide_slice Tryd.underlying22 (hval 0 22 v0 rfl rfl)
  obtain ⟨a1, len1, cap1, rfl⟩ := okWide_slice Tryd.underlying22 (hval 1 22 v1 rfl rfl)
  have k0 := h0
  have k1 := h1
  have lt0 : ∀ x ∈ p0, x.block < W.heap.size := by obtain ⟨m, hm⟩ := k0; exact DataW.trod_lt m _ _ _ hm
  have lt1 : ∀ x ∈ p1, x.block < W.heap.size := by obtain ⟨m, hm⟩ := k1; exact DataW.trod_lt m _ _ _ hm
  obtain ⟨z0, w0⟩ : ∃ zs, IsRow .u8 W a0 len0 cap0 zs := by
    obtain ⟨fuel, hf⟩ := h0
    rcases open_ints Tryd.underlying22 Tryd.underlying5 (by kernel_rfl) hf with ⟨hcs, _⟩ | ⟨x, l, c, zs, hcs, _, hl, hm, hz, _, hcell, hwz⟩
    · simp [Value.cells] at hcs
      obtain ⟨rfl, rfl, rfl⟩ := hcs
      exact ⟨[], .inl ⟨rfl, rfl, rfl, rfl⟩⟩
    · simp [Value.cells] at hcs
      obtain ⟨rfl, rfl, rfl⟩ := hcs
      exact ⟨zs, .inr ⟨_, rfl, hl, hm, by simpa using hz, hcell, hwz⟩⟩
  obtain ⟨z1, w1⟩ : ∃ zs, IsRow .u8 W a1 len1 cap1 zs := by
    obtain ⟨fuel, hf⟩ := h1
    rcases open_ints Tryd.underlying22 Tryd.underlying5 (by kernel_rfl) hf with ⟨hcs, _⟩ | ⟨x, l, c, zs, hcs, _, hl, hm, hz, _, hcell, hwz⟩
    · simp [Value.cells] at hcs
      obtain ⟨rfl, rfl, rfl⟩ := hcs
      exact ⟨[], .inl ⟨rfl, rfl, rfl, rfl⟩⟩
    · simp [Value.cells] at hcs
      obtain ⟨rfl, rfl, rfl⟩ := hcs
      exact ⟨zs, .inr ⟨_, rfl, hl, hm, by simpa using hz, hcell, hwz⟩⟩
  obtain ⟨⟨t, fr, hg⟩, ⟨tp, frp, hgp⟩⟩ := tables hL
  obtain ⟨m, hm⟩ := Tryd.laysM155.s1_3 W hsh
  clear hA0
  match gs, hV with
  | [g1, g2], hV =>
    refine (walk a0 len0 cap0 z0 a1 len1 cap1 z1 m W w0 w1 t fr hg tp frp hgp hm).mono fun e W' ⟨he, bel⟩ => ?_
    subst he
    exact ⟨_, rfl, _, _, _, [], _, _, hW', trodAll_mk1 (shut_bool Tryd.underlying4 _), (trodAll_cons_mk (Below.trod laidOut (by kernel_rfl) (of_decide_eq_true (by kernel_rfl)) k0 bel lt0) (trodAll_cons_mk (Below.trod laidOut (by kernel_rfl) (of_decide_eq_true (by kernel_rfl)) k1 bel lt1) trodAll_mk0)), Below.trodVars laidOut bel (by kernel_rfl) hV, bel.frame _, fun h => by cases h⟩

/-- What a table of plain numbers holds, cell by cell (for the witness). -/
def plainCells : DataW Unit → Array Value
  | .agg ps => (ps.map fun | .lit (.int k n) => Value.int k n | _ => .nilIface).toArray
  | _ => #[]
def rangeCells : Array Value := ([128, 191, 160, 191, 128, 159, 144, 191, 128, 143] ++ List.replicate 22 0 : List Int).map (Value.int .u8) |>.toArray
theorem laid_met (os : Os) : laidMet Tryd.prog Rows.fnRunesRow.laid (({ World.holding Tryd.prog os ⟨#[], #[], []⟩ with heap := Tab.putCells (Tab.putCells (Tab.putCells (Tab.putCells (World.holding Tryd.prog os ⟨#[], #[], []⟩).heap 4 rangeCells) 3 (plainCells Go.Pinned.utf8First)) 0 startCells) 1 partCells } : World).forCall (fun _ _ => 0) ⟨#[], #[.slice none 0 0, .slice none 0 0], []⟩).memory :=
  laidMet_of_run' 8 (by kernel_rfl) (by kernel_rfl)
theorem reads (os : Os) {H : Type} (enc : TypeId × Value → H) : ∃ gs places, DataW.whole enc Tryd.prog (({ World.holding Tryd.prog os ⟨#[], #[], []⟩ with heap := Tab.putCells (Tab.putCells (Tab.putCells (Tab.putCells (World.holding Tryd.prog os ⟨#[], #[], []⟩).heap 4 rangeCells) 3 (plainCells Go.Pinned.utf8First)) 0 startCells) 1 partCells } : World).forCall (fun _ _ => 0) ⟨#[], #[.slice none 0 0, .slice none 0 0], []⟩).memory Tryd.f3.params.toList Rows.fnRunesSpec.vars false #[Value.slice none 0 0, Value.slice none 0 0].toList 8 = some ([.nil, .nil], gs, places) :=
  ⟨[Rows.laid_loop_example_g00352_impl_nameStarts, Rows.laid_loop_example_g00352_impl_nameParts], (List.range 32).map (MemPlace.cell 0) ++ (List.range 10).map (MemPlace.cell 1), by kernel_rfl⟩

set_option maxRecDepth 100000 in
theorem lifted (os : Os) (started : os.Started) (H : Type) (enc : TypeId × Value → H) (F : Stop.Interp) :
    ReturnsInHanded {} Tryd.checked os 3 .any ((OpenSpec.ofChange Rows.fnRunesSpec).preRow enc Tryd.prog Tryd.f3 Rows.fnRunesRow.domain false Rows.fnRunesRow.laid) (((OpenSpec.ofChange Rows.fnRunesSpec).at F).post enc Tryd.prog Tryd.f3 false true false false) := by
  obtain ⟨gs, places, hx⟩ := reads os enc
  refine returnsInHanded_of_row (C := Tryd.checked) (s := OpenSpec.ofChange Rows.fnRunesSpec) own started (by kernel_rfl) Tryd.func3
    (witness_row_at (enc := enc) (C := Tryd.checked) false ({ World.holding Tryd.prog os ⟨#[], #[], []⟩ with heap := Tab.putCells (Tab.putCells (Tab.putCells (Tab.putCells (World.holding Tryd.prog os ⟨#[], #[], []⟩).heap 4 rangeCells) 3 (plainCells Go.Pinned.utf8First)) 0 startCells) 1 partCells } : World) #[.slice none 0 0, .slice none 0 0] rfl (by kernel_rfl) (by kernel_rfl) (by kernel_rfl)
      (OpenSpec.preRow_of_cond 8 hx (by kernel_rfl) (fun k hk => by cases hk) (by kernel_rfl) (laid_met os))) ?_
  intro W base args ds gs before hval hW _ _ _ hL hsh _
  exact contract H enc W base args ds gs before hval hW hL hsh

theorem said : Rows.FnRunesSaid :=
  OpenClaim.holds_of_cond 3 Tryd.f3 rfl rfl rfl rfl rfl rfl rfl ⟨rfl, rfl, rfl, rfl, rfl⟩ rfl rfl rfl rfl rfl (by kernel_rfl) Tryd.func3 (by kernel_rfl)
    (of_decide_eq_true (by kernel_rfl)) (by unfold Func.isWrapper; first | (rw [if_pos (by decide +kernel)]; kernel_rfl) | (rw [if_neg (by decide +kernel)]; exact ⟨rfl, rfl⟩))
    (fun os started H enc _ F => by rw [OpenClaim.pre_eq_preRow]; exact lifted os started H enc F)

theorem plain (f : FuncId) (fn : Func) (hf : Tryd.pinned.checked.prog.funcNamed "loop.example/g00352/laws.FnRunes" = some f) (hfn : Tryd.pinned.checked.prog.funcs[f]? = some fn) :
    false = Tryd.pinned.checked.prog.looks [] ∧ ∀ (j : Nat) t, fn.params[j]? = some t → Tryd.pinned.checked.prog.wantsStandIn t = false := by
  obtain rfl : f = 3 := Option.some.inj ((show Tryd.prog.funcNamed "loop.example/g00352/laws.FnRunes" = some 3 by kernel_rfl).symm.trans hf) |>.symm
  obtain rfl : fn = Tryd.f3 := (Option.some.inj (Tryd.func3.symm.trans hfn)).symm
  refine ⟨by kernel_rfl, fun j t ht => ?_⟩
  rw [Tryd.params3] at ht
  obtain rfl : t = 22 := by simpa using Array.mem_of_getElem? ht
  exact (show Tryd.prog.wantsStandIn 22 = false by kernel_rfl)
end Go.Proofs.YtpkhdfddbcpciaaDoor.runesLaw
namespace Go.Proofs.YtpkhdfddbcpciaaDoor
theorem fnRunes_holds : Rows.FnRunesCardSaid :=
  Claim7.holds_tied_plain_at .later [] _ _ _ _ runesLaw.said (fun _ h => by cases h) (by kernel_rfl) (fun _ h => by cases h) fnRunes_row_tie rfl ⟨rfl, rfl⟩ (by kernel_rfl) rfl runesLaw.plain (by kernel_rfl)
#print axioms fnRunes_holds
end Go.Proofs.YtpkhdfddbcpciaaDoor
