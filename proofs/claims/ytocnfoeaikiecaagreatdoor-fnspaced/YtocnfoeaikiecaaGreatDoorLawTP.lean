/- Proved: whatever two rows of bytes are drawn from, the law FnSpaced of the landed code returns true, that is, of drawn events impl.Spaced tells the nodes that its model tells, a node an event as far as they go, each of the same kind and text as its event, each start with as many declarations and attributes as its event has attributes; and of a drawn name impl.Split tells the parts that its model tells, which put together are the name where the name is right; the arguments and the tables impl.nameStarts and impl.nameParts read behind the call as before. No condition but that the tables hold what their initialisers lay, which the card ties to the program's text. -/
import Derived.Test.YtocnfoeaikiecaaGreatDoorCards
import Derived.Test.YtocnfoeaikiecaaGreatDoorTie
import Derived.Test.YtocnfoeaikiecaaGreatDoorLawT1
import Derived.Test.YtocnfoeaikiecaaGreatDoorTbl
import Derived.OpenVars
import Derived.Deep.DeepHandedRow
set_option maxRecDepth 100000
namespace Go.Proofs.YtocnfoeaikiecaaGreatDoor.fnSpaced
open Go.ChangeShapes Go.WideShapes Go.ChangeAt Go.RowKit Plain2 Lists Go.Proofs.Tryz
theorem own : ownKnob prog.godebug = none := by kernel_rfl
theorem cXd : laidOutB prog = true := by kernel_rfl
theorem dVl {W : World} (h : W.ShapedOpen prog) : ∃ m, W.cell? ⟨2, 0, none⟩ = some (.int .i64 m) :=
 Go.Proofs.cell_of_shapedOpen_int (zero := #[.int .i64 0]) (t := 3) h (of_decide_eq_true (by kernel_rfl)) (by kernel_rfl) rfl (by kernel_rfl) (by kernel_rfl) underlying3
theorem bK6 {w : World} {a : Option Addr} {len cap : Nat} {zs : List Int} (h : dZv .u8 w a len cap zs) (hl : len ≤ 1048576) : Fed w a len := by
 rcases h with ⟨rfl, rfl, rfl, rfl⟩ | ⟨x, rfl, h1, h2, h3, hc, hwf⟩
 · exact ⟨[], rfl, hl, Lists.Ints.nil _ _ _, fun i hi => by simp at hi⟩
 · have hrow : dZv .u8 w (some x) len cap zs := .inr ⟨x, rfl, h1, h2, h3, hc, hwf⟩
   refine ⟨zs.take len, by simp; omega, hl, ?_, fun i hi => ?_⟩
   · by_cases h0 : 0 < cap
     · obtain ⟨b, off, rfl, hc'⟩ := ints_at hc (by omega)
       refine ⟨b, off, fun _ => rfl, fun i hi => ?_⟩
       simp at hi
       have := hc' i (by omega)
       rw [this]
       have hz : i < zs.length := by omega
       simp [List.getD, hi, hz]
     · have : zs = [] := List.eq_nil_of_length_eq_zero (by omega)
       subst this
       simp
       exact Lists.Ints.nil _ _ _
   · simp at hi
     have hz : i < zs.length := by omega
     have hm : zs[i] ∈ zs := List.getElem_mem hz
     have := bounds_u8 (hwf _ hm)
     simp [List.getD, hi]
     omega
theorem long (a a' : Option Addr) (n n' cap cap' : Nat) (w : World) (h : 1048576 < n ∨ 1048576 < n') :
 Calls prog 3 #[.slice a n cap, .slice a' n' cap'] w fun e w' => e = .returned (.bool true) ∧ Below w.heap.size w w' := by
 by_cases hn : 1048576 < n
 · have hn1 : (n : Int) > 1048576 := by omega
   go_enter func3, ntmps3
   go_wp2
   exact bodyPost_ret (v := .bool true) (by simp [results, results3, go_sem]) rfl ⟨rfl, Below.refl _ _⟩
 · have hn1 : ¬ (n : Int) > 1048576 := by omega
   have hn2 : (n' : Int) > 1048576 := by omega
   go_enter func3, ntmps3
   go_wp2
   exact bodyPost_ret (v := .bool true) (by simp [results, results3, go_sem]) rfl ⟨rfl, Below.refl _ _⟩
theorem walkA (a a' : Option Addr) (n n' cap cap' : Nat) (w : World) (m : Int) (hS : n ≤ 1048576 → Fed w a n) (hS' : n' ≤ 1048576 → Fed w a' n') (hEn : EnvS w m) :
 Calls prog 3 #[.slice a n cap, .slice a' n' cap'] w fun e w' => e = .returned (.bool true) ∧ Below w.heap.size w w' := by
 by_cases h : 1048576 < n ∨ 1048576 < n'
 · exact long a a' n n' cap cap' w h
 · exact walk a a' n n' cap cap' w m (hS (by omega)) (hS' (by omega)) hEn
theorem contract (H : Type) (enc : TypeId × Value → H) (W : World) (base : Nat) (args : Array Value) (ds gs : List (DataW H)) (before : List MemPlace)
 (hval : ∀ (j : Nat) t v, Tryz.f3.params[j]? = some t → args[j]? = some v → Value.okWide prog W .any base t v)
 (hW : DataW.Whole enc prog Tryz.f3.params.toList Rows.fnSpacedSpec.vars false W args.toList ds gs before) (hL : laidMetH prog Rows.fnSpacedRow.laid W) (hsh : W.ShapedOpen prog) :
 Calls prog 3 args W fun e W' => ∃ v, e = .returned v ∧ Rows.fnSpacedSpec.post enc prog Tryz.f3 false true false false W args v W' := by
 have hW' := hW
 obtain ⟨p, q, hA0, hV, rfl, hfz, hnd⟩ := hW
 have hA : DataW.TrodAll enc prog W 0 (fun _ => true) true Tryz.f3.params.toList args.toList ds p := hA0
 rw [params3] at hA hval
 obtain ⟨v0, vs0, d0, ds0, p0, q0, hargs, rfl, rfl, h0, r0⟩ := trodAll_cons hA
 obtain ⟨v1, vs1, d1, ds1, p1, q1, rfl, rfl, rfl, h1, r1⟩ := trodAll_cons r0
 obtain ⟨rfl, rfl, rfl⟩ := trodAll_nil r1
 obtain rfl : args = #[v0, v1] := Array.ext' hargs
 obtain ⟨a0, len0, cap0, rfl⟩ := okWide_slice underlying22 (hval 0 22 v0 rfl rfl)
 obtain ⟨a1, len1, cap1, rfl⟩ := okWide_slice underlying22 (hval 1 22 v1 rfl rfl)
 have k0 := h0
 have k1 := h1
 have lt0 : ∀ x ∈ p0, x.block < W.heap.size := by obtain ⟨m, hm⟩ := k0; exact DataW.trod_lt m _ _ _ hm
 have lt1 : ∀ x ∈ p1, x.block < W.heap.size := by obtain ⟨m, hm⟩ := k1; exact DataW.trod_lt m _ _ _ hm
 obtain ⟨z0, w0⟩ : ∃ zs, dZv .u8 W a0 len0 cap0 zs := by
  obtain ⟨fuel, hf⟩ := h0
  rcases open_ints underlying22 underlying5 (by kernel_rfl) hf with ⟨hcs, _⟩ | ⟨x, l, c, zs, hcs, _, hl, hm, hz, _, hcell, hwz⟩
  · simp [Value.cells] at hcs
    obtain ⟨rfl, rfl, rfl⟩ := hcs
    exact ⟨[], .inl ⟨rfl, rfl, rfl, rfl⟩⟩
  · simp [Value.cells] at hcs
    obtain ⟨rfl, rfl, rfl⟩ := hcs
    exact ⟨zs, .inr ⟨_, rfl, hl, hm, by simpa using hz, hcell, hwz⟩⟩
 obtain ⟨z1, w1⟩ : ∃ zs, dZv .u8 W a1 len1 cap1 zs := by
  obtain ⟨fuel, hf⟩ := h1
  rcases open_ints underlying22 underlying5 (by kernel_rfl) hf with ⟨hcs, _⟩ | ⟨x, l, c, zs, hcs, _, hl, hm, hz, _, hcell, hwz⟩
  · simp [Value.cells] at hcs
    obtain ⟨rfl, rfl, rfl⟩ := hcs
    exact ⟨[], .inl ⟨rfl, rfl, rfl, rfl⟩⟩
  · simp [Value.cells] at hcs
    obtain ⟨rfl, rfl, rfl⟩ := hcs
    exact ⟨zs, .inr ⟨_, rfl, hl, hm, by simpa using hz, hcell, hwz⟩⟩
 obtain ⟨⟨t, fr, hg⟩, ⟨tp, frp, hgp⟩⟩ := cKe (rest := []) hL
 obtain ⟨m, hm⟩ := dVl hsh
 clear hA0
 match gs, hV with
 | [g1, g2], hV =>
  refine (walkA a0 a1 len0 len1 cap0 cap1 W m (fun hl => bK6 w0 hl) (fun hl => bK6 w1 hl) ⟨⟨t, fr, hg⟩, ⟨tp, frp, hgp⟩, hm⟩).mono fun e W' ⟨he, bel⟩ => ?_
  subst he
  exact ⟨_, rfl, _, _, _, [], _, _, hW', trodAll_mk1 (shut_bool underlying4 _), (trodAll_cons_mk (Below.trod cXd (by kernel_rfl) (of_decide_eq_true (by kernel_rfl)) k0 bel lt0) (trodAll_cons_mk (Below.trod cXd (by kernel_rfl) (of_decide_eq_true (by kernel_rfl)) k1 bel lt1) trodAll_mk0)), Below.trodVars cXd bel (by kernel_rfl) hV, bel.frame _, fun h => by cases h⟩
theorem dZ3 (os : Os) : laidMet prog Rows.fnSpacedRow.laid (({ World.holding prog os ⟨#[], #[], []⟩ with heap := Tab.aYz (Tab.aYz (World.holding prog os ⟨#[], #[], []⟩).heap 0 aQi) 1 aXg } : World).forCall (fun _ _ => 0) ⟨#[], #[.slice none 0 0, .slice none 0 0], []⟩).memory :=
 laidMet_of_run' 8 (by kernel_rfl) (by kernel_rfl)
theorem reads (os : Os) {H : Type} (enc : TypeId × Value → H) : ∃ gs places, DataW.whole enc prog (({ World.holding prog os ⟨#[], #[], []⟩ with heap := Tab.aYz (Tab.aYz (World.holding prog os ⟨#[], #[], []⟩).heap 0 aQi) 1 aXg } : World).forCall (fun _ _ => 0) ⟨#[], #[.slice none 0 0, .slice none 0 0], []⟩).memory Tryz.f3.params.toList Rows.fnSpacedSpec.vars false #[Value.slice none 0 0, Value.slice none 0 0].toList 8 = some ([.nil, .nil], gs, places) :=
 ⟨[Rows.laid_loop_example_g00352_impl_nameStarts, Rows.laid_loop_example_g00352_impl_nameParts], (List.range 32).map (MemPlace.cell 0) ++ (List.range 10).map (MemPlace.cell 1), by kernel_rfl⟩
theorem lifted (os : Os) (started : os.Started) (H : Type) (enc : TypeId × Value → H) (F : Stop.Interp) :
 ReturnsInHanded {} Tryz.checked os 3 .any ((OpenSpec.ofChange Rows.fnSpacedSpec).preRow enc prog Tryz.f3 Rows.fnSpacedRow.domain false Rows.fnSpacedRow.laid) (((OpenSpec.ofChange Rows.fnSpacedSpec).at F).post enc prog Tryz.f3 false true false false) := by
 obtain ⟨gs, places, hx⟩ := reads os enc
 refine returnsInHanded_of_row (C := Tryz.checked) (s := OpenSpec.ofChange Rows.fnSpacedSpec) own started (by kernel_rfl) func3
  (witness_row_at (enc := enc) (C := Tryz.checked) false ({ World.holding prog os ⟨#[], #[], []⟩ with heap := Tab.aYz (Tab.aYz (World.holding prog os ⟨#[], #[], []⟩).heap 0 aQi) 1 aXg } : World) #[.slice none 0 0, .slice none 0 0] rfl (by kernel_rfl) (by kernel_rfl) (by kernel_rfl)
   (OpenSpec.preRow_of_cond 8 hx (by kernel_rfl) (fun k hk => by cases hk) (by kernel_rfl) (dZ3 os))) ?_
 intro W base args ds gs before hval hW _ _ _ hL hsh _
 exact contract H enc W base args ds gs before hval hW hL hsh
theorem said : Rows.FnSpacedSaid :=
 OpenClaim.holds_of_cond 3 Tryz.f3 rfl rfl rfl rfl rfl rfl rfl ⟨rfl, rfl, rfl, rfl, rfl⟩ rfl rfl rfl rfl rfl (by kernel_rfl) func3 (by kernel_rfl)
  (of_decide_eq_true (by kernel_rfl)) (by unfold Func.isWrapper; first | (rw [if_pos (by decide +kernel)]; kernel_rfl) | (rw [if_neg (by decide +kernel)]; exact ⟨rfl, rfl⟩))
  (fun os started H enc _ F => by rw [OpenClaim.pre_eq_preRow]; exact lifted os started H enc F)
theorem plain (f : FuncId) (fn : Func) (hf : Tryz.pinned.checked.prog.funcNamed "loop.example/g00352/laws.FnSpaced" = some f) (hfn : Tryz.pinned.checked.prog.funcs[f]? = some fn) :
 false = Tryz.pinned.checked.prog.looks [] ∧ ∀ (j : Nat) t, fn.params[j]? = some t → Tryz.pinned.checked.prog.wantsStandIn t = false := by
 obtain rfl : f = 3 := Option.some.inj ((show prog.funcNamed "loop.example/g00352/laws.FnSpaced" = some 3 by kernel_rfl).symm.trans hf) |>.symm
 obtain rfl : fn = Tryz.f3 := (Option.some.inj (func3.symm.trans hfn)).symm
 refine ⟨by kernel_rfl, fun j t ht => ?_⟩
 rw [params3] at ht
 obtain rfl : t = 22 := by simpa using Array.mem_of_getElem? ht
 exact (show prog.wantsStandIn 22 = false by kernel_rfl)
end Go.Proofs.YtocnfoeaikiecaaGreatDoor.fnSpaced
namespace Go.Proofs.YtocnfoeaikiecaaGreatDoor
theorem fnSpaced_holds : Rows.FnSpacedCardSaid :=
 Claim7.holds_tied_plain_at .later [] _ _ _ _ fnSpaced.said (fun _ h => by cases h) (by kernel_rfl) (fun _ h => by cases h) fnSpaced_row_tie rfl ⟨rfl, rfl⟩ (by kernel_rfl) rfl fnSpaced.plain (by kernel_rfl)
#print axioms fnSpaced_holds
end Go.Proofs.YtocnfoeaikiecaaGreatDoor
