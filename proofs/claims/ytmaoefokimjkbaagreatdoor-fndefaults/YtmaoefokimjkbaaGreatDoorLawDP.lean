/- Proved: whatever bytes are drawn from, the law FnDefaults of the landed code returns true, that is, of the eight documents whose head tells values of attributes impl.Read tells an element that has them behind those that its mark has, unless it has them, with the blanks of one of words put right and those of one of other text as they are; the argument and the tables impl.nameStarts and impl.nameParts read behind the call as before. No condition but that the listed variables hold what their initialisers lay, which the card ties to the program's text. -/
import Derived.Test.YtmaoefokimjkbaaGreatDoorLwD
import Derived.Test.YtmaoefokimjkbaaGreatDoorFrameH
import Derived.Test.YtmaoefokimjkbaaGreatDoorTbl
import Derived.ChangeOld
namespace Go.Proofs.YtmaoefokimjkbaaGreatDoor.fnDefaults
open Go.ChangeShapes Go.WideShapes Go.ChangeAt Go.RowKit Plain1 Plain2

theorem fed_of_row {w : World} {a : Option Addr} {len cap : Nat} {zs : List Int} (h : IsRow .u8 w a len cap zs) (hl : len ≤ 1048576) : ∃ zs, FedL w a len zs := by
  rcases h with ⟨rfl, rfl, rfl, rfl⟩ | ⟨x, rfl, h1, h2, h3, hc, hwf⟩
  · exact ⟨[], rfl, hl, Lists.Ints.nil _ _ _, fun i hi => by simp at hi⟩
  · have hrow : IsRow .u8 w (some x) len cap zs := .inr ⟨x, rfl, h1, h2, h3, hc, hwf⟩
    refine ⟨zs.take len, by simp; omega, hl, ?_, fun i hi => ?_⟩
    · by_cases h0 : 0 < cap
      · obtain ⟨b, off, rfl, hc'⟩ := ints_at hc (by omega)
        refine ⟨b, off, fun _ => rfl, fun i hi => ?_⟩
        simp at hi
        have := hc' i (by omega)
        rw [this]
        have hz : i < zs.length := by omega
        simp [List.getD, hi, hz]
      · have : zs = [] := List.eq_nil_of_length_eq_zero (by omega)
        subst this
        simp
        exact Lists.Ints.nil _ _ _
    · simp at hi
      have hz : i < zs.length := by omega
      have hm : zs[i] ∈ zs := List.getElem_mem hz
      have := bounds_u8 (hwf _ hm)
      simp [List.getD, hi]
      omega

set_option maxRecDepth 100000 in
theorem contract (H : Type) (enc : TypeId × Value → H) (W : World) (base : Nat) (args : Array Value) (ds gs : List (DataW H)) (before : List MemPlace)
    (hval : ∀ (j : Nat) t v, Tryz.f4.params[j]? = some t → args[j]? = some v → Value.okWide Tryz.prog W .any base t v)
    (hW : DataW.Whole enc Tryz.prog Tryz.f4.params.toList Rows.fnDefaultsSpec.vars false W args.toList ds gs before) (hL : laidMetH Tryz.prog Rows.fnDefaultsRow.laid W) (hsh : W.ShapedOpen Tryz.prog) :
    Calls Tryz.prog 4 args W fun e W' => ∃ v, e = .returned v ∧ Rows.fnDefaultsSpec.post enc Tryz.prog Tryz.f4 false true false false W args v W' := by
  have hW' := hW
  obtain ⟨p, q, hA0, hV, rfl, hfz, hnd⟩ := hW
  have hA : DataW.TrodAll enc Tryz.prog W 0 (fun _ => true) true Tryz.f4.params.toList args.toList ds p := hA0
  rw [Tryz.params4] at hA hval
  obtain ⟨v0, vs0, d0, ds0, p0, q0, hargs, rfl, rfl, h0, r0⟩ := trodAll_cons hA
  obtain ⟨rfl, rfl, rfl⟩ := trodAll_nil r0
  obtain rfl : args = #[v0] := Array.ext' hargs
  obtain ⟨a0, len0, cap0, rfl⟩ := okWide_slice Tryz.underlying22 (hval 0 22 v0 rfl rfl)
  have k0 := h0
  have lt0 : ∀ x ∈ p0, x.block < W.heap.size := by obtain ⟨m, hm⟩ := k0; exact DataW.trod_lt m _ _ _ hm
  obtain ⟨z0, w0⟩ : ∃ zs, IsRow .u8 W a0 len0 cap0 zs := by
    obtain ⟨fuel, hf⟩ := h0
    rcases open_ints Tryz.underlying22 Tryz.underlying5 (by kernel_rfl) hf with ⟨hcs, _⟩ | ⟨x, l, c, zs, hcs, _, hl, hm, hz, _, hcell, hwz⟩
    · simp [Value.cells] at hcs
      obtain ⟨rfl, rfl, rfl⟩ := hcs
      exact ⟨[], .inl ⟨rfl, rfl, rfl, rfl⟩⟩
    · simp [Value.cells] at hcs
      obtain ⟨rfl, rfl, rfl⟩ := hcs
      exact ⟨zs, .inr ⟨_, rfl, hl, hm, by simpa using hz, hcell, hwz⟩⟩
  obtain ⟨m, hE, hT⟩ := frameH.envOf hL hsh
  clear hA0
  match gs, hV with
  | [g1, g2], hV =>
    refine (walk a0 len0 cap0 W m (fun hl => fed_of_row w0 hl) hE hT).mono fun e W' ⟨he, bel⟩ => ?_
    subst he
    exact ⟨_, rfl, _, _, _, [], _, _, hW', trodAll_mk1 (shut_bool Tryz.underlying4 _), (trodAll_cons_mk (Below.trod frameH.laidOut (by kernel_rfl) (of_decide_eq_true (by kernel_rfl)) k0 bel lt0) trodAll_mk0), Below.trodVars frameH.laidOut bel (by kernel_rfl) hV, bel.frame _, fun h => by cases h⟩

def args0 : Array Value := #[.slice none 0 0]
theorem laid_met (os : Os) : laidMetH Tryz.prog Rows.fnDefaultsRow.laid (((({ World.holding Tryz.prog os ⟨#[], #[], []⟩ with heap := Tab.putCells (World.holding Tryz.prog os ⟨#[], #[], []⟩).heap 0 frameH.etCells } : World)).layVars Tryz.prog frameH.laidP).forCall (fun _ _ => 0) ⟨#[], args0, []⟩).memory :=
  laidMetH_of_parts (frameH.met os args0) (by kernel_rfl)
theorem reads (os : Os) {H : Type} (enc : TypeId × Value → H) : ∃ gs places, DataW.whole enc Tryz.prog (((({ World.holding Tryz.prog os ⟨#[], #[], []⟩ with heap := Tab.putCells (World.holding Tryz.prog os ⟨#[], #[], []⟩).heap 0 frameH.etCells } : World)).layVars Tryz.prog frameH.laidP).forCall (fun _ _ => 0) ⟨#[], args0, []⟩).memory Tryz.f4.params.toList Rows.fnDefaultsSpec.vars false args0.toList 8 = some ([.nil], gs, places) :=
  ⟨[Rows.laid_loop_example_g00352_impl_nameStarts, Rows.laid_loop_example_g00352_impl_nameParts], (List.range 32).map (MemPlace.cell 7) ++ (List.range 10).map (MemPlace.cell 8), by kernel_rfl⟩
theorem okB (os : Os) : Input.okWideB Tryz.prog (((({ World.holding Tryz.prog os ⟨#[], #[], []⟩ with heap := Tab.putCells (World.holding Tryz.prog os ⟨#[], #[], []⟩).heap 0 frameH.etCells } : World)).layVars Tryz.prog frameH.laidP).forCall (fun _ _ => 0) ⟨#[], args0, []⟩) 4 ⟨#[], args0, []⟩ = true := by kernel_rfl
theorem shp (os : Os) : (((({ World.holding Tryz.prog os ⟨#[], #[], []⟩ with heap := Tab.putCells (World.holding Tryz.prog os ⟨#[], #[], []⟩).heap 0 frameH.etCells } : World)).layVars Tryz.prog frameH.laidP).forCall (fun _ _ => 0) ⟨#[], args0, []⟩).Shaped Tryz.prog := World.shaped_of_ZipB (by kernel_rfl) (by kernel_rfl)

set_option maxRecDepth 100000 in
theorem lifted (os : Os) (started : os.Started) (H : Type) (enc : TypeId × Value → H) (F : Stop.Interp) :
    ReturnsInHanded {} Tryz.checked os 4 .any ((OpenSpec.ofChange Rows.fnDefaultsSpec).preRow enc Tryz.prog Tryz.f4 Rows.fnDefaultsRow.domain false Rows.fnDefaultsRow.laid) (((OpenSpec.ofChange Rows.fnDefaultsSpec).at F).post enc Tryz.prog Tryz.f4 false true false false) := by
  obtain ⟨gs, places, hx⟩ := reads os enc
  refine returnsInHanded_of_row (C := Tryz.checked) (s := OpenSpec.ofChange Rows.fnDefaultsSpec) frameH.own started (by kernel_rfl) Tryz.func4
    ⟨((({ World.holding Tryz.prog os ⟨#[], #[], []⟩ with heap := Tab.putCells (World.holding Tryz.prog os ⟨#[], #[], []⟩).heap 0 frameH.etCells } : World)).layVars Tryz.prog frameH.laidP), fun _ _ => 0, ⟨#[], args0, []⟩, frameH.lw_os os, shp os, (Input.okWide_of_okWideB (base := 0) (okB os)).1, (Input.okWide_of_okWideB (okB os)).2,
      OpenSpec.preRow_of_cond 8 hx (by kernel_rfl) (fun k hk => by cases hk) (by kernel_rfl) (laid_met os), by
        simp only [Assume.holds]
        exact ⟨by simp, by simp, fun _ => Modest.zero, by simp, by simp⟩⟩ ?_
  intro W base args ds gs before hval hW _ _ _ hL hsh _
  exact contract H enc W base args ds gs before hval hW hL hsh

theorem said : Rows.FnDefaultsSaid :=
  OpenClaim.holds_of_cond 4 Tryz.f4 rfl rfl rfl rfl rfl rfl rfl ⟨rfl, rfl, rfl, rfl, rfl⟩ rfl rfl rfl rfl rfl (by kernel_rfl) Tryz.func4 (by kernel_rfl)
    (of_decide_eq_true (by kernel_rfl)) (by unfold Func.isWrapper; first | (rw [if_pos (by decide +kernel)]; kernel_rfl) | (rw [if_neg (by decide +kernel)]; exact ⟨rfl, rfl⟩))
    (fun os started H enc _ F => by rw [OpenClaim.pre_eq_preRow]; exact lifted os started H enc F)

theorem plain (f : FuncId) (fn : Func) (hf : Tryz.pinned.checked.prog.funcNamed "loop.example/g00352/laws.FnDefaults" = some f) (hfn : Tryz.pinned.checked.prog.funcs[f]? = some fn) :
    true = Tryz.pinned.checked.prog.looks [] ∧ ∀ (j : Nat) t, fn.params[j]? = some t → Tryz.pinned.checked.prog.wantsStandIn t = false := by
  obtain rfl : f = 4 := Option.some.inj ((show Tryz.prog.funcNamed "loop.example/g00352/laws.FnDefaults" = some 4 by kernel_rfl).symm.trans hf) |>.symm
  obtain rfl : fn = Tryz.f4 := (Option.some.inj (Tryz.func4.symm.trans hfn)).symm
  refine ⟨by kernel_rfl, fun j t ht => ?_⟩
  rw [Tryz.params4] at ht
  obtain rfl : t = 22 := by simpa using Array.mem_of_getElem? ht
  exact (show Tryz.prog.wantsStandIn 22 = false by kernel_rfl)
end Go.Proofs.YtmaoefokimjkbaaGreatDoor.fnDefaults
namespace Go.Proofs.YtmaoefokimjkbaaGreatDoor
theorem fnDefaults_holds : Rows.FnDefaultsCardSaid :=
  Claim7.holds_tied_plain_at .later [] _ _ _ _ fnDefaults.said (fun _ h => by cases h) (by kernel_rfl) (fun _ h => by cases h) fnDefaults_row_tie rfl ⟨rfl, rfl⟩ (by kernel_rfl) rfl fnDefaults.plain (by kernel_rfl)
#print axioms fnDefaults_holds
end Go.Proofs.YtmaoefokimjkbaaGreatDoor
