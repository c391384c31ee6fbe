/- Proved: for every slice of int64 the law FnExactUtf of the landed code returns true, that is, impl.Utf answers as its model and leaves its argument alone; the argument reads behind the call as before. No condition. -/
import Derived.Test.YtpkhdfddbcpciaaRows
import Derived.Test.YtpkhdfddbcpciaaToInts
import Derived.Test.YtpkhdfddbcpciaaEqInts
import Derived.Test.YtpkhdfddbcpciaaUtfModel
import Derived.Test.YtpkhdfddbcpciaaUtfImpl
import Derived.Test.YtpkhdfddbcpciaaFrames
import Derived.WalkKit
import Derived.ProofKit
import Derived.OpenShut
import Derived.ShutString
import Derived.ChangeOld
import Derived.Below
namespace Go.Proofs.Ytpkhdfddbcpciaa.fnExactUtf
open Go.ChangeShapes Go.WideShapes Go.ChangeAt Go.RowKit Lists Bytes Plain1
open Go.ChangeMaps (open_string shut_string)
set_option linter.unusedVariables false

theorem own : ownKnob Try.prog.godebug = none := by kernel_rfl
theorem laidOut : laidOutB Try.prog = true := by kernel_rfl

theorem walk (a0 : Option Addr) (len0 cap0 : Nat) (z0 : List Int) (w : World) (w0 : IsRow .i64 w a0 len0 cap0 z0) :
    Calls Try.prog 5 #[.slice a0 len0 cap0] w fun e w' => e = .returned (.bool true) ∧ Below w.heap.size w w' := by
  obtain ⟨l, rfl, hA⟩ := ints_of_row w0
  clear w0
  by_cases hbig : 1048576 < l.length
  · go_enter Try.func5, Try.ntmps5
    go_wp2
    go_ret
    exact ⟨rfl, Below.refl _ _⟩
  have hl : l.length ≤ 1048576 := by omega
  go_enter Try.func5, Try.ntmps5
  go_wp2_with (go_at_call 16; refine (toInts_any a0 _ cap0 l w rfl hl hA).mono ?_; rintro e w1 ⟨⟨v1, rfl, ho1⟩, hb1⟩)
  obtain ⟨a1, c1, rfl, hA1⟩ := ints_of_owns ho1
  have hB1 := hA.below hb1 (Nat.le_refl _)
  clear ho1
  go_wp2_with (go_at_call 15; refine (specUtf_any a1 l.length c1 l w1 rfl hl hA1).mono ?_; rintro e w2 ⟨rfl, hb2⟩)
  have hB2 := hB1.below hb2 (Nat.le_refl _)
  have hbb2 := hb1.trans (hb2.mono hb1.size)
  clear hA1 hB1 hb1 hb2
  go_wp2_with (go_at_call 16; refine (toInts_any a0 _ cap0 l w2 rfl hl hB2).mono ?_; rintro e w3 ⟨⟨v3, rfl, ho3⟩, hb3⟩)
  obtain ⟨a3, c3, rfl, hA3⟩ := ints_of_owns ho3
  have hB3 := hB2.below hb3 (Nat.le_refl _)
  have hbb3 := hbb2.trans (hb3.mono hbb2.size)
  clear ho3 hB2 hb3
  go_wp2_with (go_at_call 17; refine (implUtf_any a3 l.length c3 l w3 rfl hl hA3).mono ?_; rintro e w4 ⟨rfl, hb4⟩)
  have hB4 := hB3.below hb4 (Nat.le_refl _)
  have hA4 := hA3.below hb4 (Nat.le_refl _)
  have hbb4 := hbb3.trans (hb4.mono hbb3.size)
  clear hB3 hb4 hA3
  go_wp2_with (go_at_call 16; refine (toInts_any a0 _ cap0 l w4 rfl hl hB4).mono ?_; rintro e w5 ⟨⟨v5, rfl, ho5⟩, hb5⟩)
  obtain ⟨a5, c5, rfl, hA5⟩ := ints_of_owns ho5
  have hA4' := hA4.below hb5 (Nat.le_refl _)
  have hbb5 := hbb4.trans (hb5.mono hbb4.size)
  clear ho5 hb5 hB4 hA4
  go_wp2_with (go_at_call 18; refine (eqInts_same a3 a5 l.length c3 c5 l w5 rfl hl hA4' hA5).mono ?_; rintro e w6 ⟨rfl, hb6⟩)
  go_ret
  exact ⟨rfl, hbb5.trans (hb6.mono hbb5.size)⟩

/-! ### THE ROW's STEP: WRITTEN OUT: LEAVE IT -/
set_option maxRecDepth 100000 in
theorem lifted (os : Os) (started : os.Started) (H : Type) (enc : TypeId × Value → H) :
    ReturnsInHanded {} Try.checked os 5 .any (Rows.fnExactUtfSpec.pre6 enc Try.prog Try.f5 Rows.fnExactUtfRow.domain false) (Rows.fnExactUtfSpec.post enc Try.prog Try.f5 false true false false) := by
  refine returnsInHanded_of_change (C := Try.checked) own started (by kernel_rfl) Try.func5
    (ChangeSpec.witness6 (enc := enc) (C := Try.checked) false ⟨#[], #[.slice none 0 0], []⟩ 8 (by kernel_rfl) (by kernel_rfl) (by kernel_rfl) (by kernel_rfl)) ?_
  intro W base args ds gs before hval0 hW hcnd _
  have hval : ∀ (j : Nat) t v, Try.f5.params[j]? = some t → args[j]? = some v → Value.okWide Try.prog W .any base t v := hval0
  have hW' := hW
  obtain ⟨p, q, hA0, hV, rfl, hfz, hnd⟩ := hW
  have hA : DataW.TrodAll enc Try.prog W 0 (fun _ => true) true Try.f5.params.toList args.toList ds p := hA0
  rw [Try.params5] at hA hval
  obtain ⟨v0, vs0, d0, ds0, p0, q0, hargs, rfl, rfl, h0, r0⟩ := trodAll_cons hA
  obtain ⟨rfl, rfl, rfl⟩ := trodAll_nil r0
  obtain rfl : args = #[v0] := by cases args; simp_all
  obtain ⟨rfl, rfl⟩ := trodVars_none hV
  obtain ⟨a0, len0, cap0, rfl⟩ := okWide_slice Try.underlying23 (hval 0 23 v0 rfl rfl)
  have k0 := h0
  have lt0 : ∀ x ∈ p0, x.block < W.heap.size := by obtain ⟨m, hm⟩ := k0; exact DataW.trod_lt m _ _ _ hm
  obtain ⟨z0, w0⟩ : ∃ zs, IsRow .i64 W a0 len0 cap0 zs := by
    obtain ⟨fuel, hf⟩ := h0
    rcases open_ints Try.underlying23 Try.underlying2 (by kernel_rfl) hf with ⟨hcs, _⟩ | ⟨x, l, c, zs, hcs, _, hl, hm, hz, _, hcell, hwz⟩
    · simp [Value.cells] at hcs
      obtain ⟨rfl, rfl, rfl⟩ := hcs
      exact ⟨[], .inl ⟨rfl, rfl, rfl, rfl⟩⟩
    · simp [Value.cells] at hcs
      obtain ⟨rfl, rfl, rfl⟩ := hcs
      exact ⟨zs, .inr ⟨_, rfl, hl, hm, by simpa using hz, hcell, hwz⟩⟩
  clear hA0 hval0
  refine (walk a0 len0 cap0 z0 W w0).mono fun e W' ⟨he, bel⟩ => ?_
  subst he
  exact ⟨_, rfl, _, _, _, [], _, [], hW', trodAll_mk1 (shut_bool Try.underlying4 _), (trodAll_cons_mk (Below.trod laidOut (by kernel_rfl) (of_decide_eq_true (by kernel_rfl)) k0 bel lt0) trodAll_mk0), rfl, bel.frame _, fun h => by cases h⟩

theorem over : Rows.fnExactUtfRow.holds Try.pinned (OpenSpec.ofChange Rows.fnExactUtfSpec) :=
  OpenClaim.holds_of_wide 5 Try.f5 rfl rfl rfl rfl rfl rfl rfl ⟨rfl, rfl, rfl, rfl, rfl⟩ rfl rfl rfl rfl rfl (by kernel_rfl) Try.func5 (by kernel_rfl)
    (of_decide_eq_true (by kernel_rfl)) (by unfold Func.isWrapper; first | (rw [if_pos (by decide +kernel)]; kernel_rfl) | (rw [if_neg (by decide +kernel)]; exact ⟨rfl, rfl⟩))
    (fun os started H enc _ => lifted os started H enc)

/-- ████ THE STATEMENT ████ -/
theorem proved : Rows.FnExactUtfSaid := over
end Go.Proofs.Ytpkhdfddbcpciaa.fnExactUtf
namespace Go.Proofs.Ytpkhdfddbcpciaa
theorem fnExactUtf_holds : Rows.FnExactUtfSaid := fnExactUtf.proved
#print axioms fnExactUtf_holds
end Go.Proofs.Ytpkhdfddbcpciaa
