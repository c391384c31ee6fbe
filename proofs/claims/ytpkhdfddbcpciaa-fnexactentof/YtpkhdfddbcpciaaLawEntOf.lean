/- Proved: for every head and every name the law FnExactEntOf of the landed code returns true, that is, impl.EntOf answers as its model and leaves its argument alone; the arguments read behind the call as before. No condition. -/
import Derived.Test.YtpkhdfddbcpciaaRows
import Derived.Test.YtpkhdfddbcpciaaHeadOpen
import Derived.Test.YtpkhdfddbcpciaaEntSpec
import Derived.Test.YtpkhdfddbcpciaaEntImpl
import Derived.WalkKit
import Derived.ProofKit
import Derived.OpenShut
import Derived.ShutString
import Derived.ChangeOld
import Derived.Below
namespace Go.Proofs.Ytpkhdfddbcpciaa.fnExactEntOf
open Go.ChangeShapes Go.WideShapes Go.ChangeAt Go.RowKit Lists Ents
open Go.ChangeMaps (open_string shut_string)
set_option linter.unusedVariables false

theorem own : ownKnob Try.prog.godebug = none := by kernel_rfl
theorem laidOut : laidOutB Try.prog = true := by kernel_rfl
theorem hkeep {W W' : World} {k : Nat} {o : Obj} (h : W.heap[k]? = some o) (hg : W.grownBy W' none) : W'.heap[k]? = some o := by
  rw [hg.block k (Array.getElem?_eq_some_iff.1 h).1 (by simp)]; exact h
theorem cells2 {W : World} {k : Nat} {x y : Value} {t : TypeId} (h : W.heap[k]? = some (.cells #[x, y] t)) : W.cell? ⟨k, 0, none⟩ = some x ∧ W.cell? ⟨k, 1, none⟩ = some y := by simp [World.cell?, h]

set_option maxHeartbeats 4000000 in
theorem walk (v : Value) (nm : ByteArray) (l : List (ByteArray × ByteArray)) (m : List At5) (w : World) (hd : DtdAt w v l m) (hs : SizesL l m maxLen) :
    Calls Try.prog 6 #[v, .string nm] w fun e w' => e = .returned (.bool true) ∧ Below w.heap.size w w' := by
  have hd0 := hd
  obtain ⟨a, c, a', c', rfl, hA, hA'⟩ := hd
  clear hA hA'
  have HD := mkHidEa hd0
  have K0 := mkHidEa (heap_alloc_new w (.cells #[.slice a l.length c, .slice a' m.length c'] 37))
  have G0 := mkHidEa (gnA w (.cells #[.slice a l.length c, .slice a' m.length c'] 37))
  clear hd0
  by_cases hbig : 1048576 < nm.size
  · go_enter Try.func6, Try.ntmps6
    go_wp2
    go_ret
    exact ⟨rfl, grown_below G0.out⟩
  have hsz := szDtd_any _ _ l m hs (HD.out.grown G0.out)
  clear hs
  go_enter Try.func6, Try.ntmps6
  go_wp2_with fail
  refine hsz.mono ?_
  rintro e w1 ⟨⟨z, rfl, hz⟩, hg⟩
  have K1 := mkHidEa (hkeep K0.out hg)
  have G1 := mkHidEa (gnT G0.out hg)
  clear hsz hg K0 G0
  by_cases hneg : z < 0
  · clear hz
    go_wp2
    go_ret
    exact ⟨rfl, grown_below G1.out⟩
  have HS := mkHidEa (hz (by omega))
  clear hz
  obtain ⟨c0, c1⟩ := cells2 K1.out
  have ht := toDtd_any w1 _ l m HS.out (HD.out.grown G1.out)
  go_wp2_with fail
  refine ht.mono ?_
  rintro e w2 ⟨⟨u, rfl, b, cb, b', cb', rfl, _, _, hE, hF⟩, hg⟩
  have K2 := mkHidEa (hkeep K1.out hg)
  have G2 := mkHidEa (gnT G1.out hg)
  clear ht hg K1 G1 c0 c1
  have hsp := specEntOf_any w2 _ (some ⟨b', 0, none⟩) _ cb m.length cb' l nm rfl HS.out.1.1 hE
  clear hE hF
  obtain ⟨R, hR⟩ : ∃ R, entR l nm = R := ⟨_, rfl⟩
  rw [hR] at hsp
  have HR := mkHidEa hR
  clear hR
  go_wp2_with fail
  refine hsp.mono ?_
  rintro e w3 ⟨rfl, hg⟩
  have K3 := mkHidEa (hkeep K2.out hg)
  have G3 := mkHidEa (gnT G2.out hg)
  clear hsp hg K2 G2
  have N4 := mkHidEa (heap_alloc_new w3 (.cells #[.string R.1, .string R.2] 40))
  have K4 := mkHidEa (hkeep K3.out (gnA w3 (.cells #[.string R.1, .string R.2] 40)))
  have G4 := mkHidEa (gnT G3.out (gnA w3 (.cells #[.string R.1, .string R.2] 40)))
  obtain ⟨c0, c1⟩ := cells2 K4.out
  have ht := toDtd_any _ _ l m HS.out (HD.out.grown G4.out)
  go_wp2_with fail
  refine ht.mono ?_
  rintro e w4 ⟨⟨u, rfl, b2, cb2, b2', cb2', rfl, _, _, hE, hF⟩, hg⟩
  have K5 := mkHidEa (hkeep K4.out hg)
  have N5 := mkHidEa (hkeep N4.out hg)
  have G5 := mkHidEa (gnT G4.out hg)
  generalize w3.heap.size = p1 at N5 ⊢
  clear ht hg K3 G3 K4 G4 N4 c0 c1
  have X6 := mkHidEa (heap_alloc_new w4 (.cells #[.slice (some ⟨b2, 0, none⟩) l.length cb2, .slice (some ⟨b2', 0, none⟩) m.length cb2'] 45))
  have A6 := gnA w4 (.cells #[.slice (some ⟨b2, 0, none⟩) l.length cb2, .slice (some ⟨b2', 0, none⟩) m.length cb2'] 45)
  have K6 := mkHidEa (hkeep K5.out A6)
  have N6 := mkHidEa (hkeep N5.out A6)
  have G6 := mkHidEa (gnT G5.out A6)
  have D6 := mkHidEa (show DtdAt _ (.agg #[.slice (some ⟨b2, 0, none⟩) l.length cb2, .slice (some ⟨b2', 0, none⟩) m.length cb2']) l m from ⟨_, _, _, _, rfl, hE.grown A6, hF.grown A6⟩)
  have him := implEntOf_any _ _ (some ⟨b2', 0, none⟩) _ cb2 m.length cb2' l nm rfl HS.out.1.1 HS.out.1.2 (hE.grown A6)
  rw [HR.out] at him
  clear hE hF A6 K5 N5 G5
  go_wp2_with fail
  refine him.mono ?_
  rintro e w5 ⟨rfl, hg⟩
  have K7 := mkHidEa (hkeep K6.out hg)
  have N7 := mkHidEa (hkeep N6.out hg)
  have X7 := mkHidEa (hkeep X6.out hg)
  have G7 := mkHidEa (gnT G6.out hg)
  have D7 := mkHidEa (D6.out.grown hg)
  generalize w4.heap.size = p2 at X7 ⊢
  clear him hg K6 N6 X6 G6 D6
  have A8 := gnA w5 (.cells #[.string R.1, .string R.2] 40)
  have Y8 := mkHidEa (heap_alloc_new w5 (.cells #[.string R.1, .string R.2] 40))
  have K8 := mkHidEa (hkeep K7.out A8)
  have N8 := mkHidEa (hkeep N7.out A8)
  have X8 := mkHidEa (hkeep X7.out A8)
  have G8 := mkHidEa (gnT G7.out A8)
  have D8 := mkHidEa (D7.out.grown A8)
  obtain ⟨n0, n1⟩ := cells2 N8.out
  have heq := eqEnt_any R.1 R.2 (w5.alloc (.cells #[.string R.1, .string R.2] 40))
  clear A8
  go_wp2_with fail
  refine heq.mono ?_
  rintro e w6 ⟨rfl, hg⟩
  have K9 := mkHidEa (hkeep K8.out hg)
  have X9 := mkHidEa (hkeep X8.out hg)
  have G9 := mkHidEa (gnT G8.out hg)
  have D9 := mkHidEa (D8.out.grown hg)
  clear heq hg K7 N7 X7 G7 D7 Y8 K8 N8 X8 G8 D8 n0 n1
  obtain ⟨c0, c1⟩ := cells2 K9.out
  obtain ⟨x0, x1⟩ := cells2 X9.out
  go_wp2_with fail
  have ht := fun wx hwx => toDtd_any wx (.agg #[.slice a l.length c, .slice a' m.length c']) l m HS.out hwx
  go_region_held3 (fun W => W.cell? ⟨w.heap.size, 0, none⟩ = some (.slice a l.length c) ∧ W.cell? ⟨w.heap.size, 1, none⟩ = some (.slice a' m.length c') ∧ W.cell? ⟨p2, 0, none⟩ = some (.slice (some ⟨b2, 0, none⟩) l.length cb2) ∧ W.cell? ⟨p2, 1, none⟩ = some (.slice (some ⟨b2', 0, none⟩) m.length cb2')) (go_keep)
    (first
      | (go_at_call 21; refine (ht _ (HD.out.grown (gnT G9.out (gnD w6 1)))).mono ?_; rintro e w7 ⟨⟨u, rfl, b3, cb3, b3', cb3', rfl, _, _, hE, hF⟩, hg⟩; have hg7 := gnT (gnD w6 1) hg; obtain ⟨c0, c1⟩ := cells2 (hkeep K9.out hg7); obtain ⟨x0, x1⟩ := cells2 (hkeep X9.out hg7))
      | (go_at_call 24; refine (eqDtd_same _ _ _ l m HS.out (D9.out.grown hg7) ⟨_, _, _, _, rfl, hE, hF⟩).mono ?_; rintro e w8 ⟨rfl, hg8⟩; have hg9 := gnT hg7 hg8; obtain ⟨c0, c1⟩ := cells2 (hkeep K9.out hg9); obtain ⟨x0, x1⟩ := cells2 (hkeep X9.out hg9)))
  have GZ := mkHidEa (gnT G9.out hg9)
  clear hE hF hg hg7 hg8 hg9 K9 X9 G9 D9
  go_wp2
  go_ret
  exact ⟨rfl, grown_below GZ.out⟩

/-! ### THE ROW's STEP: WRITTEN OUT: LEAVE IT -/
set_option maxRecDepth 100000 in
theorem lifted (os : Os) (started : os.Started) (H : Type) (enc : TypeId × Value → H) :
    ReturnsInHanded {} Try.checked os 6 .any (Rows.fnExactEntOfSpec.pre6 enc Try.prog Try.f6 Rows.fnExactEntOfRow.domain false) (Rows.fnExactEntOfSpec.post enc Try.prog Try.f6 false true false false) := by
  refine returnsInHanded_of_change (C := Try.checked) own started (by kernel_rfl) Try.func6
    (ChangeSpec.witness6 (enc := enc) (C := Try.checked) false ⟨#[], #[.agg #[.slice none 0 0, .slice none 0 0], .string ByteArray.empty], []⟩ 8 (by kernel_rfl) (by kernel_rfl) (by kernel_rfl) (by kernel_rfl)) ?_
  intro W base args ds gs before hval0 hW hcnd _
  have hval : ∀ (j : Nat) t v, Try.f6.params[j]? = some t → args[j]? = some v → Value.okWide Try.prog W .any base t v := hval0
  have hW' := hW
  obtain ⟨p, q, hA0, hV, rfl, hfz, hnd⟩ := hW
  have hA : DataW.TrodAll enc Try.prog W 0 (fun _ => true) true Try.f6.params.toList args.toList ds p := hA0
  rw [Try.params6] at hA hval
  obtain ⟨v0, vs0, d0, ds0, p0, q0, hargs, rfl, rfl, h0, r0⟩ := trodAll_cons hA
  obtain ⟨v1, vs1, d1, ds1, p1, q1, rfl, rfl, rfl, h1, r1⟩ := trodAll_cons r0
  obtain ⟨rfl, rfl, rfl⟩ := trodAll_nil r1
  obtain rfl : args = #[v0, v1] := by cases args; simp_all
  obtain ⟨rfl, rfl⟩ := trodVars_none hV
  obtain ⟨a1, rfl, rfl, rfl, w1⟩ := open_string Try.underlying9 (hval 1 9 v1 rfl rfl) h1
  have k0 := h0
  have lt0 : ∀ x ∈ p0, x.block < W.heap.size := by obtain ⟨n, hn⟩ := k0; exact DataW.trod_lt n _ _ _ hn
  obtain ⟨l, m, hd, hs⟩ := open_dtd (hval 0 37 v0 rfl rfl) h0
  clear hA0 hval0
  refine (walk v0 a1 l m W hd hs).mono fun e W' ⟨he, bel⟩ => ?_
  subst he
  exact ⟨_, rfl, _, _, _, [], _, [], hW', trodAll_mk1 (shut_bool Try.underlying4 _), (trodAll_cons_mk (Below.trod laidOut (by kernel_rfl) (of_decide_eq_true (by kernel_rfl)) k0 bel lt0) (trodAll_cons_mk (shut_string Try.underlying9 w1) trodAll_mk0)), rfl, bel.frame _, fun h => by cases h⟩

theorem over : Rows.fnExactEntOfRow.holds Try.pinned (OpenSpec.ofChange Rows.fnExactEntOfSpec) :=
  OpenClaim.holds_of_wide 6 Try.f6 rfl rfl rfl rfl rfl rfl rfl ⟨rfl, rfl, rfl, rfl, rfl⟩ rfl rfl rfl rfl rfl (by kernel_rfl) Try.func6 (by kernel_rfl)
    (of_decide_eq_true (by kernel_rfl)) (by unfold Func.isWrapper; first | (rw [if_pos (by decide +kernel)]; kernel_rfl) | (rw [if_neg (by decide +kernel)]; exact ⟨rfl, rfl⟩))
    (fun os started H enc _ => lifted os started H enc)

/-- ████ THE STATEMENT ████ -/
theorem proved : Rows.FnExactEntOfSaid := over
end Go.Proofs.Ytpkhdfddbcpciaa.fnExactEntOf
namespace Go.Proofs.Ytpkhdfddbcpciaa
theorem fnExactEntOf_holds : Rows.FnExactEntOfSaid := fnExactEntOf.proved
#print axioms fnExactEntOf_holds
end Go.Proofs.Ytpkhdfddbcpciaa
