/- Proved: for every text the law FnExactRunes of the landed code returns true, that is, impl.Runes answers as its model, field by field, at both calls, and its answer owns its memory; the argument reads behind the call as before. No condition. -/
import Derived.Test.YtpkhdfddbcpciaaRows
import Derived.Test.YtpkhdfddbcpciaaRunesModel2
import Derived.Test.YtpkhdfddbcpciaaRunesLoop
import Derived.Test.YtpkhdfddbcpciaaMarks
import Derived.WalkKit
import Derived.ProofKit
import Derived.OpenShut
import Derived.ShutString
namespace Go.Proofs.Ytpkhdfddbcpciaa.fnExactRunes
open Go.ChangeShapes Go.WideShapes Go.ChangeAt Go.RowKit Lists Plain1 Plain5
open Go.ChangeMaps (open_string shut_string)
set_option linter.unusedVariables false

theorem own : ownKnob Try.prog.godebug = none := by kernel_rfl

theorem owns_below {B : Nat} {e : TypeId} {k : Nat} {v : Value} {n : Nat} {xs : List Value} {w w' : World} (h : w.ownsRow B e k v n xs) (hb : Below w.heap.size w w') : w'.ownsRow B e k v n xs :=
  h.kept (grown_below (r := none) hb) (by cases hv : v.ownBlock <;> simp)
theorem owns_grown {B : Nat} {e : TypeId} {k : Nat} {v : Value} {n : Nat} {xs : List Value} {w w' : World} {r : Option Nat} (h : w.ownsRow B e k v n xs) (hg : w.grownBy w' r) (hr : ∀ g, r = some g → v.ownBlock ≠ some g) : w'.ownsRow B e k v n xs :=
  h.kept hg (by
    cases r with
    | none => cases hv : v.ownBlock <;> simp
    | some g => right; exact hr g rfl)
theorem mkHid {p : Prop} (h : p) : Hid p := h
theorem below_on {w a b : World} (h : Below w.heap.size w a) (k : Below a.heap.size a b) : Below w.heap.size w b := h.trans (k.mono h.size)
theorem below_box {w a : World} (h : Below w.heap.size w a) (o : Obj) : Below w.heap.size w (a.alloc o) := h.alloc h.size o
/-- The three cells of a box that lies in a block. -/
def Box (w : World) (b : Nat) (a c d : Value) (t : TypeId) : Prop := w.heap[b]? = some (.cells #[a, c, d] t)
theorem Box.below {w w' : World} {b : Nat} {a c d : Value} {t : TypeId} (h : Box w b a c d t) (hb : Below w.heap.size w w') : Box w' b a c d t :=
  (hb.block b (Array.getElem?_eq_some_iff.1 h).1).trans h
theorem Box.grown {w w' : World} {b : Nat} {a c d : Value} {t : TypeId} {r : Option Nat} (h : Box w b a c d t) (hg : w.grownBy w' r) (hr : r ≠ some b) : Box w' b a c d t :=
  (hg.block b (Array.getElem?_eq_some_iff.1 h).1 (fun e => hr e.symm)).trans h
theorem Box.new (w : World) (a c d : Value) (t : TypeId) : Box (w.alloc (.cells #[a, c, d] t)) w.heap.size a c d t := heap_alloc_new w _
theorem Box.alloc {w : World} {b : Nat} {a c d : Value} {t : TypeId} (h : Box w b a c d t) (o : Obj) : Box (w.alloc o) b a c d t := h.below ((Below.refl _ _).alloc (Nat.le_refl _) o)

set_option maxHeartbeats 2000000 in
theorem walk (a0 : ByteArray) (w : World) :
    Calls Try.prog 4 #[.string a0] w fun e w' => e = .returned (.bool true) ∧ Below w.heap.size w w' := by
  by_cases hbig : 1048576 < a0.size
  · go_enter Try.func4, Try.ntmps4
    go_wp2
    go_ret
    exact ⟨rfl, Below.refl _ _⟩
  have hs : a0.size ≤ 1048576 := by omega
  have hll : (rList a0).length ≤ 1048576 := Nat.le_trans (rList_len a0) (by omega)
  obtain ⟨L, hL⟩ : ∃ L, rList a0 = L := ⟨_, rfl⟩
  obtain ⟨at3, hat⟩ : ∃ L, rAt a0 = L := ⟨_, rfl⟩
  obtain ⟨co, hco⟩ : ∃ L, rCode a0 = L := ⟨_, rfl⟩
  have hspec := specRunes_any a0 w hs
  have himpl := implRunes_any a0
  rw [hL] at hll
  simp only [hL, hat, hco] at hspec himpl
  clear hL hat hco
  go_enter Try.func4, Try.ntmps4
  go_wp2_with (go_at_call 10; refine hspec.mono ?_; rintro e w1 ⟨v1, rfl, ho1, hb1⟩; clear hspec; obtain ⟨a1, c1, rfl, -⟩ := ints_of_owns ho1; replace ho1 := mkHid ho1; replace hb1 := mkHid hb1)
  -- the program's answer
  go_wp2_with (go_at_call 11; refine (himpl _).mono ?_; rintro e w2 ⟨v2, rfl, ho2, hb2⟩; obtain ⟨a2, c2, rfl, -⟩ := ints_of_owns ho2; have X2 := mkHid ((Box.new w1 (.slice a1 L.length c1) (.int .i64 at3) (.int .i64 co) 25).below hb2); obtain ⟨x0, x1, x2, -⟩ := block3 X2.out; have hz2 : w1.heap.size < w2.heap.size := (Array.getElem?_eq_some_iff.1 X2.out).1; have HO2 := mkHid ho2; have HB2 := mkHid hb2; clear ho2 hb2)
  have O12 := mkHid (owns_below (ho1.out.alloc _) HB2.out)
  -- both answers alike
  go_wp2_with (go_at_call 12; refine (eqOut_same a2 a1 c2 c1 L at3 co _ hll (ints_at_owns (HO2.out.alloc _)) (ints_at_owns (O12.out.alloc _))).mono ?_; rintro e w3 ⟨rfl, hb3⟩; have X3 := mkHid ((X2.out.alloc _).below hb3); have Y3 := mkHid ((Box.new w2 (.slice a2 L.length c2) (.int .i64 at3) (.int .i64 co) 25).below hb3); obtain ⟨y0, y1, y2, -⟩ := block3 Y3.out; have HB3 := mkHid hb3; clear hb3 x0 x1 x2)
  have O13 := mkHid (owns_below (O12.out.alloc _) HB3.out)
  have O23 := mkHid (owns_below (HO2.out.alloc _) HB3.out)
  -- the program's answer is marked
  go_wp2_with (go_at_call 13; refine (markOut_any _ (.slice a2 L.length c2) L.length _ at3 co w3 O23.out hll).mono ?_; rintro e w4 ⟨rfl, ho4, hg4⟩; have Y4 := mkHid (Y3.out.grown hg4 (fun h => by have := (HO2.out.lt _ h).2; omega)); obtain ⟨z0, z1, z2, -⟩ := block3 Y4.out; have O24 := mkHid ho4; have G4 := mkHid hg4; clear ho4 hg4 y0 y1 y2)
  have X4 := mkHid (X3.out.grown G4.out (fun h => by have := (HO2.out.lt _ h).1; simp at this; omega))
  have O14 := mkHid (owns_grown O13.out G4.out (fun g hg h => by have := (HO2.out.lt _ hg).1; have := (ho1.out.lt _ h).2; simp at *; omega))
  have B4 := mkHid ((below_on (below_box (below_on (below_box hb1.out _) HB2.out) _) HB3.out).grown G4.out (below_on (below_box (below_on (below_box hb1.out _) HB2.out) _) HB3.out).size (fun k hk => by have := (HO2.out.lt _ hk).1; have := hb1.out.size; simp at *; omega))
  clear X3 O13 O23 Y3 HB3 O12 HB2 ho1 hb1 X2
  -- it holds its marks
  go_wp2_with (go_at_call 14; refine (heldOut_any a2 L.length c2 at3 co w4 (ints_at_owns O24.out) hll).mono ?_; rintro e w5 ⟨rfl, hb5⟩; clear z0 z1 z2; replace hb5 := mkHid hb5)
  have X5 := mkHid (X4.out.below hb5.out)
  have Y5 := mkHid (Y4.out.below hb5.out)
  have O15 := mkHid (owns_below O14.out hb5.out)
  have O25 := mkHid (owns_below O24.out hb5.out)
  have B5 := mkHid (below_on B4.out hb5.out)
  clear X4 Y4 O14 O24 B4 hb5 G4
  -- the program once more
  go_wp2_with (go_at_call 11; refine (himpl _).mono ?_; rintro e w6 ⟨v6, rfl, ho6, hb6⟩; obtain ⟨a3, c3, rfl, -⟩ := ints_of_owns ho6; have X6 := mkHid (X5.out.below hb6); obtain ⟨x0, x1, x2, -⟩ := block3 X6.out; have hz6 : w1.heap.size < w6.heap.size := (Array.getElem?_eq_some_iff.1 X6.out).1; have HO6 := mkHid ho6; have HB6 := mkHid hb6; clear ho6 hb6)
  have O16 := mkHid (owns_below O15.out HB6.out)
  have O26 := mkHid (owns_below O25.out HB6.out)
  have Y6 := mkHid (Y5.out.below HB6.out)
  have B6 := mkHid (below_on B5.out HB6.out)
  clear X5 Y5 O15 O25 B5 HB6
  go_wp2_with (go_at_call 12; refine (eqOut_same a3 a1 c3 c1 L at3 co _ hll (ints_at_owns (HO6.out.alloc _)) (ints_at_owns (O16.out.alloc _))).mono ?_; rintro e w7 ⟨rfl, hb7⟩; have Y7 := mkHid ((Y6.out.alloc _).below hb7); obtain ⟨y0, y1, y2, -⟩ := block3 Y7.out; have HB7 := mkHid hb7; clear hb7 x0 x1 x2)
  have O27 := mkHid (owns_below (O26.out.alloc _) HB7.out)
  have B7 := mkHid (below_on (below_box B6.out _) HB7.out)
  clear O26 B6 HB7 O16 HO6 Y6
  go_wp2_with (go_at_call 14; refine (heldOut_any a2 L.length c2 at3 co w7 (ints_at_owns O27.out) hll).mono ?_; rintro e w8 ⟨rfl, hb8⟩; clear y0 y1 y2)
  go_ret
  exact ⟨rfl, below_on B7.out hb8⟩

/-! ### THE ROW's STEP: WRITTEN OUT: LEAVE IT -/
set_option maxRecDepth 100000 in
theorem lifted (os : Os) (started : os.Started) (H : Type) (enc : TypeId × Value → H) :
    ReturnsInHanded {} Try.checked os 4 .any (Rows.fnExactRunesSpec.pre6 enc Try.prog Try.f4 Rows.fnExactRunesRow.domain false) (Rows.fnExactRunesSpec.post enc Try.prog Try.f4 false true false false) := by
  refine returnsInHanded_of_change (C := Try.checked) own started (by kernel_rfl) Try.func4
    (ChangeSpec.witness6 (enc := enc) (C := Try.checked) false ⟨#[], #[.string ByteArray.empty], []⟩ 8 (by kernel_rfl) (by kernel_rfl) (by kernel_rfl) (by kernel_rfl)) ?_
  intro W base args ds gs before hval0 hW hcnd _
  have hval : ∀ (j : Nat) t v, Try.f4.params[j]? = some t → args[j]? = some v → Value.okWide Try.prog W .any base t v := hval0
  have hW' := hW
  obtain ⟨p, q, hA0, hV, rfl, hfz, hnd⟩ := hW
  have hA : DataW.TrodAll enc Try.prog W 0 (fun _ => true) true Try.f4.params.toList args.toList ds p := hA0
  rw [Try.params4] at hA hval
  obtain ⟨v0, vs0, d0, ds0, p0, q0, hargs, rfl, rfl, h0, r0⟩ := trodAll_cons hA
  obtain ⟨rfl, rfl, rfl⟩ := trodAll_nil r0
  obtain rfl : args = #[v0] := by cases args; simp_all
  obtain ⟨rfl, rfl⟩ := trodVars_none hV
  obtain ⟨a0, rfl, rfl, rfl, w0⟩ := open_string Try.underlying9 (hval 0 9 v0 rfl rfl) h0
  clear hA0 hval0
  refine (walk a0 W).mono fun e W' ⟨he, bel⟩ => ?_
  subst he
  exact ⟨_, rfl, _, _, _, [], [], [], hW', trodAll_mk1 (shut_bool Try.underlying4 _), (trodAll_cons_mk (shut_string Try.underlying9 w0) trodAll_mk0), rfl, bel.frame _, fun h => by cases h⟩

theorem over : Rows.fnExactRunesRow.holds Try.pinned (OpenSpec.ofChange Rows.fnExactRunesSpec) :=
  OpenClaim.holds_of_wide 4 Try.f4 rfl rfl rfl rfl rfl rfl rfl ⟨rfl, rfl, rfl, rfl, rfl⟩ rfl rfl rfl rfl rfl (by kernel_rfl) Try.func4 (by kernel_rfl)
    (of_decide_eq_true (by kernel_rfl)) (by unfold Func.isWrapper; first | (rw [if_pos (by decide +kernel)]; kernel_rfl) | (rw [if_neg (by decide +kernel)]; exact ⟨rfl, rfl⟩))
    (fun os started H enc _ => lifted os started H enc)

/-- ████ THE STATEMENT ████ -/
theorem proved : Rows.FnExactRunesSaid :=
  over
end Go.Proofs.Ytpkhdfddbcpciaa.fnExactRunes
namespace Go.Proofs.Ytpkhdfddbcpciaa
theorem fnExactRunes_holds : Rows.FnExactRunesSaid := fnExactRunes.proved
#print axioms fnExactRunes_holds
end Go.Proofs.Ytpkhdfddbcpciaa
