import Derived.Test.YtocnfoeaikiecaaGreatDoorQqS
set_option maxRecDepth 100000
set_option maxHeartbeats 4000000
set_option linter.unusedVariables false
namespace Go.Proofs.YtocnfoeaikiecaaGreatDoor
open Go.RowKit Lists Ents Plain5 PlainR PlainM PlainL Go.Lib Tryz
section
variable {w W : World}
theorem cWb (hx : W.heap[w.heap.size]? = some zEvs) (hb : Below w.heap.size w W) {v : Value} {evs : List Ev} (hq : QEv W w.heap.size v evs) (ho : EvOk evs) (u0 u1 u2 : Value) (a c : Int) : RdW w (.returned (.agg #[v, .int .i64 a, .int .i64 c])) (((W.setCell ⟨w.heap.size, 0, none⟩ u0).setCell ⟨w.heap.size, 1, none⟩ u1).setCell ⟨w.heap.size, 2, none⟩ u2) := by
 have hk : ∀ k, k ≠ w.heap.size → (((W.setCell ⟨w.heap.size, 0, none⟩ u0).setCell ⟨w.heap.size, 1, none⟩ u1).setCell ⟨w.heap.size, 2, none⟩ u2).heap[k]? = W.heap[k]? := fun k hk => ((Below.heap_setCell _ ⟨w.heap.size, 2, none⟩ u2 k hk).trans (Below.heap_setCell _ ⟨w.heap.size, 1, none⟩ u1 k hk)).trans (Below.heap_setCell _ ⟨w.heap.size, 0, none⟩ u0 k hk)
 exact ⟨v, evs, a, c, rfl, hq.keep (fun k cs t hc ht => hk k (aQ5 hc hx (by rcases ht with rfl | rfl <;> decide))), ho, ⟨hb.os, hb.tape, hb.output, by have := hb.size; simpa using this, fun i hi => by rw [hk i (by omega)]; exact hb.block i hi⟩⟩
theorem QEv.nil (W : World) (B : Nat) : QEv W B (.slice none 0 0) [] := ⟨[], rfl, World.ownsRow_nil _ _ _ _, (fun x hx => by cases hx)⟩
end
theorem cWa (t : ByteArray) (closed : Bool) (w : World) (ht : t.size ≤ 1048576) : Calls prog 12 #[.string t, .bool closed] w (RdW w) := by
 obtain ⟨W0, hW0⟩ := nmE (w.alloc (.cells #[.slice none 0 0, .int .i64 0, .int .i64 0] 46))
 have hb0 : Below w.heap.size w W0 := by rw [← hW0]; exact bAl
 have hx0 : W0.heap[w.heap.size]? = some zEvs := by rw [← hW0]; exact heap_alloc_new _ _
 have hcl := aXk hx0
 have r0 := hcl.1
 have r1 := hcl.2.1
 have r2 := hcl.2.2.1
 have f0 := hcl.2.2.2.1
 have f1 := hcl.2.2.2.2.1
 have f2 := hcl.2.2.2.2.2
 have B0 := aQ0 hb0
 have X0 := aQ0 hx0
 clear hcl hb0 hx0
 by_cases h4 : 4000 < t.size
 · have h4i : (t.size : Int) > 4000 := by omega
   go_enter func12, ntmps12
   go_wp2
   refine bodyPost_ret (v := .agg #[.slice none 0 0, .int .i64 0, .int .i64 2]) (by simp [results, results12, go_sem, r0, r1, r2]) rfl ?_
   exact cWb X0.out B0.out (QEv.nil _ _) EvOk.nil _ _ _ 0 2
 · have h4i : ¬ (t.size : Int) > 4000 := by omega
   have hru := bYm t W0 ht
   obtain ⟨bad, hbad⟩ : ∃ b, (aX4 t).2 = b := ⟨_, rfl⟩
   rw [hbad] at hru
   have HBAD := aQ0 hbad
   clear hbad
   go_enter func12, ntmps12
   go_wp2_with fail
   refine hru.mono ?_
   rintro e w1 ⟨v1, rfl, hr1, hb1⟩
   have hx1 := (hb1.block _ (gLt X0.out)).trans X0.out
   have B1 := aQ0 (B0.out.trans (hb1.mono B0.out.size))
   have X1 := aQ0 hx1
   have hcl := aXk hx1
   replace r0 := hcl.1
   replace r1 := hcl.2.1
   replace r2 := hcl.2.2.1
   replace f0 := hcl.2.2.2.1
   replace f1 := hcl.2.2.2.2.1
   replace f2 := hcl.2.2.2.2.2
   obtain ⟨va, vc, rfl⟩ := aZi hr1
   clear hru hr1 hb1 hx1 hcl hW0
   by_cases hb : bad ≥ 0
   · go_wp2
     refine bodyPost_ret (v := .agg #[.slice none 0 0, .int .i64 0, .int .i64 1]) (by simp [results, results12, go_sem, r0, r1, r2]) rfl ?_
     exact cWb X1.out B1.out (QEv.nil _ _) EvOk.nil _ _ _ 0 1
   · have hen := bWq t w1
     obtain ⟨hv, hs⟩ := dK9 (t := t) (by rw [HBAD.out]; omega)
     obtain ⟨u, hu⟩ : ∃ u : ByteArray, (⟨(bX3 t).toArray⟩ : ByteArray) = u := ⟨_, rfl⟩
     rw [hu] at hen hv hs
     have HV := aQ0 hv
     clear hu hv
     go_wp2_with fail
     refine hen.mono ?_
     rintro e w2 ⟨rfl, hb2⟩
     have hrd := cXe u closed w2 hs HV.out
     have hx2 := (hb2.block _ (gLt X1.out)).trans X1.out
     have X2 := aQ0 hx2
     have B2 := aQ0 (B1.out.trans (hb2.mono B1.out.size))
     clear hen hb2 hx2 r0 r1 r2 f0 f1 f2
     go_wp2_with fail
     refine hrd.mono ?_
     rintro e w3 ⟨v3, evs, a3, c3, rfl, hq3, ho3, hb3⟩
     have hx3 := (hb3.block _ (gLt X2.out)).trans X2.out
     have hcl := aXk hx3
     have r0 := hcl.1
     have r1 := hcl.2.1
     have r2 := hcl.2.2.1
     have f0 := hcl.2.2.2.1
     have f1 := hcl.2.2.2.2.1
     have f2 := hcl.2.2.2.2.2
     have Q3 := aQ0 (hq3.base B2.out.size)
     have X3 := aQ0 hx3
     have B3 := aQ0 (B2.out.trans (hb3.mono B2.out.size))
     obtain ⟨sa, sc, rfl, _⟩ := hq3.evIn
     have HO := aQ0 ho3
     clear hrd hq3 ho3 hb3 hx3 hcl
     go_wp2
     refine bodyPost_ret (v := .agg #[.slice sa evs.length sc, .int .i64 a3, .int .i64 c3]) (by simp [results, results12, go_sem, r0, r1, r2]) rfl ?_
     exact cWb X3.out B3.out Q3.out HO.out _ _ _ a3 c3
end Go.Proofs.YtocnfoeaikiecaaGreatDoor
