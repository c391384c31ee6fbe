import Derived.Test.YtocnfoeaikiecaaGreatDoorMsH
set_option maxRecDepth 100000
set_option maxHeartbeats 2000000
set_option linter.unusedVariables false
namespace Go.Proofs.YtocnfoeaikiecaaGreatDoor
open Go.RowKit Lists PlainR PlainN Ents Tryz
theorem dXs {W : World} {B B' : Nat} {v : Value} {nds : List Nd} {vs : List (Value × Value)} (h : aJc W B v nds vs) (hb : B' ≤ B) : aJc W B' v nds vs :=
 ⟨h.len, aXw h.row hb, fun p hp => ⟨aXw (h.rows p hp).1 hb, aXw (h.rows p hp).2 hb⟩, h.nodup⟩
theorem bVg (w : World) (a : Option Addr) (n c : Nat) (evs : List Ev) (hn : n = evs.length) (h : EvIn w a evs) (hla : ∀ e ∈ evs, e.attrs.length ≤ 1048576) (hnm : ∀ e ∈ evs, e.name.size ≤ 1048576) (hna : ∀ e ∈ evs, ∀ a ∈ e.attrs, a.1.size ≤ 1048576) (hbig : evs.length ≤ 1048576) :
 Calls prog 6 #[.slice a n c] w (cJs w (aZr evs)) := by
 subst hn
 obtain ⟨R, hR⟩ := nmE (aZr evs)
 rw [hR]
 obtain ⟨W1, hW1⟩ := nmE (w.alloc (.cells #[.slice none 0 0, .int .i64 0, .int .i64 0] 27))
 have hb1 : Below w.heap.size w W1 := by rw [← hW1]; exact bAl
 have B1 : Hid (SpB w W1) := aQ0 ⟨by rw [← hW1]; exact heap_alloc_new _ _, hb1⟩
 obtain ⟨q0, q1, q2, g0, g1, g2⟩ := aQz B1.out.res
 by_cases h400 : 400 < evs.length
 · obtain rfl : R = ⟨[], 0, 2⟩ := by rw [← hR]; unfold aZr; rw [if_pos h400]
   have h4 : 400 < (evs.length : Int) := by omega
   clear hR h hla hnm hna hb1
   go_enter func6, ntmps6
   go_wp2
   refine bodyPost_ret (v := .agg #[.slice none 0 0, .int .i64 0, .int .i64 2]) (by simp [results, results6, go_sem, q0, q1, q2]) rfl ⟨_, [], rfl, aJc.nil _ _, ?_⟩
   exact aQt (aQt (aQt B1.out.bel _ _) _ _) _ _
 · have hrr := bYj W1 a _ c evs rfl (by omega) hla (h.below hb1)
   have HI := aQ0 h
   have HNM := aQ0 hnm
   have HNA := aQ0 hna
   have h4 : ¬ 400 < (evs.length : Int) := by omega
   cases hrow : aXr evs [] 0 with
   | false =>
    obtain rfl : R = ⟨[], 0, 1⟩ := by rw [← hR]; unfold aZr; rw [if_neg h400, if_pos hrow]
    rw [hrow] at hrr
    clear hR h hla hnm hna hb1 hrow h400
    go_enter func6, ntmps6
    go_wp2_with fail
    refine hrr.mono ?_
    rintro en w2 ⟨rfl, hb2⟩
    have B2 := aQ0 (B1.out.step hb2)
    clear hb2 hrr q0 q1 q2 g0 g1 g2
    obtain ⟨q0, q1, q2, g0, g1, g2⟩ := aQz B2.out.res
    go_wp2
    refine bodyPost_ret (v := .agg #[.slice none 0 0, .int .i64 0, .int .i64 1]) (by simp [results, results6, go_sem, q0, q1, q2]) rfl ⟨_, [], rfl, aJc.nil _ _, ?_⟩
    exact aQt (aQt (aQt B2.out.bel _ _) _ _) _ _
   | true =>
    have hR0 : R = aW6 evs 0 [] [] := by rw [← hR]; unfold aZr; rw [if_neg h400, if_neg (by rw [hrow]; simp)]
    have HRW := aQ0 hrow
    rw [hrow] at hrr
    have HR0 := aQ0 hR0
    have h401 : evs.length ≤ 400 := by omega
    clear hR hR0 h hla hnm hna hb1 hrow h400
    go_enter func6, ntmps6
    go_wp2_with fail
    refine hrr.mono ?_
    rintro en w2 ⟨rfl, hb2⟩
    have B2 := aQ0 (B1.out.step hb2)
    clear hb2 hrr q0 q1 q2 g0 g1 g2
    have hsp := bKw w2 a c evs (HI.out.below B2.out.bel) HRW.out h401 HNM.out HNA.out
    rw [← HR0.out] at hsp
    go_wp2_with fail
    refine hsp.mono ?_
    rintro en w3 ⟨v, vs, rfl, hN, hb3⟩
    have B3 := aQ0 (B2.out.step hb3)
    have N3 := aQ0 hN
    obtain ⟨xo, xc, rfl, _⟩ := aQr hN.row
    have hsz := B2.out.bel.size
    have HSZ := aQ0 hsz
    clear hb3 hsp hN hsz
    obtain ⟨q0, q1, q2, g0, g1, g2⟩ := aQz B3.out.res
    go_wp2
    refine bodyPost_ret (v := .agg #[.slice xo R.nodes.length xc, .int .i64 R.at1, .int .i64 R.code]) (by simp [results, results6, go_sem, q0, q1, q2]) rfl ⟨_, vs, rfl, ?_, ?_⟩
    · refine (dXs N3.out HSZ.out).keep (fun j cs t hc ht => ?_)
      have hne := aQ5 hc B3.out.res (by rcases ht with rfl | rfl | rfl <;> decide)
      simp only [aQq _ hne]
    · exact aQt (aQt (aQt B3.out.bel _ _) _ _) _ _
end Go.Proofs.YtocnfoeaikiecaaGreatDoor
