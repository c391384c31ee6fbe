/- The model's Spaced, whole. -/
import Derived.Test.YtlfcmlcpdpkibaaDoorMsH
namespace Go.Proofs.YtlfcmlcpdpkibaaDoor
open Go.RowKit Plain1 Plain2 Strs Strs2 Lists Bytes Plain3 Plain5 Plain6 Plain9 Plain10 Plain11 Plain12 PlainS PlainR PlainN PlainW PlainX Ents
set_option linter.unusedVariables false

theorem nds_base {W : World} {B B' : Nat} {v : Value} {nds : List Nd} {vs : List (Value × Value)} (h : NdsAt W B v nds vs) (hb : B' ≤ B) : NdsAt W B' v nds vs :=
  ⟨h.len, own_baseS h.row hb, fun p hp => ⟨own_baseS (h.rows p hp).1 hb, own_baseS (h.rows p hp).2 hb⟩, h.nodup⟩
set_option maxRecDepth 100000 in
set_option maxHeartbeats 2000000 in
theorem specSpaced_any (w : World) (a : Option Addr) (n c : Nat) (evs : List Ev) (hn : n = evs.length) (h : EvIn w a evs) (hla : ∀ e ∈ evs, e.attrs.length ≤ 1048576) (hnm : ∀ e ∈ evs, e.name.size ≤ 1048576) (hna : ∀ e ∈ evs, ∀ a ∈ e.attrs, a.1.size ≤ 1048576) (hbig : evs.length ≤ 1048576) :
    Calls Tryd.prog 5 #[.slice a n c] w (SpSays w (spacedZ evs)) := by
  subst hn
  obtain ⟨R, hR⟩ : ∃ R, spacedZ evs = R := ⟨_, rfl⟩
  rw [hR]
  obtain ⟨W1, hW1⟩ : ∃ W1, w.alloc (.cells #[.slice none 0 0, .int .i64 0, .int .i64 0] 26) = W1 := ⟨_, rfl⟩
  have hb1 : Below w.heap.size w W1 := by rw [← hW1]; exact (Below.refl _ _).alloc (Nat.le_refl _) _
  have B1 : Hid (SpB w W1) := mkHidT ⟨by rw [← hW1]; exact heap_alloc_new _ _, hb1⟩
  obtain ⟨q0, q1, q2, g0, g1, g2⟩ := three_cells B1.out.res
  by_cases h400 : 400 < evs.length
  · obtain rfl : R = ⟨[], 0, 2⟩ := by rw [← hR]; unfold spacedZ; rw [if_pos h400]
    have h4 : 400 < (evs.length : Int) := by omega
    clear hR h hla hnm hna hb1
    go_enter Tryd.func5, Tryd.ntmps5
    go_wp2
    refine bodyPost_ret (v := .agg #[.slice none 0 0, .int .i64 0, .int .i64 2]) (by simp [results, Tryd.results5, go_sem, q0, q1, q2]) rfl ⟨_, [], rfl, NdsAt.nil _ _, ?_⟩
    exact below_new (below_new (below_new B1.out.bel _ _) _ _) _ _
  · have hrr := l05Right_any W1 a _ c evs rfl (by omega) hla (h.below hb1)
    have HI := mkHidT h
    have HNM := mkHidT hnm
    have HNA := mkHidT hna
    have h4 : ¬ 400 < (evs.length : Int) := by omega
    cases hrow : rowGo evs [] 0 with
    | false =>
      obtain rfl : R = ⟨[], 0, 1⟩ := by rw [← hR]; unfold spacedZ; rw [if_neg h400, if_pos hrow]
      rw [hrow] at hrr
      clear hR h hla hnm hna hb1 hrow h400
      go_enter Tryd.func5, Tryd.ntmps5
      go_wp2_with fail
      refine hrr.mono ?_
      rintro en w2 ⟨rfl, hb2⟩
      have B2 := mkHidT (B1.out.step hb2)
      clear hb2 hrr q0 q1 q2 g0 g1 g2
      obtain ⟨q0, q1, q2, g0, g1, g2⟩ := three_cells B2.out.res
      go_wp2
      refine bodyPost_ret (v := .agg #[.slice none 0 0, .int .i64 0, .int .i64 1]) (by simp [results, Tryd.results5, go_sem, q0, q1, q2]) rfl ⟨_, [], rfl, NdsAt.nil _ _, ?_⟩
      exact below_new (below_new (below_new B2.out.bel _ _) _ _) _ _
    | true =>
      have hR0 : R = spcGo evs 0 [] [] := by rw [← hR]; unfold spacedZ; rw [if_neg h400, if_neg (by rw [hrow]; simp)]
      have HRW := mkHidT hrow
      rw [hrow] at hrr
      have HR0 := mkHidT hR0
      have h401 : evs.length ≤ 400 := by omega
      clear hR hR0 h hla hnm hna hb1 hrow h400
      go_enter Tryd.func5, Tryd.ntmps5
      go_wp2_with fail
      refine hrr.mono ?_
      rintro en w2 ⟨rfl, hb2⟩
      have B2 := mkHidT (B1.out.step hb2)
      clear hb2 hrr q0 q1 q2 g0 g1 g2
      have hsp := l05Spaced_any w2 a c evs (HI.out.below B2.out.bel) HRW.out h401 HNM.out HNA.out
      rw [← HR0.out] at hsp
      go_wp2_with fail
      refine hsp.mono ?_
      rintro en w3 ⟨v, vs, rfl, hN, hb3⟩
      have B3 := mkHidT (B2.out.step hb3)
      have N3 := mkHidT hN
      obtain ⟨xo, xc, rfl, _⟩ := row_sl hN.row
      have hsz := B2.out.bel.size
      have HSZ := mkHidT hsz
      clear hb3 hsp hN hsz
      obtain ⟨q0, q1, q2, g0, g1, g2⟩ := three_cells B3.out.res
      go_wp2
      refine bodyPost_ret (v := .agg #[.slice xo R.nodes.length xc, .int .i64 R.at1, .int .i64 R.code]) (by simp [results, Tryd.results5, go_sem, q0, q1, q2]) rfl ⟨_, vs, rfl, ?_, ?_⟩
      · refine (nds_base N3.out HSZ.out).keep (fun j cs t hc ht => ?_)
        have hne := type_ne hc B3.out.res (by rcases ht with rfl | rfl | rfl <;> decide)
        simp only [heap_setCell_ne _ hne]
      · exact below_new (below_new (below_new B3.out.bel _ _) _ _) _ _
end Go.Proofs.YtlfcmlcpdpkibaaDoor
