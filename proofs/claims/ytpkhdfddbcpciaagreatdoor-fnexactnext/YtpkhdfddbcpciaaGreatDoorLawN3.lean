/- The law FnExactNext, walked. -/
import Derived.Test.YtpkhdfddbcpciaaGreatDoorLawN2
namespace Go.Proofs.YtpkhdfddbcpciaaGreatDoor.fnExactNext
open Go.RowKit Plain1 Strs Strs2 Lists Plain3 Plain5 Plain6 Plain9 Plain10 Plain11 Plain12 Plain16 Plain17 Ents

def oCells (O : Out) (ao : Option Addr) (ac : Nat) : Obj := .cells #[.int .i64 O.tk.kind, .string O.tk.name, .string O.tk.text, .slice ao O.tk.attrs.length ac, .int .i64 O.at1, .int .i64 O.code] 26
theorem hkeepN {W W' : World} {k : Nat} {o : Obj} {r : Option Nat} (h : W.heap[k]? = some o) (hg : W.grownBy W' r) (hr : some k ≠ r) : W'.heap[k]? = some o := by
  rw [hg.block k (Array.getElem?_eq_some_iff.1 h).1 hr]; exact h
theorem rkeep {W W' : World} {B n : Nat} {v : Value} {cs : List Value} (h : W.ownsRow B 85 2 v n cs) (hg : W.grownBy W' none) : W'.ownsRow B 85 2 v n cs := by
  by_cases hv : v.ownBlock = none
  · exact h.kept hg (.inl hv)
  · exact h.kept hg (.inr hv)

set_option maxRecDepth 100000 in
set_option maxHeartbeats 8000000 in
theorem walk (s : ByteArray) (at0 : Int) (closed : Bool) (w : World) (m : Int) (he : Env w m) (het : EtCell w) :
    Calls Tryz.prog 3 #[.string s, .int .i64 at0, .bool closed] w fun e w' => e = .returned (.bool true) ∧ Below w.heap.size w w' := by
  have HE := mkHidT he
  have HT := mkHidT het
  clear he het
  by_cases hbig : 1048576 < s.size
  · have hbig' : (s.size : Int) > 1048576 := by omega
    go_enter Tryz.func3, Tryz.ntmps3
    go_wp2
    go_ret
    exact ⟨rfl, Below.refl _ _⟩
  have hbig' : ¬ (s.size : Int) > 1048576 := by omega
  have hsp := specNext_any s at0 closed w (by omega)
  have him := fun W (h : Env W m) (h' : EtCell W) => implNext_any s at0 closed W m h h'
  have hlen := nextZ_len s at0 closed
  obtain ⟨O, hO⟩ : ∃ O, nextZ s at0 closed = O := ⟨_, rfl⟩
  rw [hO] at hsp hlen
  simp only [hO] at him
  have HSP := mkHidT hsp
  have HIM := mkHidT him
  have HL := mkHidT hlen
  clear hsp him hlen hO hbig
  go_enter Tryz.func3, Tryz.ntmps3
  go_wp2_with fail
  refine HSP.out.mono ?_
  rintro e w1 ⟨v1, rfl, hr1, hb1⟩
  obtain ⟨ao1, ac1, rfl, _⟩ := row_ents hr1
  obtain ⟨w2, hw2⟩ : ∃ w2, w1.alloc (oCells O ao1 ac1) = w2 := ⟨_, rfl⟩
  have HW2 : Hid (w1.alloc (.cells #[.int .i64 O.tk.kind, .string O.tk.name, .string O.tk.text, .slice ao1 O.tk.attrs.length ac1, .int .i64 O.at1, .int .i64 O.code] 26) = w2) := mkHidT hw2
  have hg2 : w1.grownBy w2 none := by rw [← hw2]; exact gnA3 _ _
  have R1 := mkHidT (rkeep hr1 hg2)
  have P1 := mkHidT (show w2.heap[w1.heap.size]? = some (oCells O ao1 ac1) by rw [← hw2]; exact Below.heap_new _ _)
  have B2 := mkHidT (show Below w.heap.size w w2 by rw [← hw2]; exact hb1.alloc hb1.size _)
  have S2 := mkHidT (show w2.heap.size = w1.heap.size + 1 by rw [← hw2]; simp)
  have L1 := mkHidT hb1.size
  have X1 := mkHidT (show ∀ k, (Value.slice ao1 O.tk.attrs.length ac1).ownBlock = some k → k < w1.heap.size from fun k hk => (hr1.lt k hk).2)
  clear hr1 hb1 hw2 hg2 HSP
  have hi := HIM.out w2 (HE.out.below B2.out) (HT.out.below B2.out)
  have HI := mkHidT hi
  clear hi
  go_wp2_with fail
  rw [HW2.out]
  refine HI.out.mono ?_
  rintro e w3 ⟨v2, rfl, hr2, hb3⟩
  obtain ⟨ao2, ac2, rfl, _⟩ := row_ents hr2
  obtain ⟨w4, hw4⟩ : ∃ w4, w3.alloc (oCells O ao2 ac2) = w4 := ⟨_, rfl⟩
  have HW4 : Hid (w3.alloc (.cells #[.int .i64 O.tk.kind, .string O.tk.name, .string O.tk.text, .slice ao2 O.tk.attrs.length ac2, .int .i64 O.at1, .int .i64 O.code] 26) = w4) := mkHidT hw4
  have hg4 : w3.grownBy w4 none := by rw [← hw4]; exact gnA3 _ _
  have hg24 : w2.grownBy w4 none := im_gtrans (below_grown hb3) hg4
  have R1b := mkHidT (rkeep R1.out hg24)
  have P1b := mkHidT (hkeepN P1.out hg24 (by simp))
  have R2 := mkHidT (rkeep hr2 hg4)
  have P2 := mkHidT (show w4.heap[w3.heap.size]? = some (oCells O ao2 ac2) by rw [← hw4]; exact Below.heap_new _ _)
  have B4 := mkHidT (B2.out.grown hg24 (by have := S2.out; have := L1.out; omega) (fun k hk => by cases hk))
  have S4 := mkHidT (show w4.heap.size = w3.heap.size + 1 by rw [← hw4]; simp)
  have L3 := mkHidT hb3.size
  have X2 := mkHidT (show ∀ k, (Value.slice ao2 O.tk.attrs.length ac2).ownBlock = some k → w2.heap.size ≤ k ∧ k < w3.heap.size from fun k hk => hr2.lt k hk)
  clear hr2 hb3 hw4 hg4 hg24 R1 P1 HI B2
  obtain ⟨ao, ac, e1, hE1⟩ := row_ents R1b.out
  obtain ⟨_, _⟩ : ao = ao1 ∧ ac = ac1 := by cases e1; exact ⟨rfl, rfl⟩
  subst ao; subst ac
  obtain ⟨ao, ac, e1, hE2⟩ := row_ents R2.out
  obtain ⟨_, _⟩ : ao = ao2 ∧ ac = ac2 := by cases e1; exact ⟨rfl, rfl⟩
  subst ao; subst ac
  have HQ := mkHidT (eqOut_same w4 O _ _ (by have := HL.out; omega) ⟨ao2, ac2, rfl, hE2⟩ ⟨ao1, ac1, rfl, hE1⟩)
  clear hE1 hE2
  obtain ⟨⟨c0, c1, c2, c3, c4, c5⟩, _, _, _, _, _, _⟩ := outcells P1b.out
  obtain ⟨⟨d0, d1, d2, d3, d4, d5⟩, _, _, _, _, _, _⟩ := outcells P2.out
  have hw4 := HW4.out
  go_wp2_with fail
  refine HQ.out.mono ?_
  rintro e w5 ⟨rfl, hg5⟩
  have R1c := mkHidT (rkeep R1b.out hg5)
  have P1c := mkHidT (hkeepN P1b.out hg5 (by simp))
  have R2c := mkHidT (rkeep R2.out hg5)
  have P2c := mkHidT (hkeepN P2.out hg5 (by simp))
  have B5 := mkHidT (B4.out.grown hg5 (by have := S2.out; have := L1.out; have := S4.out; have := L3.out; omega) (fun k hk => by cases hk))
  have L5 := mkHidT (show w3.heap.size < w5.heap.size by have := hg5.size; have := S4.out; omega)
  clear c0 c1 c2 c3 c4 c5 d0 d1 d2 d3 d4 d5 hg5 HQ R1b P1b R2 P2 B4 hw4
  have HM := mkHidT (markOut_any w2.heap.size O.tk.kind O.at1 O.code O.tk.name O.tk.text ao2 O.tk.attrs.length ac2 _ _ w5 R2c.out (by have := HL.out; omega))
  obtain ⟨⟨d0, d1, d2, d3, d4, d5⟩, _, _, _, _, _, _⟩ := outcells P2c.out
  go_wp2_with fail
  refine HM.out.mono ?_
  rintro e w6 ⟨rfl, hr6, hg6⟩
  have R1d := mkHidT (R1c.out.kept hg6 (by
    cases hk : (Value.slice ao1 O.tk.attrs.length ac1).ownBlock with
    | none => exact .inl rfl
    | some k =>
      refine .inr fun e => ?_
      have a := X1.out k hk
      have b := X2.out k e.symm
      have := S2.out; omega))
  have P1d := mkHidT (hkeepN P1c.out hg6 (fun e => by
    have b := X2.out _ e.symm
    have := S2.out; omega))
  have P2d := mkHidT (hkeepN P2c.out hg6 (fun e => by
    have b := X2.out _ e.symm
    omega))
  have R2d := mkHidT hr6
  have B6 := mkHidT (B5.out.grown hg6 (by have := L5.out; have := S2.out; have := L1.out; have := L3.out; omega) (fun k hk => by have b := X2.out k hk; have := S2.out; have := L1.out; omega))
  have L6 := mkHidT (show w3.heap.size < w6.heap.size by have := hg6.size; have := L5.out; omega)
  clear d0 d1 d2 d3 d4 d5 hr6 hg6 HM R1c P1c R2c P2c B5 L5
  have hE2 : EntsAt w6 ao2 (mks O.tk.attrs.length 1) := by
    have R := R2d.out
    have hl := mks_len O.tk.attrs.length 1
    obtain ⟨ao, ac, e1, hE⟩ := row_ents (l := mks O.tk.attrs.length 1) (v := .slice ao2 O.tk.attrs.length ac2) (W := w6) (B := w2.heap.size) (t := 85) (by rw [hl]; exact R)
    rw [hl] at e1
    cases e1
    exact hE
  have HE2 := mkHidT hE2
  have HH := mkHidT (heldOut_any O.tk.kind O.at1 O.code O.tk.name O.tk.text ao2 O.tk.attrs.length ac2 w6 (by have := HL.out; omega) hE2)
  clear hE2
  obtain ⟨⟨d0, d1, d2, d3, d4, d5⟩, _, _, _, _, _, _⟩ := outcells P2d.out
  go_wp2_with fail
  refine HH.out.mono ?_
  rintro e w7 ⟨rfl, hg7⟩
  have R1e := mkHidT (rkeep R1d.out hg7)
  have P1e := mkHidT (hkeepN P1d.out hg7 (by simp))
  have P2e := mkHidT (hkeepN P2d.out hg7 (by simp))
  have HE3 := mkHidT (HE2.out.grown hg7)
  have B7 := mkHidT (B6.out.grown hg7 (by have := L6.out; have := S2.out; have := L1.out; have := L3.out; omega) (fun k hk => by cases hk))
  have L7 := mkHidT (show w3.heap.size < w7.heap.size by have := hg7.size; have := L6.out; omega)
  clear d0 d1 d2 d3 d4 d5 hg7 HH R1d P1d R2d P2d B6 L6 HE2
  have hneg : ¬ (1 + (O.tk.attrs.length : Int) * 2) < 0 := by omega
  have HI := mkHidT (HIM.out w7 (HE.out.below B7.out) (HT.out.below B7.out))
  go_wp2_with fail
  refine HI.out.mono ?_
  rintro e w8 ⟨v3, rfl, hr3, hb8⟩
  obtain ⟨ao3, ac3, rfl, _⟩ := row_ents hr3
  obtain ⟨w9, hw9⟩ : ∃ w9, w8.alloc (oCells O ao3 ac3) = w9 := ⟨_, rfl⟩
  have hw9' : w8.alloc (.cells #[.int .i64 O.tk.kind, .string O.tk.name, .string O.tk.text, .slice ao3 O.tk.attrs.length ac3, .int .i64 O.at1, .int .i64 O.code] 26) = w9 := hw9
  have hg9 : w8.grownBy w9 none := by rw [← hw9]; exact gnA3 _ _
  have hg79 : w7.grownBy w9 none := im_gtrans (below_grown hb8) hg9
  have R3 := rkeep hr3 hg9
  have P3 := mkHidT (show w9.heap[w8.heap.size]? = some (oCells O ao3 ac3) by rw [← hw9]; exact Below.heap_new _ _)
  have R1f := rkeep R1e.out hg79
  have P1f := mkHidT (hkeepN P1e.out hg79 (by simp))
  have P2f := mkHidT (hkeepN P2e.out hg79 (by simp))
  have HE4 := mkHidT (HE3.out.grown hg79)
  have B9 := mkHidT (B7.out.grown hg79 (by have := L7.out; have := S2.out; have := L1.out; have := L3.out; omega) (fun k hk => by cases hk))
  have L9 := mkHidT (show w3.heap.size < w9.heap.size by have := hg79.size; have := L7.out; omega)
  obtain ⟨ao, ac, e1, hE1⟩ := row_ents R1f
  obtain ⟨_, _⟩ : ao = ao1 ∧ ac = ac1 := by cases e1; exact ⟨rfl, rfl⟩
  subst ao; subst ac
  obtain ⟨ao, ac, e1, hE5⟩ := row_ents R3
  obtain ⟨_, _⟩ : ao = ao3 ∧ ac = ac3 := by cases e1; exact ⟨rfl, rfl⟩
  subst ao; subst ac
  have HQ := mkHidT (eqOut_same w9 O _ _ (by have := HL.out; omega) ⟨ao3, ac3, rfl, hE5⟩ ⟨ao1, ac1, rfl, hE1⟩)
  clear hE1 hE5 R1f R3 hr3 hb8 hg9 hg79 R1e P1e P2e HE3 B7 L7 HI hw9
  obtain ⟨⟨c0, c1, c2, c3, c4, c5⟩, _, _, _, _, _, _⟩ := outcells P1f.out
  obtain ⟨⟨d0, d1, d2, d3, d4, d5⟩, _, _, _, _, _, _⟩ := outcells P3.out
  go_wp2_with fail
  refine HQ.out.mono ?_
  rintro e w10 ⟨rfl, hg10⟩
  have P2g := mkHidT (hkeepN P2f.out hg10 (by simp))
  have B10 := mkHidT (B9.out.grown hg10 (by have := L9.out; have := S2.out; have := L1.out; have := L3.out; omega) (fun k hk => by cases hk))
  have L10 := mkHidT (show w3.heap.size < w10.heap.size by have := hg10.size; have := L9.out; omega)
  have HH := mkHidT (heldOut_any O.tk.kind O.at1 O.code O.tk.name O.tk.text ao2 O.tk.attrs.length ac2 w10 (by have := HL.out; omega) (HE4.out.grown hg10))
  clear c0 c1 c2 c3 c4 c5 d0 d1 d2 d3 d4 d5 hg10 HQ P1f P2f P3 HE4 B9 L9
  obtain ⟨⟨d0, d1, d2, d3, d4, d5⟩, _, _, _, _, _, _⟩ := outcells P2g.out
  go_wp2_with fail
  refine HH.out.mono ?_
  rintro e w11 ⟨rfl, hg11⟩
  have B11 := mkHidT (B10.out.grown hg11 (by have := L10.out; have := S2.out; have := L1.out; have := L3.out; omega) (fun k hk => by cases hk))
  clear d0 d1 d2 d3 d4 d5 hg11 HH P2g B10 L10
  go_wp2
  go_ret
  exact ⟨rfl, B11.out⟩
end Go.Proofs.YtpkhdfddbcpciaaGreatDoor.fnExactNext
