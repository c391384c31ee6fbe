/- The law FnNext, walked. -/
import Derived.Test.YteebdfcegndaoaaGreatDoorLawM1
import Derived.Test.YteebdfcegndaoaaGreatDoorImJ
import Derived.Test.YteebdfcegndaoaaGreatDoorMdG
import Derived.Test.YteebdfcegndaoaaGreatDoorPlB
import Derived.Test.YteebdfcegndaoaaGreatDoorPlC
import Derived.Test.YteebdfcegndaoaaGreatDoorDrB
namespace Go.Proofs.YteebdfcegndaoaaGreatDoor.fnNext
open Go.RowKit Plain1 Strs Strs2 Lists Plain3 Plain5 Plain6 Plain9 Plain10 Plain11 Plain12 Plain16 Plain17 Plain18 Plain21 Plain22 Ents

theorem hkeep4 {W W' : World} {k : Nat} {o : Obj} (h : W.heap[k]? = some o) (hg : W.grownBy W' none) : W'.heap[k]? = some o := by
  rw [hg.block k (Array.getElem?_eq_some_iff.1 h).1 (by simp)]; exact h
theorem rkeep4 {W W' : World} {B n : Nat} {v : Value} {cs : List Value} (h : W.ownsRow B 109 2 v n cs) (hg : W.grownBy W' none) : W'.ownsRow B 109 2 v n cs := by
  by_cases hv : v.ownBlock = none
  · exact h.kept hg (.inl hv)
  · exact h.kept hg (.inr hv)
def oc (O : Out) (ao : Option Addr) (ac : Nat) : Obj := .cells #[.int .i64 O.tk.kind, .string O.tk.name, .string O.tk.text, .slice ao O.tk.attrs.length ac, .int .i64 O.at1, .int .i64 O.code] 29
/-- An answer that is kept: its box and its row. -/
structure Kept (W : World) (p : Nat) (O : Out) (ao : Option Addr) (ac : Nat) : Prop where
  box : W.heap[p]? = some (oc O ao ac)
  row : EntsAt W ao O.tk.attrs
theorem Kept.grown {W W' : World} {p : Nat} {O : Out} {ao : Option Addr} {ac : Nat} (h : Kept W p O ao ac) (hg : W.grownBy W' none) : Kept W' p O ao ac := ⟨hkeep4 h.box hg, h.row.grown hg⟩
theorem Kept.at {W : World} {p : Nat} {O : Out} {ao : Option Addr} {ac : Nat} (h : Kept W p O ao ac) : OutAt4 W O (.agg #[.int .i64 O.tk.kind, .string O.tk.name, .string O.tk.text, .slice ao O.tk.attrs.length ac, .int .i64 O.at1, .int .i64 O.code]) := ⟨ao, ac, rfl, h.row⟩
theorem fed_on {W W' : World} {a : Option Addr} {n : Nat} (h : Fed W a n) (hb : Below W.heap.size W W') : Fed W' a n := by
  obtain ⟨zs, h1, h2, h3, h4⟩ := h
  exact ⟨zs, h1, h2, h3.below hb (Nat.le_refl _), h4⟩
theorem five (r : Nat) (h : r < 5) : ∃ b : ByteArray, (#[.string ⟨#[60, 98, 62]⟩, .string ⟨#[120]⟩, .string ⟨#[32]⟩, .string ⟨#[60, 33, 45, 45, 32, 45, 45, 62]⟩, .string ⟨#[39, 62]⟩] : Array Value)[r]? = some (.string b) ∧ b.size ≤ 8 ∧ Tame b.data.toList := by
  have : r = 0 ∨ r = 1 ∨ r = 2 ∨ r = 3 ∨ r = 4 := by omega
  rcases this with rfl | rfl | rfl | rfl | rfl
  all_goals exact ⟨_, rfl, by decide, by unfold Tame; decide⟩
theorem ext_app (s b : ByteArray) : Ext s (s ++ b) b.data.toList := by
  unfold Ext
  rw [ByteArray.data_append, Array.toList_append]
theorem fldO (k : Int) (nm tx : ByteArray) (ao : Option Addr) (an ac : Nat) (a b : Int) (w : World) : (Instr.field 29 (.agg #[.int .i64 k, .string nm, .string tx, .slice ao an ac, .int .i64 a, .int .i64 b]) 2).run Tryz.prog w = .ok (.int .i64 b) w := by kernel_rfl

set_option maxRecDepth 100000 in
set_option maxHeartbeats 16000000 in
theorem walk (a0 a1 : Option Addr) (n0 n1 cap0 cap1 : Nat) (w : World) (m : Int) (h0 : n0 ≤ 1048576 → Fed w a0 n0) (h1 : n1 ≤ 1048576 → Fed w a1 n1) (he : Env w m) (het : EtCell w) :
    Calls Tryz.prog 3 #[.slice a0 n0 cap0, .slice a1 n1 cap1] w fun e w' => e = .returned (.bool true) ∧ Below w.heap.size w w' := by
  have HE := mkHidT he
  have HT := mkHidT het
  clear he het
  by_cases b0 : 1048576 < n0
  · have b0' : (n0 : Int) > 1048576 := by omega
    clear h0 h1
    go_enter Tryz.func3, Tryz.ntmps3
    go_wp2
    go_ret
    exact ⟨rfl, Below.refl _ _⟩
  have b0' : ¬ (n0 : Int) > 1048576 := by omega
  by_cases b1 : 1048576 < n1
  · have b1' : (n1 : Int) > 1048576 := by omega
    clear h0 h1
    go_enter Tryz.func3, Tryz.ntmps3
    go_wp2
    go_ret
    exact ⟨rfl, Below.refl _ _⟩
  have b1' : ¬ (n1 : Int) > 1048576 := by omega
  have F1 := mkHidT (h1 (by omega))
  have HDR := mkHidT (drawNext_any a0 n0 cap0 w (h0 (by omega)))
  clear h0 h1
  go_enter Tryz.func3, Tryz.ntmps3
  go_wp2_with fail
  refine HDR.out.mono ?_
  rintro e w1 ⟨t, z, c, rfl, hts, hb1⟩
  have B1 := mkHidT hb1
  clear hb1 HDR
  obtain ⟨X, hX⟩ : ∃ X, nextZ t z c = X := ⟨_, rfl⟩
  obtain ⟨Y, hY⟩ : ∃ Y, nextZ t z false = Y := ⟨_, rfl⟩
  have HX := mkHidT hX
  have HY := mkHidT hY
  have LX := mkHidT (show X.tk.attrs.length ≤ 1048576 by rw [← hX]; have := nextZ_len t z c; omega)
  have LY := mkHidT (show Y.tk.attrs.length ≤ 1048576 by rw [← hY]; have := nextZ_len t z false; omega)
  have HI := mkHidT (implNext_any t z c w1 m (HE.out.below B1.out) (HT.out.below B1.out))
  rw [hX] at HI
  clear hX hY
  go_wp2_with fail
  refine HI.out.mono ?_
  rintro e w2 ⟨v1, rfl, hr1, hb2⟩
  obtain ⟨ao1, ac1, rfl, _⟩ := row_ents4 hr1
  obtain ⟨w3, hw3⟩ : ∃ w3, w2.alloc (oc X ao1 ac1) = w3 := ⟨_, rfl⟩
  have hw3' : w2.alloc (.cells #[.int .i64 X.tk.kind, .string X.tk.name, .string X.tk.text, .slice ao1 X.tk.attrs.length ac1, .int .i64 X.at1, .int .i64 X.code] 29) = w3 := hw3
  have hg3 : w2.grownBy w3 none := by rw [← hw3]; exact gnA4 _ _
  have hE1 : EntsAt w3 ao1 X.tk.attrs := by
    obtain ⟨ao, ac, e1, hE⟩ := row_ents4 (rkeep4 hr1 hg3)
    cases e1; exact hE
  have K1 := mkHidT (Kept.mk (W := w3) (p := w2.heap.size) (by rw [← hw3]; exact Below.heap_new _ _) hE1)
  have B3 := mkHidT ((B1.out.trans (hb2.mono B1.out.size)).grown hg3 (by have := B1.out.size; have := hb2.size; omega) (fun k hk => by cases hk))
  obtain ⟨p1, hp1⟩ : ∃ p1, w2.heap.size = p1 := ⟨_, rfl⟩
  rw [hp1] at K1
  clear hr1 hb2 hg3 hE1 HI B1
  obtain ⟨⟨d0, d1, d2, d3, d4, d5⟩, _, _, _, _, _, _⟩ := outcells K1.out.box
  have hsp := fun W => specNext_any t z c W (show t.size ≤ 1048576 by omega)
  simp only [HX.out] at hsp
  have HSP := mkHidT hsp
  clear hsp hw3
  --MARK
  go_wp2_with fail
  go_region_held3 (fun W => W.cell? ⟨p1, 0, none⟩ = some (.int .i64 X.tk.kind) ∧ W.cell? ⟨p1, 1, none⟩ = some (.string X.tk.name) ∧ W.cell? ⟨p1, 2, none⟩ = some (.string X.tk.text) ∧ W.cell? ⟨p1, 3, none⟩ = some (.slice ao1 X.tk.attrs.length ac1) ∧ W.cell? ⟨p1, 4, none⟩ = some (.int .i64 X.at1) ∧ W.cell? ⟨p1, 5, none⟩ = some (.int .i64 X.code)) (go_keep)
    (first
      | (go_at_call 8; refine (HSP.out _).mono ?_; rintro e w4 ⟨v2, rfl, hr2, hb4⟩; obtain ⟨ao2, ac2, rfl, hE2⟩ := row_ents4 hr2; have hg4 : w3.grownBy w4 none := gnT4 (gdrew5 w3 1 none) (Ents.below_grown hb4); obtain ⟨⟨d0, d1, d2, d3, d4, d5⟩, _, _, _, _, _, _⟩ := outcells (K1.out.grown hg4).box)
      | (go_at_call 7; refine (lwToken_same w4 X _ _ LX.out (K1.out.grown hg4).at ⟨ao2, ac2, rfl, hE2⟩).mono ?_; rintro e w5 ⟨rfl, hg5⟩; have hg35 := gnT4 hg4 hg5; obtain ⟨⟨d0, d1, d2, d3, d4, d5⟩, _, _, _, _, _, _⟩ := outcells (K1.out.grown hg35).box))
  have K1a := mkHidT (K1.out.grown hg35)
  have B5 := mkHidT (B3.out.grown hg35 B3.out.size (fun k hk => by cases hk))
  clear d0 d1 d2 d3 d4 d5 hr2 hb4 hE2 hg4 hg5 hg35 K1 B3 HSP
  have HI := mkHidT (implNext_any t z false w5 m (HE.out.below B5.out) (HT.out.below B5.out))
  rw [HY.out] at HI
  go_wp2_with fail
  refine HI.out.mono ?_
  rintro e w6 ⟨v2, rfl, hr2, hb6⟩
  obtain ⟨ao2, ac2, rfl, _⟩ := row_ents4 hr2
  obtain ⟨w7, hw7⟩ : ∃ w7, w6.alloc (oc Y ao2 ac2) = w7 := ⟨_, rfl⟩
  have hw7' : w6.alloc (.cells #[.int .i64 Y.tk.kind, .string Y.tk.name, .string Y.tk.text, .slice ao2 Y.tk.attrs.length ac2, .int .i64 Y.at1, .int .i64 Y.code] 29) = w7 := hw7
  have hg7 : w6.grownBy w7 none := by rw [← hw7]; exact gnA4 _ _
  have hg57 : w5.grownBy w7 none := gnT4 (Ents.below_grown hb6) hg7
  have hE2 : EntsAt w7 ao2 Y.tk.attrs := by
    obtain ⟨ao, ac, e1, hE⟩ := row_ents4 (rkeep4 hr2 hg7)
    cases e1; exact hE
  have K2 := mkHidT (Kept.mk (W := w7) (p := w6.heap.size) (by rw [← hw7]; exact Below.heap_new _ _) hE2)
  have K1b := mkHidT (K1a.out.grown hg57)
  have B7 := mkHidT (B5.out.grown hg57 B5.out.size (fun k hk => by cases hk))
  obtain ⟨p2, hp2⟩ : ∃ p2, w6.heap.size = p2 := ⟨_, rfl⟩
  rw [hp2] at K2
  clear hr2 hb6 hg7 hg57 hE2 HI K1a B5 hw7
  obtain ⟨w8, hw8⟩ : ∃ w8, w7.alloc (.cells #[.string ⟨#[60, 98, 62]⟩, .string ⟨#[120]⟩, .string ⟨#[32]⟩, .string ⟨#[60, 33, 45, 45, 32, 45, 45, 62]⟩, .string ⟨#[39, 62]⟩] 9) = w8 := ⟨_, rfl⟩
  have hg8 : w7.grownBy w8 none := by rw [← hw8]; exact gnA4 _ _
  have B8 := mkHidT (B7.out.grown hg8 B7.out.size (fun k hk => by cases hk))
  have HL := mkHidT (lwAt_five w8 a1 n1 cap1 (fed_on F1.out B8.out))
  have N8 := mkHidT (show w8.heap[w7.heap.size]? = some (.cells #[.string ⟨#[60, 98, 62]⟩, .string ⟨#[120]⟩, .string ⟨#[32]⟩, .string ⟨#[60, 33, 45, 45, 32, 45, 45, 62]⟩, .string ⟨#[39, 62]⟩] 9) by rw [← hw8]; exact Below.heap_new _ _)
  have K1c := mkHidT (K1b.out.grown hg8)
  have K2c := mkHidT (K2.out.grown hg8)
  clear hg8 K1b K2 B7
  go_wp2_with fail
  refine HL.out.mono ?_
  rintro e w9 ⟨r, rfl, hr5, hg9⟩
  obtain ⟨bb, hbb, hbs, hbt⟩ := five r hr5
  have cB : w9.cell? ⟨w7.heap.size, r, none⟩ = some (.string bb) := by
    have hh := hkeep4 N8.out hg9
    simp only [World.cell?, hh]
    exact hbb
  have K1d := mkHidT (K1c.out.grown hg9)
  have K2d := mkHidT (K2c.out.grown hg9)
  have B9 := mkHidT (B8.out.grown hg9 B8.out.size (fun k hk => by cases hk))
  have TB := mkHidT hbt
  clear hg9 HL N8 K1c K2c B8 hbb hbt hw8
  have hcat : ¬ 9223372036854775807 < t.size + bb.size := by omega
  obtain ⟨u, hu⟩ : ∃ u, t ++ bb = u := ⟨_, rfl⟩
  have hus : u.size ≤ 4000 := by rw [← hu, ByteArray.size_append]; omega
  have hEx : Ext t u bb.data.toList := by rw [← hu]; exact ext_app t bb
  obtain ⟨Z, hZ⟩ : ∃ Z, nextZ u z c = Z := ⟨_, rfl⟩
  have LZ := mkHidT (show Z.tk.attrs.length ≤ 1048576 by rw [← hZ]; have := nextZ_len u z c; omega)
  have HI := mkHidT (implNext_any u z c w9 m (HE.out.below B9.out) (HT.out.below B9.out))
  rw [hZ] at HI
  have HZ := mkHidT hZ
  have HEX := mkHidT hEx
  clear hZ hEx
  go_wp2_with fail
  refine HI.out.mono ?_
  rintro e w10 ⟨v3, rfl, hr3, hb10⟩
  obtain ⟨ao3, ac3, rfl, _⟩ := row_ents4 hr3
  obtain ⟨w11, hw11⟩ : ∃ w11, w10.alloc (oc Z ao3 ac3) = w11 := ⟨_, rfl⟩
  have hw11' : w10.alloc (.cells #[.int .i64 Z.tk.kind, .string Z.tk.name, .string Z.tk.text, .slice ao3 Z.tk.attrs.length ac3, .int .i64 Z.at1, .int .i64 Z.code] 29) = w11 := hw11
  have hg11 : w10.grownBy w11 none := by rw [← hw11]; exact gnA4 _ _
  have hg911 : w9.grownBy w11 none := gnT4 (Ents.below_grown hb10) hg11
  have hE3 : EntsAt w11 ao3 Z.tk.attrs := by
    obtain ⟨ao, ac, e1, hE⟩ := row_ents4 (rkeep4 hr3 hg11)
    cases e1; exact hE
  have K3 := mkHidT (Kept.mk (W := w11) (p := w10.heap.size) (by rw [← hw11]; exact Below.heap_new _ _) hE3)
  have K1e := mkHidT (K1d.out.grown hg911)
  have K2e := mkHidT (K2d.out.grown hg911)
  have B11 := mkHidT (B9.out.grown hg911 B9.out.size (fun k hk => by cases hk))
  obtain ⟨p3, hp3⟩ : ∃ p3, w10.heap.size = p3 := ⟨_, rfl⟩
  rw [hp3] at K3
  clear hr3 hb10 hg11 hg911 hE3 HI K1d K2d B9 hw11 cB hu
  obtain ⟨⟨f0, f1, f2, f3, f4, f5⟩, _, _, _, _, _, _⟩ := outcells K2e.out.box
  by_cases hc : Y.code = 0 ∨ Y.code = 3 ∨ Y.code = 6
  · have hsame := next_same HEX.out TB.out hus (at0 := z) (by rw [HY.out]; exact hc) c
    rw [HX.out, HY.out, HZ.out] at hsame
    obtain ⟨rfl, rfl, hAt⟩ := hsame
    obtain ⟨⟨d0, d1, d2, d3, d4, d5⟩, _, _, _, _, _, _⟩ := outcells K1e.out.box
    obtain ⟨⟨g0, g1, g2, g3, g4, g5⟩, _, _, _, _, _, _⟩ := outcells K3.out.box
    have HQ := mkHidT (lwToken_same w11 _ _ _ LX.out K1e.out.at K2e.out.at)
    rcases hc with hc | hc | hc
    · have hgt := hAt hc
      clear hAt
      have e0 := beq_iff_eq.2 hc
      clear hc
      go_wp2_with fail
      refine HQ.out.mono ?_
      rintro e w12 ⟨rfl, hg12⟩
      have K1f := mkHidT (K1e.out.grown hg12)
      have K2f := mkHidT (K2e.out.grown hg12)
      have K3f := mkHidT (K3.out.grown hg12)
      have B12 := mkHidT (B11.out.grown hg12 B11.out.size (fun k hk => by cases hk))
      clear d0 d1 d2 d3 d4 d5 f0 f1 f2 f3 f4 f5 g0 g1 g2 g3 g4 g5 hg12 HQ K1e K2e K3 B11
      obtain ⟨⟨d0, d1, d2, d3, d4, d5⟩, _, _, _, _, _, _⟩ := outcells K1f.out.box
      obtain ⟨⟨f0, f1, f2, f3, f4, f5⟩, _, _, _, _, _, _⟩ := outcells K2f.out.box
      obtain ⟨⟨g0, g1, g2, g3, g4, g5⟩, _, _, _, _, _, _⟩ := outcells K3f.out.box
      have HQ2 := mkHidT (lwToken_same w12 _ _ _ LX.out K3f.out.at K2f.out.at)
      go_wp2_with fail
      refine HQ2.out.mono ?_
      rintro e w13 ⟨rfl, hg13⟩
      have K1g := mkHidT (K1f.out.grown hg13)
      have B13 := mkHidT (B12.out.grown hg13 B12.out.size (fun k hk => by cases hk))
      clear d0 d1 d2 d3 d4 d5 f0 f1 f2 f3 f4 f5 g0 g1 g2 g3 g4 g5 hg13 HQ2 K1f K2f K3f B12
      obtain ⟨⟨d0, d1, d2, d3, d4, d5⟩, _, _, _, _, _, _⟩ := outcells K1g.out.box
      go_wp2
      go_ret
      exact ⟨rfl, B13.out⟩
    · clear hAt
      have e3 := beq_iff_eq.2 hc
      have e0 := beq_eq_false_iff_ne.2 (show ¬ (_ : Int) = 0 from fun e => absurd (hc.symm.trans e) (by decide))
      clear hc
      go_wp2_with fail
      refine HQ.out.mono ?_
      rintro e w12 ⟨rfl, hg12⟩
      have K1f := mkHidT (K1e.out.grown hg12)
      have K2f := mkHidT (K2e.out.grown hg12)
      have K3f := mkHidT (K3.out.grown hg12)
      have B12 := mkHidT (B11.out.grown hg12 B11.out.size (fun k hk => by cases hk))
      clear d0 d1 d2 d3 d4 d5 f0 f1 f2 f3 f4 f5 g0 g1 g2 g3 g4 g5 hg12 HQ K1e K2e K3 B11
      obtain ⟨⟨d0, d1, d2, d3, d4, d5⟩, _, _, _, _, _, _⟩ := outcells K1f.out.box
      obtain ⟨⟨f0, f1, f2, f3, f4, f5⟩, _, _, _, _, _, _⟩ := outcells K2f.out.box
      obtain ⟨⟨g0, g1, g2, g3, g4, g5⟩, _, _, _, _, _, _⟩ := outcells K3f.out.box
      have HQ2 := mkHidT (lwToken_same w12 _ _ _ LX.out K3f.out.at K2f.out.at)
      go_wp2_with fail
      refine HQ2.out.mono ?_
      rintro e w13 ⟨rfl, hg13⟩
      have K1g := mkHidT (K1f.out.grown hg13)
      have B13 := mkHidT (B12.out.grown hg13 B12.out.size (fun k hk => by cases hk))
      clear d0 d1 d2 d3 d4 d5 f0 f1 f2 f3 f4 f5 g0 g1 g2 g3 g4 g5 hg13 HQ2 K1f K2f K3f B12
      obtain ⟨⟨d0, d1, d2, d3, d4, d5⟩, _, _, _, _, _, _⟩ := outcells K1g.out.box
      go_wp2
      go_ret
      exact ⟨rfl, B13.out⟩
    · clear hAt
      have e6 := beq_iff_eq.2 hc
      have e0 := beq_eq_false_iff_ne.2 (show ¬ (_ : Int) = 0 from fun e => absurd (hc.symm.trans e) (by decide))
      have e3 := beq_eq_false_iff_ne.2 (show ¬ (_ : Int) = 3 from fun e => absurd (hc.symm.trans e) (by decide))
      clear hc
      go_wp2_with fail
      refine HQ.out.mono ?_
      rintro e w12 ⟨rfl, hg12⟩
      have K1f := mkHidT (K1e.out.grown hg12)
      have K2f := mkHidT (K2e.out.grown hg12)
      have K3f := mkHidT (K3.out.grown hg12)
      have B12 := mkHidT (B11.out.grown hg12 B11.out.size (fun k hk => by cases hk))
      clear d0 d1 d2 d3 d4 d5 f0 f1 f2 f3 f4 f5 g0 g1 g2 g3 g4 g5 hg12 HQ K1e K2e K3 B11
      obtain ⟨⟨d0, d1, d2, d3, d4, d5⟩, _, _, _, _, _, _⟩ := outcells K1f.out.box
      obtain ⟨⟨f0, f1, f2, f3, f4, f5⟩, _, _, _, _, _, _⟩ := outcells K2f.out.box
      obtain ⟨⟨g0, g1, g2, g3, g4, g5⟩, _, _, _, _, _, _⟩ := outcells K3f.out.box
      have HQ2 := mkHidT (lwToken_same w12 _ _ _ LX.out K3f.out.at K2f.out.at)
      go_wp2_with fail
      refine HQ2.out.mono ?_
      rintro e w13 ⟨rfl, hg13⟩
      have K1g := mkHidT (K1f.out.grown hg13)
      have B13 := mkHidT (B12.out.grown hg13 B12.out.size (fun k hk => by cases hk))
      clear d0 d1 d2 d3 d4 d5 f0 f1 f2 f3 f4 f5 g0 g1 g2 g3 g4 g5 hg13 HQ2 K1f K2f K3f B12
      obtain ⟨⟨d0, d1, d2, d3, d4, d5⟩, _, _, _, _, _, _⟩ := outcells K1g.out.box
      go_wp2
      go_ret
      exact ⟨rfl, B13.out⟩
  · have e0 : (Y.code == 0) = false := beq_eq_false_iff_ne.2 fun e => hc (.inl e)
    have e3 : (Y.code == 3) = false := beq_eq_false_iff_ne.2 fun e => hc (.inr (.inl e))
    have e6 : (Y.code == 6) = false := beq_eq_false_iff_ne.2 fun e => hc (.inr (.inr e))
    clear hc
    by_cases h4 : Y.code = 4
    · have e4 : (Y.code == 4) = true := beq_iff_eq.2 h4
      clear h4
      have hf := fldO
      obtain ⟨V, hV⟩ : ∃ V, nextZ t z true = V := ⟨_, rfl⟩
      have hn4 : (V.code != 4) = true := by rw [← hV]; simp [next_closed (s := t) z]
      have HI := mkHidT (implNext_any t z true w11 m (HE.out.below B11.out) (HT.out.below B11.out))
      rw [hV] at HI
      clear hV
      go_wp2_with fail
      refine HI.out.mono ?_
      rintro e w12 ⟨v4, rfl, hr4, hb12⟩
      obtain ⟨ao4, ac4, rfl, _⟩ := row_ents4 hr4
      have B12 := mkHidT (B11.out.grown (Ents.below_grown hb12) B11.out.size (fun k hk => by cases hk))
      clear hr4 hb12 HI
      go_wp2
      go_ret
      exact ⟨rfl, B12.out⟩
    · have e4 : (Y.code == 4) = false := beq_eq_false_iff_ne.2 h4
      clear h4
      go_wp2
      go_ret
      exact ⟨rfl, B11.out⟩
end Go.Proofs.YteebdfcegndaoaaGreatDoor.fnNext
