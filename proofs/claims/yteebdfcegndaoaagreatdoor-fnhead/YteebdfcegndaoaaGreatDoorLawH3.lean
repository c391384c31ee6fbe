/- The law FnHead, walked. -/
import Derived.Test.YteebdfcegndaoaaGreatDoorLwH
import Derived.Test.YteebdfcegndaoaaGreatDoorEaI
namespace Go.Proofs.YteebdfcegndaoaaGreatDoor.fnHead
open Go.RowKit Plain1 Strs Strs2 Lists Bytes Plain3 Plain5 Plain6 Plain9 Plain10 Plain11 Plain12 Plain23 Plain24 Plain25 Plain26 Plain32 Ents

def ocD (O : DOut) (ae aa : Option Addr) (ce ca : Nat) : Obj := .cells #[.slice ae O.dtd.ents.length ce, .slice aa O.dtd.atts.length ca, .int .i64 O.at1, .int .i64 O.code] 41
theorem hkeepD {W W' : World} {k : Nat} {o : Obj} (h : W.heap[k]? = some o) (hg : W.grownBy W' none) : W'.heap[k]? = some o := by
  rw [hg.block k (Array.getElem?_eq_some_iff.1 h).1 (by simp)]; exact h
/-- An answer that is kept: its box and its rows. -/
structure KeptD (W : World) (p : Nat) (O : DOut) (ae aa : Option Addr) (ce ca : Nat) : Prop where
  box : W.heap[p]? = some (ocD O ae aa ce ca)
  ents : EntsAt W ae O.dtd.ents
  atts : AttsAt W aa O.dtd.atts
  cape : O.dtd.ents.length ≤ ce
  capa : O.dtd.atts.length ≤ ca
theorem KeptD.grown {W W' : World} {p : Nat} {O : DOut} {ae aa : Option Addr} {ce ca : Nat} (h : KeptD W p O ae aa ce ca) (hg : W.grownBy W' none) : KeptD W' p O ae aa ce ca := ⟨hkeepD h.box hg, h.ents.grown hg, h.atts.grown hg, h.cape, h.capa⟩
theorem KeptD.cells {W : World} {p : Nat} {O : DOut} {ae aa : Option Addr} {ce ca : Nat} (h : KeptD W p O ae aa ce ca) :
    W.cell? ⟨p, 0, none⟩ = some (.slice ae O.dtd.ents.length ce) ∧ W.cell? ⟨p, 1, none⟩ = some (.slice aa O.dtd.atts.length ca) ∧ W.cell? ⟨p, 2, none⟩ = some (.int .i64 O.at1) ∧ W.cell? ⟨p, 3, none⟩ = some (.int .i64 O.code) := by
  have := h.box
  unfold ocD at this
  simp [World.cell?, this]
theorem row_cap {W : World} {B : Nat} {t : TypeId} {size n c : Nat} {a : Option Addr} {xs : List Value} (h : W.ownsRow B t size (.slice a n c) n xs) : n ≤ c := by
  rcases h.2 with ⟨hv, h0⟩ | ⟨g, cap, cur, hv, _, _, hc, _⟩
  · omega
  · injection hv with _ _ h3
    omega
theorem Sh_app (s u : ByteArray) : Plain25.Sh s u (s ++ u) := by
  unfold Plain25.Sh
  rw [ByteArray.data_append, Array.toList_append]
theorem ents_pre {W : World} {a : Option Addr} {l r : List (ByteArray × ByteArray)} (h : EntsAt W a (l ++ r)) : EntsAt W a l := by
  obtain ⟨b, off, h1, h2⟩ := h
  refine ⟨b, off, fun hl => h1 (by rw [List.length_append]; omega), fun i hi => ?_⟩
  have := h2 i (by rw [List.length_append]; omega)
  rw [List.getElem_append_left hi] at this
  exact this
theorem atts_pre {W : World} {a : Option Addr} {l r : List At5} (h : AttsAt W a (l ++ r)) : AttsAt W a l := by
  obtain ⟨b, off, h1, h2⟩ := h
  refine ⟨b, off, fun hl => h1 (by rw [List.length_append]; omega), fun i hi => ?_⟩
  have := h2 i (by rw [List.length_append]; omega)
  rw [List.getElem_append_left hi] at this
  exact this
/-- A head behind a head: full, or what the first tells begins what both tell. -/
theorem both {t u : ByteArray} (hs : t.size + u.size ≤ 4000) (ht : (implDtd t).code = 0) (hu : (implDtd u).code = 0) : (implDtd (t ++ u)).code = 7 ∨ ((implDtd (t ++ u)).code = 0 ∧ ∃ a b, (implDtd (t ++ u)).dtd.ents = (implDtd t).dtd.ents ++ a ∧ (implDtd (t ++ u)).dtd.atts = (implDtd t).dtd.atts ++ b) := by
  obtain ⟨L, M, h1, _, _, h5⟩ := head_on (Sh_app t u) (by rw [ByteArray.size_append]; omega) ht hu
  rcases h5 with h5 | h5
  · exact .inl h5.1
  · right
    obtain ⟨⟨a, ha⟩, b, hb⟩ := addAll_more M (addAll ⟨[], []⟩ L)
    rw [h5, h1]
    exact ⟨rfl, a, b, ha, hb⟩
theorem says_kept {w w' : World} {R : DOut} {e : Ending} (h : DtSays w R e w') : ∃ ae aa ce ca, e = .returned (.agg #[.slice ae R.dtd.ents.length ce, .slice aa R.dtd.atts.length ca, .int .i64 R.at1, .int .i64 R.code]) ∧ KeptD (w'.alloc (.cells #[.slice ae R.dtd.ents.length ce, .slice aa R.dtd.atts.length ca, .int .i64 R.at1, .int .i64 R.code] 41)) w'.heap.size R ae aa ce ca ∧ w.grownBy (w'.alloc (.cells #[.slice ae R.dtd.ents.length ce, .slice aa R.dtd.atts.length ca, .int .i64 R.at1, .int .i64 R.code] 41)) none := by
  obtain ⟨ae, ce, aa, ca, rfl, h1, h2, h3⟩ := h
  obtain ⟨a1, c1, e1, hE⟩ := ents_of_row h1
  obtain ⟨a2, c2, e2, hA⟩ := atts_of_row h2
  injection e1 with x1 _ _
  injection e2 with x2 _ _
  subst x1 x2
  exact ⟨ae, aa, ce, ca, rfl, ⟨heap_alloc_new _ _, hE.grown (gnAH _ _), hA.grown (gnAH _ _), row_cap h1, row_cap h2⟩, gnTH (Ents.below_grown h3) (gnAH _ _)⟩
theorem ckN {W W' : World} {b j : Nat} {v : Value} (hg : W.grownBy W' none) (h : W.cell? ⟨b, j, none⟩ = some v) : W'.cell? ⟨b, j, none⟩ = some v := cell_keep (fun k hk => hg.block k hk (by simp)) h

set_option maxRecDepth 100000 in
set_option maxHeartbeats 4000000 in
theorem walk (a0 a1 : Option Addr) (n0 n1 cap0 cap1 : Nat) (w : World) (m : Int) (h0 : n0 ≤ 1048576 → Fed w a0 n0) (h1 : n1 ≤ 1048576 → Fed w a1 n1) (he : EnvH w m) (het : EtCell w) :
    Calls Tryz.prog 4 #[.slice a0 n0 cap0, .slice a1 n1 cap1] w fun e w' => e = .returned (.bool true) ∧ Below w.heap.size w w' := by
  have HE := mkHidT he
  have HT := mkHidT het
  clear he het
  by_cases b0 : 1048576 < n0
  · have b0' : (n0 : Int) > 1048576 := by omega
    clear h0 h1
    go_enter Tryz.func4, Tryz.ntmps4
    go_wp2
    go_ret
    exact ⟨rfl, Below.refl _ _⟩
  have b0' : ¬ (n0 : Int) > 1048576 := by omega
  by_cases b1 : 1048576 < n1
  · have b1' : (n1 : Int) > 1048576 := by omega
    clear h0 h1
    go_enter Tryz.func4, Tryz.ntmps4
    go_wp2
    go_ret
    exact ⟨rfl, Below.refl _ _⟩
  have b1' : ¬ (n1 : Int) > 1048576 := by omega
  have F1 := mkHidT (h1 (by omega))
  have HDR := mkHidT (drawDtd_any a0 n0 cap0 w (h0 (by omega)))
  clear h0 h1
  go_enter Tryz.func4, Tryz.ntmps4
  go_wp2_with fail
  refine HDR.out.mono ?_
  rintro e w1 ⟨t, rfl, hts, hb1⟩
  have B1 := mkHidT hb1
  have HDR2 := mkHidT (drawDtd_any a1 n1 cap1 w1 (fed_up F1.out hb1))
  clear hb1 HDR
  go_wp2_with fail
  refine HDR2.out.mono ?_
  rintro e w2 ⟨u, rfl, hus, hb2⟩
  have B2 := mkHidT (B1.out.trans (hb2.mono B1.out.size))
  clear hb2 HDR2 B1
  obtain ⟨X, hX⟩ : ∃ X, implDtd t = X := ⟨_, rfl⟩
  obtain ⟨Y, hY⟩ : ∃ Y, implDtd u = Y := ⟨_, rfl⟩
  have HX := mkHidT hX
  have HY := mkHidT hY
  have LX := mkHidT (show X.dtd.ents.length ≤ 4000 ∧ X.dtd.atts.length ≤ 4000 by rw [← hX]; exact dtd_len t)
  have HI := mkHidT (implDtd_any t w2 m (HE.out.below B2.out) (HT.out.below B2.out))
  rw [hX] at HI
  clear hX hY
  go_wp2_with fail
  refine HI.out.mono ?_
  intro e w3 hs3
  obtain ⟨ae1, aa1, ce1, ca1, rfl, hK, hg⟩ := says_kept hs3
  have K1 := mkHidT hK
  have B3 := mkHidT (B2.out.grown hg B2.out.size (fun k hk => by cases hk))
  clear hs3 hK hg HI B2
  generalize hp1 : w3.heap.size = p1 at K1
  go_wp2_with fail
  clear hp1
  generalize w3.alloc (.cells #[.slice ae1 X.dtd.ents.length ce1, .slice aa1 X.dtd.atts.length ca1, .int .i64 X.at1, .int .i64 X.code] 41) = v1 at K1 B3 ⊢
  have HI := mkHidT (implDtd_any u v1 m (HE.out.below B3.out) (HT.out.below B3.out))
  rw [HY.out] at HI
  refine HI.out.mono ?_
  intro e w4 hs4
  obtain ⟨ae2, aa2, ce2, ca2, rfl, hK, hg⟩ := says_kept hs4
  have K2 := mkHidT hK
  have K1a := mkHidT (K1.out.grown hg)
  have B4 := mkHidT (B3.out.grown hg B3.out.size (fun k hk => by cases hk))
  clear hs4 hK hg HI B3 K1
  generalize hp2 : w4.heap.size = p2 at K2
  go_wp2_with fail
  clear hp2
  generalize w4.alloc (.cells #[.slice ae2 Y.dtd.ents.length ce2, .slice aa2 Y.dtd.atts.length ca2, .int .i64 Y.at1, .int .i64 Y.code] 41) = v2 at K1a K2 B4 ⊢
  have HI := mkHidT (specDtd_any t v2)
  rw [dtd_same (show t.size ≤ 320 by omega), HX.out] at HI
  refine HI.out.mono ?_
  intro e w5 hs5
  obtain ⟨ae3, aa3, ce3, ca3, rfl, hK, hg⟩ := says_kept hs5
  have K3 := mkHidT hK
  have K1b := mkHidT (K1a.out.grown hg)
  have K2b := mkHidT (K2.out.grown hg)
  have B5 := mkHidT (B4.out.grown hg B4.out.size (fun k hk => by cases hk))
  clear hs5 hK hg HI B4 K1a K2
  generalize hp3 : w5.heap.size = p3 at K3
  obtain ⟨d0, d1, d2, d3⟩ := K1b.out.cells
  obtain ⟨f0, f1, f2, f3⟩ := K3.out.cells
  go_wp2_with fail
  clear hp3
  generalize w5.alloc (.cells #[.slice ae3 X.dtd.ents.length ce3, .slice aa3 X.dtd.atts.length ca3, .int .i64 X.at1, .int .i64 X.code] 41) = v3 at K1b K2b K3 B5 d0 d1 d2 d3 f0 f1 f2 f3 ⊢
  refine (lwEnts_same v3 ae1 ae3 _ ce1 ce3 X.dtd.ents rfl (by have := LX.out.1; omega) K1b.out.ents K3.out.ents).mono ?_
  rintro e w6 ⟨rfl, hg⟩
  have K1c := mkHidT (K1b.out.grown hg)
  have K2c := mkHidT (K2b.out.grown hg)
  have K3c := mkHidT (K3.out.grown hg)
  have B6 := mkHidT (B5.out.grown hg B5.out.size (fun k hk => by cases hk))
  clear hg K1b K2b K3 B5 d0 d1 d2 d3 f0 f1 f2 f3
  obtain ⟨d0, d1, d2, d3⟩ := K1c.out.cells
  obtain ⟨f0, f1, f2, f3⟩ := K3c.out.cells
  go_wp2_with fail
  refine (lwAtts_same w6 aa1 aa3 _ ca1 ca3 X.dtd.atts rfl (by have := LX.out.2; omega) K1c.out.atts K3c.out.atts).mono ?_
  rintro e w7 ⟨rfl, hg⟩
  have K1d := mkHidT (K1c.out.grown hg)
  have K2d := mkHidT (K2c.out.grown hg)
  have B7 := mkHidT (B6.out.grown hg B6.out.size (fun k hk => by cases hk))
  clear hg K1c K2c K3c B6 d0 d1 d2 d3 f0 f1 f2 f3
  have HDE := mkHidT (drawEnt_any a1 n1 cap1 w7 (fed_up F1.out B7.out))
  go_wp2_with fail
  refine HDE.out.mono ?_
  rintro e w8 ⟨dE, aeE, aaE, ceE, caE, nmE, rfl, hEE, hLE, hnE, hb8⟩
  have hg := Ents.below_grown hb8
  have K1e := mkHidT (K1d.out.grown hg)
  have K2e := mkHidT (K2d.out.grown hg)
  have B8 := mkHidT (B7.out.grown hg B7.out.size (fun k hk => by cases hk))
  have EE := mkHidT hEE
  have LE := mkHidT hLE
  clear hg hb8 hEE hLE K1d K2d B7 HDE
  go_wp2_with fail
  have hgA := gnAH w8 (.cells #[.slice aeE dE.ents.length ceE, .slice aaE dE.atts.length caE] 39)
  have BE := mkHidT (heap_alloc_new w8 (.cells #[.slice aeE dE.ents.length ceE, .slice aaE dE.atts.length caE] 39))
  have K1f := mkHidT (K1e.out.grown hgA)
  have K2f := mkHidT (K2e.out.grown hgA)
  have EE2 := mkHidT (EE.out.grown hgA)
  have B9 := mkHidT (B8.out.grown hgA B8.out.size (fun k hk => by cases hk))
  clear hgA K1e K2e B8 EE
  generalize w8.alloc (.cells #[.slice aeE dE.ents.length ceE, .slice aaE dE.atts.length caE] 39) = v8 at BE K1f K2f EE2 B9 ⊢
  generalize w8.heap.size = pE at BE ⊢
  have HDA := mkHidT (drawAtt_any a1 n1 cap1 v8 (fed_up F1.out B9.out))
  refine HDA.out.mono ?_
  rintro e w10 ⟨dA, aeA, aaA, ceA, caA, ofA, nmA, rfl, hAA, hLA, hnA, hb10⟩
  have hg := gnTH (Ents.below_grown hb10) (gnAH w10 (.cells #[.slice aeA dA.ents.length ceA, .slice aaA dA.atts.length caA] 39))
  have BA := mkHidT (heap_alloc_new w10 (.cells #[.slice aeA dA.ents.length ceA, .slice aaA dA.atts.length caA] 39))
  have BE2 := mkHidT (hkeepD BE.out hg)
  have K1g := mkHidT (K1f.out.grown hg)
  have K2g := mkHidT (K2f.out.grown hg)
  have EE3 := mkHidT (EE2.out.grown hg)
  have AA := mkHidT (hAA.grown (gnAH w10 (.cells #[.slice aeA dA.ents.length ceA, .slice aaA dA.atts.length caA] 39)))
  have LA := mkHidT hLA
  have B10 := mkHidT (B9.out.grown hg B9.out.size (fun k hk => by cases hk))
  clear hg hb10 hAA hLA K1f K2f EE2 B9 BE HDA
  go_wp2_with fail
  generalize w10.alloc (.cells #[.slice aeA dA.ents.length ceA, .slice aaA dA.atts.length caA] 39) = v10 at BA BE2 K1g K2g EE3 AA B10 ⊢
  generalize w10.heap.size = pA at BA ⊢
  have cE0 : v10.cell? ⟨pE, 0, none⟩ = some (.slice aeE dE.ents.length ceE) := by simp [World.cell?, BE2.out]
  have cE1 : v10.cell? ⟨pE, 1, none⟩ = some (.slice aaE dE.atts.length caE) := by simp [World.cell?, BE2.out]
  have cA0 : v10.cell? ⟨pA, 0, none⟩ = some (.slice aeA dA.ents.length ceA) := by simp [World.cell?, BA.out]
  have cA1 : v10.cell? ⟨pA, 1, none⟩ = some (.slice aaA dA.atts.length caA) := by simp [World.cell?, BA.out]
  go_wp2_with fail
  have CE0 := mkHidT cE0
  have CE1 := mkHidT cE1
  have CA0 := mkHidT cA0
  have CA1 := mkHidT cA1
  have Q1 := mkHidT (fun (W : World) (hg : v10.grownBy W none) => implEntOf_any W aeE aaE dE.ents.length ceE dE.atts.length caE dE.ents nmE rfl (by omega) (fun e he => LE.out.1 e he) (EE3.out.grown hg))
  have Q2 := mkHidT (fun (W : World) (hg : v10.grownBy W none) => specEntOf_any W aeE aaE dE.ents.length ceE dE.atts.length caE dE.ents nmE rfl (by omega) (EE3.out.grown hg))
  have Q3 := mkHidT (fun (W : World) (hg : v10.grownBy W none) => implAttOf_any W aeA aaA dA.ents.length ceA dA.atts.length caA dA.atts ofA nmA rfl (by omega) (fun e he => LA.out.2 e he) (AA.out.grown hg))
  have Q4 := mkHidT (fun (W : World) (hg : v10.grownBy W none) => specAttOf_any W aeA aaA dA.ents.length ceA dA.atts.length caA dA.atts ofA nmA rfl (by omega) (AA.out.grown hg))
  generalize entR dE.ents nmE = RE at Q1 Q2
  generalize attR dA.atts ofA nmA = RA at Q3 Q4
  go_region_held3 (fun W => W.cell? ⟨pE, 0, none⟩ = some (.slice aeE dE.ents.length ceE) ∧ W.cell? ⟨pE, 1, none⟩ = some (.slice aaE dE.atts.length caE) ∧ W.cell? ⟨pA, 0, none⟩ = some (.slice aeA dA.ents.length ceA) ∧ W.cell? ⟨pA, 1, none⟩ = some (.slice aaA dA.atts.length caA)) (go_keep)
    (first
      | (go_at_call 17; refine (Q1.out _ (gdrew5 _ 1 none)).mono ?_; rintro e w11 ⟨rfl, hg11'⟩; have hg11 : v10.grownBy w11 none := gnTH (gdrew5 v10 1 none) hg11'; clear hg11'; have cE0 := ckN hg11 CE0.out; have cE1 := ckN hg11 CE1.out; have cA0 := ckN hg11 CA0.out; have cA1 := ckN hg11 CA1.out)
      | (go_at_call 18; refine (Q2.out _ hg11).mono ?_; rintro e w12 ⟨rfl, hg12'⟩; have hg12 : v10.grownBy w12 none := gnTH hg11 hg12'; clear hg12'; have cE0 := ckN hg12 CE0.out; have cE1 := ckN hg12 CE1.out; have cA0 := ckN hg12 CA0.out; have cA1 := ckN hg12 CA1.out)
      | (go_at_call 19; refine (Q3.out _ hg12).mono ?_; rintro e w13 ⟨rfl, hg13'⟩; have hg13 : v10.grownBy w13 none := gnTH hg12 hg13'; clear hg13'; have cE0 := ckN hg13 CE0.out; have cE1 := ckN hg13 CE1.out; have cA0 := ckN hg13 CA0.out; have cA1 := ckN hg13 CA1.out)
      | (go_at_call 20; refine (Q4.out _ hg13).mono ?_; rintro e w14 ⟨rfl, hg14'⟩; have hg14 : v10.grownBy w14 none := gnTH hg13 hg14'; clear hg14'; have cE0 := ckN hg14 CE0.out; have cE1 := ckN hg14 CE1.out; have cA0 := ckN hg14 CA0.out; have cA1 := ckN hg14 CA1.out))
  have K1h := mkHidT (K1g.out.grown hg14)
  have K2h := mkHidT (K2g.out.grown hg14)
  have B14 := mkHidT (B10.out.grown hg14 B10.out.size (fun k hk => by cases hk))
  clear Q1 Q2 Q3 Q4 cE0 cE1 cA0 cA1 hg11 hg12 hg13 hg14 CE0 CE1 CA0 CA1 K1g K2g B10 EE3 AA BE2 BA LE LA
  obtain ⟨d0, d1, d2, d3⟩ := K1h.out.cells
  obtain ⟨f0, f1, f2, f3⟩ := K2h.out.cells
  by_cases hx0 : X.code = 0
  case neg =>
    go_wp2
    refine bodyPost_ret (v := .bool true) (by simp [results, Tryz.results4, go_sem]) rfl ?_
    exact ⟨rfl, B14.out⟩
  by_cases hy0 : Y.code = 0
  case neg =>
    go_wp2
    refine bodyPost_ret (v := .bool true) (by simp [results, Tryz.results4, go_sem]) rfl ?_
    exact ⟨rfl, B14.out⟩
  have HBO := mkHidT (both (t := t) (u := u) (by omega) (by rw [HX.out]; exact hx0) (by rw [HY.out]; exact hy0))
  have HTW := mkHidT (head_twice (Sh_app t t) (by rw [ByteArray.size_append]; omega) (by rw [HX.out]; exact hx0))
  have htu : ¬ (4000 : Int) < (t.size : Int) + (u.size : Int) := by omega
  have hcat : ¬ 9223372036854775807 < t.size + u.size := by omega
  have hcat2 : ¬ 9223372036854775807 < t.size + t.size := by omega
  go_wp2_with fail
  obtain ⟨Z, hZ⟩ : ∃ Z, implDtd (t ++ u) = Z := ⟨_, rfl⟩
  have hbo := HBO.out
  rw [hZ, HX.out] at hbo
  have LZ := mkHidT (show Z.dtd.ents.length ≤ 4000 ∧ Z.dtd.atts.length ≤ 4000 by rw [← hZ]; exact dtd_len _)
  have HI := mkHidT (implDtd_any (t ++ u) w14 m (HE.out.below B14.out) (HT.out.below B14.out))
  rw [hZ] at HI
  clear hZ HBO
  refine HI.out.mono ?_
  intro e w15 hs15
  obtain ⟨ae4, aa4, ce4, ca4, rfl, hK, hg⟩ := says_kept hs15
  have K4 := mkHidT hK
  have K1i := mkHidT (K1h.out.grown hg)
  have B15 := mkHidT (B14.out.grown hg B14.out.size (fun k hk => by cases hk))
  clear hs15 hK hg HI B14 K1h K2h d0 d1 d2 d3 f0 f1 f2 f3
  generalize hp4 : w15.heap.size = p4 at K4
  generalize hv4 : w15.alloc (.cells #[.slice ae4 Z.dtd.ents.length ce4, .slice aa4 Z.dtd.atts.length ca4, .int .i64 Z.at1, .int .i64 Z.code] 41) = v4 at K4 K1i B15
  obtain ⟨d0, d1, d2, d3⟩ := K1i.out.cells
  obtain ⟨f0, f1, f2, f3⟩ := K4.out.cells
  rcases hbo with h7 | ⟨h00, ze, za, hze, hza⟩
  · rw [h7] at hv4
    have HV4 := mkHidT hv4
    clear hv4 d0 d1 d2 d3 f0 f1 f2 f3
    go_wp2
    rw [HV4.out]
    refine bodyPost_ret (v := .bool true) (by simp [results, Tryz.results4, go_sem]) rfl ?_
    exact ⟨rfl, B15.out⟩
  have hz1 : ¬ (Z.dtd.ents.length : Int) < (X.dtd.ents.length : Int) := by rw [hze, List.length_append]; omega
  have hz2 : ¬ (Z.dtd.atts.length : Int) < (X.dtd.atts.length : Int) := by rw [hza, List.length_append]; omega
  have HZE := mkHidT hze
  have HZA := mkHidT hza
  have h2t : (2 : Int) * (t.size : Int) ≤ 4000 := by omega
  clear hze hza
  rw [h00] at hv4
  have HI := mkHidT (implDtd_any (t ++ t) v4 m (HE.out.below B15.out) (HT.out.below B15.out))
  rw [HTW.out, HX.out] at HI
  have HV4 := mkHidT hv4
  clear hv4 d0 d1 d2 d3 f0 f1 f2 f3
  go_wp2_with fail
  rw [HV4.out]
  refine HI.out.mono ?_
  intro e w16 hs16
  obtain ⟨ae5, aa5, ce5, ca5, rfl, hK, hg⟩ := says_kept hs16
  have K5 := mkHidT hK
  have K1j := mkHidT (K1i.out.grown hg)
  have K4b := mkHidT (K4.out.grown hg)
  have B16 := mkHidT (B15.out.grown hg B15.out.size (fun k hk => by cases hk))
  clear hs16 hK hg HI B15 K1i K4 HV4 hp4
  generalize hp5 : w16.heap.size = p5 at K5
  generalize hv5 : w16.alloc (.cells #[.slice ae5 X.dtd.ents.length ce5, .slice aa5 X.dtd.atts.length ca5, .int .i64 X.at1, .int .i64 X.code] 41) = v5 at K5 K1j K4b B16
  rw [hx0] at hv5
  obtain ⟨d0, d1, d2, d3⟩ := K1j.out.cells
  obtain ⟨f0, f1, f2, f3⟩ := K4b.out.cells
  obtain ⟨g0, g1, g2, g3⟩ := K5.out.cells
  have HV5 := mkHidT hv5
  rw [← hv5] at d0 d1 d2 d3 f0 f1 f2 f3
  clear hv5 g0 g1 g2 g3
  go_wp2_with fail
  rw [HV5.out]
  refine (lwEnts_same v5 ae5 ae1 _ ce5 ce1 X.dtd.ents rfl (by have := LX.out.1; omega) K5.out.ents K1j.out.ents).mono ?_
  rintro e w17 ⟨rfl, hg⟩
  have K1k := mkHidT (K1j.out.grown hg)
  have K4c := mkHidT (K4b.out.grown hg)
  have B17 := mkHidT (B16.out.grown hg B16.out.size (fun k hk => by cases hk))
  clear hg K1j K4b K5 B16 d0 d1 d2 d3 f0 f1 f2 f3 HV5 hp5
  obtain ⟨d0, d1, d2, d3⟩ := K1k.out.cells
  obtain ⟨f0, f1, f2, f3⟩ := K4c.out.cells
  have hcap1 : (X.dtd.ents.length : Int) ≤ (ce4 : Int) := by have := K4c.out.cape; omega
  have hcap2 : (X.dtd.atts.length : Int) ≤ (ca4 : Int) := by have := K4c.out.capa; omega
  go_wp2_with fail
  have D0 := mkHidT d0
  have D1 := mkHidT d1
  have F0 := mkHidT f0
  have F1' := mkHidT f1
  have Q1 := mkHidT (fun (W : World) (hg : w17.grownBy W none) => lwEnts_same W ae4 ae1 X.dtd.ents.length ce4 ce1 X.dtd.ents rfl (by have := LX.out.1; omega) (ents_pre (r := ze) (by rw [← HZE.out]; exact K4c.out.ents.grown hg)) (K1k.out.ents.grown hg))
  have Q2 := mkHidT (fun (W : World) (hg : w17.grownBy W none) => lwAtts_same W aa4 aa1 X.dtd.atts.length ca4 ca1 X.dtd.atts rfl (by have := LX.out.2; omega) (atts_pre (r := za) (by rw [← HZA.out]; exact K4c.out.atts.grown hg)) (K1k.out.atts.grown hg))
  go_region_held3 (fun W => W.cell? ⟨p1, 0, none⟩ = some (.slice ae1 X.dtd.ents.length ce1) ∧ W.cell? ⟨p1, 1, none⟩ = some (.slice aa1 X.dtd.atts.length ca1) ∧ W.cell? ⟨p4, 0, none⟩ = some (.slice ae4 Z.dtd.ents.length ce4) ∧ W.cell? ⟨p4, 1, none⟩ = some (.slice aa4 Z.dtd.atts.length ca4)) (go_keep)
    (first
      | (go_at_call 13; refine (Q1.out _ (gdrew5 _ 1 none)).mono ?_; rintro e w18 ⟨rfl, hg18'⟩; have hg18 : w17.grownBy w18 none := gnTH (gdrew5 w17 1 none) hg18'; clear hg18'; have d0 := ckN hg18 D0.out; have d1 := ckN hg18 D1.out; have f0 := ckN hg18 F0.out; have f1 := ckN hg18 F1'.out)
      | (go_at_call 14; refine (Q2.out _ hg18).mono ?_; rintro e w19 ⟨rfl, hg19'⟩; have hg19 : w17.grownBy w19 none := gnTH hg18 hg19'; clear hg19'; have d0 := ckN hg19 D0.out; have d1 := ckN hg19 D1.out; have f0 := ckN hg19 F0.out; have f1 := ckN hg19 F1'.out))
  have B19 := mkHidT (B17.out.grown hg19 B17.out.size (fun k hk => by cases hk))
  go_wp2
  refine bodyPost_ret (v := .bool true) (by simp [results, Tryz.results4, go_sem]) rfl ?_
  exact ⟨rfl, B19.out⟩
end Go.Proofs.YteebdfcegndaoaaGreatDoor.fnHead
