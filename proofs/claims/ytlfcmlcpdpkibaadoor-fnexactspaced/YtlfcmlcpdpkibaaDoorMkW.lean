/- Are the marks on a row of nodes held? And over an answer. -/
/- The law's marks on an answer; are they held? -/
/- Plain: what is spaced is no greater than the events. -/
import Derived.Test.YtlfcmlcpdpkibaaDoorMkZ
import Derived.Test.YtlfcmlcpdpkibaaDoorPlK
namespace Go.Proofs.YtlfcmlcpdpkibaaDoor
open Go.RowKit Lists Ents PlainR PlainN
set_option linter.unusedVariables false

set_option maxRecDepth 100000 in
set_option maxHeartbeats 8000000 in
theorem heldNodeS_any (w : World) (a : Option Addr) (n c : Nat) (nds : List Nd) (hn : n = nds.length) (hl : nds.length ≤ 1048576) (hla : ∀ e ∈ nds, e.decls.length ≤ 1048576 ∧ e.attrs.length ≤ 1048576) (K : Nat) (hK0 : 1 ≤ K) (hK1 : K ≤ 1048576) (h : NdIn w a (mkNds K nds)) :
    Calls Tryd.prog 24 #[.slice a n c, .int .i64 (K : Int)] w fun e w' => e = .returned (.int .i64 ((K + mkT nds : Nat) : Int)) ∧ w.grownBy w' none := by
  subst hn
  have HA := mkHidEa h
  have HLA := mkHidEa hla
  clear h hla
  go_enter Tryd.func24, Tryd.ntmps24
  go_wp2
  go_loopw [1, 5] (fun kk i wr => ∃ (j KJ : Nat), j ≤ nds.length ∧ kk = .int .i64 (KJ : Int) ∧ i = .int .i64 j ∧ KJ = K + mkT (nds.take j) ∧ w.grownBy wr none) (fun _ i _ => nds.length - (intOf i).toNat)
  case atStart => exact ⟨0, K, Nat.zero_le _, rfl, rfl, by simp [mkT], grR _ _⟩
  case round =>
    obtain ⟨j, KJ, hj, rfl, rfl, hKJ, hgr⟩ := hrel
    have HKJ := mkHidEa hKJ
    have G0 := mkHidEa hgr
    have hbj : mkT (nds.take j) ≤ j * 6291462 := by
      have := mkT_bound (l := nds.take j) (fun e he => HLA.out e (List.mem_of_mem_take he))
      rw [List.length_take, Nat.min_eq_left hj] at this
      exact this
    have q0 : 1 ≤ KJ := by omega
    have q1 : KJ ≤ 8000000000000 := by omega
    clear hKJ hgr hbj
    by_cases hlt : j < nds.length
    · obtain ⟨b, ha, hc⟩ := HA.out.grown G0.out
      rw [mkNds_len] at ha
      obtain rfl := ha (by omega)
      have hlk : j < (mkNds K nds).length := by rw [mkNds_len]; exact hlt
      obtain ⟨da, dc, xa, xc, c0, c1, c2, c3, c4, c5, c6, c7, hE, hN⟩ := hc j hlk
      obtain ⟨hz1, hz2⟩ := HLA.out _ (List.getElem_mem hlt)
      rw [mkNds_at hlt hlk, ← HKJ.out] at c0 c1 c2 c3 c4 c5 c6 c7 hE hN
      obtain ⟨D, hD⟩ : ∃ D, nds[j]'hlt = D := ⟨_, rfl⟩
      rw [hD] at c0 c1 c2 c3 c4 c5 c6 c7 hE hN hz1 hz2
      simp only [mkNd, mks_len, mkn_len] at c0 c1 c2 c3 c4 c5 c6 c7 hE hN
      obtain ⟨dl, hdl⟩ : ∃ dl, D.decls.length = dl := ⟨_, rfl⟩
      obtain ⟨al, hal⟩ : ∃ al, D.attrs.length = al := ⟨_, rfl⟩
      simp only [hdl, hal] at c5 c6 c7 hE hN hz1 hz2
      have HKN : Hid (KJ + 6 + dl * 2 + al * 4 = K + mkT (nds.take (j + 1))) := mkHidEa (by rw [mkT_snoc hlt, hD, HKJ.out]; unfold mkL; rw [hdl, hal]; omega)
      have HE := mkHidEa hE
      have HNM := mkHidEa hN
      have C5 := mkHidEa c5
      have C6 := mkHidEa c6
      have hm1 := fun W => markText_any (KJ + 1) W (by omega) (by omega)
      simp only [show ((KJ + 1 : Nat) : Int) = (KJ : Int) + 1 by omega] at hm1
      obtain ⟨T1, hT1⟩ : ∃ T, mt (KJ + 1) = T := ⟨_, rfl⟩
      rw [hT1] at c1
      simp only [hT1] at hm1
      have M1 := mkHidEa hm1
      have C1 := mkHidEa c1
      clear hm1 hT1
      have hm2 := fun W => markText_any (KJ + 2) W (by omega) (by omega)
      simp only [show ((KJ + 2 : Nat) : Int) = (KJ : Int) + 2 by omega] at hm2
      obtain ⟨T2, hT2⟩ : ∃ T, mt (KJ + 2) = T := ⟨_, rfl⟩
      rw [hT2] at c2
      simp only [hT2] at hm2
      have M2 := mkHidEa hm2
      have C2 := mkHidEa c2
      clear hm2 hT2
      have hm3 := fun W => markText_any (KJ + 3) W (by omega) (by omega)
      simp only [show ((KJ + 3 : Nat) : Int) = (KJ : Int) + 3 by omega] at hm3
      obtain ⟨T3, hT3⟩ : ∃ T, mt (KJ + 3) = T := ⟨_, rfl⟩
      rw [hT3] at c3
      simp only [hT3] at hm3
      have M3 := mkHidEa hm3
      have C3 := mkHidEa c3
      clear hm3 hT3
      have hm4 := fun W => markText_any (KJ + 4) W (by omega) (by omega)
      simp only [show ((KJ + 4 : Nat) : Int) = (KJ : Int) + 4 by omega] at hm4
      obtain ⟨T4, hT4⟩ : ∃ T, mt (KJ + 4) = T := ⟨_, rfl⟩
      rw [hT4] at c4
      simp only [hT4] at hm4
      have M4 := mkHidEa hm4
      have C4 := mkHidEa c4
      clear hm4 hT4
      have hm7 := fun W => markText_any (KJ + 5 + dl * 2 + al * 4) W (by omega) (by omega)
      simp only [show ((KJ + 5 + dl * 2 + al * 4 : Nat) : Int) = (KJ : Int) + 5 + (dl : Int) * 2 + (al : Int) * 4 by omega] at hm7
      obtain ⟨T7, hT7⟩ : ∃ T, mt (KJ + 5 + dl * 2 + al * 4) = T := ⟨_, rfl⟩
      rw [hT7] at c7
      simp only [hT7] at hm7
      have M7 := mkHidEa hm7
      have C7 := mkHidEa c7
      clear hm7 hT7
      clear hc ha c1 c2 c3 c4 c5 c6 c7 hE hN hD hdl hal hlk HKJ
      have c1 := C1.out
      go_wp2_with fail
      go_region_held3 (fun W => W.cell? ⟨b, j * 8 + 1, none⟩ = some (.string T1)) (go_keep)
        (first | (go_at_call 21; refine (M1.out _).mono ?_; rintro e w1 ⟨rfl, hg1⟩; have e1 := cell_keep (w := wr) (w' := w1) (fun k hk => hg1.block k hk (by simp)) c1))
      have G1 : Hid (w.grownBy w1 none) := mkHidEa (grT G0.out (grT (gnD wr 1) hg1))
      have E1 : Hid (EntsAt w1 da (mks dl (KJ + 5))) := mkHidEa (HE.out.grown (grT (gnD wr 1) hg1))
      have N1 : Hid (NmAt w1 xa (mkn al (KJ + 5 + dl * 2))) := mkHidEa (HNM.out.grown (grT (gnD wr 1) hg1))
      have D2 := mkHidEa (cell_keep (w := wr) (w' := w1) (fun k hk => hg1.block k hk (by simp)) C2.out)
      clear C2
      have C2 := D2
      clear D2
      have D3 := mkHidEa (cell_keep (w := wr) (w' := w1) (fun k hk => hg1.block k hk (by simp)) C3.out)
      clear C3
      have C3 := D3
      clear D3
      have D4 := mkHidEa (cell_keep (w := wr) (w' := w1) (fun k hk => hg1.block k hk (by simp)) C4.out)
      clear C4
      have C4 := D4
      clear D4
      have D5 := mkHidEa (cell_keep (w := wr) (w' := w1) (fun k hk => hg1.block k hk (by simp)) C5.out)
      clear C5
      have C5 := D5
      clear D5
      have D6 := mkHidEa (cell_keep (w := wr) (w' := w1) (fun k hk => hg1.block k hk (by simp)) C6.out)
      clear C6
      have C6 := D6
      clear D6
      have D7 := mkHidEa (cell_keep (w := wr) (w' := w1) (fun k hk => hg1.block k hk (by simp)) C7.out)
      clear C7
      have C7 := D7
      clear D7
      clear hg1 c1 e1 G0 M1 C1 HE HNM c0
      have c2 := C2.out
      go_wp2_with fail
      go_region_held3 (fun W => W.cell? ⟨b, j * 8 + 2, none⟩ = some (.string T2)) (go_keep)
        (first | (go_at_call 21; refine (M2.out _).mono ?_; rintro e w2 ⟨rfl, hg2⟩; have e2 := cell_keep (w := w1) (w' := w2) (fun k hk => hg2.block k hk (by simp)) c2))
      have G2 : Hid (w.grownBy w2 none) := mkHidEa (grT G1.out (grT (gnD w1 1) hg2))
      have E2 : Hid (EntsAt w2 da (mks dl (KJ + 5))) := mkHidEa (E1.out.grown (grT (gnD w1 1) hg2))
      have N2 : Hid (NmAt w2 xa (mkn al (KJ + 5 + dl * 2))) := mkHidEa (N1.out.grown (grT (gnD w1 1) hg2))
      have D3 := mkHidEa (cell_keep (w := w1) (w' := w2) (fun k hk => hg2.block k hk (by simp)) C3.out)
      clear C3
      have C3 := D3
      clear D3
      have D4 := mkHidEa (cell_keep (w := w1) (w' := w2) (fun k hk => hg2.block k hk (by simp)) C4.out)
      clear C4
      have C4 := D4
      clear D4
      have D5 := mkHidEa (cell_keep (w := w1) (w' := w2) (fun k hk => hg2.block k hk (by simp)) C5.out)
      clear C5
      have C5 := D5
      clear D5
      have D6 := mkHidEa (cell_keep (w := w1) (w' := w2) (fun k hk => hg2.block k hk (by simp)) C6.out)
      clear C6
      have C6 := D6
      clear D6
      have D7 := mkHidEa (cell_keep (w := w1) (w' := w2) (fun k hk => hg2.block k hk (by simp)) C7.out)
      clear C7
      have C7 := D7
      clear D7
      clear hg2 c2 e2 G1 M2 C2 E1 N1
      have c3 := C3.out
      go_wp2_with fail
      go_region_held3 (fun W => W.cell? ⟨b, j * 8 + 3, none⟩ = some (.string T3)) (go_keep)
        (first | (go_at_call 21; refine (M3.out _).mono ?_; rintro e w3 ⟨rfl, hg3⟩; have e3 := cell_keep (w := w2) (w' := w3) (fun k hk => hg3.block k hk (by simp)) c3))
      have G3 : Hid (w.grownBy w3 none) := mkHidEa (grT G2.out (grT (gnD w2 1) hg3))
      have E3 : Hid (EntsAt w3 da (mks dl (KJ + 5))) := mkHidEa (E2.out.grown (grT (gnD w2 1) hg3))
      have N3 : Hid (NmAt w3 xa (mkn al (KJ + 5 + dl * 2))) := mkHidEa (N2.out.grown (grT (gnD w2 1) hg3))
      have D4 := mkHidEa (cell_keep (w := w2) (w' := w3) (fun k hk => hg3.block k hk (by simp)) C4.out)
      clear C4
      have C4 := D4
      clear D4
      have D5 := mkHidEa (cell_keep (w := w2) (w' := w3) (fun k hk => hg3.block k hk (by simp)) C5.out)
      clear C5
      have C5 := D5
      clear D5
      have D6 := mkHidEa (cell_keep (w := w2) (w' := w3) (fun k hk => hg3.block k hk (by simp)) C6.out)
      clear C6
      have C6 := D6
      clear D6
      have D7 := mkHidEa (cell_keep (w := w2) (w' := w3) (fun k hk => hg3.block k hk (by simp)) C7.out)
      clear C7
      have C7 := D7
      clear D7
      clear hg3 c3 e3 G2 M3 C3 E2 N2
      have c4 := C4.out
      go_wp2_with fail
      go_region_held3 (fun W => W.cell? ⟨b, j * 8 + 4, none⟩ = some (.string T4)) (go_keep)
        (first | (go_at_call 21; refine (M4.out _).mono ?_; rintro e w4 ⟨rfl, hg4⟩; have e4 := cell_keep (w := w3) (w' := w4) (fun k hk => hg4.block k hk (by simp)) c4))
      have G4 : Hid (w.grownBy w4 none) := mkHidEa (grT G3.out (grT (gnD w3 1) hg4))
      have E4 : Hid (EntsAt w4 da (mks dl (KJ + 5))) := mkHidEa (E3.out.grown (grT (gnD w3 1) hg4))
      have N4 : Hid (NmAt w4 xa (mkn al (KJ + 5 + dl * 2))) := mkHidEa (N3.out.grown (grT (gnD w3 1) hg4))
      have D5 := mkHidEa (cell_keep (w := w3) (w' := w4) (fun k hk => hg4.block k hk (by simp)) C5.out)
      clear C5
      have C5 := D5
      clear D5
      have D6 := mkHidEa (cell_keep (w := w3) (w' := w4) (fun k hk => hg4.block k hk (by simp)) C6.out)
      clear C6
      have C6 := D6
      clear D6
      have D7 := mkHidEa (cell_keep (w := w3) (w' := w4) (fun k hk => hg4.block k hk (by simp)) C7.out)
      clear C7
      have C7 := D7
      clear D7
      clear hg4 c4 e4 G3 M4 C4 E3 N3
      have c5 := C5.out
      have hm5 := heldAttrS_any w4 da dl dc hz1 (KJ + 5) (by omega) (by omega) E4.out
      rw [show ((KJ + 5 : Nat) : Int) = (KJ : Int) + 5 by omega] at hm5
      have M5 := mkHidEa hm5
      clear hm5
      go_wp2_with fail
      refine M5.out.mono ?_
      rintro e w5 ⟨rfl, hg5⟩
      have G5 := mkHidEa (grT G4.out hg5)
      have N5 := mkHidEa (N4.out.grown hg5)
      have D6 := mkHidEa (cell_keep (w := w4) (w' := w5) (fun k hk => hg5.block k hk (by simp)) C6.out)
      clear C6
      have C6 := D6
      clear D6
      have D7 := mkHidEa (cell_keep (w := w4) (w' := w5) (fun k hk => hg5.block k hk (by simp)) C7.out)
      clear C7
      have C7 := D7
      clear D7
      clear hg5 c5 C5 G4 M5 E4 N4
      have c6 := C6.out
      have hm6 := heldNamedS_any w5 xa al xc hz2 (KJ + 5 + dl * 2) (by omega) (by omega) N5.out
      rw [show ((KJ + 5 + dl * 2 : Nat) : Int) = (KJ : Int) + 5 + (dl : Int) * 2 by omega] at hm6
      have M6 := mkHidEa hm6
      clear hm6
      go_wp2_with fail
      refine M6.out.mono ?_
      rintro e w6 ⟨rfl, hg6⟩
      have G6 := mkHidEa (grT G5.out hg6)
      have D7 := mkHidEa (cell_keep (w := w5) (w' := w6) (fun k hk => hg6.block k hk (by simp)) C7.out)
      clear C7
      have C7 := D7
      clear D7
      clear hg6 c6 C6 G5 M6 N5
      have c7 := C7.out
      go_wp2_with fail
      go_region_held3 (fun W => W.cell? ⟨b, j * 8 + 7, none⟩ = some (.string T7)) (go_keep)
        (first | (go_at_call 21; refine (M7.out _).mono ?_; rintro e w7 ⟨rfl, hg7⟩; have e7 := cell_keep (w := w6) (w' := w7) (fun k hk => hg7.block k hk (by simp)) c7))
      have G7 : Hid (w.grownBy w7 none) := mkHidEa (grT G6.out (grT (gnD w6 1) hg7))
      clear hg7 c7 e7 G6 M7 C7
      go_wp2
      go_roundw
      case rel => exact ⟨j + 1, KJ + 6 + dl * 2 + al * 4, by omega, by go_num, by go_num, HKN.out, G7.out⟩
      case measure => simp [intOf]; omega
    · obtain rfl : j = nds.length := by omega
      go_wp2
      go_ret
      refine ⟨?_, G0.out⟩
      rw [HKJ.out, List.take_length]
      rfl
end Go.Proofs.YtlfcmlcpdpkibaaDoor

namespace Go.Proofs.YtlfcmlcpdpkibaaDoor
open Go.RowKit Lists Ents PlainR PlainN
set_option linter.unusedVariables false

set_option maxRecDepth 100000 in
set_option maxHeartbeats 1000000 in
theorem markNodesOut_any (w : World) (B : Nat) (a : Option Addr) (c : Nat) (p q : Int) (nds : List Nd) (vs : List (Value × Value)) (hN : NdsAt w B (.slice a nds.length c) nds vs) (hB : B ≤ w.heap.size) (hl : nds.length ≤ 1048576) (hla : ∀ e ∈ nds, e.decls.length ≤ 1048576 ∧ e.attrs.length ≤ 1048576) :
    Calls Tryd.prog 11 #[.agg #[.slice a nds.length c, .int .i64 p, .int .i64 q], .int .i64 1] w fun e w' => e = .returned (.int .i64 ((1 + mkT nds : Nat) : Int)) ∧ NdsAt w' B (.slice a nds.length c) (mkNds 1 nds) vs ∧ Below B w w' ∧ TyK w w' := by
  have h1 : Below B w (w.alloc (.cells #[.slice a nds.length c, .int .i64 p, .int .i64 q] 26)) := (Below.refl B w).alloc hB _
  have hm := markNodeS_any (w.alloc (.cells #[.slice a nds.length c, .int .i64 p, .int .i64 q] 26)) B _ nds vs (hN.below ((Below.refl _ _).alloc (Nat.le_refl _) _)) (Nat.le_trans hB h1.size) hl hla 1 (by decide) (by decide)
  have HM := mkHidEa hm
  have H1 := mkHidEa h1
  have HB := mkHidEa hB
  clear hm h1 hN hl hla hB
  go_enter Tryd.func11, Tryd.ntmps11
  go_wp2_with fail
  refine HM.out.mono ?_
  rintro e w1 ⟨rfl, hn1, hb1, ht1⟩
  have T1 := mkHidEa ((TyK.below ((Below.refl _ w).alloc (Nat.le_refl _) _)).trans ht1)
  have N1 := mkHidEa hn1
  have B1 := mkHidEa (show Below B w w1 from ⟨hb1.os.trans H1.out.os, hb1.tape.trans H1.out.tape, hb1.output.trans H1.out.output, Nat.le_trans H1.out.size hb1.size, fun k hk => (hb1.block k hk).trans (H1.out.block k hk)⟩)
  clear hn1 hb1 ht1 HM H1
  go_wp2
  go_ret
  exact ⟨rfl, N1.out, B1.out, T1.out⟩

set_option maxRecDepth 100000 in
set_option maxHeartbeats 1000000 in
theorem heldNodesOut_any (w : World) (a : Option Addr) (c : Nat) (p q : Int) (nds : List Nd) (hl : nds.length ≤ 1048576) (hla : ∀ e ∈ nds, e.decls.length ≤ 1048576 ∧ e.attrs.length ≤ 1048576) (h : NdIn w a (mkNds 1 nds)) :
    Calls Tryd.prog 12 #[.agg #[.slice a nds.length c, .int .i64 p, .int .i64 q], .int .i64 1] w fun e w' => e = .returned (.int .i64 ((1 + mkT nds : Nat) : Int)) ∧ w.grownBy w' none := by
  have h1 := gnA w (.cells #[.slice a nds.length c, .int .i64 p, .int .i64 q] 26)
  have hm := heldNodeS_any _ a _ c nds rfl hl hla 1 (by decide) (by decide) (h.grown h1)
  have HM := mkHidEa hm
  have H1 := mkHidEa h1
  clear hm h1 h hl hla
  go_enter Tryd.func12, Tryd.ntmps12
  go_wp2_with fail
  refine HM.out.mono ?_
  rintro e w1 ⟨rfl, hg1⟩
  have G1 := mkHidEa (grT H1.out hg1)
  have hz : ¬ ((1 + mkT nds : Nat) : Int) < 0 := by omega
  obtain ⟨Z, hZ⟩ : ∃ Z : Int, ((1 + mkT nds : Nat) : Int) = Z := ⟨_, rfl⟩
  have HZ := mkHidEa hZ
  rw [hZ] at hz ⊢
  clear hg1 HM H1 hZ
  go_wp2
  go_ret
  exact ⟨by rw [HZ.out]; rfl, G1.out⟩
end Go.Proofs.YtlfcmlcpdpkibaaDoor

namespace Go.Proofs.YtlfcmlcpdpkibaaDoor
open Go.RowKit Lists PlainR PlainN
set_option linter.unusedVariables false

theorem placeA_lenK (sc : List (List (ByteArray × ByteArray))) : ∀ (l l' : List Nm), placeA sc l = some l' → l'.length = l.length
  | [], l', h => by simp [placeA] at h; subst h; rfl
  | a :: l, l', h => by
    unfold placeA at h
    split at h
    · obtain ⟨m, hm, rfl⟩ := Option.map_eq_some_iff.1 h
      simp [placeA_lenK sc l m hm]
    · split at h
      · cases h
      · obtain ⟨m, hm, rfl⟩ := Option.map_eq_some_iff.1 h
        simp [placeA_lenK sc l m hm]
theorem node_small {st st' : List Scp} {e : Ev} {n : Nd} (h : nodeZ st e = (st', .ok n)) : n.decls.length ≤ e.attrs.length ∧ n.attrs.length ≤ e.attrs.length := by
  unfold nodeZ at h
  split at h
  · cases hs : startZ (st.map (·.2)) e with
    | error c => rw [hs] at h; cases h
    | ok m =>
      rw [hs] at h
      cases h
      unfold startZ at hs
      split at hs
      · cases hs
      · split at hs
        · cases hs
        · split at hs
          · cases hs
          · rename_i l hl
            split at hs
            · cases hs
            · cases hs
              refine ⟨List.length_filterMap_le _ _, ?_⟩
              show l.length ≤ _
              rw [placeA_lenK _ _ _ hl]
              exact List.length_filterMap_le _ _
  · split at h
    · cases h; exact ⟨Nat.zero_le _, Nat.zero_le _⟩
    · split at h
      · split at h
        · cases h
        · cases h; exact ⟨Nat.zero_le _, Nat.zero_le _⟩
      · cases h; exact ⟨Nat.zero_le _, Nat.zero_le _⟩
theorem spcGo_small (M : Nat) : ∀ (l : List Ev) (i : Nat) (st : List Scp) (acc : List Nd), (∀ e ∈ l, e.attrs.length ≤ M) → (∀ n ∈ acc, n.decls.length ≤ M ∧ n.attrs.length ≤ M) → (spcGo l i st acc).nodes.length ≤ acc.length + l.length ∧ ∀ n ∈ (spcGo l i st acc).nodes, n.decls.length ≤ M ∧ n.attrs.length ≤ M
  | [], i, st, acc, _, ha => by simp only [spcGo]; exact ⟨by simp, ha⟩
  | e :: l, i, st, acc, he, ha => by
    unfold spcGo
    split
    · exact ⟨Nat.zero_le _, fun n hn => by cases hn⟩
    · rename_i st' n hx
      have hs := node_small hx
      have hM := he e List.mem_cons_self
      have ih := spcGo_small M l (i + 1) st' (acc ++ [n]) (fun x hx => he x (List.mem_cons_of_mem _ hx)) (fun x hx => by
        rcases List.mem_append.1 hx with h | h
        · exact ha x h
        · rw [List.mem_singleton] at h; subst h; omega)
      refine ⟨?_, ih.2⟩
      have := ih.1
      simp only [List.length_append, List.length_cons, List.length_nil] at this ⊢
      omega
theorem spaced_small {M : Nat} {l : List Ev} (he : ∀ e ∈ l, e.attrs.length ≤ M) : (spacedZ l).nodes.length ≤ l.length ∧ ∀ n ∈ (spacedZ l).nodes, n.decls.length ≤ M ∧ n.attrs.length ≤ M := by
  unfold spacedZ
  split
  · exact ⟨Nat.zero_le _, fun n hn => by cases hn⟩
  · split
    · exact ⟨Nat.zero_le _, fun n hn => by cases hn⟩
    · have := spcGo_small M l 0 [] [] he (fun n hn => by cases hn)
      simpa using this
end Go.Proofs.YtlfcmlcpdpkibaaDoor
