/- The program's head: definitions are added, the first of each key counts. -/
import Derived.Test.YtpeinhmfboihmaaGreatDoorHdE
import Derived.Test.YtpeinhmfboihmaaGreatDoorTkC
namespace Go.Proofs.YtpeinhmfboihmaaGreatDoor
open Go.RowKit Plain1 Plain2 Strs Strs2 Lists Bytes Plain3 Plain5 Plain6 Plain9 Plain10 Plain11 Plain12 Plain13 Plain14 Plain18 Plain23 Plain24 Plain25 Plain26 Plain27 Plain28 Plain29 Plain30 Go.Lib Ents
open Go.Maps

theorem infoK : (Tryz.prog.info? 122).map (fun i => (i.zero, i.size, i.bytes)) = some (some (.agg #[.string ⟨#[]⟩, .string ⟨#[]⟩]), 2, 32) := by kernel_rfl
theorem ents_le (L : List Df) : (dtOf L).ents.length ≤ L.length := List.length_filterMap_le _ _
theorem atts_le (L : List Df) : (dtOf L).atts.length ≤ L.length := List.length_filterMap_le _ _
theorem Ap.endE {w W wa : World} {hb mb B lb kb : Nat} {ov v' : Value} {M : List Df} {e : ByteArray × ByteArray} (h : Ap w W hb mb B lb kb ov M (.inl e)) (o : Obj) (hg : (W.drew.alloc o).grownBy wa ov.ownBlock) {cs : Array Value} {fr : Nat × Nat} (hlb : w.heap[lb]? = some (.cells cs 120 fr))
    (ho : wa.ownsRow B 122 2 v' (M.length + 1) (kcells M ++ [.string ⟨#[]⟩, .string e.1])) (hx1 : Named1 (.inl e)) (hx2 : Small1 (.inl e)) (hno : hasK M (keyDf (.inl e)) = false) :
    As w ((wa.setCell ⟨hb, 1, none⟩ v').setCell ⟨hb, 2, none⟩ (.int .i64 (((dtOf M).ents.length : Int) + 1))) hb mb B lb v' (M ++ [.inl e]) := by
  have hbx := set_cells (set_cells (h.boxOf hg) v' (j := 1)) (.int .i64 (((dtOf M).ents.length : Int) + 1)) (j := 2)
  have c1 : (dtOf (M ++ [Sum.inl e])).ents.length = (dtOf M).ents.length + 1 := by unfold dtOf; simp [List.filterMap_append, entOf]
  have c2 : (dtOf (M ++ [Sum.inl e])).atts.length = (dtOf M).atts.length := by unfold dtOf; simp [List.filterMap_append, attOf]
  refine h.grow o hg hlb (by rw [kcells_snoc]; exact ho) hx1 hx2 hno ?_ (im_gtrans (im_gset _) (im_gset _))
  rw [hbx, c1, c2]
  rfl
theorem Ap.endA {w W wa : World} {hb mb B lb kb : Nat} {ov v' : Value} {M : List Df} {a : At5} (h : Ap w W hb mb B lb kb ov M (.inr a)) (o : Obj) (hg : (W.drew.alloc o).grownBy wa ov.ownBlock) {cs : Array Value} {fr : Nat × Nat} (hlb : w.heap[lb]? = some (.cells cs 120 fr))
    (ho : wa.ownsRow B 122 2 v' (M.length + 1) (kcells M ++ [.string a.of, .string a.nm])) (hx1 : Named1 (.inr a)) (hx2 : Small1 (.inr a)) (hno : hasK M (keyDf (.inr a)) = false) :
    As w ((wa.setCell ⟨hb, 1, none⟩ v').setCell ⟨hb, 3, none⟩ (.int .i64 (((dtOf M).atts.length : Int) + 1))) hb mb B lb v' (M ++ [.inr a]) := by
  have hbx := set_cells (set_cells (h.boxOf hg) v' (j := 1)) (.int .i64 (((dtOf M).atts.length : Int) + 1)) (j := 3)
  have c1 : (dtOf (M ++ [Sum.inr a])).ents.length = (dtOf M).ents.length := by unfold dtOf; simp [List.filterMap_append, entOf]
  have c2 : (dtOf (M ++ [Sum.inr a])).atts.length = (dtOf M).atts.length + 1 := by unfold dtOf; simp [List.filterMap_append, attOf]
  refine h.grow o hg hlb (by rw [kcells_snoc]; exact ho) hx1 hx2 hno ?_ (im_gtrans (im_gset _) (im_gset _))
  rw [hbx, c1, c2]
  rfl

set_option maxHeartbeats 8000000 in
set_option maxRecDepth 100000 in
theorem add_any {w : World} {hb mb B lb : Nat} {ov : Value} {L l : List Df} (c : Nat) (h : As w w hb mb B lb ov L) {cs : Array Value} {fr : Nat × Nat} (hlb : w.heap[lb]? = some (.cells cs 120 fr)) (hlc : ∀ i (h : i < l.length), w.cell? ⟨lb, i, none⟩ = some (dfV (l[i]'h))) (hL : L.length + l.length ≤ 2097152) (hn : ∀ x ∈ l, Named1 x) (hsm : ∀ x ∈ l, Small1 x) :
    Calls Tryz.prog 38 #[.pointer (some ⟨hb, 0, none⟩), .slice (some ⟨lb, 0, none⟩) l.length c] w fun e w' => e = .returned (.tuple #[]) ∧ ∃ ov', As w w' hb mb B lb ov' (foldA L l) := by
  have H := mkHidI1 h
  have HN := mkHidI1 hn
  have HS := mkHidI1 hsm
  have HLB := mkHidI1 hlb
  have HLC := mkHidI1 hlc
  clear h hn hsm hlb hlc
  obtain ⟨i0, hi, hz0, hz1, hz2⟩ := info_parts infoK
  go_enter Tryz.func38, Tryz.ntmps38
  go_wp2_with fail
  go_loopw [11] (fun iv wr => ∃ (k : Nat) (ov' : Value), k ≤ l.length ∧ iv = .int .i64 k ∧ As w wr hb mb B lb ov' (foldA L (l.take k))) (fun iv _ => l.length - (RowKit.intOf iv).toNat)
  case atStart => exact ⟨0, ov, Nat.zero_le _, rfl, H.out⟩
  case round =>
    obtain ⟨k, ov', hk, rfl, hA⟩ := hrel
    have HA := mkHidI1 hA
    clear hA H
    by_cases hlt : k < l.length
    · have c0 : wr.cell? ⟨lb, k, none⟩ = some (dfV (l[k]'hlt)) := (World.cell?_of_block (a := ⟨lb, k, none⟩) HA.out.lk).trans (HLC.out k hlt)
      have hnx := HN.out _ (List.getElem_mem hlt)
      have hsx := HS.out _ (List.getElem_mem hlt)
      have hfo := fold_on (L := L) hlt
      have hlen := fold_len (l.take k) L
      rw [List.length_take_of_le hk] at hlen
      obtain ⟨x, hx⟩ : ∃ x, l[k]'hlt = x := ⟨_, rfl⟩
      rw [hx] at c0 hnx hsx hfo
      obtain ⟨M, hM⟩ : ∃ M, foldA L (l.take k) = M := ⟨_, rfl⟩
      rw [hM] at HA hfo hlen
      have HFO := mkHidI1 hfo
      have HNX := mkHidI1 hnx
      have HSX := mkHidI1 hsx
      clear hx hM hfo hnx hsx
      cases x with
      | inl e =>
        simp only [dfV] at c0
        have hm1 := fun wx => mthE e.1 e.2 wx
        have hk1 := fun wx => entKey_any e.1 e.2 wx
        go_wp2_with fail
        refine (hk1 _).mono ?_
        rintro e' w1 ⟨rfl, hb1⟩
        have A2 := mkHidI1 ((HA.out.below hb1).below ((Below.refl _ _).alloc (Nat.le_refl _) (.cells #[.string ⟨#[]⟩, .string e.1] 122)))
        clear hb1 hk1 hm1 HA c0
        go_wp2_with fail
        generalize hW2 : w1.alloc (.cells #[.string ⟨#[]⟩, .string e.1] 122) = W2 at A2 ⊢
        have hkb : W2.heap[w1.heap.size]? = some (.cells #[.string ⟨#[]⟩, .string e.1] 122) := by rw [← hW2]; exact heap_alloc_new _ _
        generalize w1.heap.size = kb at hkb ⊢
        clear hW2
        obtain ⟨⟨h0, h1, h2, h3⟩, f1, f2, f3⟩ := A2.out.hm.cells
        have k0 : W2.cell? ⟨kb, 0, none⟩ = some (.string ⟨#[]⟩) := by simp [World.cell?, hkb]
        have k1 : W2.cell? ⟨kb, 1, none⟩ = some (.string e.1) := by simp [World.cell?, hkb]
        have hlk := look_run A2.out.hm.drew (k := keyDf (.inl e)) HSX.out.1 HSX.out.2
        simp only [keyDf] at hlk
        cases hhas : hasK M (keyDf (.inl e)) with
        | true =>
          simp only [keyDf] at hhas
          rw [hhas] at hlk
          generalize lookV (mapD (keyLP Tryz.prog) dfV M) (keyLP Tryz.prog (⟨#[]⟩, e.1)) = lv at hlk
          go_region_held3 (fun W => W.cell? ⟨hb, 0, none⟩ = some (.map (some mb)) ∧ W.cell? ⟨kb, 0, none⟩ = some (.string ⟨#[]⟩) ∧ W.cell? ⟨kb, 1, none⟩ = some (.string e.1) ∧ (Instr.lookup 77 (.map (some mb)) (.agg #[.string ⟨#[]⟩, .string e.1]) true).run Tryz.prog W = .ok (.tuple #[lv, .bool true]) W) (first | go_keep | exact ⟨h0, k0, k1, hlk⟩) (first | fail)
          go_wp2
          refine ⟨⟨k + 1, ov', by omega, by go_num, ?_⟩, by simp [RowKit.intOf]; omega⟩
          rw [HFO.out]
          unfold addL
          rw [if_pos (by simp only [keyDf]; exact hhas)]
          exact A2.out.drew
        | false =>
          simp only [keyDf] at hhas
          rw [hhas] at hlk
          generalize lookV (mapD (keyLP Tryz.prog) dfV M) (keyLP Tryz.prog (⟨#[]⟩, e.1)) = lv at hlk
          go_region_held3 (fun W => W.cell? ⟨hb, 0, none⟩ = some (.map (some mb)) ∧ W.cell? ⟨kb, 0, none⟩ = some (.string ⟨#[]⟩) ∧ W.cell? ⟨kb, 1, none⟩ = some (.string e.1) ∧ (Instr.lookup 77 (.map (some mb)) (.agg #[.string ⟨#[]⟩, .string e.1]) true).run Tryz.prog W = .ok (.tuple #[lv, .bool false]) W) (first | go_keep | exact ⟨h0, k0, k1, hlk⟩) (first | fail)
          obtain ⟨w5, hst, hown5, hg5⟩ := store_run A2.out.drew.hm.drew (.inl e) HSX.out (by unfold maxLen; omega)
          simp only [keyDf, dfV] at hst
          have P5 := mkHidI1 (Ap.start (kb := kb) A2.out.drew.drew hown5 hg5 hkb HLB.out)
          obtain ⟨ao, cv, hov⟩ := owns_row P5.out.ord
          subst hov
          obtain ⟨⟨p0, p1, p2, p3⟩, g1, g2, g3⟩ := P5.out.cells
          obtain ⟨q0, q1⟩ := P5.out.keys
          simp only [keyDf] at q0 q1
          clear hlk hown5 hg5
          go_wp2_with fail
          go_region_held3 (fun W => W.cell? ⟨hb, 0, none⟩ = some (.map (some mb)) ∧ W.cell? ⟨kb, 0, none⟩ = some (.string ⟨#[]⟩) ∧ W.cell? ⟨kb, 1, none⟩ = some (.string e.1)) (first | go_keep | exact ⟨h0, k0, k1⟩ | exact ⟨p0, q0, q1⟩) (first | fail)
          have hB5 := P5.out.rest.2.2.2.2
          have t1 := fun v wx => taEE v wx
          have t2 := fun v wx => taEA v wx
          have t3 := fun v wx => taAE v wx
          have t4 := fun v wx => taAA v wx
          have hel := ents_le M
          have hal := atts_le M
          have hwe : IntKind.i64.wrap (((dtOf M).ents.length : Int) + 1) = ((dtOf M).ents.length : Int) + 1 := wrapSm (by omega) (by omega)
          have hwa : IntKind.i64.wrap (((dtOf M).atts.length : Int) + 1) = ((dtOf M).atts.length : Int) + 1 := wrapSm (by omega) (by omega)
          have HROW : Hid ((w5.drew.alloc (.cells #[.string ⟨#[]⟩, .string e.1] 122)).ownsRow B 122 2 (.slice ao M.length cv) M.length (kcells M)) := mkHidI1 (P5.out.ord.drew.alloc _)
          have q1a : (w5.alloc (.cells #[.string ⟨#[]⟩, .string e.1] 122)).cell? ⟨hb, 1, none⟩ = some (.slice ao M.length cv) := (World.cell?_of_block (a := ⟨hb, 1, none⟩) (heap_alloc_old _ _ (Array.getElem?_eq_some_iff.1 P5.out.box).1)).trans p1
          clear h0 h1 h2 h3 f1 f2 f3 k0 k1 hst
          go_wp2_with fail
          go_region_law (refine step_append_own rfl (.tmp 37) (.tmp 39) 78 rfl B 122 i0 (.agg #[.string ⟨#[]⟩, .string ⟨#[]⟩]) 2 32 Tryz.underlying78 hi hz0 hz1 hz2 rfl (by decide) (.slice ao M.length cv) M.length (kcells M) (by simp [Act.eval]) HROW.out ⟨w5.heap.size, 0, none⟩ 1 1 [.string ⟨#[]⟩, .string e.1] (by simp [Act.eval]) rfl (cell_two_newN w5.drew _ _ _ w5.heap.size rfl) (by intro u hu; simp at hu; rcases hu with rfl | rfl <;> rfl) (by unfold maxLen; omega) (by omega) (by simp; omega) ?_; intro v' wa hoa hga; obtain ⟨ao', cv', hv'⟩ := owns_row hoa; subst hv'; obtain ⟨⟨d0, d1, d2, d3⟩, e1, e2, e3⟩ := P5.out.cellsOf hga; replace hoa := mkHidI1 hoa; replace hga := mkHidI1 hga)
          all_goals
            simp only [Exit.then]
            rename_i aK
            refine aK _ _ ?_
            go_wp2
            refine ⟨⟨k + 1, .slice ao' (M.length + 1) cv', by omega, by go_num, ?_⟩, by simp [RowKit.intOf]; omega⟩
            rw [HFO.out]
            unfold addL
            rw [if_neg (by simp only [keyDf]; rw [hhas]; simp)]
            exact P5.out.endE _ hga.out HLB.out hoa.out HNX.out HSX.out hhas
      | inr a =>
        simp only [dfV] at c0
        have hm1 := fun wx => mthA a.of a.nm a.words a.has a.val wx
        have hk1 := fun wx => attKey_any a wx
        go_wp2_with fail
        refine (hk1 _).mono ?_
        rintro e' w1 ⟨rfl, hb1⟩
        have A2 := mkHidI1 ((HA.out.below hb1).below ((Below.refl _ _).alloc (Nat.le_refl _) (.cells #[.string a.of, .string a.nm] 122)))
        clear hb1 hk1 hm1 HA c0
        go_wp2_with fail
        generalize hW2 : w1.alloc (.cells #[.string a.of, .string a.nm] 122) = W2 at A2 ⊢
        have hkb : W2.heap[w1.heap.size]? = some (.cells #[.string a.of, .string a.nm] 122) := by rw [← hW2]; exact heap_alloc_new _ _
        generalize w1.heap.size = kb at hkb ⊢
        clear hW2
        obtain ⟨⟨h0, h1, h2, h3⟩, f1, f2, f3⟩ := A2.out.hm.cells
        have k0 : W2.cell? ⟨kb, 0, none⟩ = some (.string a.of) := by simp [World.cell?, hkb]
        have k1 : W2.cell? ⟨kb, 1, none⟩ = some (.string a.nm) := by simp [World.cell?, hkb]
        have hlk := look_run A2.out.hm.drew (k := keyDf (.inr a)) HSX.out.1 HSX.out.2
        simp only [keyDf] at hlk
        cases hhas : hasK M (keyDf (.inr a)) with
        | true =>
          simp only [keyDf] at hhas
          rw [hhas] at hlk
          generalize lookV (mapD (keyLP Tryz.prog) dfV M) (keyLP Tryz.prog (a.of, a.nm)) = lv at hlk
          go_region_held3 (fun W => W.cell? ⟨hb, 0, none⟩ = some (.map (some mb)) ∧ W.cell? ⟨kb, 0, none⟩ = some (.string a.of) ∧ W.cell? ⟨kb, 1, none⟩ = some (.string a.nm) ∧ (Instr.lookup 77 (.map (some mb)) (.agg #[.string a.of, .string a.nm]) true).run Tryz.prog W = .ok (.tuple #[lv, .bool true]) W) (first | go_keep | exact ⟨h0, k0, k1, hlk⟩) (first | fail)
          go_wp2
          refine ⟨⟨k + 1, ov', by omega, by go_num, ?_⟩, by simp [RowKit.intOf]; omega⟩
          rw [HFO.out]
          unfold addL
          rw [if_pos (by simp only [keyDf]; exact hhas)]
          exact A2.out.drew
        | false =>
          simp only [keyDf] at hhas
          rw [hhas] at hlk
          generalize lookV (mapD (keyLP Tryz.prog) dfV M) (keyLP Tryz.prog (a.of, a.nm)) = lv at hlk
          go_region_held3 (fun W => W.cell? ⟨hb, 0, none⟩ = some (.map (some mb)) ∧ W.cell? ⟨kb, 0, none⟩ = some (.string a.of) ∧ W.cell? ⟨kb, 1, none⟩ = some (.string a.nm) ∧ (Instr.lookup 77 (.map (some mb)) (.agg #[.string a.of, .string a.nm]) true).run Tryz.prog W = .ok (.tuple #[lv, .bool false]) W) (first | go_keep | exact ⟨h0, k0, k1, hlk⟩) (first | fail)
          obtain ⟨w5, hst, hown5, hg5⟩ := store_run A2.out.drew.hm.drew (.inr a) HSX.out (by unfold maxLen; omega)
          simp only [keyDf, dfV] at hst
          have P5 := mkHidI1 (Ap.start (kb := kb) A2.out.drew.drew hown5 hg5 hkb HLB.out)
          obtain ⟨ao, cv, hov⟩ := owns_row P5.out.ord
          subst hov
          obtain ⟨⟨p0, p1, p2, p3⟩, g1, g2, g3⟩ := P5.out.cells
          obtain ⟨q0, q1⟩ := P5.out.keys
          simp only [keyDf] at q0 q1
          clear hlk hown5 hg5
          go_wp2_with fail
          go_region_held3 (fun W => W.cell? ⟨hb, 0, none⟩ = some (.map (some mb)) ∧ W.cell? ⟨kb, 0, none⟩ = some (.string a.of) ∧ W.cell? ⟨kb, 1, none⟩ = some (.string a.nm)) (first | go_keep | exact ⟨h0, k0, k1⟩ | exact ⟨p0, q0, q1⟩) (first | fail)
          have hB5 := P5.out.rest.2.2.2.2
          have t1 := fun v wx => taEE v wx
          have t2 := fun v wx => taEA v wx
          have t3 := fun v wx => taAE v wx
          have t4 := fun v wx => taAA v wx
          have hel := ents_le M
          have hal := atts_le M
          have hwe : IntKind.i64.wrap (((dtOf M).ents.length : Int) + 1) = ((dtOf M).ents.length : Int) + 1 := wrapSm (by omega) (by omega)
          have hwa : IntKind.i64.wrap (((dtOf M).atts.length : Int) + 1) = ((dtOf M).atts.length : Int) + 1 := wrapSm (by omega) (by omega)
          have HROW : Hid ((w5.drew.alloc (.cells #[.string a.of, .string a.nm] 122)).ownsRow B 122 2 (.slice ao M.length cv) M.length (kcells M)) := mkHidI1 (P5.out.ord.drew.alloc _)
          have q1a : (w5.alloc (.cells #[.string a.of, .string a.nm] 122)).cell? ⟨hb, 1, none⟩ = some (.slice ao M.length cv) := (World.cell?_of_block (a := ⟨hb, 1, none⟩) (heap_alloc_old _ _ (Array.getElem?_eq_some_iff.1 P5.out.box).1)).trans p1
          clear h0 h1 h2 h3 f1 f2 f3 k0 k1 hst
          go_wp2_with fail
          go_region_law (refine step_append_own rfl (.tmp 37) (.tmp 39) 78 rfl B 122 i0 (.agg #[.string ⟨#[]⟩, .string ⟨#[]⟩]) 2 32 Tryz.underlying78 hi hz0 hz1 hz2 rfl (by decide) (.slice ao M.length cv) M.length (kcells M) (by simp [Act.eval]) HROW.out ⟨w5.heap.size, 0, none⟩ 1 1 [.string a.of, .string a.nm] (by simp [Act.eval]) rfl (cell_two_newN w5.drew _ _ _ w5.heap.size rfl) (by intro u hu; simp at hu; rcases hu with rfl | rfl <;> rfl) (by unfold maxLen; omega) (by omega) (by simp; omega) ?_; intro v' wa hoa hga; obtain ⟨ao', cv', hv'⟩ := owns_row hoa; subst hv'; obtain ⟨⟨d0, d1, d2, d3⟩, e1, e2, e3⟩ := P5.out.cellsOf hga; replace hoa := mkHidI1 hoa; replace hga := mkHidI1 hga)
          all_goals
            simp only [Exit.then]
            rename_i aK
            refine aK _ _ ?_
            go_wp2
            refine ⟨⟨k + 1, .slice ao' (M.length + 1) cv', by omega, by go_num, ?_⟩, by simp [RowKit.intOf]; omega⟩
            rw [HFO.out]
            unfold addL
            rw [if_neg (by simp only [keyDf]; rw [hhas]; simp)]
            exact P5.out.endA _ hga.out HLB.out hoa.out HNX.out HSX.out hhas
    · go_wp2
      go_end0
      refine ⟨rfl, ov', ?_⟩
      have := HA.out
      rw [List.take_of_length_le (by omega)] at this
      exact this
end Go.Proofs.YtpeinhmfboihmaaGreatDoor
