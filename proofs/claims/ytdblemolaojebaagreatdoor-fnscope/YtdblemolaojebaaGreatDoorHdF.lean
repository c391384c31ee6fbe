import Derived.Test.YtdblemolaojebaaGreatDoorHdE
import Derived.Test.YtdblemolaojebaaGreatDoorFreH
set_option maxHeartbeats 8000000
set_option maxRecDepth 100000
namespace Go.Proofs.YtdblemolaojebaaGreatDoor
open Go.RowKit Strs2 Lists Plain9 Plain23 Plain30 Go.Lib Ents
open Go.Maps
theorem infoK : (Tryz.prog.info? 191).map (fun i => (i.zero, i.size, i.bytes)) = some (some (.agg #[.string ⟨#[]⟩, .string ⟨#[]⟩]), 2, 32) := by kernel_rfl
theorem bW9 (L : List Df) : (dtOf L).ents.length ≤ L.length := List.length_filterMap_le _ _
theorem bWj (L : List Df) : (dtOf L).atts.length ≤ L.length := List.length_filterMap_le _ _
theorem Ap.endE {w W wa : World} {hb mb B lb kb : Nat} {ov v' : Value} {M : List Df} {e : ByteArray × ByteArray} (h : Ap w W hb mb B lb kb ov M (.inl e)) (o : Obj) (hg : (W.drew.alloc o).grownBy wa ov.ownBlock) {cs : Array Value} {fr : Nat × Nat} (hlb : w.heap[lb]? = some (.cells cs 189 fr))
 (ho : wa.ownsRow B 191 2 v' (M.length + 1) (aVw M ++ [.string ⟨#[]⟩, .string e.1])) (hx1 : aWd (.inl e)) (hx2 : aWz (.inl e)) (hno : hasK M (aX2 (.inl e)) = false) :
 As w ((wa.setCell ⟨hb, 1, none⟩ v').setCell ⟨hb, 2, none⟩ (.int .i64 (((dtOf M).ents.length : Int) + 1))) hb mb B lb v' (M ++ [.inl e]) := by
 have hbx := aQ7 (aQ7 (h.boxOf hg) v' (j := 1)) (.int .i64 (((dtOf M).ents.length : Int) + 1)) (j := 2)
 have c1 : (dtOf (M ++ [Sum.inl e])).ents.length = (dtOf M).ents.length + 1 := by unfold dtOf; simp [List.filterMap_append, bJm]
 have c2 : (dtOf (M ++ [Sum.inl e])).atts.length = (dtOf M).atts.length := by unfold dtOf; simp [List.filterMap_append, bJx]
 refine h.grow o hg hlb (by rw [bJa]; exact ho) hx1 hx2 hno ?_ (aQ3 (aQa _) (aQa _))
 rw [hbx, c1, c2]
 rfl
theorem Ap.endA {w W wa : World} {hb mb B lb kb : Nat} {ov v' : Value} {M : List Df} {a : At5} (h : Ap w W hb mb B lb kb ov M (.inr a)) (o : Obj) (hg : (W.drew.alloc o).grownBy wa ov.ownBlock) {cs : Array Value} {fr : Nat × Nat} (hlb : w.heap[lb]? = some (.cells cs 189 fr))
 (ho : wa.ownsRow B 191 2 v' (M.length + 1) (aVw M ++ [.string a.of, .string a.nm])) (hx1 : aWd (.inr a)) (hx2 : aWz (.inr a)) (hno : hasK M (aX2 (.inr a)) = false) :
 As w ((wa.setCell ⟨hb, 1, none⟩ v').setCell ⟨hb, 3, none⟩ (.int .i64 (((dtOf M).atts.length : Int) + 1))) hb mb B lb v' (M ++ [.inr a]) := by
 have hbx := aQ7 (aQ7 (h.boxOf hg) v' (j := 1)) (.int .i64 (((dtOf M).atts.length : Int) + 1)) (j := 3)
 have c1 : (dtOf (M ++ [Sum.inr a])).ents.length = (dtOf M).ents.length := by unfold dtOf; simp [List.filterMap_append, bJm]
 have c2 : (dtOf (M ++ [Sum.inr a])).atts.length = (dtOf M).atts.length + 1 := by unfold dtOf; simp [List.filterMap_append, bJx]
 refine h.grow o hg hlb (by rw [bJa]; exact ho) hx1 hx2 hno ?_ (aQ3 (aQa _) (aQa _))
 rw [hbx, c1, c2]
 rfl
theorem add_any {w : World} {hb mb B lb : Nat} {ov : Value} {L l : List Df} (c : Nat) (h : As w w hb mb B lb ov L) {cs : Array Value} {fr : Nat × Nat} (hlb : w.heap[lb]? = some (.cells cs 189 fr)) (hlc : ∀ i (h : i < l.length), w.cell? ⟨lb, i, none⟩ = some (dfV (l[i]'h))) (hL : L.length + l.length ≤ 2097152) (hn : ∀ x ∈ l, aWd x) (hsm : ∀ x ∈ l, aWz x) :
 Calls Tryz.prog 73 #[.pointer (some ⟨hb, 0, none⟩), .slice (some ⟨lb, 0, none⟩) l.length c] w fun e w' => e = .returned (.tuple #[]) ∧ ∃ ov', As w w' hb mb B lb ov' (bQ8 L l) := by
 have H := aQ1 h
 have HN := aQ1 hn
 have HS := aQ1 hsm
 have HLB := aQ1 hlb
 have HLC := aQ1 hlc
 clear h hn hsm hlb hlc
 obtain ⟨i0, hi, hz0, hz1, hz2⟩ := info_parts infoK
 go_enter Tryz.func73, Tryz.ntmps73
 go_wp2_with fail
 go_loopw [11] (fun iv wr => ∃ (k : Nat) (ov' : Value), k ≤ l.length ∧ iv = .int .i64 k ∧ As w wr hb mb B lb ov' (bQ8 L (l.take k))) (fun iv _ => l.length - (RowKit.intOf iv).toNat)
 case atStart => exact ⟨0, ov, Nat.zero_le _, rfl, H.out⟩
 case round =>
  obtain ⟨k, ov', hk, rfl, hA⟩ := hrel
  have HA := aQ1 hA
  clear hA H
  by_cases hlt : k < l.length
  · have c0 : wr.cell? ⟨lb, k, none⟩ = some (dfV (l[k]'hlt)) := (World.cell?_of_block (a := ⟨lb, k, none⟩) HA.out.lk).trans (HLC.out k hlt)
    have hnx := HN.out _ (List.getElem_mem hlt)
    have hsx := HS.out _ (List.getElem_mem hlt)
    have hfo := fold_on (L := L) hlt
    have hlen := bW4 (l.take k) L
    rw [List.length_take_of_le hk] at hlen
    obtain ⟨x, hx⟩ : ∃ x, l[k]'hlt = x := ⟨_, rfl⟩
    rw [hx] at c0 hnx hsx hfo
    obtain ⟨M, hM⟩ : ∃ M, bQ8 L (l.take k) = M := ⟨_, rfl⟩
    rw [hM] at HA hfo hlen
    have HFO := aQ1 hfo
    have HNX := aQ1 hnx
    have HSX := aQ1 hsx
    clear hx hM hfo hnx hsx
    cases x with
    | inl e =>
     simp only [dfV] at c0
     have hm1 := fun wx => mthE e.1 e.2 wx
     have hk1 := fun wx => entKey_any e.1 e.2 wx
     go_wp2_with fail
     refine (hk1 _).mono ?_
     rintro e' w1 ⟨rfl, hb1⟩
     have A2 := aQ1 ((HA.out.below hb1).below ((Below.refl _ _).alloc (Nat.le_refl _) (.cells #[.string ⟨#[]⟩, .string e.1] 191)))
     clear hb1 hk1 hm1 HA c0
     go_wp2_with fail
     generalize hW2 : w1.alloc (.cells #[.string ⟨#[]⟩, .string e.1] 191) = W2 at A2 ⊢
     have hkb : W2.heap[w1.heap.size]? = some (.cells #[.string ⟨#[]⟩, .string e.1] 191) := by rw [← hW2]; exact heap_alloc_new _ _
     generalize w1.heap.size = kb at hkb ⊢
     clear hW2
     obtain ⟨⟨h0, h1, h2, h3⟩, f1, f2, f3⟩ := A2.out.hm.cells
     have k0 : W2.cell? ⟨kb, 0, none⟩ = some (.string ⟨#[]⟩) := by simp [World.cell?, hkb]
     have k1 : W2.cell? ⟨kb, 1, none⟩ = some (.string e.1) := by simp [World.cell?, hkb]
     have hlk := look_run A2.out.hm.drew (k := aX2 (.inl e)) HSX.out.1 HSX.out.2
     simp only [aX2] at hlk
     cases hhas : hasK M (aX2 (.inl e)) with
     | true =>
      simp only [aX2] at hhas
      rw [hhas] at hlk
      generalize lookV (mapD (aVk Tryz.prog) dfV M) (aVk Tryz.prog (⟨#[]⟩, e.1)) = lv at hlk
      go_region_held3 (fun W => W.cell? ⟨hb, 0, none⟩ = some (.map (some mb)) ∧ W.cell? ⟨kb, 0, none⟩ = some (.string ⟨#[]⟩) ∧ W.cell? ⟨kb, 1, none⟩ = some (.string e.1) ∧ (Instr.lookup 137 (.map (some mb)) (.agg #[.string ⟨#[]⟩, .string e.1]) true).run Tryz.prog W = .ok (.tuple #[lv, .bool true]) W) (first | go_keep | exact ⟨h0, k0, k1, hlk⟩) (first | fail)
      go_wp2
      refine ⟨⟨k + 1, ov', by omega, by go_num, ?_⟩, by simp [RowKit.intOf]; omega⟩
      rw [HFO.out]
      unfold addL
      rw [if_pos (by simp only [aX2]; exact hhas)]
      exact A2.out.drew
     | false =>
      simp only [aX2] at hhas
      rw [hhas] at hlk
      generalize lookV (mapD (aVk Tryz.prog) dfV M) (aVk Tryz.prog (⟨#[]⟩, e.1)) = lv at hlk
      go_region_held3 (fun W => W.cell? ⟨hb, 0, none⟩ = some (.map (some mb)) ∧ W.cell? ⟨kb, 0, none⟩ = some (.string ⟨#[]⟩) ∧ W.cell? ⟨kb, 1, none⟩ = some (.string e.1) ∧ (Instr.lookup 137 (.map (some mb)) (.agg #[.string ⟨#[]⟩, .string e.1]) true).run Tryz.prog W = .ok (.tuple #[lv, .bool false]) W) (first | go_keep | exact ⟨h0, k0, k1, hlk⟩) (first | fail)
      obtain ⟨w5, hst, hown5, hg5⟩ := store_run A2.out.drew.hm.drew (.inl e) HSX.out (by unfold maxLen; omega)
      simp only [aX2, dfV] at hst
      have P5 := aQ1 (Ap.start (kb := kb) A2.out.drew.drew hown5 hg5 hkb HLB.out)
      obtain ⟨ao, cv, hov⟩ := aQh P5.out.ord
      subst hov
      obtain ⟨⟨p0, p1, p2, p3⟩, g1, g2, g3⟩ := P5.out.cells
      obtain ⟨q0, q1⟩ := P5.out.keys
      simp only [aX2] at q0 q1
      clear hlk hown5 hg5
      go_wp2_with fail
      go_region_held3 (fun W => W.cell? ⟨hb, 0, none⟩ = some (.map (some mb)) ∧ W.cell? ⟨kb, 0, none⟩ = some (.string ⟨#[]⟩) ∧ W.cell? ⟨kb, 1, none⟩ = some (.string e.1)) (first | go_keep | exact ⟨h0, k0, k1⟩ | exact ⟨p0, q0, q1⟩) (first | fail)
      have hB5 := P5.out.rest.2.2.2.2
      have t1 := fun v wx => taEE v wx
      have t2 := fun v wx => taEA v wx
      have t3 := fun v wx => taAE v wx
      have t4 := fun v wx => taAA v wx
      have hel := bW9 M
      have hal := bWj M
      have hwe : IntKind.i64.wrap (((dtOf M).ents.length : Int) + 1) = ((dtOf M).ents.length : Int) + 1 := aZ2 (by omega) (by omega)
      have hwa : IntKind.i64.wrap (((dtOf M).atts.length : Int) + 1) = ((dtOf M).atts.length : Int) + 1 := aZ2 (by omega) (by omega)
      have HROW : Hid ((w5.drew.alloc (.cells #[.string ⟨#[]⟩, .string e.1] 191)).ownsRow B 191 2 (.slice ao M.length cv) M.length (aVw M)) := aQ1 (P5.out.ord.drew.alloc _)
      have q1a : (w5.alloc (.cells #[.string ⟨#[]⟩, .string e.1] 191)).cell? ⟨hb, 1, none⟩ = some (.slice ao M.length cv) := (World.cell?_of_block (a := ⟨hb, 1, none⟩) (heap_alloc_old _ _ (gLt P5.out.box))).trans p1
      clear h0 h1 h2 h3 f1 f2 f3 k0 k1 hst
      go_wp2_with fail
      go_region_law (refine aXu rfl (.tmp 37) (.tmp 39) 138 rfl B 191 i0 (.agg #[.string ⟨#[]⟩, .string ⟨#[]⟩]) 2 32 Tryz.underlying138 hi hz0 hz1 hz2 rfl (by decide) (.slice ao M.length cv) M.length (aVw M) (by simp [Act.eval]) HROW.out ⟨w5.heap.size, 0, none⟩ 1 1 [.string ⟨#[]⟩, .string e.1] (by simp [Act.eval]) rfl (aWs w5.drew _ _ _ w5.heap.size rfl) (by intro u hu; simp at hu; rcases hu with rfl | rfl <;> rfl) (by unfold maxLen; omega) (by omega) (by simp; omega) ?_; intro v' wa hoa hga; obtain ⟨ao', cv', hv'⟩ := aQh hoa; subst hv'; obtain ⟨⟨d0, d1, d2, d3⟩, e1, e2, e3⟩ := P5.out.cellsOf hga; replace hoa := aQ1 hoa; replace hga := aQ1 hga)
      all_goals
       simp only [Exit.then]
       rename_i aK
       refine aK _ _ ?_
       go_wp2
       refine ⟨⟨k + 1, .slice ao' (M.length + 1) cv', by omega, by go_num, ?_⟩, by simp [RowKit.intOf]; omega⟩
       rw [HFO.out]
       unfold addL
       rw [if_neg (by simp only [aX2]; rw [hhas]; simp)]
       exact P5.out.endE _ hga.out HLB.out hoa.out HNX.out HSX.out hhas
    | inr a =>
     simp only [dfV] at c0
     have hm1 := fun wx => mthA a.of a.nm a.words a.has a.val wx
     have hk1 := fun wx => attKey_any a wx
     go_wp2_with fail
     refine (hk1 _).mono ?_
     rintro e' w1 ⟨rfl, hb1⟩
     have A2 := aQ1 ((HA.out.below hb1).below ((Below.refl _ _).alloc (Nat.le_refl _) (.cells #[.string a.of, .string a.nm] 191)))
     clear hb1 hk1 hm1 HA c0
     go_wp2_with fail
     generalize hW2 : w1.alloc (.cells #[.string a.of, .string a.nm] 191) = W2 at A2 ⊢
     have hkb : W2.heap[w1.heap.size]? = some (.cells #[.string a.of, .string a.nm] 191) := by rw [← hW2]; exact heap_alloc_new _ _
     generalize w1.heap.size = kb at hkb ⊢
     clear hW2
     obtain ⟨⟨h0, h1, h2, h3⟩, f1, f2, f3⟩ := A2.out.hm.cells
     have k0 : W2.cell? ⟨kb, 0, none⟩ = some (.string a.of) := by simp [World.cell?, hkb]
     have k1 : W2.cell? ⟨kb, 1, none⟩ = some (.string a.nm) := by simp [World.cell?, hkb]
     have hlk := look_run A2.out.hm.drew (k := aX2 (.inr a)) HSX.out.1 HSX.out.2
     simp only [aX2] at hlk
     cases hhas : hasK M (aX2 (.inr a)) with
     | true =>
      simp only [aX2] at hhas
      rw [hhas] at hlk
      generalize lookV (mapD (aVk Tryz.prog) dfV M) (aVk Tryz.prog (a.of, a.nm)) = lv at hlk
      go_region_held3 (fun W => W.cell? ⟨hb, 0, none⟩ = some (.map (some mb)) ∧ W.cell? ⟨kb, 0, none⟩ = some (.string a.of) ∧ W.cell? ⟨kb, 1, none⟩ = some (.string a.nm) ∧ (Instr.lookup 137 (.map (some mb)) (.agg #[.string a.of, .string a.nm]) true).run Tryz.prog W = .ok (.tuple #[lv, .bool true]) W) (first | go_keep | exact ⟨h0, k0, k1, hlk⟩) (first | fail)
      go_wp2
      refine ⟨⟨k + 1, ov', by omega, by go_num, ?_⟩, by simp [RowKit.intOf]; omega⟩
      rw [HFO.out]
      unfold addL
      rw [if_pos (by simp only [aX2]; exact hhas)]
      exact A2.out.drew
     | false =>
      simp only [aX2] at hhas
      rw [hhas] at hlk
      generalize lookV (mapD (aVk Tryz.prog) dfV M) (aVk Tryz.prog (a.of, a.nm)) = lv at hlk
      go_region_held3 (fun W => W.cell? ⟨hb, 0, none⟩ = some (.map (some mb)) ∧ W.cell? ⟨kb, 0, none⟩ = some (.string a.of) ∧ W.cell? ⟨kb, 1, none⟩ = some (.string a.nm) ∧ (Instr.lookup 137 (.map (some mb)) (.agg #[.string a.of, .string a.nm]) true).run Tryz.prog W = .ok (.tuple #[lv, .bool false]) W) (first | go_keep | exact ⟨h0, k0, k1, hlk⟩) (first | fail)
      obtain ⟨w5, hst, hown5, hg5⟩ := store_run A2.out.drew.hm.drew (.inr a) HSX.out (by unfold maxLen; omega)
      simp only [aX2, dfV] at hst
      have P5 := aQ1 (Ap.start (kb := kb) A2.out.drew.drew hown5 hg5 hkb HLB.out)
      obtain ⟨ao, cv, hov⟩ := aQh P5.out.ord
      subst hov
      obtain ⟨⟨p0, p1, p2, p3⟩, g1, g2, g3⟩ := P5.out.cells
      obtain ⟨q0, q1⟩ := P5.out.keys
      simp only [aX2] at q0 q1
      clear hlk hown5 hg5
      go_wp2_with fail
      go_region_held3 (fun W => W.cell? ⟨hb, 0, none⟩ = some (.map (some mb)) ∧ W.cell? ⟨kb, 0, none⟩ = some (.string a.of) ∧ W.cell? ⟨kb, 1, none⟩ = some (.string a.nm)) (first | go_keep | exact ⟨h0, k0, k1⟩ | exact ⟨p0, q0, q1⟩) (first | fail)
      have hB5 := P5.out.rest.2.2.2.2
      have t1 := fun v wx => taEE v wx
      have t2 := fun v wx => taEA v wx
      have t3 := fun v wx => taAE v wx
      have t4 := fun v wx => taAA v wx
      have hel := bW9 M
      have hal := bWj M
      have hwe : IntKind.i64.wrap (((dtOf M).ents.length : Int) + 1) = ((dtOf M).ents.length : Int) + 1 := aZ2 (by omega) (by omega)
      have hwa : IntKind.i64.wrap (((dtOf M).atts.length : Int) + 1) = ((dtOf M).atts.length : Int) + 1 := aZ2 (by omega) (by omega)
      have HROW : Hid ((w5.drew.alloc (.cells #[.string a.of, .string a.nm] 191)).ownsRow B 191 2 (.slice ao M.length cv) M.length (aVw M)) := aQ1 (P5.out.ord.drew.alloc _)
      have q1a : (w5.alloc (.cells #[.string a.of, .string a.nm] 191)).cell? ⟨hb, 1, none⟩ = some (.slice ao M.length cv) := (World.cell?_of_block (a := ⟨hb, 1, none⟩) (heap_alloc_old _ _ (gLt P5.out.box))).trans p1
      clear h0 h1 h2 h3 f1 f2 f3 k0 k1 hst
      go_wp2_with fail
      go_region_law (refine aXu rfl (.tmp 37) (.tmp 39) 138 rfl B 191 i0 (.agg #[.string ⟨#[]⟩, .string ⟨#[]⟩]) 2 32 Tryz.underlying138 hi hz0 hz1 hz2 rfl (by decide) (.slice ao M.length cv) M.length (aVw M) (by simp [Act.eval]) HROW.out ⟨w5.heap.size, 0, none⟩ 1 1 [.string a.of, .string a.nm] (by simp [Act.eval]) rfl (aWs w5.drew _ _ _ w5.heap.size rfl) (by intro u hu; simp at hu; rcases hu with rfl | rfl <;> rfl) (by unfold maxLen; omega) (by omega) (by simp; omega) ?_; intro v' wa hoa hga; obtain ⟨ao', cv', hv'⟩ := aQh hoa; subst hv'; obtain ⟨⟨d0, d1, d2, d3⟩, e1, e2, e3⟩ := P5.out.cellsOf hga; replace hoa := aQ1 hoa; replace hga := aQ1 hga)
      all_goals
       simp only [Exit.then]
       rename_i aK
       refine aK _ _ ?_
       go_wp2
       refine ⟨⟨k + 1, .slice ao' (M.length + 1) cv', by omega, by go_num, ?_⟩, by simp [RowKit.intOf]; omega⟩
       rw [HFO.out]
       unfold addL
       rw [if_neg (by simp only [aX2]; rw [hhas]; simp)]
       exact P5.out.endA _ hga.out HLB.out hoa.out HNX.out HSX.out hhas
  · go_wp2
    go_end0
    refine ⟨rfl, ov', ?_⟩
    have := HA.out
    rw [List.take_of_length_le (by omega)] at this
    exact this
open Go.RowKit Lists Plain3 Plain23 Plain30 Go.Lib Ents
open Go.Maps
theorem full_any {W : World} {hb mb B : Nat} {ov : Value} {L : List Df} (h : Hm W hb mb B ov L) :
 Calls Tryz.prog 74 #[.pointer (some ⟨hb, 0, none⟩)] W fun e w' => e = .returned (.bool (fullB (dtOf L))) ∧ ∃ n, w' = W.drewN n := by
 obtain ⟨⟨h0, h1, h2, h3⟩, f1, f2, f3⟩ := h.cells
 have hel := bW9 L
 have hal := bWj L
 have hF : fullB (dtOf L) = (decide ((40 : Int) < ((dtOf L).ents.length : Int)) || decide ((40 : Int) < ((dtOf L).atts.length : Int))) := by
  unfold fullB
  apply Bool.eq_iff_iff.2
  simp
  omega
 rw [hF]
 generalize (dtOf L).ents.length = a at *
 generalize (dtOf L).atts.length = b at *
 clear h hF
 by_cases h40 : (40 : Int) < (a : Int)
 · go_enter Tryz.func74, Tryz.ntmps74
   go_wp2
   go_ret
   exact ⟨by simp [h40], 0, rfl⟩
 · go_enter Tryz.func74, Tryz.ntmps74
   go_wp2
   go_ret
   exact ⟨by rw [decide_eq_false (by omega : ¬ (40 : Int) < (a : Int)), Bool.false_or]; rfl, 0, rfl⟩
structure Do (w W : World) (ob B : Nat) (ve va : Value) (d : Dt) : Prop where
 box : W.heap[ob]? = some (.cells #[ve, va] 49)
 e : W.ownsRow B 195 2 ve d.ents.length (aQ8 d.ents)
 a : W.ownsRow B 150 5 va d.atts.length (aJp d.atts)
 res : W.heap[w.heap.size]? = some (.cells #[.slice none 0 0, .slice none 0 0] 49)
 bel : Below w.heap.size w W
 l1 : w.heap.size < ob
 l2 : ob < B
 l3 : B ≤ W.heap.size
theorem Do.below {w W W' : World} {ob B : Nat} {ve va : Value} {d : Dt} (h : Do w W ob B ve va d) (hb : Below W.heap.size W W') : Do w W' ob B ve va d := by
 have hg : W.grownBy W' none := ⟨hb.os, hb.tape, hb.output, hb.size, fun i hi _ => hb.block i hi⟩
 exact ⟨(hb.block _ (gLt h.box)).trans h.box, own_grown h.e hg, own_grown h.a hg, (hb.block _ (gLt h.res)).trans h.res, h.bel.trans (hb.mono h.bel.size), h.l1, h.l2, Nat.le_trans h.l3 hb.size⟩
theorem Do.cells {w W : World} {ob B : Nat} {ve va : Value} {d : Dt} (h : Do w W ob B ve va d) : W.cell? ⟨ob, 0, none⟩ = some ve ∧ W.cell? ⟨ob, 1, none⟩ = some va ∧ W.frozen? ⟨ob, 0, none⟩ = false ∧ W.frozen? ⟨ob, 1, none⟩ = false := by
 simp [World.cell?, World.frozen?, h.box]
theorem Do.rcells {w W : World} {ob B : Nat} {ve va : Value} {d : Dt} (h : Do w W ob B ve va d) : W.cell? ⟨w.heap.size, 0, none⟩ = some (.slice none 0 0) ∧ W.cell? ⟨w.heap.size, 1, none⟩ = some (.slice none 0 0) ∧ W.frozen? ⟨w.heap.size, 0, none⟩ = false ∧ W.frozen? ⟨w.heap.size, 1, none⟩ = false := by
 simp [World.cell?, World.frozen?, h.res]
theorem aXg {w W : World} (h : Below w.heap.size w W) {k : Nat} (hk : w.heap.size ≤ k) (j : Nat) (u : Value) : Below w.heap.size w (W.setCell ⟨k, j, none⟩ u) :=
 ⟨h.os, h.tape, h.output, by have := h.size; simpa using this, fun i hi => by rw [Below.heap_setCell W ⟨k, j, none⟩ u i (by simp only; omega)]; exact h.block i hi⟩
theorem aJf {W : World} {B : Nat} {e : TypeId} {size : Nat} {v : Value} {n : Nat} {xs : List Value} (h : W.ownsRow B e size v n xs) {k : Nat} (hk : k < B) (j : Nat) (u : Value) : (W.setCell ⟨k, j, none⟩ u).ownsRow B e size v n xs :=
 bKj h (aQa u) (fun e => by have := (h.lt k e).1; omega)
theorem Do.fin {w W : World} {ob B : Nat} {ve va : Value} {d : Dt} (h : Do w W ob B ve va d) (x y : Value) :
 ((W.setCell ⟨w.heap.size, 0, none⟩ x).setCell ⟨w.heap.size, 1, none⟩ y).ownsRow w.heap.size 195 2 ve d.ents.length (aQ8 d.ents) ∧ ((W.setCell ⟨w.heap.size, 0, none⟩ x).setCell ⟨w.heap.size, 1, none⟩ y).ownsRow w.heap.size 150 5 va d.atts.length (aJp d.atts) ∧ Below w.heap.size w ((W.setCell ⟨w.heap.size, 0, none⟩ x).setCell ⟨w.heap.size, 1, none⟩ y) := by
 have l1 := h.l1
 have l2 := h.l2
 exact ⟨bKk (aJf (aJf h.e (by omega) _ _) (by omega) _ _) (by omega), bKk (aJf (aJf h.a (by omega) _ _) (by omega) _ _) (by omega), aXg (aXg h.bel (Nat.le_refl _) _ _) (Nat.le_refl _) _ _⟩
theorem infoA5 : (Tryz.prog.info? 150).map (fun i => (i.zero, i.size, i.bytes)) = some (some (.agg #[.string ByteArray.empty, .string ByteArray.empty, .bool false, .bool false, .string ByteArray.empty]), 5, 56) := by kernel_rfl
theorem bZc (W : World) (o : Obj) : Below W.heap.size W (W.alloc o).drew := by
 have h := (Below.refl W.heap.size W).alloc (Nat.le_refl _) o
 exact ⟨h.os, h.tape, h.output, h.size, h.block⟩
theorem Do.blk {w W W' : World} {ob B : Nat} {ve va v : Value} {d : Dt} (h : Do w W ob B ve va d) {o : Obj} (hg : (W.alloc o).grownBy W' v.ownBlock) (hv : ∀ b, v.ownBlock = some b → B ≤ b) : ∀ i, i < B → W'.heap[i]? = W.heap[i]? := fun i hi => by
 have l3 := h.l3
 rw [hg.block i (by simp; omega) (fun e => by have := hv i e.symm; omega)]
 exact heap_alloc_old W o (by omega)
theorem Do.bel2 {w W W' : World} {ob B : Nat} {ve va v : Value} {d : Dt} (h : Do w W ob B ve va d) {o : Obj} (hg : (W.alloc o).grownBy W' v.ownBlock) (hv : ∀ b, v.ownBlock = some b → B ≤ b) : Below w.heap.size w W' := by
 have l1 := h.l1
 have l2 := h.l2
 exact ⟨hg.os.trans h.bel.os, hg.tape.trans h.bel.tape, hg.output.trans h.bel.output, Nat.le_trans h.bel.size (Nat.le_trans (by simp) hg.size), fun i hi => (h.blk hg hv i (by omega)).trans (h.bel.block i hi)⟩
theorem Do.appE {w W W' : World} {ob B : Nat} {ve va v' : Value} {d : Dt} {e : ByteArray × ByteArray} (h : Do w W ob B ve va d) (o : Obj) (hg : (W.alloc o).grownBy W' ve.ownBlock) (ho : W'.ownsRow B 195 2 v' (d.ents.length + 1) (aQ8 d.ents ++ [.string e.1, .string e.2])) :
 Do w (W'.setCell ⟨ob, 0, none⟩ v') ob B v' va ⟨d.ents ++ [e], d.atts⟩ := by
 have l1 := h.l1
 have l2 := h.l2
 have l3 := h.l3
 have hv : ∀ b, ve.ownBlock = some b → B ≤ b := fun b hb => (h.e.lt b hb).1
 have hbx : W'.heap[ob]? = some (.cells #[ve, va] 49) := (h.blk hg hv ob l2).trans h.box
 have hrow : W'.ownsRow B 150 5 va d.atts.length (aJp d.atts) := (h.a.alloc o).kept hg (rows_ne (h.a.alloc o) (h.e.alloc o) (by decide))
 refine ⟨?_, ?_, aJf hrow l2 _ _, ?_, aXg (h.bel2 hg hv) (by omega) _ _, l1, l2, ?_⟩
 · rw [aQ7 hbx v' (j := 0)]; rfl
 · have := aJf ho l2 0 v'
   rw [List.length_append]
   have e2 : aQ8 (d.ents ++ [e]) = aQ8 d.ents ++ [.string e.1, .string e.2] := by simp [aQ8]
   rw [e2]
   exact this
 · rw [Below.heap_setCell W' ⟨ob, 0, none⟩ v' w.heap.size (by simp only; omega), h.blk hg hv _ (by omega)]; exact h.res
 · have := hg.size
   simp at this ⊢
   omega
theorem Do.appA {w W W' : World} {ob B : Nat} {ve va v' : Value} {d : Dt} {a : At5} (h : Do w W ob B ve va d) (o : Obj) (hg : (W.alloc o).grownBy W' va.ownBlock) (ho : W'.ownsRow B 150 5 v' (d.atts.length + 1) (aJp d.atts ++ [.string a.of, .string a.nm, .bool a.words, .bool a.has, .string a.val])) :
 Do w (W'.setCell ⟨ob, 1, none⟩ v') ob B ve v' ⟨d.ents, d.atts ++ [a]⟩ := by
 have l1 := h.l1
 have l2 := h.l2
 have l3 := h.l3
 have hv : ∀ b, va.ownBlock = some b → B ≤ b := fun b hb => (h.a.lt b hb).1
 have hbx : W'.heap[ob]? = some (.cells #[ve, va] 49) := (h.blk hg hv ob l2).trans h.box
 have hrow : W'.ownsRow B 195 2 ve d.ents.length (aQ8 d.ents) := (h.e.alloc o).kept hg (rows_ne (h.e.alloc o) (h.a.alloc o) (by decide))
 refine ⟨?_, aJf hrow l2 _ _, ?_, ?_, aXg (h.bel2 hg hv) (by omega) _ _, l1, l2, ?_⟩
 · rw [aQ7 hbx v' (j := 1)]; rfl
 · have := aJf ho l2 1 v'
   rw [List.length_append, tcells_snoc]
   exact this
 · rw [Below.heap_setCell W' ⟨ob, 1, none⟩ v' w.heap.size (by simp only; omega), h.blk hg hv _ (by omega)]; exact h.res
 · have := hg.size
   simp at this ⊢
   omega
theorem look_one {W : World} {hb mb B : Nat} {ov : Value} {L : List Df} (h : Hm W hb mb B ov L) {x : Df} (hx : x ∈ L) :
 (Instr.lookup 137 (.map (some mb)) (.agg #[.string (aX2 x).1, .string (aX2 x).2]) false).run Tryz.prog W = .ok (dfV x) W := by
 have hs := h.ok.small x hx
 obtain ⟨v, ps, hrun, hR⟩ := h.map.lookup lawK Tryz.underlying137 (zeroDef W) (zd := .held .nilIface) (zp := []) rfl (aYi hs.1 hs.2)
 have hat := map_at (V := dfV) key_inj key_lit (.held .nilIface) L.length L rfl h.ok x hx
 have hf : DataW.held v = (mapD (aVk Tryz.prog) dfV L).atKey (aVk Tryz.prog (aX2 x)) (.held .nilIface) := congrArg Prod.fst (Option.some.inj hR)
 rw [hat] at hf
 injection hf with hv
 rw [hv] at hrun
 exact hrun
theorem kc_at : ∀ (L : List Df) (k : Nat) (h : k < L.length), (aVw L)[k * 2]? = some (.string (aX2 (L[k]'h)).1) ∧ (aVw L)[k * 2 + 1]? = some (.string (aX2 (L[k]'h)).2)
 | x :: L, 0, _ => ⟨rfl, rfl⟩
 | x :: L, k + 1, h => by
  have ih := kc_at L k (by simpa using h)
  have e : aVw (x :: L) = .string (aX2 x).1 :: .string (aX2 x).2 :: aVw L := rfl
  rw [e, show (k + 1) * 2 = k * 2 + 1 + 1 by omega]
  simpa using ih
theorem ord_at {W : World} {hb mb B : Nat} {oo : Option Addr} {n c : Nat} {L : List Df} (h : Hm W hb mb B (.slice oo n c) L) {k : Nat} (hk : k < L.length) :
 ∃ og, oo = some ⟨og, 0, none⟩ ∧ W.cell? ⟨og, k * 2, none⟩ = some (.string (aX2 (L[k]'hk)).1) ∧ W.cell? ⟨og, k * 2 + 1, none⟩ = some (.string (aX2 (L[k]'hk)).2) := by
 rcases aZm h.ord with ⟨_, h0⟩ | ⟨g, cap, hv⟩
 · omega
 · injection hv with h1 h2 h3
   refine ⟨g, h1, ?_, ?_⟩
   · have := h.ord.cells (g := g) (by rw [h1]; rfl) (k * 2) _ (kc_at L k hk).1
     have hadd : (⟨g, 0, none⟩ : Addr).add (k * 2) = ⟨g, k * 2, none⟩ := by unfold Addr.add; split <;> simp_all
     rw [hadd] at this
     exact this
   · have := h.ord.cells (g := g) (by rw [h1]; rfl) (k * 2 + 1) _ (kc_at L k hk).2
     simpa [Addr.add] using this
theorem dt_take {L : List Df} {k : Nat} (hk : k < L.length) : dtOf (L.take (k + 1)) = match L[k]'hk with | .inl e => ⟨(dtOf (L.take k)).ents ++ [e], (dtOf (L.take k)).atts⟩ | .inr a => ⟨(dtOf (L.take k)).ents, (dtOf (L.take k)).atts ++ [a]⟩ := by
 rw [List.take_succ_eq_append_getElem hk]
 cases L[k]'hk with
 | inl e => unfold dtOf; simp [List.filterMap_append, bJm, bJx]
 | inr a => unfold dtOf; simp [List.filterMap_append, bJm, bJx]
theorem dtd_any {w : World} {hb mb B0 : Nat} {ov : Value} {L : List Df} (h : Hm w hb mb B0 ov L) (hL : L.length ≤ 2097152) :
 Calls Tryz.prog 75 #[.pointer (some ⟨hb, 0, none⟩)] w fun e w' => ∃ ae ce aa ca, e = .returned (.agg #[.slice ae (dtOf L).ents.length ce, .slice aa (dtOf L).atts.length ca]) ∧ w'.ownsRow w.heap.size 195 2 (.slice ae (dtOf L).ents.length ce) (dtOf L).ents.length (aQ8 (dtOf L).ents) ∧ w'.ownsRow w.heap.size 150 5 (.slice aa (dtOf L).atts.length ca) (dtOf L).atts.length (aJp (dtOf L).atts) ∧ Below w.heap.size w w' := by
 obtain ⟨⟨h0, h1, h2, h3⟩, f1, f2, f3⟩ := h.cells
 obtain ⟨oo, oc, hov⟩ := aQh h.ord
 subst hov
 have H := aQ1 h
 have D0 : Hid (Do w ((w.alloc (.cells #[.slice none 0 0, .slice none 0 0] 49)).alloc (.cells #[.slice none 0 0, .slice none 0 0] 49)) (w.heap.size + 1) (w.heap.size + 2) (.slice none 0 0) (.slice none 0 0) ⟨[], []⟩) :=
  aQ1 ⟨by have := heap_alloc_new (w.alloc (.cells #[.slice none 0 0, .slice none 0 0] 49)) (.cells #[.slice none 0 0, .slice none 0 0] 49); simpa using this, World.ownsRow_nil _ _ _ _, World.ownsRow_nil _ _ _ _, by rw [heap_alloc_old _ _ (by simp)]; exact heap_alloc_new _ _, (bAl).alloc (by simp) _, by omega, by omega, by simp⟩
 have H1 := aQ1 (h.below (((Below.refl _ _).alloc (Nat.le_refl _) (.cells #[.slice none 0 0, .slice none 0 0] 49)).alloc (by simp) (.cells #[.slice none 0 0, .slice none 0 0] 49)))
 clear h h0 h1 h2 h3 f1 f2 f3
 obtain ⟨⟨h0, h1, h2, h3⟩, f1, f2, f3⟩ := H1.out.cells
 go_enter Tryz.func75, Tryz.ntmps75
 go_wp2_with fail
 clear h0 h1 h2 h3 f1 f2 f3 H1
 go_loopw [14] (fun iv wr => ∃ (k : Nat) (ve va : Value), k ≤ L.length ∧ iv = .int .i64 k ∧ Do w wr (w.heap.size + 1) (w.heap.size + 2) ve va (dtOf (L.take k))) (fun iv _ => L.length - (RowKit.intOf iv).toNat)
 case atStart => exact ⟨0, _, _, Nat.zero_le _, rfl, D0.out⟩
 case round =>
  obtain ⟨k, ve, va, hk, rfl, hD⟩ := hrel
  have HD := aQ1 hD
  have HM := aQ1 (H.out.below hD.bel)
  clear hD D0
  by_cases hlt : k < L.length
  · obtain ⟨og, hoo, x0, x1⟩ := ord_at HM.out hlt
    subst hoo
    have hmem : L[k]'hlt ∈ L := List.getElem_mem hlt
    have hdt := dt_take hlt
    obtain ⟨x, hx⟩ : ∃ x, L[k]'hlt = x := ⟨_, rfl⟩
    rw [hx] at x0 x1 hmem hdt
    have HMEM := aQ1 hmem
    have HDT := aQ1 hdt
    clear hx hmem hdt
    go_wp2_with fail
    have D2 := aQ1 (HD.out.below ((Below.refl _ _).alloc (Nat.le_refl _) (.cells #[.string (aX2 x).1, .string (aX2 x).2] 191)))
    have M2 := aQ1 (HM.out.below ((Below.refl _ _).alloc (Nat.le_refl _) (.cells #[.string (aX2 x).1, .string (aX2 x).2] 191)))
    generalize hW2 : wr.alloc (.cells #[.string (aX2 x).1, .string (aX2 x).2] 191) = W2 at D2 M2 ⊢
    have hkb : W2.heap[wr.heap.size]? = some (.cells #[.string (aX2 x).1, .string (aX2 x).2] 191) := by rw [← hW2]; exact heap_alloc_new _ _
    generalize wr.heap.size = kb at hkb ⊢
    clear hW2 x0 x1 HD HM
    have KB := aQ1 hkb
    have k0 : W2.cell? ⟨kb, 0, none⟩ = some (.string (aX2 x).1) := by simp [World.cell?, hkb]
    have k1 : W2.cell? ⟨kb, 1, none⟩ = some (.string (aX2 x).2) := by simp [World.cell?, hkb]
    have h0 := M2.out.cells.1.1
    clear hkb
    cases x with
    | inl e =>
     simp only [aX2] at k0 k1
     have hlk := fun (W : World) (hm : Hm W hb mb B0 (.slice (some ⟨og, 0, none⟩) L.length oc) L) => look_one hm HMEM.out
     simp only [aX2, dfV] at hlk
     have t1 := fun v wx => taEE v wx
     have t2 := fun v wx => taEA v wx
     have hl1 := hlk _ M2.out.drew
     have hl2 := hlk _ (M2.out.below ((Below.refl _ _).alloc (Nat.le_refl _) (.cells #[.string ⟨#[]⟩, .string ⟨#[]⟩] 197))).drew
     have hl3 := hlk _ (M2.out.below ((Below.refl _ _).alloc (Nat.le_refl _) (.cells #[.string e.1, .string e.2] 197))).drew
     go_region_held3 (fun W => W.cell? ⟨hb, 0, none⟩ = some (.map (some mb)) ∧ W.cell? ⟨kb, 0, none⟩ = some (.string ⟨#[]⟩) ∧ W.cell? ⟨kb, 1, none⟩ = some (.string e.1) ∧ (Instr.lookup 137 (.map (some mb)) (.agg #[.string ⟨#[]⟩, .string e.1]) false).run Tryz.prog W = .ok (.iface 197 (.agg #[.string e.1, .string e.2])) W) (first | go_keep | ((try dsimp only); (repeat' apply And.intro) <;> (first | go_keep | exact hl1 | exact hl2 | exact hl3))) (first | fail)
     all_goals
      have D3 := aQ1 (D2.out.below (bZc W2 (.cells #[.string e.1, .string e.2] 197)))
      generalize hW3 : (W2.alloc (.cells #[.string e.1, .string e.2] 197)).drew = W3 at D3 ⊢
      have hkb : W3.heap[kb]? = some (.cells #[.string ⟨#[]⟩, .string e.1] 191) := by rw [← hW3]; exact (heap_alloc_old W2 _ (gLt KB.out)).trans KB.out
      have heb : W3.heap[W2.heap.size]? = some (.cells #[.string e.1, .string e.2] 197) := by rw [← hW3]; exact heap_alloc_new W2 _
      generalize W2.heap.size = eb at heb ⊢
      have b0 : W3.cell? ⟨eb, 0, none⟩ = some (.string e.1) := by simp [World.cell?, heb]
      have b1 : W3.cell? ⟨eb, 1, none⟩ = some (.string e.2) := by simp [World.cell?, heb]
      obtain ⟨ae, ce, hve⟩ := aQh D3.out.e
      subst hve
      obtain ⟨z0, z1, y0, y1⟩ := D3.out.cells
      have KB3 := aQ1 hkb
      have hB3 := D3.out.l3
      have hel := bW9 (L.take k)
      rw [List.length_take_of_le hk] at hel
      obtain ⟨i0, hi, hz0, hz1, hz2⟩ := info_parts infoE
      clear hW3 hkb heb hl1 hl2 hl3 h0 k0 k1
      go_wp2_with (at_builtin; refine wpList_append_own _ rfl _ _ 46 rfl (w.heap.size + 2) 195 i0 (.agg #[.string ByteArray.empty, .string ByteArray.empty]) 2 32 Tryz.underlying46 hi hz0 hz1 hz2 rfl (by decide) _ _ _ rfl (D3.out.e.alloc _) ⟨W3.heap.size, 0, none⟩ 1 1 [.string e.1, .string e.2] rfl rfl (aWs W3 _ _ _ W3.heap.size rfl) (by intro u hu; simp at hu; rcases hu with rfl | rfl <;> rfl) (by unfold maxLen; omega) (by omega) (by simp; omega) ?_)
      intro v' w4 hown' hgrow _
      obtain ⟨ae', ce', hv'⟩ := aQh hown'
      subst hv'
      have D5 := aQ1 (D3.out.appE (e := e) _ hgrow hown')
      have hb4 : w4.heap[w.heap.size + 1]? = some (.cells #[.slice ae (dtOf (L.take k)).ents.length ce, va] 49) := (D3.out.blk hgrow (fun b hb => (D3.out.e.lt b hb).1) _ (by omega)).trans D3.out.box
      have z4 : w4.cell? ⟨w.heap.size + 1, 0, none⟩ = some (.slice ae (dtOf (L.take k)).ents.length ce) := by simp [World.cell?, hb4]
      have y4 : w4.frozen? ⟨w.heap.size + 1, 0, none⟩ = false := by simp [World.frozen?, hb4]
      have hk4 : (w4.setCell ⟨w.heap.size + 1, 0, none⟩ (.slice ae' ((dtOf (L.take k)).ents.length + 1) ce')).heap[kb]? = some (.cells #[.string ⟨#[]⟩, .string e.1] 191) := by
       have hne : kb ≠ w.heap.size + 1 := fun hc => by have := KB3.out; rw [hc, D3.out.box] at this; injection (Option.some.inj this) with _ h2 _; exact absurd h2 (by decide)
       rw [Below.heap_setCell w4 _ _ kb (by simpa using hne)]
       have hlt3 := (gLt KB3.out)
       rw [hgrow.block kb (by simp; omega) (fun hc => row_ne D3.out.e KB3.out (by decide) hc.symm)]
       exact (heap_alloc_old W3 _ hlt3).trans KB3.out
      have M5 := aQ1 (H.out.below D5.out.bel)
      clear hown' hgrow hb4 z0 z1 y0 y1 b0 b1
      go_wp2_with fail
      generalize w4.setCell ⟨w.heap.size + 1, 0, none⟩ (.slice ae' ((dtOf (L.take k)).ents.length + 1) ce') = W5 at D5 M5 hk4 ⊢
      clear z4 y4
      have h0 := M5.out.cells.1.1
      have k0 : W5.cell? ⟨kb, 0, none⟩ = some (.string ⟨#[]⟩) := by simp [World.cell?, hk4]
      have k1 : W5.cell? ⟨kb, 1, none⟩ = some (.string e.1) := by simp [World.cell?, hk4]
      have hl1 := hlk _ M5.out.drew
      have hl2 := hlk _ (M5.out.below ((Below.refl _ _).alloc (Nat.le_refl _) (.cells #[.string ⟨#[]⟩, .string ⟨#[]⟩, .bool false, .bool false, .string ⟨#[]⟩] 199))).drew
      go_region_held3 (fun W => W.cell? ⟨hb, 0, none⟩ = some (.map (some mb)) ∧ W.cell? ⟨kb, 0, none⟩ = some (.string ⟨#[]⟩) ∧ W.cell? ⟨kb, 1, none⟩ = some (.string e.1) ∧ (Instr.lookup 137 (.map (some mb)) (.agg #[.string ⟨#[]⟩, .string e.1]) false).run Tryz.prog W = .ok (.iface 197 (.agg #[.string e.1, .string e.2])) W) (first | go_keep | ((try dsimp only); (repeat' apply And.intro) <;> (first | go_keep | exact hl1 | exact hl2))) (first | fail)
      all_goals
       go_wp2
       refine ⟨⟨k + 1, .slice ae' ((dtOf (L.take k)).ents.length + 1) ce', va, by omega, by go_num, ?_⟩, by simp [RowKit.intOf]; omega⟩
       rw [HDT.out]
       exact D5.out.below (bZc W5 _)
    | inr a =>
     simp only [aX2] at k0 k1
     have hlk := fun (W : World) (hm : Hm W hb mb B0 (.slice (some ⟨og, 0, none⟩) L.length oc) L) => look_one hm HMEM.out
     simp only [aX2, dfV] at hlk
     have t3 := fun v wx => taAE v wx
     have t4 := fun v wx => taAA v wx
     have hl1 := hlk _ M2.out.drew
     have hl2 := hlk _ (M2.out.below ((Below.refl _ _).alloc (Nat.le_refl _) (.cells #[.string ⟨#[]⟩, .string ⟨#[]⟩] 197))).drew
     go_region_held3 (fun W => W.cell? ⟨hb, 0, none⟩ = some (.map (some mb)) ∧ W.cell? ⟨kb, 0, none⟩ = some (.string a.of) ∧ W.cell? ⟨kb, 1, none⟩ = some (.string a.nm) ∧ (Instr.lookup 137 (.map (some mb)) (.agg #[.string a.of, .string a.nm]) false).run Tryz.prog W = .ok (.iface 199 (.agg #[.string a.of, .string a.nm, .bool a.words, .bool a.has, .string a.val])) W) (first | go_keep | ((try dsimp only); (repeat' apply And.intro) <;> (first | go_keep | exact hl1 | exact hl2))) (first | fail)
     all_goals
      have D3 := aQ1 (D2.out.below (bZc W2 (.cells #[.string ⟨#[]⟩, .string ⟨#[]⟩] 197)))
      go_wp2_with fail
      generalize hW3 : (W2.alloc (.cells #[.string ⟨#[]⟩, .string ⟨#[]⟩] 197)).drew = W3 at D3 ⊢
      have hkb : W3.heap[kb]? = some (.cells #[.string a.of, .string a.nm] 191) := by rw [← hW3]; exact (heap_alloc_old W2 _ (gLt KB.out)).trans KB.out
      have M3 := aQ1 (H.out.below D3.out.bel)
      have KB3 := aQ1 hkb
      clear hW3 hl1 hl2 h0 k0 k1
      have h0 := M3.out.cells.1.1
      have k0 : W3.cell? ⟨kb, 0, none⟩ = some (.string a.of) := by simp [World.cell?, hkb]
      have k1 : W3.cell? ⟨kb, 1, none⟩ = some (.string a.nm) := by simp [World.cell?, hkb]
      have hl1 := hlk _ M3.out.drew
      have hl2 := hlk _ (M3.out.below ((Below.refl _ _).alloc (Nat.le_refl _) (.cells #[.string ⟨#[]⟩, .string ⟨#[]⟩, .bool false, .bool false, .string ⟨#[]⟩] 199))).drew
      have hl3 := hlk _ (M3.out.below ((Below.refl _ _).alloc (Nat.le_refl _) (.cells #[.string a.of, .string a.nm, .bool a.words, .bool a.has, .string a.val] 199))).drew
      clear hkb
      go_region_held3 (fun W => W.cell? ⟨hb, 0, none⟩ = some (.map (some mb)) ∧ W.cell? ⟨kb, 0, none⟩ = some (.string a.of) ∧ W.cell? ⟨kb, 1, none⟩ = some (.string a.nm) ∧ (Instr.lookup 137 (.map (some mb)) (.agg #[.string a.of, .string a.nm]) false).run Tryz.prog W = .ok (.iface 199 (.agg #[.string a.of, .string a.nm, .bool a.words, .bool a.has, .string a.val])) W) (first | go_keep | ((try dsimp only); (repeat' apply And.intro) <;> (first | go_keep | exact hl1 | exact hl2 | exact hl3))) (first | fail)
      all_goals
       have D4 := aQ1 (D3.out.below (bZc W3 (.cells #[.string a.of, .string a.nm, .bool a.words, .bool a.has, .string a.val] 199)))
       generalize hW4 : (W3.alloc (.cells #[.string a.of, .string a.nm, .bool a.words, .bool a.has, .string a.val] 199)).drew = W4 at D4 ⊢
       have heb : W4.heap[W3.heap.size]? = some (.cells #[.string a.of, .string a.nm, .bool a.words, .bool a.has, .string a.val] 199) := by rw [← hW4]; exact heap_alloc_new W3 _
       generalize W3.heap.size = eb at heb ⊢
       have b0 : W4.cell? ⟨eb, 0, none⟩ = some (.string a.of) := by simp [World.cell?, heb]
       have b1 : W4.cell? ⟨eb, 1, none⟩ = some (.string a.nm) := by simp [World.cell?, heb]
       have b2 : W4.cell? ⟨eb, 2, none⟩ = some (.bool a.words) := by simp [World.cell?, heb]
       have b3 : W4.cell? ⟨eb, 3, none⟩ = some (.bool a.has) := by simp [World.cell?, heb]
       have b4 : W4.cell? ⟨eb, 4, none⟩ = some (.string a.val) := by simp [World.cell?, heb]
       obtain ⟨aa, ca, hva⟩ := aQh D4.out.a
       subst hva
       obtain ⟨z0, z1, y0, y1⟩ := D4.out.cells
       have hB4 := D4.out.l3
       have hal := bWj (L.take k)
       rw [List.length_take_of_le hk] at hal
       obtain ⟨i0, hi, hz0, hz1, hz2⟩ := info_parts infoA5
       clear hW4 heb hl1 hl2 hl3 h0 k0 k1
       go_wp2_with (at_builtin; refine wpList_append_own _ rfl _ _ 47 rfl (w.heap.size + 2) 150 i0 (.agg #[.string ByteArray.empty, .string ByteArray.empty, .bool false, .bool false, .string ByteArray.empty]) 5 56 Tryz.underlying47 hi hz0 hz1 hz2 rfl (by decide) _ _ _ rfl (D4.out.a.alloc _) ⟨W4.heap.size, 0, none⟩ 1 1 [.string a.of, .string a.nm, .bool a.words, .bool a.has, .string a.val] rfl rfl (bWi W4 _ _ _ _ _ _ W4.heap.size rfl) (by intro u hu; simp at hu; rcases hu with rfl | rfl | rfl | rfl | rfl <;> rfl) (by unfold maxLen; omega) (by omega) (by simp; omega) ?_)
       intro v' w6 hown' hgrow _
       obtain ⟨aa', ca', hv'⟩ := aQh hown'
       subst hv'
       have D6 := aQ1 (D4.out.appA (a := a) _ hgrow hown')
       have hb6 : w6.heap[w.heap.size + 1]? = some (.cells #[ve, .slice aa (dtOf (L.take k)).atts.length ca] 49) := (D4.out.blk hgrow (fun b hb => (D4.out.a.lt b hb).1) _ (by omega)).trans D4.out.box
       have z6 : w6.cell? ⟨w.heap.size + 1, 1, none⟩ = some (.slice aa (dtOf (L.take k)).atts.length ca) := by simp [World.cell?, hb6]
       have y6 : w6.frozen? ⟨w.heap.size + 1, 1, none⟩ = false := by simp [World.frozen?, hb6]
       clear hown' hgrow hb6 z0 z1 y0 y1 b0 b1 b2 b3 b4
       go_wp2
       refine ⟨⟨k + 1, ve, .slice aa' ((dtOf (L.take k)).atts.length + 1) ca', by omega, by go_num, ?_⟩, by simp [RowKit.intOf]; omega⟩
       rw [HDT.out]
       exact D6.out
  · obtain ⟨ae, ce, hve⟩ := aQh HD.out.e
    obtain ⟨aa, ca, hva⟩ := aQh HD.out.a
    subst hve hva
    obtain ⟨z0, z1, _, _⟩ := HD.out.cells
    obtain ⟨r0, r1, s0, s1⟩ := HD.out.rcells
    have htk : L.take k = L := List.take_of_length_le (by omega)
    have HTK := aQ1 htk
    clear htk
    go_wp2
    refine bodyPost_ret (v := .agg #[.slice ae (dtOf (L.take k)).ents.length ce, .slice aa (dtOf (L.take k)).atts.length ca]) (by simp [results, Tryz.results75, go_sem, r0, r1]) rfl ?_
    have hfin := HD.out.fin (.slice ae (dtOf (L.take k)).ents.length ce) (.slice aa (dtOf (L.take k)).atts.length ca)
    rw [HTK.out] at hfin ⊢
    exact ⟨ae, ce, aa, ca, rfl, hfin⟩
end Go.Proofs.YtdblemolaojebaaGreatDoor
