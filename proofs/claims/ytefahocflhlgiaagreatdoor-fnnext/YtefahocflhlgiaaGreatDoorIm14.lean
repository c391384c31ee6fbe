/- The program's scanner: a start, read. -/
import Derived.Test.YtefahocflhlgiaaGreatDoorIm13
import Derived.OwnWalk
import Derived.Deep.DeepAppendWide
namespace Go.Proofs.YtefahocflhlgiaaGreatDoor
open Go.RowKit Plain1 Plain2 Strs Strs2 Lists Plain3 Plain5 Plain6 Plain9 Plain10 Plain11 Plain12 Plain13 Plain14 Plain15

/-- What holds at the labels of startMark. -/
def LabS (w : World) (g : Nat) (s : ByteArray) (m : Int) (nm : ByteArray) (R : Tk) (l : Nat) (a : Act) (W : World) : Prop :=
  Sh g w.heap.size (w.heap.size + 1) (w.heap.size + 2) a ∧ ∃ q acc v an av, It w W g s q m (w.heap.size + 1) 0 nm v acc (w.heap.size + 2) an av ∧ q ≤ s.size ∧
    ((l = 0 ∧ VB s q ∧ acc.length ≤ q ∧ ∃ f, tagGo s nm f q acc = R ∧ s.size + 1 ≤ q + f) ∨ (l = 1 ∧ tagE s nm q acc = R) ∨ (l = 2 ∧ VB s q ∧ acc.length ≤ q ∧ ∃ f, tagN s nm f q acc = R ∧ s.size + 1 ≤ q + f) ∨
     (l = 3 ∧ VB s q ∧ acc.length ≤ q ∧ ∃ f, tagS s nm f q an acc = R ∧ s.size + 1 ≤ q + f) ∨ (l = 4 ∧ VB s q ∧ acc.length ≤ q ∧ ∃ f, tagV s nm f q an acc = R ∧ s.size + 1 ≤ q + f))
def rankS (l : Nat) : Nat := if l = 0 then 4 else if l = 2 then 3 else if l = 3 then 2 else if l = 4 then 1 else 0
def measS (s : ByteArray) (g : Nat) (l : Nat) (_a : Act) (W : World) : Nat := 5 * (s.size + 1 - imPos W g) + rankS l

theorem valGo_012 (s : ByteArray) (q : Int) : ∀ (f i : Nat), (valGo s q f i).1 = 0 ∨ (valGo s q f i).1 = 1 ∨ (valGo s q f i).1 = 2
  | 0, i => .inr (.inl rfl)
  | f + 1, i => by
    unfold valGo
    split
    · split
      · exact .inr (.inr rfl)
      · split
        · exact .inl rfl
        · exact valGo_012 s q f (i + 1)
    · exact .inr (.inl rfl)
theorem val_012 (s : ByteArray) (p : Nat) : valF s p = 0 ∨ valF s p = 1 ∨ valF s p = 2 := by
  unfold valF
  split
  · exact .inr (.inl rfl)
  · split
    · exact valGo_012 s _ _ _
    · exact .inr (.inr rfl)

set_option maxRecDepth 100000 in
set_option maxHeartbeats 8000000 in
theorem imStart_any {w : World} {g : Nat} {s : ByteArray} {p : Nat} {m : Int} (h : ImBox w g s p) (he : Env w m) (hF : Far g) (hv0 : VB s 0) (hv : VB s p) (hs : s.size ≤ 1048576) (hp : p ≤ s.size) :
    Calls Tryz.prog 57 #[.pointer (some ⟨g, 0, none⟩)] w fun e w' => TtSays w g s (tagZ s p) e w' := by
  obtain ⟨R, hR⟩ : ∃ R, tagZ s p = R := ⟨_, rfl⟩
  rw [hR]
  have HR := mkHidI1 hR
  clear hR
  obtain ⟨i0, hi0, hz0, hz1, hz2⟩ := info_parts infoAttr
  have F0 := mkHidI1 (Ir.start h he hF)
  have F1 : Hid (Ik w ((w.alloc zTok).alloc zTok) g s p m (w.heap.size + 1) 0 ByteArray.empty ByteArray.empty (.slice none 0 0)) := by
    have h1 := F0.out.new 0 ByteArray.empty ByteArray.empty (.slice none 0 0)
    rw [show (w.alloc zTok).heap.size = w.heap.size + 1 by simp] at h1
    exact mkHidI1 h1
  have F2 : Hid (It w (((w.alloc zTok).alloc zTok).alloc (.cells #[.string ByteArray.empty, .string ByteArray.empty] 109)) g s p m (w.heap.size + 1) 0 ByteArray.empty (.slice none 0 0) [] (w.heap.size + 2) ByteArray.empty ByteArray.empty) := by
    refine mkHidI1 ⟨F1.out.step (im_alloc F1.out.ir.sc _) (gallocI _ _ _), World.ownsRow_nil _ _ _ _, ?_, by omega, far_new he (by omega), far_new he (by omega), he⟩
    unfold AtBox
    have := heap_alloc_new ((w.alloc zTok).alloc zTok) (.cells #[.string ByteArray.empty, .string ByteArray.empty] 109)
    rw [show ((w.alloc zTok).alloc zTok).heap.size = w.heap.size + 2 by simp] at this
    exact this
  have hnm := imName_any F2.out.ik.ir.sc F2.out.ik.ir.env.tabs hv hs hp
  clear h he hF F0 F1
  unfold zTok at hnm
  go_enter Tryz.func57, Tryz.ntmps57
  go_wp2
  refine scope_labels (LabS w g s m (nmT s p) R) (measS s g) ?_ ?_
  · go_wp2_with fail
    refine hnm.mono ?_
    rintro e w1 ⟨t, q, rfl, hb1, hq, hT, hg1⟩
    have F3 := mkHidI1 (F2.out.step hb1 hg1)
    clear hnm hb1 hg1 F2
    obtain ⟨k0, k1, k2, k3, kf0, kf1, kf2, kf3⟩ := tkcells F3.out.ik.box
    obtain ⟨r0, r1, r2, r3, s0, s1, s2, s3⟩ := tkcells (F3.out.name t).ik.ir.res
    by_cases hf : nmF s p = 0
    · obtain ⟨ht, hq'⟩ := hT hf
      subst ht
      have hgo : tagGo s (nmT s p) (s.size + 1) q [] = R := by rw [← HR.out, hq']; unfold tagZ; rw [if_neg (by omega)]
      have hvb : VB s q := by rw [hq']; exact nm_VB hv
      simp only [hf, errV0]
      clear hT hf hq'
      obtain ⟨f, hfd⟩ : ∃ f, s.size + 1 = f := ⟨_, rfl⟩
      rw [hfd] at hgo
      have hfu : s.size + 1 ≤ q + f := by omega
      clear hfd
      obtain ⟨acc, hacd⟩ : ∃ acc : List (ByteArray × ByteArray), [] = acc := ⟨_, rfl⟩
      have hacc : acc.length ≤ q := by rw [← hacd]; simp
      have FF := mkHidI1 (F3.out.name (nmT s p))
      rw [hacd] at FF hgo
      clear F3 hacd
      go_wp2_with fail
      go_step3
      obtain ⟨f', rfl⟩ : ∃ f', f = f' + 1 := ⟨f - 1, by omega⟩
      have hwh := imWhite_any FF.out.ik.ir.sc hs hq
      have hr := whiteZ_le (s := s) hq
      have hge := whiteZ_ge s q
      have hvr := whiteZ_VB hv0 hvb
      obtain ⟨r, hrd⟩ : ∃ r, whiteZ s q = r := ⟨_, rfl⟩
      rw [hrd] at hwh hr hge hvr
      have HGO := mkHidI1 hgo
      have HRD := mkHidI1 hrd
      clear hgo hrd
      by_cases hpt : q < r
      · rw [decide_eq_true hpt] at hwh
        go_wp2_with fail
        refine hwh.mono ?_
        rintro e w2 ⟨rfl, hb2, hg2⟩
        have F3 := mkHidI1 (FF.out.step hb2 hg2)
        clear hwh hb2 hg2 FF
        have ha := ahead_any (sg := ⟨#[47]⟩) F3.out.ik.ir.sc hr w2 rfl
        cases h47 : hasAt s r [47] with
        | true =>
          have hR1 : tagE s (nmT s p) r acc = R := by rw [← HGO.out, ← HRD.out]; exact (tag_end (.inr (.inl (by rw [HRD.out]; exact h47)))).symm
          rw [show hasAt s r (⟨#[47]⟩ : ByteArray).data.toList = true from h47] at ha
          go_wp2_with fail
          refine ha.mono ?_
          rintro e w3 ⟨rfl, n, hww⟩
          have F4 := mkHidI1 (F3.out.step (W' := w3) (by rw [hww]; exact F3.out.ik.ir.sc) (by rw [hww]; exact im_gdrew _ n _))
          clear ha hww F3 HGO HRD h47
          go_wp2
          go_step3
          exact ⟨sh_of _ rfl rfl rfl rfl rfl, r, acc, _, _, _, F4.out, hr, (.inr (.inl ⟨rfl, hR1⟩))⟩
        | false =>
          rw [show hasAt s r (⟨#[47]⟩ : ByteArray).data.toList = false from h47] at ha
          go_wp2_with fail
          refine ha.mono ?_
          rintro e w3 ⟨rfl, n, hww⟩
          have F4 := mkHidI1 (F3.out.step (W' := w3) (by rw [hww]; exact F3.out.ik.ir.sc) (by rw [hww]; exact im_gdrew _ n _))
          clear ha hww F3
          have ha := ahead_any (sg := ⟨#[62]⟩) F4.out.ik.ir.sc hr w3 rfl
          cases h62 : hasAt s r [62] with
          | true =>
            have hR1 : tagE s (nmT s p) r acc = R := by rw [← HGO.out, ← HRD.out]; exact (tag_end (.inr (.inr (by rw [HRD.out]; exact h62)))).symm
            rw [show hasAt s r (⟨#[62]⟩ : ByteArray).data.toList = true from h62] at ha
            go_wp2_with fail
            refine ha.mono ?_
            rintro e w4 ⟨rfl, n, hww⟩
            have F5 := mkHidI1 (F4.out.step (W' := w4) (by rw [hww]; exact F4.out.ik.ir.sc) (by rw [hww]; exact im_gdrew _ n _))
            clear ha hww F4 HGO HRD h47 h62
            go_wp2
            go_step3
            exact ⟨sh_of _ rfl rfl rfl rfl rfl, r, acc, _, _, _, F5.out, hr, (.inr (.inl ⟨rfl, hR1⟩))⟩
          | false =>
            have hR1 : tagN s (nmT s p) f' r acc = R := by rw [← HGO.out, ← HRD.out]; exact (tag_name (by rw [HRD.out]; exact hpt) (by rw [HRD.out]; exact h47) (by rw [HRD.out]; exact h62)).symm
            rw [show hasAt s r (⟨#[62]⟩ : ByteArray).data.toList = false from h62] at ha
            go_wp2_with fail
            refine ha.mono ?_
            rintro e w4 ⟨rfl, n, hww⟩
            have F5 := mkHidI1 (F4.out.step (W' := w4) (by rw [hww]; exact F4.out.ik.ir.sc) (by rw [hww]; exact im_gdrew _ n _))
            clear ha hww F4 HGO HRD h47 h62
            go_wp2
            go_step3
            exact ⟨sh_of _ rfl rfl rfl rfl rfl, r, acc, _, _, _, F5.out, hr, (.inr (.inr (.inl ⟨rfl, hvr, by omega, f', hR1, by omega⟩)))⟩
      · have hR1 : tagE s (nmT s p) r acc = R := by rw [← HGO.out, ← HRD.out]; exact (tag_end (.inl (by rw [HRD.out]; omega))).symm
        rw [decide_eq_false hpt] at hwh
        go_wp2_with fail
        refine hwh.mono ?_
        rintro e w2 ⟨rfl, hb2, hg2⟩
        have F3 := mkHidI1 (FF.out.step hb2 hg2)
        clear hwh hb2 hg2 FF HGO HRD
        go_wp2
        go_step3
        exact ⟨sh_of _ rfl rfl rfl rfl rfl, r, acc, _, _, _, F3.out, hr, (.inr (.inl ⟨rfl, hR1⟩))⟩
    · have hRf : failT (nmF s p) = R := by rw [← HR.out]; unfold tagZ; rw [if_pos hf]
      rcases nmF_012 s p with h0 | h0 | h0
      · exact absurd h0 hf
      all_goals
        rw [h0] at hRf
        have HRF := mkHidI1 hRf
        have F4 := mkHidI1 (F3.out.name t)
        simp only [h0, errV1, errV2]
        clear hT hRf hf h0 F3
        go_wp2
        refine bodyPost_ret (v := .tuple #[.agg #[.int .i64 0, .string ⟨#[]⟩, .string ⟨#[]⟩, .slice none 0 0], _]) (by simp [results, Tryz.results57, go_sem, r0, r1, r2, r3]; rfl) rfl ?_
        rw [← HRF.out]
        exact F4.out.ik.ir.fails (by omega) hq 0 ByteArray.empty ByteArray.empty (.slice none 0 0)
  · rintro l a' W ⟨⟨u, rfl⟩, q, acc, v, an, av, hIt, hq, hcase⟩
    have FF := mkHidI1 hIt
    have HMU := mkHidI1 (imPos_of hIt.ik.ir.sc)
    clear hIt F2 hnm
    rcases hcase with ⟨rfl, hvb, hacc, f, hgo, hfu⟩ | ⟨rfl, hgo⟩ | ⟨rfl, hvb, hacc, f, hgo, hfu⟩ | ⟨rfl, hvb, hacc, f, hgo, hfu⟩ | ⟨rfl, hvb, hacc, f, hgo, hfu⟩
    · refine ⟨_, rfl, ?_⟩
      obtain ⟨f', rfl⟩ : ∃ f', f = f' + 1 := ⟨f - 1, by omega⟩
      have hwh := imWhite_any FF.out.ik.ir.sc hs hq
      have hr := whiteZ_le (s := s) hq
      have hge := whiteZ_ge s q
      have hvr := whiteZ_VB hv0 hvb
      obtain ⟨r, hrd⟩ : ∃ r, whiteZ s q = r := ⟨_, rfl⟩
      rw [hrd] at hwh hr hge hvr
      have HGO := mkHidI1 hgo
      have HRD := mkHidI1 hrd
      clear hgo hrd
      by_cases hpt : q < r
      · rw [decide_eq_true hpt] at hwh
        go_wp2_with fail
        refine hwh.mono ?_
        rintro e w2 ⟨rfl, hb2, hg2⟩
        have F3 := mkHidI1 (FF.out.step hb2 hg2)
        clear hwh hb2 hg2 FF
        have ha := ahead_any (sg := ⟨#[47]⟩) F3.out.ik.ir.sc hr w2 rfl
        cases h47 : hasAt s r [47] with
        | true =>
          have hR1 : tagE s (nmT s p) r acc = R := by rw [← HGO.out, ← HRD.out]; exact (tag_end (.inr (.inl (by rw [HRD.out]; exact h47)))).symm
          rw [show hasAt s r (⟨#[47]⟩ : ByteArray).data.toList = true from h47] at ha
          go_wp2_with fail
          refine ha.mono ?_
          rintro e w3 ⟨rfl, n, hww⟩
          have F4 := mkHidI1 (F3.out.step (W' := w3) (by rw [hww]; exact F3.out.ik.ir.sc) (by rw [hww]; exact im_gdrew _ n _))
          clear ha hww F3 HGO HRD h47
          go_wp2
          go_step3
          exact ⟨⟨sh_of _ rfl rfl rfl rfl rfl, r, acc, v, an, av, F4.out, hr, (.inr (.inl ⟨rfl, hR1⟩))⟩, by unfold measS; rw [imPos_of F4.out.ik.ir.sc, HMU.out, show rankS 1 = 0 from rfl, show rankS 0 = 4 from rfl]; omega⟩
        | false =>
          rw [show hasAt s r (⟨#[47]⟩ : ByteArray).data.toList = false from h47] at ha
          go_wp2_with fail
          refine ha.mono ?_
          rintro e w3 ⟨rfl, n, hww⟩
          have F4 := mkHidI1 (F3.out.step (W' := w3) (by rw [hww]; exact F3.out.ik.ir.sc) (by rw [hww]; exact im_gdrew _ n _))
          clear ha hww F3
          have ha := ahead_any (sg := ⟨#[62]⟩) F4.out.ik.ir.sc hr w3 rfl
          cases h62 : hasAt s r [62] with
          | true =>
            have hR1 : tagE s (nmT s p) r acc = R := by rw [← HGO.out, ← HRD.out]; exact (tag_end (.inr (.inr (by rw [HRD.out]; exact h62)))).symm
            rw [show hasAt s r (⟨#[62]⟩ : ByteArray).data.toList = true from h62] at ha
            go_wp2_with fail
            refine ha.mono ?_
            rintro e w4 ⟨rfl, n, hww⟩
            have F5 := mkHidI1 (F4.out.step (W' := w4) (by rw [hww]; exact F4.out.ik.ir.sc) (by rw [hww]; exact im_gdrew _ n _))
            clear ha hww F4 HGO HRD h47 h62
            go_wp2
            go_step3
            exact ⟨⟨sh_of _ rfl rfl rfl rfl rfl, r, acc, v, an, av, F5.out, hr, (.inr (.inl ⟨rfl, hR1⟩))⟩, by unfold measS; rw [imPos_of F5.out.ik.ir.sc, HMU.out, show rankS 1 = 0 from rfl, show rankS 0 = 4 from rfl]; omega⟩
          | false =>
            have hR1 : tagN s (nmT s p) f' r acc = R := by rw [← HGO.out, ← HRD.out]; exact (tag_name (by rw [HRD.out]; exact hpt) (by rw [HRD.out]; exact h47) (by rw [HRD.out]; exact h62)).symm
            rw [show hasAt s r (⟨#[62]⟩ : ByteArray).data.toList = false from h62] at ha
            go_wp2_with fail
            refine ha.mono ?_
            rintro e w4 ⟨rfl, n, hww⟩
            have F5 := mkHidI1 (F4.out.step (W' := w4) (by rw [hww]; exact F4.out.ik.ir.sc) (by rw [hww]; exact im_gdrew _ n _))
            clear ha hww F4 HGO HRD h47 h62
            go_wp2
            go_step3
            exact ⟨⟨sh_of _ rfl rfl rfl rfl rfl, r, acc, v, an, av, F5.out, hr, (.inr (.inr (.inl ⟨rfl, hvr, by omega, f', hR1, by omega⟩)))⟩, by unfold measS; rw [imPos_of F5.out.ik.ir.sc, HMU.out, show rankS 2 = 3 from rfl, show rankS 0 = 4 from rfl]; omega⟩
      · have hR1 : tagE s (nmT s p) r acc = R := by rw [← HGO.out, ← HRD.out]; exact (tag_end (.inl (by rw [HRD.out]; omega))).symm
        rw [decide_eq_false hpt] at hwh
        go_wp2_with fail
        refine hwh.mono ?_
        rintro e w2 ⟨rfl, hb2, hg2⟩
        have F3 := mkHidI1 (FF.out.step hb2 hg2)
        clear hwh hb2 hg2 FF HGO HRD
        go_wp2
        go_step3
        exact ⟨⟨sh_of _ rfl rfl rfl rfl rfl, r, acc, v, an, av, F3.out, hr, (.inr (.inl ⟨rfl, hR1⟩))⟩, by unfold measS; rw [imPos_of F3.out.ik.ir.sc, HMU.out, show rankS 1 = 0 from rfl, show rankS 0 = 4 from rfl]; omega⟩
    · refine ⟨_, rfl, ?_⟩
      obtain ⟨ao, cv, hv, hAt⟩ := attrs_of_row FF.out.row
      subst hv
      clear hAt
      obtain ⟨k0, k1, k2, k3, kf0, kf1, kf2, kf3⟩ := tkcells FF.out.ik.box
      have F3 := mkHidI1 (FF.out.kind 1)
      have ht := take_any (sg := ⟨#[47, 62]⟩) F3.out.ik.ir.sc hs hq
      clear FF
      cases h1 : hasAt s q [47, 62] with
      | true =>
        have hR1 : R = ⟨0, 3, nmT s p, ByteArray.empty, acc, q + 2⟩ := by rw [← hgo]; unfold tagE; rw [h1, if_pos rfl]
        have HR1 := mkHidI1 hR1
        have hroom := has_room h1 hq
        simp only [List.length_cons, List.length_nil] at hroom
        rw [show hasAt s q (⟨#[47, 62]⟩ : ByteArray).data.toList = true from h1, if_pos rfl] at ht
        clear hgo hR1 h1
        go_wp2_with fail
        refine ht.mono ?_
        rintro e w2 ⟨rfl, hb2, hg2⟩
        have F4 : Hid (It w w2 g s (q + 2) m (w.heap.size + 1) 1 (nmT s p) (.slice ao acc.length cv) acc (w.heap.size + 2) an av) := mkHidI1 (F3.out.step hb2 hg2)
        clear ht hb2 hg2 F3 k0 k1 k2 k3 kf0 kf1 kf2 kf3
        obtain ⟨k0, k1, k2, k3, kf0, kf1, kf2, kf3⟩ := tkcells F4.out.ik.box
        have F5 := mkHidI1 (F4.out.kind 3)
        obtain ⟨r0, r1, r2, r3, s0, s1, s2, s3⟩ := tkcells F5.out.ik.ir.res
        go_wp2
        refine bodyPost_ret (v := .tuple #[.agg #[.int .i64 3, .string (nmT s p), .string ByteArray.empty, .slice ao acc.length cv], errV 0]) (by simp [results, Tryz.results57, go_sem, r0, r1, r2, r3, errV0]) rfl ?_
        rw [HR1.out]
        exact F5.out.tells (by omega)
      | false =>
        rw [show hasAt s q (⟨#[47, 62]⟩ : ByteArray).data.toList = false from h1, if_neg (by simp)] at ht
        go_wp2_with fail
        refine ht.mono ?_
        rintro e w2 ⟨rfl, hb2, hg2⟩
        have F4 := mkHidI1 (F3.out.step hb2 hg2)
        have ht2 := take_any (sg := ⟨#[62]⟩) F4.out.ik.ir.sc hs hq
        clear ht hb2 hg2 F3 k0 k1 k2 k3 kf0 kf1 kf2 kf3
        cases h2 : hasAt s q [62] with
        | true =>
          have hR1 : R = ⟨0, 1, nmT s p, ByteArray.empty, acc, q + 1⟩ := by rw [← hgo]; unfold tagE; rw [h1, if_neg (by simp), h2, if_pos rfl]
          have HR1 := mkHidI1 hR1
          have hroom := has_room h2 hq
          simp only [List.length_cons, List.length_nil] at hroom
          rw [show hasAt s q (⟨#[62]⟩ : ByteArray).data.toList = true from h2, if_pos rfl] at ht2
          clear hgo hR1 h1 h2
          go_wp2_with fail
          refine ht2.mono ?_
          rintro e w3 ⟨rfl, hb3, hg3⟩
          have F5 : Hid (It w w3 g s (q + 1) m (w.heap.size + 1) 1 (nmT s p) (.slice ao acc.length cv) acc (w.heap.size + 2) an av) := mkHidI1 (F4.out.step hb3 hg3)
          clear ht2 hb3 hg3 F4
          obtain ⟨k0, k1, k2, k3, kf0, kf1, kf2, kf3⟩ := tkcells F5.out.ik.box
          obtain ⟨r0, r1, r2, r3, s0, s1, s2, s3⟩ := tkcells F5.out.ik.ir.res
          go_wp2
          refine bodyPost_ret (v := .tuple #[.agg #[.int .i64 1, .string (nmT s p), .string ByteArray.empty, .slice ao acc.length cv], errV 0]) (by simp [results, Tryz.results57, go_sem, r0, r1, r2, r3, errV0]) rfl ?_
          rw [HR1.out]
          exact F5.out.tells (by omega)
        | false =>
          have hR1 : failT (lackF s q [⟨#[47, 62]⟩, ⟨#[62]⟩]) = R := by rw [← hgo, lack_end]; unfold tagE; rw [h1, if_neg (by simp), h2, if_neg (by simp)]
          have HRF := mkHidI1 hR1
          have hne0 : lackF s q [⟨#[47, 62]⟩, ⟨#[62]⟩] ≠ 0 := by rw [lack_end]; exact endL_12 s q
          rw [show hasAt s q (⟨#[62]⟩ : ByteArray).data.toList = false from h2, if_neg (by simp)] at ht2
          clear hgo hR1 h1 h2
          go_wp2_with fail
          refine ht2.mono ?_
          rintro e w3 ⟨rfl, hb3, hg3⟩
          have F5 := mkHidI1 (F4.out.step hb3 hg3)
          have F6 := mkHidI1 (F5.out.step (im_alloc F5.out.ik.ir.sc (.cells #[.string ⟨#[47, 62]⟩, .string ⟨#[62]⟩] 9)) (gallocI _ _ _))
          have hlk := lacks_any F6.out.ik.ir.sc hq [⟨#[47, 62]⟩, ⟨#[62]⟩] _ 2 2 rfl (by simp) (strs_new2 w3 ⟨#[47, 62]⟩ ⟨#[62]⟩)
          clear ht2 hb3 hg3 F4 F5
          go_wp2_with fail
          refine hlk.mono ?_
          rintro e w4 ⟨rfl, n, hww⟩
          have F7 := mkHidI1 (F6.out.step (W' := w4) (by rw [hww]; exact F6.out.ik.ir.sc) (by rw [hww]; exact im_gdrew _ n _))
          clear hlk hww F6
          obtain ⟨r0, r1, r2, r3, s0, s1, s2, s3⟩ := tkcells F7.out.ik.ir.res
          go_wp2
          refine bodyPost_ret (v := .tuple #[.agg #[.int .i64 0, .string ⟨#[]⟩, .string ⟨#[]⟩, .slice none 0 0], errV (lackF s q [⟨#[47, 62]⟩, ⟨#[62]⟩])]) (by simp [results, Tryz.results57, go_sem, r0, r1, r2, r3]) rfl ?_
          rw [← HRF.out]
          exact F7.out.ik.ir.fails hne0 hq 0 ByteArray.empty ByteArray.empty (.slice none 0 0)
    · refine ⟨_, rfl, ?_⟩
      have hnm := imName_any FF.out.ik.ir.sc FF.out.ik.ir.env.tabs hvb hs hq
      go_wp2_with fail
      refine hnm.mono ?_
      rintro e w2 ⟨t, q2, rfl, hb2, hq2, hT, hg2⟩
      have F3 := mkHidI1 (FF.out.step hb2 hg2)
      clear hnm hb2 hg2 FF
      obtain ⟨a0, a1, af0, af1⟩ := atcells F3.out.atb
      have F4 := mkHidI1 (F3.out.anset t)
      obtain ⟨r0, r1, r2, r3, s0, s1, s2, s3⟩ := tkcells F4.out.ik.ir.res
      by_cases hf : nmF s q = 0
      · obtain ⟨ht, hq'⟩ := hT hf
        have hn := nm_spec hf
        have hR1 : tagS s (nmT s p) f q2 t acc = R := by rw [← hgo, ht, hq']; unfold tagN; rw [if_neg (by omega)]
        have hvb2 : VB s q2 := by rw [hq']; exact nm_VB hvb
        have hlt2 : q < q2 := by omega
        simp only [hf, errV0]
        clear hT hf ht hq' hn F3 hgo
        go_wp2
        go_step3
        exact ⟨⟨sh_of _ rfl rfl rfl rfl rfl, q2, acc, v, t, av, F4.out, hq2, (.inr (.inr (.inr (.inl ⟨rfl, hvb2, by omega, f, hR1, by omega⟩))))⟩, by unfold measS; rw [imPos_of F4.out.ik.ir.sc, HMU.out, show rankS 3 = 2 from rfl, show rankS 2 = 3 from rfl]; omega⟩
      · have hRf : failT (nmF s q) = R := by rw [← hgo]; unfold tagN; rw [if_pos hf]
        rcases nmF_012 s q with h0 | h0 | h0
        · exact absurd h0 hf
        all_goals
          rw [h0] at hRf
          have HRF := mkHidI1 hRf
          simp only [h0, errV1, errV2]
          clear hT hRf hf h0 F3
          go_wp2
          refine bodyPost_ret (v := .tuple #[.agg #[.int .i64 0, .string ⟨#[]⟩, .string ⟨#[]⟩, .slice none 0 0], _]) (by simp [results, Tryz.results57, go_sem, r0, r1, r2, r3]; rfl) rfl ?_
          rw [← HRF.out]
          exact F4.out.ik.ir.fails (by omega) hq2 0 ByteArray.empty ByteArray.empty (.slice none 0 0)
    · refine ⟨_, rfl, ?_⟩
      have hwh := imWhite_any FF.out.ik.ir.sc hs hq
      have hr := whiteZ_le (s := s) hq
      have hge := whiteZ_ge s q
      unfold tagS at hgo
      obtain ⟨r, hrd⟩ : ∃ r, whiteZ s q = r := ⟨_, rfl⟩
      rw [hrd] at hwh hr hge hgo
      clear hrd
      go_wp2_with fail
      refine hwh.mono ?_
      rintro e w2 ⟨rfl, hb2, hg2⟩
      have F3 := mkHidI1 (FF.out.step hb2 hg2)
      have hm := imMust_any (sg := ⟨#[61]⟩) F3.out.ik.ir.sc hs hr
      clear hwh hb2 hg2 FF
      by_cases hf : mustF s r [61] = 0
      · rw [if_neg (by omega)] at hgo
        rw [show mustF s r (⟨#[61]⟩ : ByteArray).data.toList = 0 from hf, errV0, if_pos rfl] at hm
        have hh := must_has.1 hf
        have hroom := has_room hh hr
        simp only [List.length_cons, List.length_nil] at hroom
        go_wp2_with fail
        refine hm.mono ?_
        rintro e w3 ⟨rfl, hb3, hg3⟩
        have F4 : Hid (It w w3 g s (r + 1) m (w.heap.size + 1) 0 (nmT s p) v acc (w.heap.size + 2) an av) := mkHidI1 (F3.out.step hb3 hg3)
        have hwh := imWhite_any F4.out.ik.ir.sc hs (by omega)
        have hr4 := whiteZ_le (s := s) (p := r + 1) (by omega)
        have hge4 := whiteZ_ge s (r + 1)
        have hvb4 : VB s (r + 1) := by have := VB_sign hv0 hh hr (by simp) (by decide); simpa using this
        have hvb5 := whiteZ_VB hv0 hvb4
        obtain ⟨x, hxd⟩ : ∃ x, whiteZ s (r + 1) = x := ⟨_, rfl⟩
        rw [hxd] at hwh hr4 hge4 hgo hvb5
        clear hm hb3 hg3 F3 hxd hf hh hvb4
        go_wp2_with fail
        refine hwh.mono ?_
        rintro e w4 ⟨rfl, hb4, hg4⟩
        have F5 := mkHidI1 (F4.out.step hb4 hg4)
        clear hwh hb4 hg4 F4
        go_wp2
        go_step3
        exact ⟨⟨sh_of _ rfl rfl rfl rfl rfl, x, acc, v, an, av, F5.out, hr4, (.inr (.inr (.inr (.inr ⟨rfl, hvb5, by omega, f, hgo, by omega⟩))))⟩, by unfold measS; rw [imPos_of F5.out.ik.ir.sc, HMU.out, show rankS 4 = 1 from rfl, show rankS 3 = 2 from rfl]; omega⟩
      · have hRf : failT (mustF s r [61]) = R := by rw [← hgo, if_pos hf]
        rcases mustF_012 s r [61] with h0 | h0 | h0
        · exact absurd h0 hf
        all_goals
          rw [h0] at hRf
          have HRF := mkHidI1 hRf
          rw [show mustF s r (⟨#[61]⟩ : ByteArray).data.toList = _ from h0] at hm
          simp only [errV1, errV2] at hm
          rw [if_neg (by omega)] at hm
          go_wp2_with fail
          refine hm.mono ?_
          rintro e w3 ⟨rfl, hb3, hg3⟩
          have F4 := mkHidI1 (F3.out.step hb3 hg3)
          clear hm hb3 hg3 F3 hRf hf h0 hgo
          obtain ⟨r0, r1, r2, r3, s0, s1, s2, s3⟩ := tkcells F4.out.ik.ir.res
          go_wp2
          refine bodyPost_ret (v := .tuple #[.agg #[.int .i64 0, .string ⟨#[]⟩, .string ⟨#[]⟩, .slice none 0 0], _]) (by simp [results, Tryz.results57, go_sem, r0, r1, r2, r3]; rfl) rfl ?_
          rw [← HRF.out]
          exact F4.out.ik.ir.fails (by omega) hr 0 ByteArray.empty ByteArray.empty (.slice none 0 0)
    · refine ⟨_, rfl, ?_⟩
      have hvl := imValue_any FF.out.ik.ir.sc hs hq
      unfold tagV at hgo
      go_wp2_with fail
      refine hvl.mono ?_
      rintro e w2 ⟨t, q2, rfl, hb2, hq2, hT, hg2⟩
      have F3 := mkHidI1 (FF.out.step hb2 hg2)
      clear hvl hb2 hg2 FF
      obtain ⟨a0, a1, af0, af1⟩ := atcells F3.out.atb
      have F4 := mkHidI1 (F3.out.avset t)
      by_cases hf : valF s q = 0
      · obtain ⟨ht, hq'⟩ := hT hf
        have hvs := val_spec hf
        have hlt2 : q + 1 < q2 := by rw [hq']; unfold valP; omega
        have hvb2 : VB s q2 := by rw [hq']; exact val_VB hv0 hf
        rw [if_neg (by omega), ← ht, ← hq'] at hgo
        simp only [hf, errV0]
        clear hT hf ht hq' hvs
        obtain ⟨ao, cv, hv, hAt⟩ := attrs_of_row F4.out.row
        subst hv
        obtain ⟨k0, k1, k2, k3, kf0, kf1, kf2, kf3⟩ := tkcells F3.out.ik.box
        clear F3
        have hha := fun c => hasAttr_any _ ao c acc an hAt (by omega)
        cases hhz : hasZ acc an with
        | true =>
          rw [hhz] at hha
          rw [hhz, if_pos rfl] at hgo
          have HRF := mkHidI1 hgo
          clear hgo hAt
          go_wp2_with fail
          refine (hha _).mono ?_
          rintro e w3 ⟨rfl, hg3⟩
          have F5 := mkHidI1 (F4.out.step (im_grown F4.out.ik.ir.sc hg3) (gnone hg3))
          clear hha hg3 F4 k0 k1 k2 k3 kf0 kf1 kf2 kf3 a0 a1 af0 af1
          obtain ⟨r0, r1, r2, r3, s0, s1, s2, s3⟩ := tkcells F5.out.ik.ir.res
          go_wp2
          refine bodyPost_ret (v := .tuple #[.agg #[.int .i64 0, .string ⟨#[]⟩, .string ⟨#[]⟩, .slice none 0 0], errV 3]) (by simp [results, Tryz.results57, go_sem, r0, r1, r2, r3, errV3]) rfl ?_
          rw [← HRF.out]
          exact F5.out.ik.ir.fails (by omega) hq2 0 ByteArray.empty ByteArray.empty (.slice none 0 0)
        | false =>
          rw [hhz] at hha
          rw [hhz, if_neg (by simp)] at hgo
          have HGO := mkHidI1 hgo
          clear hgo hAt
          go_wp2_with fail
          refine (hha _).mono ?_
          rintro e w3 ⟨rfl, hg3⟩
          have F5 := mkHidI1 (F4.out.step (im_grown F4.out.ik.ir.sc hg3) (gnone hg3))
          clear hha hg3 F4 k0 k1 k2 k3 kf0 kf1 kf2 kf3 a0 a1 af0 af1
          obtain ⟨k0, k1, k2, k3, kf0, kf1, kf2, kf3⟩ := tkcells F5.out.ik.box
          obtain ⟨a0, a1, af0, af1⟩ := atcells F5.out.atb
          have HROW := mkHidI1 F5.out.row
          have hKs := at_lt F5.out.atb
          have hal : acc.length ≤ 1048576 := by omega
          go_wp2_with (at_builtin; refine wpList_append_own_wide _ rfl _ _ 25 rfl (w.heap.size + 2 + 1) 109 i0 (.agg #[.string ByteArray.empty, .string ByteArray.empty]) 2 32 Tryz.underlying25 hi0 hz0 hz1 hz2 rfl (by decide) _ _ _ rfl (HROW.out.alloc _) ⟨w3.heap.size, 0, none⟩ 1 1 [.string an, .string t] rfl rfl (cell_two_newT _ _ _ _) (fun u hu => by simp at hu; rcases hu with rfl | rfl <;> rfl) (by unfold maxLen; omega) (by omega) (by simp; omega) ?_; intro v' w9 hown' hgrow' hnil'; obtain ⟨ao', cv', hv'⟩ := owns_sliceT hown'; subst hv'; have FT := mkHidI1 (F5.out.appended _ hown' hgrow'); obtain ⟨x0, x1, x2, x3, xf0, xf1, xf2, xf3⟩ := tkcells (F5.out.kbox _ hgrow'); clear hown' hgrow' hnil')
          go_step3
          exact ⟨⟨sh_of _ rfl rfl rfl rfl rfl, q2, _, _, _, _, FT.out, hq2, (.inl ⟨rfl, hvb2, by simp; omega, f, HGO.out, by omega⟩)⟩, by unfold measS; rw [imPos_of FT.out.ik.ir.sc, HMU.out, show rankS 0 = 4 from rfl, show rankS 4 = 1 from rfl]; omega⟩
      · have hRf : failT (valF s q) = R := by rw [← hgo, if_pos hf]
        rcases val_012 s q with h0 | h0 | h0
        · exact absurd h0 hf
        all_goals
          rw [h0] at hRf
          have HRF := mkHidI1 hRf
          obtain ⟨r0, r1, r2, r3, s0, s1, s2, s3⟩ := tkcells F4.out.ik.ir.res
          simp only [h0, errV1, errV2]
          clear hT hRf hf h0 F3 hgo
          go_wp2
          refine bodyPost_ret (v := .tuple #[.agg #[.int .i64 0, .string ⟨#[]⟩, .string ⟨#[]⟩, .slice none 0 0], _]) (by simp [results, Tryz.results57, go_sem, r0, r1, r2, r3]; rfl) rfl ?_
          rw [← HRF.out]
          exact F4.out.ik.ir.fails (by omega) hq2 0 ByteArray.empty ByteArray.empty (.slice none 0 0)
end Go.Proofs.YtefahocflhlgiaaGreatDoor
