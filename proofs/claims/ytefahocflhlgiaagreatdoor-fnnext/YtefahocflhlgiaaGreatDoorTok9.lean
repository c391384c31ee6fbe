/- The model's scanner: the head's mark (doctype). -/
import Derived.Test.YtefahocflhlgiaaGreatDoorTok8b
namespace Go.Proofs.YtefahocflhlgiaaGreatDoor
open Go.RowKit Plain1 Strs Strs2 Lists Plain3 Plain5 Plain6 Plain9 Plain10 Plain11

set_option maxHeartbeats 4000000 in
theorem doctype_no (w : World) (g : Nat) (s : ByteArray) (p : Nat) (f : Nat) (h : ScBox w g s ⟨p, f⟩) (h0 : f ≠ 0) (hf12 : f = 2 ∨ s.size ≤ p) (hs : s.size ≤ 1048576) (hp : p ≤ s.size) :
    Calls Tryz.prog 94 #[.pointer (some ⟨g, 0, none⟩)] w fun e w' => TkSays w g s (failT f) e w' := by
  have F0 := mkHidT (Fr0.start h)
  have F1 : Hid (Fr w ((w.alloc zTok).alloc (.cells #[.int .i64 8, .string ByteArray.empty, .string ByteArray.empty, .slice none 0 0] 27)) g s ⟨p, f⟩ (w.heap.size + 1) 8 ByteArray.empty ByteArray.empty (.slice none 0 0)) := by
    have h1 := F0.out.new 8 ByteArray.empty ByteArray.empty (.slice none 0 0)
    rw [show (w.alloc zTok).heap.size = w.heap.size + 1 by simp] at h1
    exact h1
  have hc := white_any _ g s _ F1.out.fr.sc hs hp
  clear h F0
  go_enter Tryz.func94, Tryz.ntmps94
  go_wp2_with fail
  refine hc.mono ?_
  rintro e w1 ⟨rfl, hb1, hg1⟩
  have F2 := mkHidT (F1.out.step hb1 hg1)
  have hq2 := whiteZ_le (s := s) hp
  clear hc F1 hb1 hg1
  by_cases hmv : p < whiteZ s p
  · simp only [decide_eq_true hmv]
    have hnm := name_no _ g s _ F2.out.fr.sc h0
    go_wp2_with fail
    refine hnm.mono ?_
    rintro e wn ⟨rfl, hww⟩
    have FA := mkHidT (hww.symm ▸ F2.out)
    clear hnm hww F2
    obtain ⟨k0, k1, k2, k3, kf0, kf1, kf2, kf3⟩ := tkcells FA.out.box
    obtain ⟨r0, r1, r2, r3, s0, s1, s2, s3⟩ := tkcells FA.out.fr.res
    have hah := FA.out.ahead
    go_wp2_with fail
    have FB := mkHidT (FA.out.name ByteArray.empty)
    clear k0 k1 k2 k3 kf0 kf1 kf2 kf3 r0 r1 r2 r3 s0 s1 s2 s3 FA
    have hwh := white_any _ g s _ FB.out.fr.sc hs hq2
    go_wp2_with fail
    refine hwh.mono ?_
    rintro e wz ⟨rfl, hbw, hgw⟩
    have FC := mkHidT (FB.out.step hbw hgw)
    have hqC := whiteZ_le (s := s) hq2
    clear hwh FB hbw hgw
    have ho := fun W' hW => ok_at FC.out.fr.sc W' hW
    simp only [decide_eq_false h0] at ho
    go_wp2_with fail
    go_quiet ((go_at_call 68; exact Calls.quiet_of_same (ho _ rfl)))
    have FD := mkHidT (FC.out.drew nq)
    clear ho FC
    have hm := must_fails _ g s ⟨#[62]⟩ _ FD.out.fr.sc h0 hs (by decide) hqC
    go_wp2_with fail
    refine hm.mono ?_
    rintro e w9 ⟨rfl, hb9, hg9⟩
    have F9 := mkHidT (FD.out.step hb9 hg9)
    clear hm FD hb9 hg9
    obtain ⟨k0, k1, k2, k3, kf0, kf1, kf2, kf3⟩ := tkcells F9.out.box
    obtain ⟨r0, r1, r2, r3, s0, s1, s2, s3⟩ := tkcells F9.out.fr.res
    go_wp2
    refine bodyPost_ret (v := .agg #[.int .i64 8, .string ByteArray.empty, .string ByteArray.empty, .slice none 0 0]) (by simp [results, Tryz.results94, go_sem, r0, r1, r2, r3]) rfl ?_
    exact F9.out.fr.fails h0 hqC 8 ByteArray.empty ByteArray.empty (.slice none 0 0)
  · have hpe : whiteZ s p = p := by have := whiteZ_ge s p; omega
    simp only [decide_eq_false hmv]
    rw [hpe] at F2
    have hen := end_any _ g s _ F2.out.fr.sc (by show p ≤ _; omega)
    simp only [ended_fl (x := ⟨p, f⟩) (s := s) h0] at hen
    by_cases he : s.size ≤ p
    · simp only [decide_eq_true he] at hen
      go_wp2_with fail
      refine hen.mono ?_
      rintro e w2 ⟨rfl, hb2, hg2⟩
      have F3 := mkHidT (F2.out.step hb2 hg2)
      clear hen F2 hb2 hg2
      have hnm := name_no _ g s _ F3.out.fr.sc h0
      go_wp2_with fail
      refine hnm.mono ?_
      rintro e wn ⟨rfl, hww⟩
      have FA := mkHidT (hww.symm ▸ F3.out)
      clear hnm hww F3
      obtain ⟨k0, k1, k2, k3, kf0, kf1, kf2, kf3⟩ := tkcells FA.out.box
      obtain ⟨r0, r1, r2, r3, s0, s1, s2, s3⟩ := tkcells FA.out.fr.res
      have hah := FA.out.ahead
      go_wp2_with fail
      have FB := mkHidT (FA.out.name ByteArray.empty)
      clear k0 k1 k2 k3 kf0 kf1 kf2 kf3 r0 r1 r2 r3 s0 s1 s2 s3 FA
      have hwh := white_any _ g s _ FB.out.fr.sc hs hp
      go_wp2_with fail
      refine hwh.mono ?_
      rintro e wz ⟨rfl, hbw, hgw⟩
      have FC := mkHidT (FB.out.step hbw hgw)
      have hqC := whiteZ_le (s := s) hp
      clear hwh FB hbw hgw
      have ho := fun W' hW => ok_at FC.out.fr.sc W' hW
      simp only [decide_eq_false h0] at ho
      go_wp2_with fail
      go_quiet ((go_at_call 68; exact Calls.quiet_of_same (ho _ rfl)))
      have FD := mkHidT (FC.out.drew nq)
      clear ho FC
      have hm := must_fails _ g s ⟨#[62]⟩ _ FD.out.fr.sc h0 hs (by decide) hqC
      go_wp2_with fail
      refine hm.mono ?_
      rintro e w9 ⟨rfl, hb9, hg9⟩
      have F9 := mkHidT (FD.out.step hb9 hg9)
      clear hm FD hb9 hg9
      obtain ⟨k0, k1, k2, k3, kf0, kf1, kf2, kf3⟩ := tkcells F9.out.box
      obtain ⟨r0, r1, r2, r3, s0, s1, s2, s3⟩ := tkcells F9.out.fr.res
      go_wp2
      refine bodyPost_ret (v := .agg #[.int .i64 8, .string ByteArray.empty, .string ByteArray.empty, .slice none 0 0]) (by simp [results, Tryz.results94, go_sem, r0, r1, r2, r3]) rfl ?_
      exact F9.out.fr.fails h0 hqC 8 ByteArray.empty ByteArray.empty (.slice none 0 0)
    · have hf2 : f = 2 := by rcases hf12 with h | h; exact h; exact absurd h he
      subst hf2
      simp only [decide_eq_false he] at hen
      go_wp2_with fail
      refine hen.mono ?_
      rintro e w2 ⟨rfl, hb2, hg2⟩
      have F3 := mkHidT (F2.out.step hb2 hg2)
      clear hen F2 hb2 hg2
      obtain ⟨c0, c1, c2, c3, c4, f1, f2, f3, f4⟩ := block5 F3.out.fr.sc
      go_wp2_with fail
      have F4 : Hid (Fr w (w2.setCell ⟨g, 3, none⟩ (.bool true)) g s ⟨p, 2⟩ (w.heap.size + 1) 8 ByteArray.empty ByteArray.empty (.slice none 0 0)) := by
        refine F3.out.step ?_ (gset5 _)
        have h5 := set5 F3.out.fr.sc 3 (.bool true)
        unfold ScBox; rw [h5]; rfl
      clear F3 c0 c1 c2 c3 c4 f1 f2 f3 f4
      have hnm := name_no _ g s _ F4.out.fr.sc h0
      refine hnm.mono ?_
      rintro e wn ⟨rfl, hww⟩
      have FA := mkHidT (hww.symm ▸ F4.out)
      clear hnm hww F4
      obtain ⟨k0, k1, k2, k3, kf0, kf1, kf2, kf3⟩ := tkcells FA.out.box
      obtain ⟨r0, r1, r2, r3, s0, s1, s2, s3⟩ := tkcells FA.out.fr.res
      have hah := FA.out.ahead
      go_wp2_with fail
      have FB := mkHidT (FA.out.name ByteArray.empty)
      clear k0 k1 k2 k3 kf0 kf1 kf2 kf3 r0 r1 r2 r3 s0 s1 s2 s3 FA
      have hwh := white_any _ g s _ FB.out.fr.sc hs hp
      go_wp2_with fail
      refine hwh.mono ?_
      rintro e wz ⟨rfl, hbw, hgw⟩
      have FC := mkHidT (FB.out.step hbw hgw)
      have hqC := whiteZ_le (s := s) hp
      clear hwh FB hbw hgw
      have ho := fun W' hW => ok_at FC.out.fr.sc W' hW
      simp only [decide_eq_false h0] at ho
      go_wp2_with fail
      go_quiet ((go_at_call 68; exact Calls.quiet_of_same (ho _ rfl)))
      have FD := mkHidT (FC.out.drew nq)
      clear ho FC
      have hm := must_fails _ g s ⟨#[62]⟩ _ FD.out.fr.sc h0 hs (by decide) hqC
      go_wp2_with fail
      refine hm.mono ?_
      rintro e w9 ⟨rfl, hb9, hg9⟩
      have F9 := mkHidT (FD.out.step hb9 hg9)
      clear hm FD hb9 hg9
      obtain ⟨k0, k1, k2, k3, kf0, kf1, kf2, kf3⟩ := tkcells F9.out.box
      obtain ⟨r0, r1, r2, r3, s0, s1, s2, s3⟩ := tkcells F9.out.fr.res
      go_wp2
      refine bodyPost_ret (v := .agg #[.int .i64 8, .string ByteArray.empty, .string ByteArray.empty, .slice none 0 0]) (by simp [results, Tryz.results94, go_sem, r0, r1, r2, r3]) rfl ?_
      exact F9.out.fr.fails h0 hqC 8 ByteArray.empty ByteArray.empty (.slice none 0 0)
end Go.Proofs.YtefahocflhlgiaaGreatDoor
