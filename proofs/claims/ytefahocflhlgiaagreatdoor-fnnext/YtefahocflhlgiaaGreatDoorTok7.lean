/- The model's scanner: comments and instructions. -/
import Derived.Test.YtefahocflhlgiaaGreatDoorTok6
namespace Go.Proofs.YtefahocflhlgiaaGreatDoor
open Go.RowKit Plain1 Strs Strs2 Lists Plain3 Plain5 Plain6 Plain9 Plain10 Plain11

set_option maxHeartbeats 1000000 in
theorem comment_ok (w : World) (g : Nat) (s : ByteArray) (p : Nat) (h : ScBox w g s ⟨p, 0⟩) (hs : s.size ≤ 1048576) (hp : p ≤ s.size) :
    Calls Tryz.prog 92 #[.pointer (some ⟨g, 0, none⟩)] w fun e w' => TkSays w g s (commentZ s p) e w' := by
  have F0 := mkHidT (Fr0.start h)
  have hc := till_call _ g s ⟨#[45, 45]⟩ p [45, 45] rfl F0.out.sc hs hp (by decide) (by simp)
  clear h
  go_enter Tryz.func92, Tryz.ntmps92
  go_wp2_with fail
  refine hc.mono ?_
  rintro e w1 ⟨t, q, rfl, hb1, hq, hT, hg1⟩
  have F1 := mkHidT (F0.out.step hb1 hg1)
  clear hc F0 hb1 hg1
  by_cases hf : upF s p [45, 45] = 0
  · obtain ⟨ht, hq'⟩ := hT hf
    have F2 := mkHidT (F1.out.new 6 ByteArray.empty t (.slice none 0 0))
    rw [hf] at F2
    have hm := must_call _ g s ⟨#[62]⟩ q [62] rfl F2.out.fr.sc hs (by decide) hq
    have hZ : commentZ s p = if mustF s q [62] = 0 then ⟨0, 6, ByteArray.empty, t, [], q + 1⟩ else failT (mustF s q [62]) := by unfold commentZ; rw [if_neg (by omega), ← ht, ← hq']
    have HZ := mkHidT hZ
    clear hT hZ ht hq' F1 hf
    go_wp2_with fail
    refine hm.mono ?_
    rintro e w2 ⟨q2, rfl, hb2, hl2, hp2, hg2⟩
    have F3 := mkHidT (F2.out.step hb2 hg2)
    clear hm F2 hb2 hg2
    obtain ⟨k0, k1, k2, k3, _, _, _, _⟩ := tkcells F3.out.box
    obtain ⟨r0, r1, r2, r3, s0, s1, s2, s3⟩ := tkcells F3.out.fr.res
    go_wp2
    refine bodyPost_ret (v := .agg #[.int .i64 6, .string ByteArray.empty, .string t, .slice none 0 0]) (by simp [results, Tryz.results92, go_sem, r0, r1, r2, r3]) rfl ?_
    rw [HZ.out]
    by_cases hf2 : mustF s q [62] = 0
    · have hq2 := hp2 hf2
      have F4 := F3.out.fr
      rw [hf2] at F4
      rw [if_pos hf2]
      subst hq2
      exact F4.tells hl2 6 ByteArray.empty t
    · rw [if_neg hf2]
      exact F3.out.fr.fails hf2 hl2 6 ByteArray.empty t (.slice none 0 0)
  · have hZ : commentZ s p = failT (upF s p [45, 45]) := by unfold commentZ; rw [if_pos hf]
    have HZ := mkHidT hZ
    have F2 := mkHidT (F1.out.new 6 ByteArray.empty t (.slice none 0 0))
    have hm := must_fails _ g s ⟨#[62]⟩ _ F2.out.fr.sc hf hs (by decide) hq
    clear hT hZ F1
    go_wp2_with fail
    refine hm.mono ?_
    rintro e w2 ⟨rfl, hb2, hg2⟩
    have F3 := mkHidT (F2.out.step hb2 hg2)
    clear hm F2 hb2 hg2
    obtain ⟨k0, k1, k2, k3, _, _, _, _⟩ := tkcells F3.out.box
    obtain ⟨r0, r1, r2, r3, s0, s1, s2, s3⟩ := tkcells F3.out.fr.res
    go_wp2
    refine bodyPost_ret (v := .agg #[.int .i64 6, .string ByteArray.empty, .string t, .slice none 0 0]) (by simp [results, Tryz.results92, go_sem, r0, r1, r2, r3]) rfl ?_
    rw [HZ.out]
    exact F3.out.fr.fails hf hq 6 ByteArray.empty t (.slice none 0 0)

set_option maxHeartbeats 2000000 in
theorem pi_ok (w : World) (g : Nat) (s : ByteArray) (p : Nat) (h : ScBox w g s ⟨p, 0⟩) (hs : s.size ≤ 1048576) (hp : p ≤ s.size) :
    Calls Tryz.prog 90 #[.pointer (some ⟨g, 0, none⟩)] w fun e w' => TkSays w g s (piZ s p) e w' := by
  have F0 := mkHidT (Fr0.start h)
  have hc := name_ok _ g s p F0.out.sc hs hp
  clear h
  go_enter Tryz.func90, Tryz.ntmps90
  go_wp2_with fail
  refine hc.mono ?_
  rintro e w1 ⟨nm, q, rfl, hb1, hq, hT, hg1⟩
  have F1 := mkHidT (F0.out.step hb1 hg1)
  clear hc F0 hb1 hg1
  have F2 := mkHidT (F1.out.new 7 nm ByteArray.empty (.slice none 0 0))
  have ho := ok_any _ g s _ F2.out.fr.sc
  by_cases hf : nmF s p = 0
  · obtain ⟨hn, hq'⟩ := hT hf
    rw [hf] at F2
    simp only [hf, decide_true] at ho
    have hx := fun wx => xml_any nm wx
    have HN := mkHidT hn
    have HQ := mkHidT hq'
    have HF := mkHidT hf
    clear hT F1 hn hq' hf
    go_wp2_with fail
    refine ho.mono ?_
    rintro e w2 ⟨rfl, hww⟩
    have F3 := mkHidT (hww.symm ▸ F2.out)
    clear ho hww
    obtain ⟨k0, k1, k2, k3, _, _, _, _⟩ := tkcells F3.out.box
    cases hxm : xmlB nm with
    | true =>
      rw [hxm] at hx
      have HZ : Hid (piZ s p = failT 2) := by
        show piZ s p = failT 2
        unfold piZ; rw [if_neg (by rw [HF.out]; simp), ← HN.out, hxm, if_pos rfl]
      go_wp2_with fail
      refine (hx _).mono ?_
      rintro e w3 ⟨rfl, hww⟩
      have F4 := mkHidT (hww.symm ▸ F3.out)
      clear hww F3 F2 hx k0 k1 k2 k3
      obtain ⟨c0, c1, c2, c3, c4, f1, f2, f3, f4⟩ := block0 F4.out.fr.sc
      go_wp2_with fail
      have F5 := mkHidT F4.out.bad
      have ho2 := ok_any _ g s _ F5.out.fr.sc
      simp only [show decide ((2 : Nat) = 0) = false from rfl] at ho2
      refine ho2.mono ?_
      rintro e w4 ⟨rfl, hww⟩
      have F6 := mkHidT (hww.symm ▸ F5.out)
      clear hww F4 F5 ho2 c0 c1 c2 c3 c4 f1 f2 f3 f4
      have hm := must_fails _ g s ⟨#[63, 62]⟩ _ F6.out.fr.sc (by simp) hs (by decide) hq
      go_wp2_with fail
      refine hm.mono ?_
      rintro e w5 ⟨rfl, hb5, hg5⟩
      have F7 := mkHidT (F6.out.step hb5 hg5)
      clear hm F6 hb5 hg5
      obtain ⟨k0, k1, k2, k3, _, _, _, _⟩ := tkcells F7.out.box
      obtain ⟨r0, r1, r2, r3, s0, s1, s2, s3⟩ := tkcells F7.out.fr.res
      go_wp2
      refine bodyPost_ret (v := .agg #[.int .i64 7, .string nm, .string ByteArray.empty, .slice none 0 0]) (by simp [results, Tryz.results90, go_sem, r0, r1, r2, r3]) rfl ?_
      rw [HZ.out]
      exact F7.out.fr.fails (by simp) hq 7 nm ByteArray.empty (.slice none 0 0)
    | false =>
      rw [hxm] at hx
      go_wp2_with fail
      refine (hx _).mono ?_
      rintro e w3 ⟨rfl, hww⟩
      have F4 := mkHidT (hww.symm ▸ F3.out)
      clear hww F3 F2 hx k0 k1 k2 k3
      have ho2 := ok_any _ g s _ F4.out.fr.sc
      simp only [decide_true] at ho2
      go_wp2_with fail
      refine ho2.mono ?_
      rintro e w4 ⟨rfl, hww⟩
      have F5 := mkHidT (hww.symm ▸ F4.out)
      clear hww F4 ho2
      have hwh := white_any _ g s _ F5.out.fr.sc hs hq
      go_wp2_with fail
      refine hwh.mono ?_
      rintro e w5 ⟨rfl, hb5, hg5⟩
      have F6 := mkHidT (F5.out.step hb5 hg5)
      have hq6 := whiteZ_le hq
      clear hwh F5 hb5 hg5
      by_cases hlt : q < whiteZ s q
      · have hlt' : decide (q < whiteZ s q) = true := decide_eq_true hlt
        have hm := till_call _ g s ⟨#[63, 62]⟩ (whiteZ s q) [63, 62] rfl F6.out.fr.sc hs hq6 (by decide) (by simp)
        have HZ : Hid (piZ s p = if upF s (whiteZ s q) [63, 62] = 0 then ⟨0, 7, nm, upT s (whiteZ s q) [63, 62], [], upP s (whiteZ s q) [63, 62]⟩ else failT (upF s (whiteZ s q) [63, 62])) := by
          show piZ s p = _
          unfold piZ; rw [if_neg (by rw [HF.out]; simp), ← HN.out, hxm, ← HQ.out]; simp only [Bool.false_eq_true, if_false]; rw [if_pos hlt]
        clear hlt
        simp only [hlt']
        go_wp2_with fail
        refine hm.mono ?_
        rintro e w6 ⟨t, q6, rfl, hb6, hl6, hT6, hg6⟩
        have F7 := mkHidT (F6.out.step hb6 hg6)
        clear hm F6 hb6 hg6
        obtain ⟨k0, k1, k2, k3, kf0, kf1, kf2, kf3⟩ := tkcells F7.out.box
        obtain ⟨r0, r1, r2, r3, s0, s1, s2, s3⟩ := tkcells F7.out.fr.res
        have hah := F7.out.ahead
        have hne : w.heap.size ≠ w1.heap.size := by omega
        have hne' : w1.heap.size ≠ w.heap.size := by omega
        go_wp2
        have F8 := F7.out.text t
        refine bodyPost_ret (v := .agg #[.int .i64 7, .string nm, .string t, .slice none 0 0]) (by simp [results, Tryz.results90, go_sem, r0, r1, r2, r3]) rfl ?_
        rw [HZ.out]
        by_cases hf6 : upF s (whiteZ s q) [63, 62] = 0
        · obtain ⟨ht, hq7⟩ := hT6 hf6
          rw [if_pos hf6, ← ht, ← hq7]
          rw [hf6] at F8
          exact F8.fr.tells hl6 7 nm t
        · rw [if_neg hf6]
          exact F8.fr.fails hf6 hl6 7 nm t (.slice none 0 0)
      · have hlt' : decide (q < whiteZ s q) = false := decide_eq_false hlt
        have hm := must_call _ g s ⟨#[63, 62]⟩ (whiteZ s q) [63, 62] rfl F6.out.fr.sc hs (by decide) hq6
        have HZ : Hid (piZ s p = if mustF s (whiteZ s q) [63, 62] = 0 then ⟨0, 7, nm, ByteArray.empty, [], whiteZ s q + 2⟩ else failT (mustF s (whiteZ s q) [63, 62])) := by
          show piZ s p = _
          unfold piZ; rw [if_neg (by rw [HF.out]; simp), ← HN.out, hxm, ← HQ.out]; simp only [Bool.false_eq_true, if_false]; rw [if_neg hlt]
        clear hlt
        simp only [hlt']
        go_wp2_with fail
        refine hm.mono ?_
        rintro e w6 ⟨q6, rfl, hb6, hl6, hp6, hg6⟩
        have F7 := mkHidT (F6.out.step hb6 hg6)
        clear hm F6 hb6 hg6
        obtain ⟨k0, k1, k2, k3, kf0, kf1, kf2, kf3⟩ := tkcells F7.out.box
        obtain ⟨r0, r1, r2, r3, s0, s1, s2, s3⟩ := tkcells F7.out.fr.res
        go_wp2
        refine bodyPost_ret (v := .agg #[.int .i64 7, .string nm, .string ByteArray.empty, .slice none 0 0]) (by simp [results, Tryz.results90, go_sem, r0, r1, r2, r3]) rfl ?_
        rw [HZ.out]
        have F8 := F7.out.fr
        by_cases hf6 : mustF s (whiteZ s q) [63, 62] = 0
        · have hq7 := hp6 hf6
          rw [if_pos hf6]
          rw [hf6] at F8
          subst hq7
          exact F8.tells hl6 7 nm ByteArray.empty
        · rw [if_neg hf6]
          exact F8.fails hf6 hl6 7 nm ByteArray.empty (.slice none 0 0)
  · have hZ : piZ s p = failT (nmF s p) := by unfold piZ; rw [if_pos hf]
    have HZ := mkHidT hZ
    simp only [decide_eq_false hf] at ho
    clear hT hZ F1
    go_wp2_with fail
    refine ho.mono ?_
    rintro e w2 ⟨rfl, hww⟩
    have F3 := mkHidT (hww.symm ▸ F2.out)
    clear ho hww F2
    have ho2 := ok_any _ g s _ F3.out.fr.sc
    simp only [decide_eq_false hf] at ho2
    go_wp2_with fail
    refine ho2.mono ?_
    rintro e w3 ⟨rfl, hww⟩
    have F4 := mkHidT (hww.symm ▸ F3.out)
    clear ho2 hww F3
    have hm := must_fails _ g s ⟨#[63, 62]⟩ _ F4.out.fr.sc hf hs (by decide) hq
    go_wp2_with fail
    refine hm.mono ?_
    rintro e w5 ⟨rfl, hb5, hg5⟩
    have F7 := mkHidT (F4.out.step hb5 hg5)
    clear hm F4 hb5 hg5
    obtain ⟨k0, k1, k2, k3, _, _, _, _⟩ := tkcells F7.out.box
    obtain ⟨r0, r1, r2, r3, s0, s1, s2, s3⟩ := tkcells F7.out.fr.res
    go_wp2
    refine bodyPost_ret (v := .agg #[.int .i64 7, .string nm, .string ByteArray.empty, .slice none 0 0]) (by simp [results, Tryz.results90, go_sem, r0, r1, r2, r3]) rfl ?_
    rw [HZ.out]
    exact F7.out.fr.fails hf hq 7 nm ByteArray.empty (.slice none 0 0)
end Go.Proofs.YtefahocflhlgiaaGreatDoor
