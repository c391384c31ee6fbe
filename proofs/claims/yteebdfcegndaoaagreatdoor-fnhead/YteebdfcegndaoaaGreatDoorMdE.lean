/- The model's scanner: the head's mark (doctype). -/
/- The model's scanner: the head's mark (doctype), where nothing was wrong ahead of it. -/
/- The model's scanner: a mark. -/
import Derived.Test.YteebdfcegndaoaaGreatDoorMdC
import Derived.Test.YteebdfcegndaoaaGreatDoorFreA
import Derived.Test.YteebdfcegndaoaaGreatDoorMdD
import Derived.Test.YteebdfcegndaoaaGreatDoorPlB
namespace Go.Proofs.YteebdfcegndaoaaGreatDoor
open Go.RowKit Plain1 Strs Strs2 Lists Plain3 Plain5 Plain6 Plain9 Plain10 Plain11

set_option maxHeartbeats 4000000 in
theorem doctype_no (w : World) (g : Nat) (s : ByteArray) (p : Nat) (f : Nat) (h : ScBox w g s ⟨p, f⟩) (h0 : f ≠ 0) (hf12 : f = 2 ∨ s.size ≤ p) (hs : s.size ≤ 1048576) (hp : p ≤ s.size) :
    Calls Tryz.prog 94 #[.pointer (some ⟨g, 0, none⟩)] w fun e w' => TkSays w g s (failT f) e w' := by
  have F0 := mkHidT (Fr0.start h)
  have F1 : Hid (Fr w ((w.alloc zTok).alloc (.cells #[.int .i64 8, .string ByteArray.empty, .string ByteArray.empty, .slice none 0 0] 27)) g s ⟨p, f⟩ (w.heap.size + 1) 8 ByteArray.empty ByteArray.empty (.slice none 0 0)) := by
    have h1 := F0.out.new 8 ByteArray.empty ByteArray.empty (.slice none 0 0)
    rw [show (w.alloc zTok).heap.size = w.heap.size + 1 by simp] at h1
    exact h1
  have hc := white_any _ g s _ F1.out.fr.sc hs hp
  clear h F0
  go_enter Tryz.func94, Tryz.ntmps94
  go_wp2_with fail
  refine hc.mono ?_
  rintro e w1 ⟨rfl, hb1, hg1⟩
  have F2 := mkHidT (F1.out.step hb1 hg1)
  have hq2 := whiteZ_le (s := s) hp
  clear hc F1 hb1 hg1
  by_cases hmv : p < whiteZ s p
  · simp only [decide_eq_true hmv]
    have hnm := name_no _ g s _ F2.out.fr.sc h0
    go_wp2_with fail
    refine hnm.mono ?_
    rintro e wn ⟨rfl, hww⟩
    have FA := mkHidT (hww.symm ▸ F2.out)
    clear hnm hww F2
    obtain ⟨k0, k1, k2, k3, kf0, kf1, kf2, kf3⟩ := tkcells FA.out.box
    obtain ⟨r0, r1, r2, r3, s0, s1, s2, s3⟩ := tkcells FA.out.fr.res
    have hah := FA.out.ahead
    go_wp2_with fail
    have FB := mkHidT (FA.out.name ByteArray.empty)
    clear k0 k1 k2 k3 kf0 kf1 kf2 kf3 r0 r1 r2 r3 s0 s1 s2 s3 FA
    have hwh := white_any _ g s _ FB.out.fr.sc hs hq2
    go_wp2_with fail
    refine hwh.mono ?_
    rintro e wz ⟨rfl, hbw, hgw⟩
    have FC := mkHidT (FB.out.step hbw hgw)
    have hqC := whiteZ_le (s := s) hq2
    clear hwh FB hbw hgw
    have ho := fun W' hW => ok_at FC.out.fr.sc W' hW
    simp only [decide_eq_false h0] at ho
    go_wp2_with fail
    go_quiet ((go_at_call 68; exact Calls.quiet_of_same (ho _ rfl)))
    have FD := mkHidT (FC.out.drew nq)
    clear ho FC
    have hm := must_fails _ g s ⟨#[62]⟩ _ FD.out.fr.sc h0 hs (by decide) hqC
    go_wp2_with fail
    refine hm.mono ?_
    rintro e w9 ⟨rfl, hb9, hg9⟩
    have F9 := mkHidT (FD.out.step hb9 hg9)
    clear hm FD hb9 hg9
    obtain ⟨k0, k1, k2, k3, kf0, kf1, kf2, kf3⟩ := tkcells F9.out.box
    obtain ⟨r0, r1, r2, r3, s0, s1, s2, s3⟩ := tkcells F9.out.fr.res
    go_wp2
    refine bodyPost_ret (v := .agg #[.int .i64 8, .string ByteArray.empty, .string ByteArray.empty, .slice none 0 0]) (by simp [results, Tryz.results94, go_sem, r0, r1, r2, r3]) rfl ?_
    exact F9.out.fr.fails h0 hqC 8 ByteArray.empty ByteArray.empty (.slice none 0 0)
  · have hpe : whiteZ s p = p := by have := whiteZ_ge s p; omega
    simp only [decide_eq_false hmv]
    rw [hpe] at F2
    have hen := end_any _ g s _ F2.out.fr.sc (by show p ≤ _; omega)
    simp only [ended_fl (x := ⟨p, f⟩) (s := s) h0] at hen
    by_cases he : s.size ≤ p
    · simp only [decide_eq_true he] at hen
      go_wp2_with fail
      refine hen.mono ?_
      rintro e w2 ⟨rfl, hb2, hg2⟩
      have F3 := mkHidT (F2.out.step hb2 hg2)
      clear hen F2 hb2 hg2
      have hnm := name_no _ g s _ F3.out.fr.sc h0
      go_wp2_with fail
      refine hnm.mono ?_
      rintro e wn ⟨rfl, hww⟩
      have FA := mkHidT (hww.symm ▸ F3.out)
      clear hnm hww F3
      obtain ⟨k0, k1, k2, k3, kf0, kf1, kf2, kf3⟩ := tkcells FA.out.box
      obtain ⟨r0, r1, r2, r3, s0, s1, s2, s3⟩ := tkcells FA.out.fr.res
      have hah := FA.out.ahead
      go_wp2_with fail
      have FB := mkHidT (FA.out.name ByteArray.empty)
      clear k0 k1 k2 k3 kf0 kf1 kf2 kf3 r0 r1 r2 r3 s0 s1 s2 s3 FA
      have hwh := white_any _ g s _ FB.out.fr.sc hs hp
      go_wp2_with fail
      refine hwh.mono ?_
      rintro e wz ⟨rfl, hbw, hgw⟩
      have FC := mkHidT (FB.out.step hbw hgw)
      have hqC := whiteZ_le (s := s) hp
      clear hwh FB hbw hgw
      have ho := fun W' hW => ok_at FC.out.fr.sc W' hW
      simp only [decide_eq_false h0] at ho
      go_wp2_with fail
      go_quiet ((go_at_call 68; exact Calls.quiet_of_same (ho _ rfl)))
      have FD := mkHidT (FC.out.drew nq)
      clear ho FC
      have hm := must_fails _ g s ⟨#[62]⟩ _ FD.out.fr.sc h0 hs (by decide) hqC
      go_wp2_with fail
      refine hm.mono ?_
      rintro e w9 ⟨rfl, hb9, hg9⟩
      have F9 := mkHidT (FD.out.step hb9 hg9)
      clear hm FD hb9 hg9
      obtain ⟨k0, k1, k2, k3, kf0, kf1, kf2, kf3⟩ := tkcells F9.out.box
      obtain ⟨r0, r1, r2, r3, s0, s1, s2, s3⟩ := tkcells F9.out.fr.res
      go_wp2
      refine bodyPost_ret (v := .agg #[.int .i64 8, .string ByteArray.empty, .string ByteArray.empty, .slice none 0 0]) (by simp [results, Tryz.results94, go_sem, r0, r1, r2, r3]) rfl ?_
      exact F9.out.fr.fails h0 hqC 8 ByteArray.empty ByteArray.empty (.slice none 0 0)
    · have hf2 : f = 2 := by rcases hf12 with h | h; exact h; exact absurd h he
      subst hf2
      simp only [decide_eq_false he] at hen
      go_wp2_with fail
      refine hen.mono ?_
      rintro e w2 ⟨rfl, hb2, hg2⟩
      have F3 := mkHidT (F2.out.step hb2 hg2)
      clear hen F2 hb2 hg2
      obtain ⟨c0, c1, c2, c3, c4, f1, f2, f3, f4⟩ := block5 F3.out.fr.sc
      go_wp2_with fail
      have F4 : Hid (Fr w (w2.setCell ⟨g, 3, none⟩ (.bool true)) g s ⟨p, 2⟩ (w.heap.size + 1) 8 ByteArray.empty ByteArray.empty (.slice none 0 0)) := by
        refine F3.out.step ?_ (gset5 _)
        have h5 := set5 F3.out.fr.sc 3 (.bool true)
        unfold ScBox; rw [h5]; rfl
      clear F3 c0 c1 c2 c3 c4 f1 f2 f3 f4
      have hnm := name_no _ g s _ F4.out.fr.sc h0
      refine hnm.mono ?_
      rintro e wn ⟨rfl, hww⟩
      have FA := mkHidT (hww.symm ▸ F4.out)
      clear hnm hww F4
      obtain ⟨k0, k1, k2, k3, kf0, kf1, kf2, kf3⟩ := tkcells FA.out.box
      obtain ⟨r0, r1, r2, r3, s0, s1, s2, s3⟩ := tkcells FA.out.fr.res
      have hah := FA.out.ahead
      go_wp2_with fail
      have FB := mkHidT (FA.out.name ByteArray.empty)
      clear k0 k1 k2 k3 kf0 kf1 kf2 kf3 r0 r1 r2 r3 s0 s1 s2 s3 FA
      have hwh := white_any _ g s _ FB.out.fr.sc hs hp
      go_wp2_with fail
      refine hwh.mono ?_
      rintro e wz ⟨rfl, hbw, hgw⟩
      have FC := mkHidT (FB.out.step hbw hgw)
      have hqC := whiteZ_le (s := s) hp
      clear hwh FB hbw hgw
      have ho := fun W' hW => ok_at FC.out.fr.sc W' hW
      simp only [decide_eq_false h0] at ho
      go_wp2_with fail
      go_quiet ((go_at_call 68; exact Calls.quiet_of_same (ho _ rfl)))
      have FD := mkHidT (FC.out.drew nq)
      clear ho FC
      have hm := must_fails _ g s ⟨#[62]⟩ _ FD.out.fr.sc h0 hs (by decide) hqC
      go_wp2_with fail
      refine hm.mono ?_
      rintro e w9 ⟨rfl, hb9, hg9⟩
      have F9 := mkHidT (FD.out.step hb9 hg9)
      clear hm FD hb9 hg9
      obtain ⟨k0, k1, k2, k3, kf0, kf1, kf2, kf3⟩ := tkcells F9.out.box
      obtain ⟨r0, r1, r2, r3, s0, s1, s2, s3⟩ := tkcells F9.out.fr.res
      go_wp2
      refine bodyPost_ret (v := .agg #[.int .i64 8, .string ByteArray.empty, .string ByteArray.empty, .slice none 0 0]) (by simp [results, Tryz.results94, go_sem, r0, r1, r2, r3]) rfl ?_
      exact F9.out.fr.fails h0 hqC 8 ByteArray.empty ByteArray.empty (.slice none 0 0)
end Go.Proofs.YteebdfcegndaoaaGreatDoor

namespace Go.Proofs.YteebdfcegndaoaaGreatDoor
open Go.RowKit Plain1 Strs Strs2 Lists Plain3 Plain5 Plain6 Plain9 Plain10 Plain11

theorem take_put {P : Program} {md : Region.Mode} {ops : Array Oper} {Q : Exit → Act → World → Prop} {i d : Nat} {oi : Oper} {v : Value} {fuel : Nat} {listed : Array Bool} {a : Act} {w : World} (hi : ops[i]? = some oi) (hd : oi.dst = some d)
    (hs : Region.noSelect ops = true) (hf : Region.free md ops listed i = true) (hr : (Region.ready md ops listed).contains i = true)
    (hQ : ∀ c a w, Q (.panic c) (a.put oi.dst v) w → Q (.panic c) a w) (hy : Yields P ops oi v a)
    (h : wpAny P md ops Q fuel (listed.setIfInBounds i true) (a.put (some d) v) w) : wpAny P md ops Q (fuel + 1) listed a w :=
  wpAny_take hi hs hf hr hQ hy (by rw [hd]; exact h)
theorem put_lit (l : Array Value) (df : List Deferred) (d : Nat) (v : Value) : (Act.mk l df).put (some d) v = Act.mk (l.setIfInBounds d v) df := rfl

set_option maxHeartbeats 4000000 in
theorem doctype_ok (w : World) (g : Nat) (s : ByteArray) (p : Nat) (h : ScBox w g s ⟨p, 0⟩) (hs : s.size ≤ 1048576) (hp : p ≤ s.size) :
    Calls Tryz.prog 94 #[.pointer (some ⟨g, 0, none⟩)] w fun e w' => TkSays w g s (doctypeZ s p) e w' := by
  have F0 := mkHidT (Fr0.start h)
  have F1 : Hid (Fr w ((w.alloc zTok).alloc (.cells #[.int .i64 8, .string ByteArray.empty, .string ByteArray.empty, .slice none 0 0] 27)) g s ⟨p, 0⟩ (w.heap.size + 1) 8 ByteArray.empty ByteArray.empty (.slice none 0 0)) := by
    have h1 := F0.out.new 8 ByteArray.empty ByteArray.empty (.slice none 0 0)
    rw [show (w.alloc zTok).heap.size = w.heap.size + 1 by simp] at h1
    exact h1
  have hc := white_any _ g s _ F1.out.fr.sc hs hp
  clear h F0
  go_enter Tryz.func94, Tryz.ntmps94
  go_wp2_with fail
  refine hc.mono ?_
  rintro e w1 ⟨rfl, hb1, hg1⟩
  have F2 := mkHidT (F1.out.step hb1 hg1)
  have hq2 := whiteZ_le (s := s) hp
  clear hc F1 hb1 hg1
  by_cases hmv : p < whiteZ s p
  · simp only [decide_eq_true hmv]
    obtain ⟨q, hqd⟩ : ∃ q, whiteZ s p = q := ⟨_, rfl⟩
    rw [hqd] at F2 hq2 hmv
    have hnm := name_ok _ g s q F2.out.fr.sc hs hq2
    go_wp2_with fail
    refine hnm.mono ?_
    rintro e w2 ⟨nm, q3, rfl, hb2, hq3, hT, hg2⟩
    have F3 := mkHidT (F2.out.step hb2 hg2)
    clear hnm F2 hb2 hg2
    obtain ⟨k0, k1, k2, k3, kf0, kf1, kf2, kf3⟩ := tkcells F3.out.box
    obtain ⟨r0, r1, r2, r3, s0, s1, s2, s3⟩ := tkcells F3.out.fr.res
    have hah := F3.out.ahead
    go_wp2_with fail
    have F4 := mkHidT (F3.out.name nm)
    clear k0 k1 k2 k3 kf0 kf1 kf2 kf3 r0 r1 r2 r3 s0 s1 s2 s3 F3
    have hwh := white_any _ g s _ F4.out.fr.sc hs hq3
    go_wp2_with fail
    refine hwh.mono ?_
    rintro e w3 ⟨rfl, hbw, hgw⟩
    have F5 := mkHidT (F4.out.step hbw hgw)
    have hr := whiteZ_le (s := s) hq3
    clear hwh F4 hbw hgw
    by_cases hnf : nmF s q = 0
    · obtain ⟨hn, hq3'⟩ := hT hnf
      rw [hnf] at F5
      obtain ⟨r, hrd⟩ : ∃ r, whiteZ s q3 = r := ⟨_, rfl⟩
      rw [hrd] at F5 hr
      have HZ0 : Hid (doctypeZ s p = if hasAt s r [91] = true then
          (if subF s (r + 1) ≠ 0 then failT (subF s (r + 1))
           else if mustF s (whiteZ s (subP s (r + 1))) [62] = 0 then ⟨0, 8, nm, subT s (r + 1), [], whiteZ s (subP s (r + 1)) + 1⟩ else failT (mustF s (whiteZ s (subP s (r + 1))) [62]))
          else if mustF s r [62] = 0 then ⟨0, 8, nm, ByteArray.empty, [], r + 1⟩ else failT (mustF s r [62])) := by
        show doctypeZ s p = _
        unfold doctypeZ
        simp only [hqd]
        rw [if_neg (by omega), if_neg (by omega), ← hn, ← hq3', hrd]
      clear hT hn hq3' hqd hrd hnf
      have ho := fun W' hW => ok_at F5.out.fr.sc W' hW
      simp only [decide_true] at ho
      by_cases he : s.size ≤ r
      · have HZ : Hid (doctypeZ s p = failT 1) := by
          show doctypeZ s p = _
          rw [HZ0.out, if_neg (by rw [Plain12.has_end he]; simp)]
          have hm : mustF s r [62] = 1 := by unfold mustF lackZ; rw [if_neg (by rw [Plain12.has_end he]; simp), if_pos (Plain12.pre_end he _)]
          rw [hm]; rfl
        have hen := fun W' hW => end_at F5.out.fr.sc (show r ≤ _ by omega) W' hW
        simp only [decide_eq_true he, ended_end (x := ⟨r, 0⟩) (s := s) he rfl] at hen
        go_wp2_with fail
        refine wp_region_any (by kernel_rfl) ?_
        change wpAny _ _ _ _ _ _ _ (World.drew _)
        refine take_put (i := 0) (v := .pointer (some ⟨g, 0, none⟩)) rfl rfl (by kernel_rfl) (by kernel_rfl) (by kernel_rfl) (fun _ _ _ h => h) (Or.inl ⟨by rfl, fun wx => by go_simp⟩) ?_
        refine wpAny_ready (rs := [1]) (by kernel_rfl) (by simp) ?_
        refine AllReady.cons rfl (fun K hK => ?_) AllReady.nil
        go_simp
        refine (ho w3.drew rfl).mono ?_
        rintro e wo ⟨rfl, hww⟩
        subst hww
        refine hK _ _ ?_
        clear hK K
        refine take_put (i := 2) (v := .bool true) rfl rfl (by kernel_rfl) (by kernel_rfl) (by kernel_rfl) (fun _ _ _ h => h) (Or.inl ⟨by rfl, fun wx => by go_simp⟩) ?_
        refine take_put (i := 3) (v := .pointer (some ⟨g, 0, none⟩)) rfl rfl (by kernel_rfl) (by kernel_rfl) (by kernel_rfl) (fun _ _ _ h => h) (Or.inl ⟨by rfl, fun wx => by go_simp⟩) ?_
        refine wpAny_ready (rs := [4]) (by kernel_rfl) (by simp) ?_
        refine AllReady.cons rfl (fun K hK => ?_) AllReady.nil
        go_simp
        refine (hen w3.drew rfl).mono ?_
        rintro e w4 ⟨rfl, hb4, hg4⟩
        refine hK _ _ ?_
        clear hK K
        refine take_put (i := 5) (v := .bool false) rfl rfl (by kernel_rfl) (by kernel_rfl) (by kernel_rfl) (fun _ _ _ h => h) (Or.inl ⟨by rfl, fun wx => by go_simp⟩) ?_
        refine take_put (i := 6) (v := .bool false) rfl rfl (by kernel_rfl) (by kernel_rfl) (by kernel_rfl) (fun _ _ _ h => h) (Or.inl ⟨by rfl, fun wx => by go_simp⟩) ?_
        refine take_put (i := 7) (v := .bool false) rfl rfl (by kernel_rfl) (by kernel_rfl) (by kernel_rfl) (fun _ _ _ h => h) (Or.inl ⟨by rfl, fun wx => by go_simp⟩) ?_
        refine take_put (i := 8) (v := undef) rfl rfl (by kernel_rfl) (by kernel_rfl) (by kernel_rfl) (fun _ _ _ h => h) (Or.inr ⟨by kernel_rfl, rfl⟩) ?_
        refine take_put (i := 9) (v := undef) rfl rfl (by kernel_rfl) (by kernel_rfl) (by kernel_rfl) (fun _ _ _ h => h) (Or.inr ⟨by kernel_rfl, rfl⟩) ?_
        refine take_put (i := 10) (v := undef) rfl rfl (by kernel_rfl) (by kernel_rfl) (by kernel_rfl) (fun _ _ _ h => h) (Or.inr ⟨by kernel_rfl, rfl⟩) ?_
        refine take_put (i := 11) (v := undef) rfl rfl (by kernel_rfl) (by kernel_rfl) (by kernel_rfl) (fun _ _ _ h => h) (Or.inr ⟨by kernel_rfl, rfl⟩) ?_
        refine take_put (i := 12) (v := undef) rfl rfl (by kernel_rfl) (by kernel_rfl) (by kernel_rfl) (fun _ _ _ h => h) (Or.inr ⟨by kernel_rfl, rfl⟩) ?_
        refine take_put (i := 13) (v := undef) rfl rfl (by kernel_rfl) (by kernel_rfl) (by kernel_rfl) (fun _ _ _ h => h) (Or.inr ⟨by kernel_rfl, rfl⟩) ?_
        refine take_put (i := 14) (v := undef) rfl rfl (by kernel_rfl) (by kernel_rfl) (by kernel_rfl) (fun _ _ _ h => h) (Or.inr ⟨by kernel_rfl, rfl⟩) ?_
        refine take_put (i := 15) (v := undef) rfl rfl (by kernel_rfl) (by kernel_rfl) (by kernel_rfl) (fun _ _ _ h => h) (Or.inr ⟨by kernel_rfl, rfl⟩) ?_
        refine take_put (i := 16) (v := undef) rfl rfl (by kernel_rfl) (by kernel_rfl) (by kernel_rfl) (fun _ _ _ h => h) (Or.inr ⟨by kernel_rfl, rfl⟩) ?_
        refine take_put (i := 17) (v := undef) rfl rfl (by kernel_rfl) (by kernel_rfl) (by kernel_rfl) (fun _ _ _ h => h) (Or.inr ⟨by kernel_rfl, rfl⟩) ?_
        refine take_put (i := 18) (v := .bool false) rfl rfl (by kernel_rfl) (by kernel_rfl) (by kernel_rfl) (fun _ _ _ h => h) (Or.inl ⟨by kernel_rfl, fun wx => by go_simp⟩) ?_
        refine wpAny_done (by kernel_rfl) ?_ _
        go_simp
        have F7 := mkHidT (F5.out.step hb4 (gtrans5 (b := w3.drew) ⟨rfl, rfl, rfl, Nat.le_refl _, fun _ _ _ => rfl⟩ hg4))
        clear hen ho F5 hb4 hg4
        have hm := must_fails _ g s ⟨#[62]⟩ _ F7.out.fr.sc (by simp) hs (by decide) hr
        go_wp2_with fail
        refine hm.mono ?_
        rintro e w9 ⟨rfl, hb9, hg9⟩
        have F9 := mkHidT (F7.out.step hb9 hg9)
        clear hm F7 hb9 hg9
        obtain ⟨k0, k1, k2, k3, kf0, kf1, kf2, kf3⟩ := tkcells F9.out.box
        obtain ⟨r0, r1, r2, r3, s0, s1, s2, s3⟩ := tkcells F9.out.fr.res
        go_wp2
        refine bodyPost_ret (v := .agg #[.int .i64 8, .string nm, .string ByteArray.empty, .slice none 0 0]) (by simp [results, Tryz.results94, go_sem, r0, r1, r2, r3]) rfl ?_
        rw [HZ.out]; exact F9.out.fr.fails (by simp) hr 8 nm ByteArray.empty (.slice none 0 0)
      · have hen := fun W' hW => end_in F5.out.fr.sc (show r < s.size by omega) W' hW
        obtain ⟨c, hcb⟩ : ∃ c, byteAt s r = c := ⟨_, rfl⟩
        have hix : ∀ wx, (Instr.index 9 (.string s) (.int .i64 (r : Int))).run Tryz.prog wx = .ok (.int .u8 c) wx := fun wx => by rw [run_index_byte wx 9 s r (by omega) Tryz.underlying9, hcb]
        obtain ⟨c0, c1, c2, c3, c4, f1, f2, f3, f4⟩ := block0 F5.out.fr.sc
        have hw1 : IntKind.i64.wrap ((r : Int) + 1) = (r : Int) + 1 := wrapSm (by omega) (by omega)
        have hhas : hasAt s r [91] = decide (c = 91) := by
          rw [Plain12.has_cons (by omega), Plain12.has_nil, Bool.and_true, ← hcb]
          apply Bool.eq_iff_iff.2
          rw [beq_iff_eq, decide_eq_true_eq]
          exact ⟨fun h => (Plain12.u8At_is 91 91 rfl).2 h.symm, fun h => ((Plain12.u8At_is 91 91 rfl).1 h).symm⟩
        by_cases h91 : c = 91
        · have HZ : Hid (doctypeZ s p = if subF s (r + 1) ≠ 0 then failT (subF s (r + 1))
           else if mustF s (whiteZ s (subP s (r + 1))) [62] = 0 then ⟨0, 8, nm, subT s (r + 1), [], whiteZ s (subP s (r + 1)) + 1⟩ else failT (mustF s (whiteZ s (subP s (r + 1))) [62])) := by
            show doctypeZ s p = _
            rw [HZ0.out, if_pos (by rw [hhas]; exact decide_eq_true h91)]
          subst h91
          clear hhas hcb HZ0
          go_wp2_with fail
          go_quiet ((first | (go_at_call 68; exact Calls.quiet_of_same (ho _ rfl)) | (go_at_call 88; exact Calls.quiet_of (hen _ rfl))))
          go_wp2_with fail
          have F7 := mkHidT ((F5.out.drew nq).pos (z := (r : Int) + 1) (r + 1) (by omega))
          clear c0 c1 c2 c3 c4 f1 f2 f3 f4 F5 ho hen hix
          have hsub := subset_ok _ g s (r + 1) F7.out.fr.sc hs (by omega)
          refine hsub.mono ?_
          rintro e w5 ⟨tx, q5, rfl, hb5, hq5, hT5, hg5⟩
          have F8 := mkHidT (F7.out.step hb5 hg5)
          clear hsub F7 hb5 hg5
          obtain ⟨k0, k1, k2, k3, kf0, kf1, kf2, kf3⟩ := tkcells F8.out.box
          obtain ⟨r0, r1, r2, r3, s0, s1, s2, s3⟩ := tkcells F8.out.fr.res
          have hah := F8.out.ahead
          go_wp2_with fail
          have FE := mkHidT (F8.out.text tx)
          clear k0 k1 k2 k3 kf0 kf1 kf2 kf3 r0 r1 r2 r3 s0 s1 s2 s3 F8
          have hwh := white_any _ g s _ FE.out.fr.sc hs hq5
          go_wp2_with fail
          refine hwh.mono ?_
          rintro e w6 ⟨rfl, hbw, hgw⟩
          have FF := mkHidT (FE.out.step hbw hgw)
          have hqF := whiteZ_le (s := s) hq5
          clear hwh FE hbw hgw
          by_cases hsf : subF s (r + 1) = 0
          · obtain ⟨ht5, hq5'⟩ := hT5 hsf
            rw [hsf] at FF
            have HZ2 : Hid (doctypeZ s p = if mustF s (whiteZ s q5) [62] = 0 then ⟨0, 8, nm, tx, [], whiteZ s q5 + 1⟩ else failT (mustF s (whiteZ s q5) [62])) := by
              show doctypeZ s p = _
              rw [HZ.out, if_neg (by omega), ← ht5, ← hq5']
            clear HZ hT5 ht5 hq5' hsf
            have hm := must_call _ g s ⟨#[62]⟩ (whiteZ s q5) [62] rfl FF.out.fr.sc hs (by decide) hqF
            go_wp2_with fail
            refine hm.mono ?_
            rintro e w7 ⟨q7, rfl, hb7, hl7, hp7, hg7⟩
            have FG := mkHidT (FF.out.step hb7 hg7)
            clear hm FF hb7 hg7
            obtain ⟨k0, k1, k2, k3, kf0, kf1, kf2, kf3⟩ := tkcells FG.out.box
            obtain ⟨r0, r1, r2, r3, s0, s1, s2, s3⟩ := tkcells FG.out.fr.res
            go_wp2
            refine bodyPost_ret (v := .agg #[.int .i64 8, .string nm, .string tx, .slice none 0 0]) (by simp [results, Tryz.results94, go_sem, r0, r1, r2, r3]) rfl ?_
            rw [HZ2.out]
            have FH := FG.out.fr
            by_cases hf7 : mustF s (whiteZ s q5) [62] = 0
            · have hq7 := hp7 hf7
              rw [if_pos hf7]
              rw [hf7] at FH
              subst hq7
              exact FH.tells hl7 8 nm tx
            · rw [if_neg hf7]
              exact FH.fails hf7 hl7 8 nm tx (.slice none 0 0)
          · have HZ2 : Hid (doctypeZ s p = failT (subF s (r + 1))) := by
              show doctypeZ s p = _
              rw [HZ.out, if_pos hsf]
            have hm := must_fails _ g s ⟨#[62]⟩ _ FF.out.fr.sc hsf hs (by decide) hqF
            go_wp2_with fail
            refine hm.mono ?_
            rintro e w9 ⟨rfl, hb9, hg9⟩
            have F9 := mkHidT (FF.out.step hb9 hg9)
            clear hm FF hb9 hg9
            obtain ⟨k0, k1, k2, k3, kf0, kf1, kf2, kf3⟩ := tkcells F9.out.box
            obtain ⟨r0, r1, r2, r3, s0, s1, s2, s3⟩ := tkcells F9.out.fr.res
            go_wp2
            refine bodyPost_ret (v := .agg #[.int .i64 8, .string nm, .string tx, .slice none 0 0]) (by simp [results, Tryz.results94, go_sem, r0, r1, r2, r3]) rfl ?_
            rw [HZ2.out]; exact F9.out.fr.fails hsf hqF 8 nm tx (.slice none 0 0)
        · have HZ : Hid (doctypeZ s p = if mustF s r [62] = 0 then ⟨0, 8, nm, ByteArray.empty, [], r + 1⟩ else failT (mustF s r [62])) := by
            show doctypeZ s p = _
            rw [HZ0.out, if_neg (by rw [hhas]; simpa using h91)]
          have e91 : (c == 91) = false := beq_eq_false_iff_ne.2 h91
          clear hhas hcb HZ0 h91
          go_wp2_with fail
          go_quiet ((first | (go_at_call 68; exact Calls.quiet_of_same (ho _ rfl)) | (go_at_call 88; exact Calls.quiet_of (hen _ rfl))))
          have F7 := mkHidT (F5.out.drew nq)
          clear c0 c1 c2 c3 c4 f1 f2 f3 f4 F5 ho hen hix
          have hm := must_call _ g s ⟨#[62]⟩ r [62] rfl F7.out.fr.sc hs (by decide) hr
          go_wp2_with fail
          refine hm.mono ?_
          rintro e w7 ⟨q7, rfl, hb7, hl7, hp7, hg7⟩
          have FG := mkHidT (F7.out.step hb7 hg7)
          clear hm F7 hb7 hg7
          obtain ⟨k0, k1, k2, k3, kf0, kf1, kf2, kf3⟩ := tkcells FG.out.box
          obtain ⟨r0, r1, r2, r3, s0, s1, s2, s3⟩ := tkcells FG.out.fr.res
          go_wp2
          refine bodyPost_ret (v := .agg #[.int .i64 8, .string nm, .string ByteArray.empty, .slice none 0 0]) (by simp [results, Tryz.results94, go_sem, r0, r1, r2, r3]) rfl ?_
          rw [HZ.out]
          have FH := FG.out.fr
          by_cases hf7 : mustF s r [62] = 0
          · have hq7 := hp7 hf7
            rw [if_pos hf7]
            rw [hf7] at FH
            subst hq7
            exact FH.tells hl7 8 nm ByteArray.empty
          · rw [if_neg hf7]
            exact FH.fails hf7 hl7 8 nm ByteArray.empty (.slice none 0 0)
    · have HZ : Hid (doctypeZ s p = failT (nmF s q)) := by
        show doctypeZ s p = _
        unfold doctypeZ
        simp only [hqd]
        rw [if_neg (by omega), if_pos hnf]
      clear hT
      have ho := fun W' hW => ok_at F5.out.fr.sc W' hW
      simp only [decide_eq_false hnf] at ho
      go_wp2_with fail
      go_quiet ((go_at_call 68; exact Calls.quiet_of_same (ho _ rfl)))
      have F6 := mkHidT (F5.out.drew nq)
      clear ho F5
      have hm := must_fails _ g s ⟨#[62]⟩ _ F6.out.fr.sc hnf hs (by decide) hr
      go_wp2_with fail
      refine hm.mono ?_
      rintro e w9 ⟨rfl, hb9, hg9⟩
      have F9 := mkHidT (F6.out.step hb9 hg9)
      clear hm F6 hb9 hg9
      obtain ⟨k0, k1, k2, k3, kf0, kf1, kf2, kf3⟩ := tkcells F9.out.box
      obtain ⟨r0, r1, r2, r3, s0, s1, s2, s3⟩ := tkcells F9.out.fr.res
      go_wp2
      refine bodyPost_ret (v := .agg #[.int .i64 8, .string nm, .string ByteArray.empty, .slice none 0 0]) (by simp [results, Tryz.results94, go_sem, r0, r1, r2, r3]) rfl ?_
      rw [HZ.out]; exact F9.out.fr.fails hnf hr 8 nm ByteArray.empty (.slice none 0 0)
  · have hpe : whiteZ s p = p := by have := whiteZ_ge s p; omega
    simp only [decide_eq_false hmv]
    rw [hpe] at F2
    have hen := end_any _ g s _ F2.out.fr.sc (by show p ≤ _; omega)
    by_cases he : s.size ≤ p
    · have HZ : Hid (doctypeZ s p = failT 1) := by
        show doctypeZ s p = _
        unfold doctypeZ
        simp only [hpe, ↓reduceIte]
        rw [if_pos he]
      simp only [decide_eq_true he, ended_end (x := ⟨p, 0⟩) (s := s) he rfl] at hen
      go_wp2_with fail
      refine hen.mono ?_
      rintro e w2 ⟨rfl, hb2, hg2⟩
      have F3 := mkHidT (F2.out.step hb2 hg2)
      clear hen F2 hb2 hg2
      have hnm := name_no _ g s _ F3.out.fr.sc (show (1 : Nat) ≠ 0 by simp)
      go_wp2_with fail
      refine hnm.mono ?_
      rintro e wn ⟨rfl, hww⟩
      have FA := mkHidT (hww.symm ▸ F3.out)
      clear hnm hww F3
      obtain ⟨k0, k1, k2, k3, kf0, kf1, kf2, kf3⟩ := tkcells FA.out.box
      obtain ⟨r0, r1, r2, r3, s0, s1, s2, s3⟩ := tkcells FA.out.fr.res
      have hah := FA.out.ahead
      go_wp2_with fail
      have FB := mkHidT (FA.out.name ByteArray.empty)
      clear k0 k1 k2 k3 kf0 kf1 kf2 kf3 r0 r1 r2 r3 s0 s1 s2 s3 FA
      have hwh := white_any _ g s _ FB.out.fr.sc hs hp
      go_wp2_with fail
      refine hwh.mono ?_
      rintro e wz ⟨rfl, hbw, hgw⟩
      have FC := mkHidT (FB.out.step hbw hgw)
      have hqC := whiteZ_le (s := s) hp
      clear hwh FB hbw hgw
      have ho := fun W' hW => ok_at FC.out.fr.sc W' hW
      simp only [decide_eq_false (show (1 : Nat) ≠ 0 by simp)] at ho
      go_wp2_with fail
      go_quiet ((go_at_call 68; exact Calls.quiet_of_same (ho _ rfl)))
      have FD := mkHidT (FC.out.drew nq)
      clear ho FC
      have hm := must_fails _ g s ⟨#[62]⟩ _ FD.out.fr.sc (show (1 : Nat) ≠ 0 by simp) hs (by decide) hqC
      go_wp2_with fail
      refine hm.mono ?_
      rintro e w9 ⟨rfl, hb9, hg9⟩
      have F9 := mkHidT (FD.out.step hb9 hg9)
      clear hm FD hb9 hg9
      obtain ⟨k0, k1, k2, k3, kf0, kf1, kf2, kf3⟩ := tkcells F9.out.box
      obtain ⟨r0, r1, r2, r3, s0, s1, s2, s3⟩ := tkcells F9.out.fr.res
      go_wp2
      refine bodyPost_ret (v := .agg #[.int .i64 8, .string ByteArray.empty, .string ByteArray.empty, .slice none 0 0]) (by simp [results, Tryz.results94, go_sem, r0, r1, r2, r3]) rfl ?_
      rw [HZ.out]; exact F9.out.fr.fails (show (1 : Nat) ≠ 0 by simp) hqC 8 ByteArray.empty ByteArray.empty (.slice none 0 0)
    · have HZ : Hid (doctypeZ s p = failT 2) := by
        show doctypeZ s p = _
        unfold doctypeZ
        simp only [hpe, ↓reduceIte]
        rw [if_neg he]
      simp only [decide_eq_false he, ended_in (x := ⟨p, 0⟩) (s := s) (show p < s.size by omega)] at hen
      go_wp2_with fail
      refine hen.mono ?_
      rintro e w2 ⟨rfl, hb2, hg2⟩
      have F3 := mkHidT (F2.out.step hb2 hg2)
      clear hen F2 hb2 hg2
      obtain ⟨c0, c1, c2, c3, c4, f1, f2, f3, f4⟩ := block0 F3.out.fr.sc
      go_wp2_with fail
      have F4 := mkHidT F3.out.bad
      clear F3 c0 c1 c2 c3 c4 f1 f2 f3 f4
      have hnm := name_no _ g s _ F4.out.fr.sc (show (2 : Nat) ≠ 0 by simp)
      refine hnm.mono ?_
      rintro e wn ⟨rfl, hww⟩
      have FA := mkHidT (hww.symm ▸ F4.out)
      clear hnm hww F4
      obtain ⟨k0, k1, k2, k3, kf0, kf1, kf2, kf3⟩ := tkcells FA.out.box
      obtain ⟨r0, r1, r2, r3, s0, s1, s2, s3⟩ := tkcells FA.out.fr.res
      have hah := FA.out.ahead
      go_wp2_with fail
      have FB := mkHidT (FA.out.name ByteArray.empty)
      clear k0 k1 k2 k3 kf0 kf1 kf2 kf3 r0 r1 r2 r3 s0 s1 s2 s3 FA
      have hwh := white_any _ g s _ FB.out.fr.sc hs hp
      go_wp2_with fail
      refine hwh.mono ?_
      rintro e wz ⟨rfl, hbw, hgw⟩
      have FC := mkHidT (FB.out.step hbw hgw)
      have hqC := whiteZ_le (s := s) hp
      clear hwh FB hbw hgw
      have ho := fun W' hW => ok_at FC.out.fr.sc W' hW
      simp only [decide_eq_false (show (2 : Nat) ≠ 0 by simp)] at ho
      go_wp2_with fail
      go_quiet ((go_at_call 68; exact Calls.quiet_of_same (ho _ rfl)))
      have FD := mkHidT (FC.out.drew nq)
      clear ho FC
      have hm := must_fails _ g s ⟨#[62]⟩ _ FD.out.fr.sc (show (2 : Nat) ≠ 0 by simp) hs (by decide) hqC
      go_wp2_with fail
      refine hm.mono ?_
      rintro e w9 ⟨rfl, hb9, hg9⟩
      have F9 := mkHidT (FD.out.step hb9 hg9)
      clear hm FD hb9 hg9
      obtain ⟨k0, k1, k2, k3, kf0, kf1, kf2, kf3⟩ := tkcells F9.out.box
      obtain ⟨r0, r1, r2, r3, s0, s1, s2, s3⟩ := tkcells F9.out.fr.res
      go_wp2
      refine bodyPost_ret (v := .agg #[.int .i64 8, .string ByteArray.empty, .string ByteArray.empty, .slice none 0 0]) (by simp [results, Tryz.results94, go_sem, r0, r1, r2, r3]) rfl ?_
      rw [HZ.out]; exact F9.out.fr.fails (show (2 : Nat) ≠ 0 by simp) hqC 8 ByteArray.empty ByteArray.empty (.slice none 0 0)
end Go.Proofs.YteebdfcegndaoaaGreatDoor

namespace Go.Proofs.YteebdfcegndaoaaGreatDoor
open Go.RowKit Plain1 Strs Strs2 Lists Plain3 Plain5 Plain6 Plain9 Plain10 Plain11 Plain12

theorem mustGo_short {s what : ByteArray} : ∀ (f i p : Nat), (mustGo s what f i ⟨p, 0⟩).fl = 1 → s.size ≤ (mustGo s what f i ⟨p, 0⟩).pos
  | 0, i, p, h => by simp [mustGo] at h
  | f + 1, i, p, h => by
    by_cases hi : i < what.size
    · by_cases he : s.size ≤ p
      · rw [must_end ⟨hi, rfl⟩ he, ended_end he rfl]; exact he
      · by_cases hb : byteAt s p = byteAt what i
        · rw [must_on ⟨hi, rfl⟩ he hb] at h ⊢; exact mustGo_short f _ _ h
        · rw [must_bad ⟨hi, rfl⟩ he hb] at h; cases h
    · rw [must_stop (fun hh => hi hh.1)] at h; cases h
theorem must_call2 (w : World) (g : Nat) (s what : ByteArray) (p : Nat) (sg : List UInt8) (hsg : what.data.toList = sg) (h : ScBox w g s ⟨p, 0⟩) (hs : s.size ≤ 1048576) (hw : what.size ≤ 1048576) (hp : p ≤ s.size) :
    Calls Tryz.prog 87 #[.pointer (some ⟨g, 0, none⟩), .string what] w fun e w' => ∃ q, e = .returned (.tuple #[]) ∧ ScBox w' g s ⟨q, mustF s p sg⟩ ∧ q ≤ s.size ∧ (mustF s p sg = 0 → q = p + sg.length) ∧ (mustF s p sg = 1 → s.size ≤ q) ∧ w.grownBy w' (some g) := by
  subst hsg
  refine (must_any w g s what ⟨p, 0⟩ h hs hw hp).mono ?_
  rintro e w' ⟨he, hb, hg⟩
  have hfl := must_fl (s := s) (what := what) hp
  refine ⟨((Sc.mk p 0).must s what).pos, he, ?_, must_le hp, must_pos hp, fun h1 => mustGo_short _ _ _ (hfl.trans h1), hg⟩
  rw [← hfl]; exact hb
theorem Fr0.drew {w W : World} {g : Nat} {s : ByteArray} {x : Sc} (h : Fr0 w W g s x) (n : Nat) : Fr0 w (W.drewN n) g s x := h.step h.sc (gdrew5 W n _)
theorem Fr0.pos {w W : World} {g : Nat} {s : ByteArray} {p f : Nat} (h : Fr0 w W g s ⟨p, f⟩) {z : Int} (q : Nat) (hz : z = (q : Int)) : Fr0 w (W.setCell ⟨g, 1, none⟩ (.int .i64 z)) g s ⟨q, f⟩ := h.step (box_posI h.sc q hz) (gset5 _)
/-- A mark that a function of its own has read, handed on. -/
theorem Fr0.pass {w W w' : World} {g : Nat} {s : ByteArray} {x : Sc} (h : Fr0 w W g s x) {kd : Int} {nm tx : ByteArray} {ao : Option Addr} {an ac : Nat} {q : Nat} {T : Tk} (hb : ScBox w' g s ⟨q, T.fl⟩) (hq : q ≤ s.size)
    (hT : T.fl = 0 → kd = T.kind ∧ nm = T.name ∧ tx = T.text ∧ q = T.pos ∧ w'.ownsRow W.heap.size 109 2 (.slice ao an ac) T.attrs.length (acells T.attrs)) (hg : W.grownBy w' (some g)) :
    TkSays w g s T (.returned (.agg #[.int .i64 kd, .string nm, .string tx, .slice ao an ac])) ((((w'.setCell ⟨w.heap.size, 0, none⟩ (.int .i64 kd)).setCell ⟨w.heap.size, 1, none⟩ (.string nm)).setCell ⟨w.heap.size, 2, none⟩ (.string tx)).setCell ⟨w.heap.size, 3, none⟩ (.slice ao an ac)) := by
  have h' := h.step hb hg
  have hF := fin4 h'.sc h'.grown h'.lt (.int .i64 kd) (.string nm) (.string tx) (.slice ao an ac)
  have ha := tk_lt h.res
  refine ⟨kd, nm, tx, ao, an, ac, q, rfl, hF.1, hq, fun h0 => ?_, hF.2⟩
  obtain ⟨e1, e2, e3, e4, hr0⟩ := hT h0
  have hs : ∀ {W0 : World} (j : Nat) (u : Value), W0.ownsRow W.heap.size 109 2 (.slice ao an ac) T.attrs.length (acells T.attrs) → (W0.setCell ⟨w.heap.size, j, none⟩ u).ownsRow W.heap.size 109 2 (.slice ao an ac) T.attrs.length (acells T.attrs) :=
    fun j u h0 => h0.kept (gset5 (g := w.heap.size) (j := j) u) (.inr fun e => by have := h0.lt _ e; omega)
  have hr := hs 3 (.slice ao an ac) (hs 2 (.string tx) (hs 1 (.string nm) (hs 0 (.int .i64 kd) hr0)))
  refine ⟨e1, e2, e3, e4, ?_⟩
  rcases hr with ⟨h1, h2⟩
  refine ⟨h1, ?_⟩
  rcases h2 with h2 | ⟨b, cap, cur, h3, h4, h5⟩
  · exact .inl h2
  · exact .inr ⟨b, cap, cur, h3, by omega, h5⟩

set_option maxHeartbeats 4000000 in
theorem mark_ok (w : World) (g : Nat) (s : ByteArray) (p : Nat) (h : ScBox w g s ⟨p, 0⟩) (hs : s.size ≤ 1048576) (hp : p < s.size) (h60 : byteAt s p = 60) :
    Calls Tryz.prog 61 #[.pointer (some ⟨g, 0, none⟩)] w fun e w' => TkSays w g s (markZ s p) e w' := by
  obtain ⟨Z, hZd⟩ : ∃ Z, markZ s p = Z := ⟨_, rfl⟩
  rw [hZd]
  have F0 := mkHidT (Fr0.start h)
  have hm := must_call _ g s ⟨#[60]⟩ p [60] rfl F0.out.sc hs (by decide) (by omega)
  have hm0 : mustF s p [60] = 0 := by
    rw [must_has, has_cons hp, has_nil, (u8At_is 60 60 rfl).1 h60]; rfl
  rw [hm0] at hm
  have HZ := mkHidT hZd
  have H60 := mkHidT h60
  clear h hm0 hZd h60
  go_enter Tryz.func61, Tryz.ntmps61
  go_wp2_with fail
  refine hm.mono ?_
  rintro e w1 ⟨q, rfl, hb1, hq, hq1, hg1⟩
  have hqq : q = p + 1 := by simpa using hq1
  have HQ := mkHidT hqq
  have F1 := mkHidT (F0.out.step hb1 hg1)
  clear hm F0 hb1 hg1 hq1 hqq
  have ho := ok_any _ g s _ F1.out.sc
  simp only [decide_true] at ho
  have hen := end_any _ g s _ F1.out.sc (by show q ≤ _; omega)
  go_wp2_with fail
  refine ho.mono ?_
  rintro e w2 ⟨rfl, hww⟩
  obtain rfl := hww.symm
  clear ho
  by_cases he : s.size ≤ q
  · simp only [decide_eq_true he, ended_end (x := ⟨q, 0⟩) (s := s) he rfl] at hen
    go_wp2_with fail
    refine hen.mono ?_
    rintro e w3 ⟨rfl, hb3, hg3⟩
    have F3 := mkHidT (F1.out.step hb3 hg3)
    clear hen F1 hb3 hg3
    obtain ⟨r0, r1, r2, r3, s0, s1, s2, s3⟩ := tkcells F3.out.res
    go_wp2
    refine bodyPost_ret (v := .agg #[.int .i64 0, .string ⟨#[]⟩, .string ⟨#[]⟩, .slice none 0 0]) (by simp [results, Tryz.results61, go_sem, r0, r1, r2, r3]) rfl ?_
    rw [← HZ.out, mark_end1 hp H60.out (by rw [← HQ.out]; exact he)]
    exact F3.out.fails (by simp) hq 0 ByteArray.empty ByteArray.empty (.slice none 0 0)
  · simp only [decide_eq_false he, ended_in (x := ⟨q, 0⟩) (s := s) (show q < s.size by omega)] at hen
    go_wp2_with fail
    refine hen.mono ?_
    rintro e w3 ⟨rfl, hb3, hg3⟩
    have F3 := mkHidT (F1.out.step hb3 hg3)
    clear hen F1 hb3 hg3
    have hp1 : q < s.size := by omega
    obtain ⟨c, hcb⟩ : ∃ c, byteAt s q = c := ⟨_, rfl⟩
    have hix : ∀ wx, (Instr.index 9 (.string s) (.int .i64 (q : Int))).run Tryz.prog wx = .ok (.int .u8 c) wx := fun wx => by rw [run_index_byte wx 9 s q (by omega) Tryz.underlying9, hcb]
    have HC : Hid (byteAt s (p + 1) = c) := by rw [← HQ.out]; exact mkHidT hcb
    have hw1 : IntKind.i64.wrap ((q : Int) + 1) = (q : Int) + 1 := wrapSm (by omega) (by omega)
    clear hcb
    obtain ⟨b0, b1, b2, b3, b4, f1, f2, f3, f4⟩ := block0 F3.out.sc
    go_wp2_with fail
    go_quiet (fail)
    have F4 := mkHidT (F3.out.drew nq)
    clear F3 b0 b1 b2 b3 b4 f1 f2 f3 f4 hix
    generalize w3.drewN nq = w4 at F4 ⊢
    obtain ⟨b0, b1, b2, b3, b4, f1, f2, f3, f4⟩ := block0 F4.out.sc
    by_cases h47 : c = 47
    · subst h47
      have HZ1 : Hid (Z = endZ s (q + 1)) := by rw [← HZ.out, mark_slash (by have := HQ.out; omega) H60.out HC.out, HQ.out]; exact mkHidT rfl
      go_wp2_with fail
      have F5 := mkHidT (F4.out.pos (q + 1) (by omega : (q : Int) + 1 = ((q + 1 : Nat) : Int)))
      have hnm := name_ok _ g s (q + 1) F5.out.sc hs (by omega)
      refine hnm.mono ?_
      rintro e w5 ⟨nm, q2, rfl, hb5, hq5, hT, hg5⟩
      have F6 := mkHidT (F5.out.step hb5 hg5)
      clear hnm F4 F5 hb5 hg5 b0 b1 b2 b3 b4 f1 f2 f3 f4
      have F7 := mkHidT (F6.out.new 2 nm ByteArray.empty (.slice none 0 0))
      have hwh := white_any _ g s _ F7.out.fr.sc hs hq5
      go_wp2_with fail
      refine hwh.mono ?_
      rintro e w6 ⟨rfl, hbw, hgw⟩
      have F8 := mkHidT (F7.out.step hbw hgw)
      have hr := whiteZ_le (s := s) hq5
      clear hwh F6 F7 hbw hgw
      by_cases hf : nmF s (q + 1) = 0
      · obtain ⟨hn, hq'⟩ := hT hf
        rw [hf] at F8
        have HZ2 : Hid (Z = if mustF s (whiteZ s q2) [62] = 0 then ⟨0, 2, nm, ByteArray.empty, [], whiteZ s q2 + 1⟩ else failT (mustF s (whiteZ s q2) [62])) := by
          rw [HZ1.out]; unfold endZ; rw [if_neg (by omega), ← hn, ← hq']; exact mkHidT rfl
        clear hT hn hq' hf HZ1
        have hm := must_call _ g s ⟨#[62]⟩ _ [62] rfl F8.out.fr.sc hs (by decide) hr
        go_wp2_with fail
        refine hm.mono ?_
        rintro e w7 ⟨q3, rfl, hb7, hl7, hp7, hg7⟩
        have F9 := mkHidT (F8.out.step hb7 hg7)
        clear hm F8 hb7 hg7
        obtain ⟨k0, k1, k2, k3, _, _, _, _⟩ := tkcells F9.out.box
        obtain ⟨r0, r1, r2, r3, s0, s1, s2, s3⟩ := tkcells F9.out.fr.res
        go_wp2
        refine bodyPost_ret (v := .agg #[.int .i64 2, .string nm, .string ByteArray.empty, .slice none 0 0]) (by simp [results, Tryz.results61, go_sem, r0, r1, r2, r3]) rfl ?_
        rw [HZ2.out]
        by_cases hf2 : mustF s (whiteZ s q2) [62] = 0
        · have hq2 := hp7 hf2
          have F10 := F9.out.fr
          rw [hf2] at F10
          rw [if_pos hf2]
          subst hq2
          exact F10.tells hl7 2 nm ByteArray.empty
        · rw [if_neg hf2]
          exact F9.out.fr.fails hf2 hl7 2 nm ByteArray.empty (.slice none 0 0)
      · have HZ2 : Hid (Z = failT (nmF s (q + 1))) := by
          rw [HZ1.out]; unfold endZ; rw [if_pos hf]; exact mkHidT rfl
        have hm := must_fails _ g s ⟨#[62]⟩ _ F8.out.fr.sc hf hs (by decide) hr
        clear hT HZ1
        go_wp2_with fail
        refine hm.mono ?_
        rintro e w7 ⟨rfl, hb7, hg7⟩
        have F9 := mkHidT (F8.out.step hb7 hg7)
        clear hm F8 hb7 hg7
        obtain ⟨k0, k1, k2, k3, _, _, _, _⟩ := tkcells F9.out.box
        obtain ⟨r0, r1, r2, r3, s0, s1, s2, s3⟩ := tkcells F9.out.fr.res
        go_wp2
        refine bodyPost_ret (v := .agg #[.int .i64 2, .string nm, .string ByteArray.empty, .slice none 0 0]) (by simp [results, Tryz.results61, go_sem, r0, r1, r2, r3]) rfl ?_
        rw [HZ2.out]
        exact F9.out.fr.fails hf hr 2 nm ByteArray.empty (.slice none 0 0)
    by_cases h63 : c = 63
    · subst h63
      have HZ1 : Hid (piZ s (q + 1) = Z) := by rw [← HZ.out, mark_pi (by have := HQ.out; omega) H60.out HC.out, HQ.out]; exact mkHidT rfl
      go_wp2_with fail
      have F5 := mkHidT (F4.out.pos (q + 1) (by omega : (q : Int) + 1 = ((q + 1 : Nat) : Int)))
      have hc := pi_ok _ g s (q + 1) F5.out.sc hs (by omega)
      rw [HZ1.out] at hc
      refine hc.mono ?_
      rintro e w5 ⟨kd, nm, tx, ao, an, ac, q5, rfl, hb5, hq5, hT, hg5⟩
      have F6 := mkHidT (F5.out.step hb5 hg5)
      clear hc F4 b0 b1 b2 b3 b4 f1 f2 f3 f4
      obtain ⟨r0, r1, r2, r3, s0, s1, s2, s3⟩ := tkcells F6.out.res
      have HP := mkHidT (F5.out.pass hb5 hq5 hT hg5)
      clear F5 F6 hb5 hT hg5
      go_wp2
      refine bodyPost_ret (v := .agg #[.int .i64 kd, .string nm, .string tx, .slice ao an ac]) (by simp [results, Tryz.results61, go_sem, r0, r1, r2, r3]) rfl ?_
      exact HP.out
    by_cases h33 : c = 33
    · subst h33
      obtain ⟨r, hrd⟩ : ∃ r, q + 1 = r := ⟨_, rfl⟩
      have hr : r ≤ s.size := by omega
      have hrp : (p + 2 : Nat) = r := by rw [← hrd, HQ.out]
      have HRP := mkHidT hrp
      have HRD := mkHidT hrd
      clear hrp hrd
      go_wp2_with fail
      have F5 := mkHidT (F4.out.pos (z := (q : Int) + 1) r (by have := HRD.out; omega))
      have hen := end_any _ g s _ F5.out.sc (by show r ≤ _; omega)
      clear F4 b0 b1 b2 b3 b4 f1 f2 f3 f4
      by_cases he2 : s.size ≤ r
      · simp only [decide_eq_true he2, ended_end (x := ⟨r, 0⟩) (s := s) he2 rfl] at hen
        refine hen.mono ?_
        rintro e w6 ⟨rfl, hb6, hg6⟩
        have F6 := mkHidT (F5.out.step hb6 hg6)
        clear hen F5 hb6 hg6
        obtain ⟨r0, r1, r2, r3, s0, s1, s2, s3⟩ := tkcells F6.out.res
        go_wp2
        refine bodyPost_ret (v := .agg #[.int .i64 0, .string ⟨#[]⟩, .string ⟨#[]⟩, .slice none 0 0]) (by simp [results, Tryz.results61, go_sem, r0, r1, r2, r3]) rfl ?_
        rw [← HZ.out, mark_excl_end (by have := HQ.out; omega) H60.out HC.out (by rw [HRP.out]; exact he2)]
        exact F6.out.fails (by simp) hr 0 ByteArray.empty ByteArray.empty (.slice none 0 0)
      · simp only [decide_eq_false he2, ended_in (x := ⟨r, 0⟩) (s := s) (show r < s.size by omega)] at hen
        refine hen.mono ?_
        rintro e w6 ⟨rfl, hb6, hg6⟩
        have F6 := mkHidT (F5.out.step hb6 hg6)
        clear hen F5 hb6 hg6
        have hp2 : p + 2 < s.size := by have := HRP.out; omega
        have HP2 := mkHidT hp2
        clear hp2
        obtain ⟨d, hdb⟩ : ∃ d, byteAt s r = d := ⟨_, rfl⟩
        have hix : ∀ wx, (Instr.index 9 (.string s) (.int .i64 (r : Int))).run Tryz.prog wx = .ok (.int .u8 d) wx := fun wx => by rw [run_index_byte wx 9 s r (by omega) Tryz.underlying9, hdb]
        have HD : Hid (byteAt s (p + 2) = d) := by rw [HRP.out]; exact mkHidT hdb
        clear hdb
        obtain ⟨b0, b1, b2, b3, b4, f1, f2, f3, f4⟩ := block0 F6.out.sc
        go_wp2_with fail
        go_quiet (fail)
        have F7 := mkHidT (F6.out.drew nq)
        clear F6 b0 b1 b2 b3 b4 f1 f2 f3 f4 hix
        generalize w6.drewN nq = w7 at F7 ⊢
        by_cases h45 : d = 45
        · subst h45
          have hZ1 := mark_dash HP2.out H60.out HC.out HD.out
          rw [HZ.out, HRP.out, show p + 4 = r + 2 by have := HRP.out; omega] at hZ1
          have HZ1 := mkHidT hZ1
          have hm := must_call _ g s ⟨#[45, 45]⟩ _ [45, 45] rfl F7.out.sc hs (by decide) hr
          clear hZ1
          go_wp2_with fail
          refine hm.mono ?_
          rintro e w8 ⟨q8, rfl, hb8, hl8, hp8, hg8⟩
          have F8 := mkHidT (F7.out.step hb8 hg8)
          clear hm F7 hb8 hg8
          have hc : Calls Tryz.prog 92 #[.pointer (some ⟨g, 0, none⟩)] w8 fun e w' => TkSays w8 g s Z e w' := by
            rw [HZ1.out]
            by_cases hf2 : mustF s r [45, 45] = 0
            · rw [if_pos hf2]
              have e8 : q8 = r + 2 := hp8 hf2
              have hsc := F8.out.sc
              rw [hf2, e8] at hsc
              exact comment_ok _ g s (r + 2) hsc hs (by rw [← e8]; exact hl8)
            · rw [if_neg hf2]
              exact comment_no _ g s _ F8.out.sc hf2 hs hl8
          clear hp8 HZ1
          go_wp2_with fail
          refine hc.mono ?_
          rintro e w5 ⟨kd, nm, tx, ao, an, ac, q5, rfl, hb5, hq5, hT, hg5⟩
          have F9 := mkHidT (F8.out.step hb5 hg5)
          clear hc
          obtain ⟨r0, r1, r2, r3, s0, s1, s2, s3⟩ := tkcells F9.out.res
          have HP := mkHidT (F8.out.pass hb5 hq5 hT hg5)
          clear F8 F9 hb5 hT hg5
          go_wp2
          refine bodyPost_ret (v := .agg #[.int .i64 kd, .string nm, .string tx, .slice ao an ac]) (by simp [results, Tryz.results61, go_sem, r0, r1, r2, r3]) rfl ?_
          exact HP.out
        by_cases h91 : d = 91
        · subst h91
          have hZ1 := mark_brack HP2.out H60.out HC.out HD.out
          rw [HZ.out, HRP.out, show p + 9 = r + 7 by have := HRP.out; omega] at hZ1
          have HZ1 := mkHidT hZ1
          have hm := must_call _ g s ⟨#[91, 67, 68, 65, 84, 65, 91]⟩ _ [91, 67, 68, 65, 84, 65, 91] rfl F7.out.sc hs (by decide) hr
          clear hZ1
          go_wp2_with fail
          refine hm.mono ?_
          rintro e w8 ⟨q8, rfl, hb8, hl8, hp8, hg8⟩
          have F8 := mkHidT (F7.out.step hb8 hg8)
          clear hm F7 hb8 hg8
          by_cases hf2 : mustF s r [91, 67, 68, 65, 84, 65, 91] = 0
          · have e8 : q8 = r + 7 := hp8 hf2
            have hZ2 := HZ1.out
            rw [if_pos hf2, ← e8] at hZ2
            have HZ2 := mkHidT hZ2
            rw [hf2] at F8
            have hc := till_call _ g s ⟨#[93, 93, 62]⟩ q8 [93, 93, 62] rfl F8.out.sc hs hl8 (by decide) (by simp)
            clear hp8 HZ1 hf2 e8 hZ2
            go_wp2_with fail
            refine hc.mono ?_
            rintro e w9 ⟨t, q9, rfl, hb9, hl9, hp9, hg9⟩
            have F9 := mkHidT (F8.out.step hb9 hg9)
            clear hc F8 hb9 hg9
            obtain ⟨r0, r1, r2, r3, s0, s1, s2, s3⟩ := tkcells F9.out.res
            go_wp2
            refine bodyPost_ret (v := .agg #[.int .i64 5, .string ⟨#[]⟩, .string t, .slice none 0 0]) (by simp [results, Tryz.results61, go_sem, r0, r1, r2, r3]) rfl ?_
            rw [HZ2.out]
            unfold cdataZ
            by_cases hf3 : upF s q8 [93, 93, 62] = 0
            · obtain ⟨ht, hqq⟩ := hp9 hf3
              have F10 := F9.out
              rw [hf3] at F10
              rw [if_pos hf3, ← ht, ← hqq]
              exact F10.tells hl9 5 ByteArray.empty t
            · rw [if_neg hf3]
              exact F9.out.fails hf3 hl9 5 ByteArray.empty t (.slice none 0 0)
          · have hZ2 := HZ1.out
            rw [if_neg hf2] at hZ2
            have HZ2 := mkHidT hZ2
            have hc := till_no _ g s ⟨#[93, 93, 62]⟩ _ F8.out.sc hf2
            clear hp8 HZ1 hZ2
            go_wp2_with fail
            refine hc.mono ?_
            rintro e w9 ⟨rfl, hww⟩
            obtain rfl := hww.symm
            clear hc
            obtain ⟨r0, r1, r2, r3, s0, s1, s2, s3⟩ := tkcells F8.out.res
            go_wp2
            refine bodyPost_ret (v := .agg #[.int .i64 5, .string ⟨#[]⟩, .string ByteArray.empty, .slice none 0 0]) (by simp [results, Tryz.results61, go_sem, r0, r1, r2, r3]) rfl ?_
            rw [HZ2.out]
            exact F8.out.fails hf2 hl8 5 ByteArray.empty ByteArray.empty (.slice none 0 0)
        · have hZ1 := mark_doc HP2.out H60.out HC.out (by rw [HD.out]; exact h45) (by rw [HD.out]; exact h91)
          rw [HZ.out, HRP.out, show p + 9 = r + 7 by have := HRP.out; omega] at hZ1
          have HZ1 := mkHidT hZ1
          have hm := must_call2 _ g s ⟨#[68, 79, 67, 84, 89, 80, 69]⟩ _ [68, 79, 67, 84, 89, 80, 69] rfl F7.out.sc hs (by decide) hr
          clear hZ1
          go_wp2_with fail
          refine hm.mono ?_
          rintro e w8 ⟨q8, rfl, hb8, hl8, hp8, hs8, hg8⟩
          have F8 := mkHidT (F7.out.step hb8 hg8)
          clear hm F7 hb8 hg8
          have hc : Calls Tryz.prog 94 #[.pointer (some ⟨g, 0, none⟩)] w8 fun e w' => TkSays w8 g s Z e w' := by
            rw [HZ1.out]
            by_cases hf2 : mustF s r [68, 79, 67, 84, 89, 80, 69] = 0
            · rw [if_pos hf2]
              have e8 : q8 = r + 7 := hp8 hf2
              have hsc := F8.out.sc
              rw [hf2, e8] at hsc
              exact doctype_ok _ g s (r + 7) hsc hs (by rw [← e8]; exact hl8)
            · rw [if_neg hf2]
              refine doctype_no _ g s _ _ F8.out.sc hf2 ?_ hs hl8
              rcases mustF_012 s r [68, 79, 67, 84, 89, 80, 69] with h0 | h0 | h0
              · exact absurd h0 hf2
              · exact .inr (hs8 h0)
              · exact .inl h0
          clear hp8 hs8 HZ1
          go_wp2_with fail
          refine hc.mono ?_
          rintro e w5 ⟨kd, nm, tx, ao, an, ac, q5, rfl, hb5, hq5, hT, hg5⟩
          have F9 := mkHidT (F8.out.step hb5 hg5)
          clear hc
          obtain ⟨r0, r1, r2, r3, s0, s1, s2, s3⟩ := tkcells F9.out.res
          have HP := mkHidT (F8.out.pass hb5 hq5 hT hg5)
          clear F8 F9 hb5 hT hg5
          go_wp2
          refine bodyPost_ret (v := .agg #[.int .i64 kd, .string nm, .string tx, .slice ao an ac]) (by simp [results, Tryz.results61, go_sem, r0, r1, r2, r3]) rfl ?_
          exact HP.out
    · have HZ1 : Hid (tagZ s q = Z) := by rw [← HZ.out, mark_tag (by have := HQ.out; omega) H60.out (by rw [HC.out]; exact h47) (by rw [HC.out]; exact h63) (by rw [HC.out]; exact h33), HQ.out]; exact mkHidT rfl
      have hc := tag_ok _ g s q F4.out.sc hs hq
      rw [HZ1.out] at hc
      go_wp2_with fail
      refine hc.mono ?_
      rintro e w5 ⟨kd, nm, tx, ao, an, ac, q5, rfl, hb5, hq5, hT, hg5⟩
      have F6 := mkHidT (F4.out.step hb5 hg5)
      clear hc b0 b1 b2 b3 b4 f1 f2 f3 f4
      obtain ⟨r0, r1, r2, r3, s0, s1, s2, s3⟩ := tkcells F6.out.res
      have HP := mkHidT (F4.out.pass hb5 hq5 hT hg5)
      clear F4 F6 hb5 hT hg5
      go_wp2
      refine bodyPost_ret (v := .agg #[.int .i64 kd, .string nm, .string tx, .slice ao an ac]) (by simp [results, Tryz.results61, go_sem, r0, r1, r2, r3]) rfl ?_
      exact HP.out
end Go.Proofs.YteebdfcegndaoaaGreatDoor
