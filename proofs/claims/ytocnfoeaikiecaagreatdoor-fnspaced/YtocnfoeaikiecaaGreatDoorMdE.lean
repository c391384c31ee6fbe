import Derived.Test.YtocnfoeaikiecaaGreatDoorMdD
set_option maxHeartbeats 4000000
namespace Go.Proofs.YtocnfoeaikiecaaGreatDoor
open Go.RowKit Plain9 Plain10 Tryz
theorem cVj (w : World) (g : Nat) (s : ByteArray) (p : Nat) (f : Nat) (h : aQj w g s ⟨p, f⟩) (h0 : f ≠ 0) (hf12 : f = 2 ∨ s.size ≤ p) (hs : s.size ≤ 1048576) (hp : p ≤ s.size) :
 Calls prog 91 #[.pointer (some ⟨g, 0, none⟩)] w fun e w' => aVx w g s (aX2 f) e w' := by
 have F0 := aQ0 (Fr0.start h)
 have F1 : Hid (Fr w ((w.alloc zTok).alloc (.cells #[.int .i64 8, .string ByteArray.empty, .string ByteArray.empty, .slice none 0 0] 99)) g s ⟨p, f⟩ (w.heap.size + 1) 8 ByteArray.empty ByteArray.empty (.slice none 0 0)) := by
  have h1 := F0.out.new 8 ByteArray.empty ByteArray.empty (.slice none 0 0)
  rw [show (w.alloc zTok).heap.size = w.heap.size + 1 by simp] at h1
  exact h1
 have hc := aXq _ g s _ F1.out.fr.sc hs hp
 clear h F0
 go_enter func91, ntmps91
 go_wp2_with fail
 refine hc.mono ?_
 rintro e w1 ⟨rfl, hb1, hg1⟩
 have F2 := aQ0 (F1.out.step hb1 hg1)
 have hq2 := aQv (s := s) hp
 clear hc F1 hb1 hg1
 by_cases hmv : p < whiteZ s p
 · simp only [decide_eq_true hmv]
   have hnm := bJd _ g s _ F2.out.fr.sc h0
   go_wp2_with fail
   refine hnm.mono ?_
   rintro e wn ⟨rfl, hww⟩
   have FA := aQ0 (hww.symm ▸ F2.out)
   clear hnm hww F2
   obtain ⟨k0, k1, k2, k3, kf0, kf1, kf2, kf3⟩ := aQ9 FA.out.box
   obtain ⟨r0, r1, r2, r3, s0, s1, s2, s3⟩ := aQ9 FA.out.fr.res
   have hah := FA.out.ahead
   go_wp2_with fail
   have FB := aQ0 (FA.out.name ByteArray.empty)
   clear k0 k1 k2 k3 kf0 kf1 kf2 kf3 r0 r1 r2 r3 s0 s1 s2 s3 FA
   have hwh := aXq _ g s _ FB.out.fr.sc hs hq2
   go_wp2_with fail
   refine hwh.mono ?_
   rintro e wz ⟨rfl, hbw, hgw⟩
   have FC := aQ0 (FB.out.step hbw hgw)
   have hqC := aQv (s := s) hq2
   clear hwh FB hbw hgw
   have ho := fun W' hW => bJ6 FC.out.fr.sc W' hW
   simp only [decide_eq_false h0] at ho
   go_wp2_with fail
   go_quiet ((go_at_call 83; exact Calls.quiet_of_same (ho _ rfl)))
   have FD := aQ0 (FC.out.drew nq)
   clear ho FC
   have hm := aZ8 _ g s ⟨#[62]⟩ _ FD.out.fr.sc h0 hs (by decide) hqC
   go_wp2_with fail
   refine hm.mono ?_
   rintro e w9 ⟨rfl, hb9, hg9⟩
   have F9 := aQ0 (FD.out.step hb9 hg9)
   clear hm FD hb9 hg9
   obtain ⟨k0, k1, k2, k3, kf0, kf1, kf2, kf3⟩ := aQ9 F9.out.box
   obtain ⟨r0, r1, r2, r3, s0, s1, s2, s3⟩ := aQ9 F9.out.fr.res
   go_wp2
   refine bodyPost_ret (v := .agg #[.int .i64 8, .string ByteArray.empty, .string ByteArray.empty, .slice none 0 0]) (by simp [results, results91, go_sem, r0, r1, r2, r3]) rfl ?_
   exact F9.out.fr.fails h0 hqC 8 ByteArray.empty ByteArray.empty (.slice none 0 0)
 · have hpe : whiteZ s p = p := by have := aXj s p; omega
   simp only [decide_eq_false hmv]
   rw [hpe] at F2
   have hen := aVt _ g s _ F2.out.fr.sc (by show p ≤ _; omega)
   simp only [bW7 (x := ⟨p, f⟩) (s := s) h0] at hen
   by_cases he : s.size ≤ p
   · simp only [decide_eq_true he] at hen
     go_wp2_with fail
     refine hen.mono ?_
     rintro e w2 ⟨rfl, hb2, hg2⟩
     have F3 := aQ0 (F2.out.step hb2 hg2)
     clear hen F2 hb2 hg2
     have hnm := bJd _ g s _ F3.out.fr.sc h0
     go_wp2_with fail
     refine hnm.mono ?_
     rintro e wn ⟨rfl, hww⟩
     have FA := aQ0 (hww.symm ▸ F3.out)
     clear hnm hww F3
     obtain ⟨k0, k1, k2, k3, kf0, kf1, kf2, kf3⟩ := aQ9 FA.out.box
     obtain ⟨r0, r1, r2, r3, s0, s1, s2, s3⟩ := aQ9 FA.out.fr.res
     have hah := FA.out.ahead
     go_wp2_with fail
     have FB := aQ0 (FA.out.name ByteArray.empty)
     clear k0 k1 k2 k3 kf0 kf1 kf2 kf3 r0 r1 r2 r3 s0 s1 s2 s3 FA
     have hwh := aXq _ g s _ FB.out.fr.sc hs hp
     go_wp2_with fail
     refine hwh.mono ?_
     rintro e wz ⟨rfl, hbw, hgw⟩
     have FC := aQ0 (FB.out.step hbw hgw)
     have hqC := aQv (s := s) hp
     clear hwh FB hbw hgw
     have ho := fun W' hW => bJ6 FC.out.fr.sc W' hW
     simp only [decide_eq_false h0] at ho
     go_wp2_with fail
     go_quiet ((go_at_call 83; exact Calls.quiet_of_same (ho _ rfl)))
     have FD := aQ0 (FC.out.drew nq)
     clear ho FC
     have hm := aZ8 _ g s ⟨#[62]⟩ _ FD.out.fr.sc h0 hs (by decide) hqC
     go_wp2_with fail
     refine hm.mono ?_
     rintro e w9 ⟨rfl, hb9, hg9⟩
     have F9 := aQ0 (FD.out.step hb9 hg9)
     clear hm FD hb9 hg9
     obtain ⟨k0, k1, k2, k3, kf0, kf1, kf2, kf3⟩ := aQ9 F9.out.box
     obtain ⟨r0, r1, r2, r3, s0, s1, s2, s3⟩ := aQ9 F9.out.fr.res
     go_wp2
     refine bodyPost_ret (v := .agg #[.int .i64 8, .string ByteArray.empty, .string ByteArray.empty, .slice none 0 0]) (by simp [results, results91, go_sem, r0, r1, r2, r3]) rfl ?_
     exact F9.out.fr.fails h0 hqC 8 ByteArray.empty ByteArray.empty (.slice none 0 0)
   · have hf2 : f = 2 := by rcases hf12 with h | h; exact h; exact absurd h he
     subst hf2
     simp only [decide_eq_false he] at hen
     go_wp2_with fail
     refine hen.mono ?_
     rintro e w2 ⟨rfl, hb2, hg2⟩
     have F3 := aQ0 (F2.out.step hb2 hg2)
     clear hen F2 hb2 hg2
     obtain ⟨c0, c1, c2, c3, c4, f1, f2, f3, f4⟩ := aJz F3.out.fr.sc
     go_wp2_with fail
     have F4 : Hid (Fr w (w2.setCell ⟨g, 3, none⟩ (.bool true)) g s ⟨p, 2⟩ (w.heap.size + 1) 8 ByteArray.empty ByteArray.empty (.slice none 0 0)) := by
      refine F3.out.step ?_ (aX9 _)
      have h5 := set5 F3.out.fr.sc 3 (.bool true)
      unfold aQj; rw [h5]; rfl
     clear F3 c0 c1 c2 c3 c4 f1 f2 f3 f4
     have hnm := bJd _ g s _ F4.out.fr.sc h0
     refine hnm.mono ?_
     rintro e wn ⟨rfl, hww⟩
     have FA := aQ0 (hww.symm ▸ F4.out)
     clear hnm hww F4
     obtain ⟨k0, k1, k2, k3, kf0, kf1, kf2, kf3⟩ := aQ9 FA.out.box
     obtain ⟨r0, r1, r2, r3, s0, s1, s2, s3⟩ := aQ9 FA.out.fr.res
     have hah := FA.out.ahead
     go_wp2_with fail
     have FB := aQ0 (FA.out.name ByteArray.empty)
     clear k0 k1 k2 k3 kf0 kf1 kf2 kf3 r0 r1 r2 r3 s0 s1 s2 s3 FA
     have hwh := aXq _ g s _ FB.out.fr.sc hs hp
     go_wp2_with fail
     refine hwh.mono ?_
     rintro e wz ⟨rfl, hbw, hgw⟩
     have FC := aQ0 (FB.out.step hbw hgw)
     have hqC := aQv (s := s) hp
     clear hwh FB hbw hgw
     have ho := fun W' hW => bJ6 FC.out.fr.sc W' hW
     simp only [decide_eq_false h0] at ho
     go_wp2_with fail
     go_quiet ((go_at_call 83; exact Calls.quiet_of_same (ho _ rfl)))
     have FD := aQ0 (FC.out.drew nq)
     clear ho FC
     have hm := aZ8 _ g s ⟨#[62]⟩ _ FD.out.fr.sc h0 hs (by decide) hqC
     go_wp2_with fail
     refine hm.mono ?_
     rintro e w9 ⟨rfl, hb9, hg9⟩
     have F9 := aQ0 (FD.out.step hb9 hg9)
     clear hm FD hb9 hg9
     obtain ⟨k0, k1, k2, k3, kf0, kf1, kf2, kf3⟩ := aQ9 F9.out.box
     obtain ⟨r0, r1, r2, r3, s0, s1, s2, s3⟩ := aQ9 F9.out.fr.res
     go_wp2
     refine bodyPost_ret (v := .agg #[.int .i64 8, .string ByteArray.empty, .string ByteArray.empty, .slice none 0 0]) (by simp [results, results91, go_sem, r0, r1, r2, r3]) rfl ?_
     exact F9.out.fr.fails h0 hqC 8 ByteArray.empty ByteArray.empty (.slice none 0 0)
open Go.RowKit Strs Strs2 Lists Plain9 Plain10
theorem aQh {P : Program} {md : Region.Mode} {ops : Array Oper} {Q : Exit → Act → World → Prop} {i d : Nat} {oi : Oper} {v : Value} {fuel : Nat} {listed : Array Bool} {a : Act} {w : World} (hi : ops[i]? = some oi) (hd : oi.dst = some d)
 (hs : Region.noSelect ops = true) (hf : Region.free md ops listed i = true) (hr : (Region.ready md ops listed).contains i = true)
 (hQ : ∀ c a w, Q (.panic c) (a.put oi.dst v) w → Q (.panic c) a w) (hy : Yields P ops oi v a)
 (h : wpAny P md ops Q fuel (listed.setIfInBounds i true) (a.put (some d) v) w) : wpAny P md ops Q (fuel + 1) listed a w :=
 wpAny_take hi hs hf hr hQ hy (by rw [hd]; exact h)
theorem doctype_ok (w : World) (g : Nat) (s : ByteArray) (p : Nat) (h : aQj w g s ⟨p, 0⟩) (hs : s.size ≤ 1048576) (hp : p ≤ s.size) :
 Calls prog 91 #[.pointer (some ⟨g, 0, none⟩)] w fun e w' => aVx w g s (aX1 s p) e w' := by
 have F0 := aQ0 (Fr0.start h)
 have F1 : Hid (Fr w ((w.alloc zTok).alloc (.cells #[.int .i64 8, .string ByteArray.empty, .string ByteArray.empty, .slice none 0 0] 99)) g s ⟨p, 0⟩ (w.heap.size + 1) 8 ByteArray.empty ByteArray.empty (.slice none 0 0)) := by
  have h1 := F0.out.new 8 ByteArray.empty ByteArray.empty (.slice none 0 0)
  rw [show (w.alloc zTok).heap.size = w.heap.size + 1 by simp] at h1
  exact h1
 have hc := aXq _ g s _ F1.out.fr.sc hs hp
 clear h F0
 go_enter func91, ntmps91
 go_wp2_with fail
 refine hc.mono ?_
 rintro e w1 ⟨rfl, hb1, hg1⟩
 have F2 := aQ0 (F1.out.step hb1 hg1)
 have hq2 := aQv (s := s) hp
 clear hc F1 hb1 hg1
 by_cases hmv : p < whiteZ s p
 · simp only [decide_eq_true hmv]
   obtain ⟨q, hqd⟩ := nmE (whiteZ s p)
   rw [hqd] at F2 hq2 hmv
   have hnm := bXj _ g s q F2.out.fr.sc hs hq2
   go_wp2_with fail
   refine hnm.mono ?_
   rintro e w2 ⟨nm, q3, rfl, hb2, hq3, hT, hg2⟩
   have F3 := aQ0 (F2.out.step hb2 hg2)
   clear hnm F2 hb2 hg2
   obtain ⟨k0, k1, k2, k3, kf0, kf1, kf2, kf3⟩ := aQ9 F3.out.box
   obtain ⟨r0, r1, r2, r3, s0, s1, s2, s3⟩ := aQ9 F3.out.fr.res
   have hah := F3.out.ahead
   go_wp2_with fail
   have F4 := aQ0 (F3.out.name nm)
   clear k0 k1 k2 k3 kf0 kf1 kf2 kf3 r0 r1 r2 r3 s0 s1 s2 s3 F3
   have hwh := aXq _ g s _ F4.out.fr.sc hs hq3
   go_wp2_with fail
   refine hwh.mono ?_
   rintro e w3 ⟨rfl, hbw, hgw⟩
   have F5 := aQ0 (F4.out.step hbw hgw)
   have hr := aQv (s := s) hq3
   clear hwh F4 hbw hgw
   by_cases hnf : nmF s q = 0
   · obtain ⟨hn, hq3'⟩ := hT hnf
     rw [hnf] at F5
     obtain ⟨r, hrd⟩ := nmE (whiteZ s q3)
     rw [hrd] at F5 hr
     have HZ0 : Hid (aX1 s p = if aQa s r [91] = true then
      (if subF s (r + 1) ≠ 0 then aX2 (subF s (r + 1))
       else if aQp s (whiteZ s (subP s (r + 1))) [62] = 0 then ⟨0, 8, nm, subT s (r + 1), [], whiteZ s (subP s (r + 1)) + 1⟩ else aX2 (aQp s (whiteZ s (subP s (r + 1))) [62]))
      else if aQp s r [62] = 0 then ⟨0, 8, nm, ByteArray.empty, [], r + 1⟩ else aX2 (aQp s r [62])) := by
      show aX1 s p = _
      unfold aX1
      simp only [hqd]
      rw [if_neg (by omega), if_neg (by omega), ← hn, ← hq3', hrd]
     clear hT hn hq3' hqd hrd hnf
     have ho := fun W' hW => bJ6 F5.out.fr.sc W' hW
     simp only [decide_true] at ho
     by_cases he : s.size ≤ r
     · have HZ : Hid (aX1 s p = aX2 1) := by
        show aX1 s p = _
        rw [HZ0.out, if_neg (by rw [Plain12.bJs he]; simp)]
        have hm : aQp s r [62] = 1 := by unfold aQp bXl; rw [if_neg (by rw [Plain12.bJs he]; simp), if_pos (Plain12.cX4 he _)]
        rw [hm]; rfl
       have hen := fun W' hW => cYw F5.out.fr.sc (show r ≤ _ by omega) W' hW
       simp only [decide_eq_true he, aZb (x := ⟨r, 0⟩) (s := s) he rfl] at hen
       go_wp2_with fail
       refine wp_region_any (by kernel_rfl) ?_
       change wpAny _ _ _ _ _ _ _ (World.drew _)
       refine aQh (i := 0) (v := .pointer (some ⟨g, 0, none⟩)) rfl rfl (by kernel_rfl) (by kernel_rfl) (by kernel_rfl) (fun _ _ _ h => h) (Or.inl ⟨by rfl, fun wx => by go_simp⟩) ?_
       refine wpAny_ready (rs := [1]) (by kernel_rfl) (by simp) ?_
       refine AllReady.cons rfl (fun K hK => ?_) AllReady.nil
       go_simp
       refine (ho w3.drew rfl).mono ?_
       rintro e wo ⟨rfl, hww⟩
       subst hww
       refine hK _ _ ?_
       clear hK K
       refine aQh (i := 2) (v := .bool true) rfl rfl (by kernel_rfl) (by kernel_rfl) (by kernel_rfl) (fun _ _ _ h => h) (Or.inl ⟨by rfl, fun wx => by go_simp⟩) ?_
       refine aQh (i := 3) (v := .pointer (some ⟨g, 0, none⟩)) rfl rfl (by kernel_rfl) (by kernel_rfl) (by kernel_rfl) (fun _ _ _ h => h) (Or.inl ⟨by rfl, fun wx => by go_simp⟩) ?_
       refine wpAny_ready (rs := [4]) (by kernel_rfl) (by simp) ?_
       refine AllReady.cons rfl (fun K hK => ?_) AllReady.nil
       go_simp
       refine (hen w3.drew rfl).mono ?_
       rintro e w4 ⟨rfl, hb4, hg4⟩
       refine hK _ _ ?_
       clear hK K
       refine aQh (i := 5) (v := .bool false) rfl rfl (by kernel_rfl) (by kernel_rfl) (by kernel_rfl) (fun _ _ _ h => h) (Or.inl ⟨by rfl, fun wx => by go_simp⟩) ?_
       refine aQh (i := 6) (v := .bool false) rfl rfl (by kernel_rfl) (by kernel_rfl) (by kernel_rfl) (fun _ _ _ h => h) (Or.inl ⟨by rfl, fun wx => by go_simp⟩) ?_
       refine aQh (i := 7) (v := .bool false) rfl rfl (by kernel_rfl) (by kernel_rfl) (by kernel_rfl) (fun _ _ _ h => h) (Or.inl ⟨by rfl, fun wx => by go_simp⟩) ?_
       refine aQh (i := 8) (v := undef) rfl rfl (by kernel_rfl) (by kernel_rfl) (by kernel_rfl) (fun _ _ _ h => h) (Or.inr ⟨by kernel_rfl, rfl⟩) ?_
       refine aQh (i := 9) (v := undef) rfl rfl (by kernel_rfl) (by kernel_rfl) (by kernel_rfl) (fun _ _ _ h => h) (Or.inr ⟨by kernel_rfl, rfl⟩) ?_
       refine aQh (i := 10) (v := undef) rfl rfl (by kernel_rfl) (by kernel_rfl) (by kernel_rfl) (fun _ _ _ h => h) (Or.inr ⟨by kernel_rfl, rfl⟩) ?_
       refine aQh (i := 11) (v := undef) rfl rfl (by kernel_rfl) (by kernel_rfl) (by kernel_rfl) (fun _ _ _ h => h) (Or.inr ⟨by kernel_rfl, rfl⟩) ?_
       refine aQh (i := 12) (v := undef) rfl rfl (by kernel_rfl) (by kernel_rfl) (by kernel_rfl) (fun _ _ _ h => h) (Or.inr ⟨by kernel_rfl, rfl⟩) ?_
       refine aQh (i := 13) (v := undef) rfl rfl (by kernel_rfl) (by kernel_rfl) (by kernel_rfl) (fun _ _ _ h => h) (Or.inr ⟨by kernel_rfl, rfl⟩) ?_
       refine aQh (i := 14) (v := undef) rfl rfl (by kernel_rfl) (by kernel_rfl) (by kernel_rfl) (fun _ _ _ h => h) (Or.inr ⟨by kernel_rfl, rfl⟩) ?_
       refine aQh (i := 15) (v := undef) rfl rfl (by kernel_rfl) (by kernel_rfl) (by kernel_rfl) (fun _ _ _ h => h) (Or.inr ⟨by kernel_rfl, rfl⟩) ?_
       refine aQh (i := 16) (v := undef) rfl rfl (by kernel_rfl) (by kernel_rfl) (by kernel_rfl) (fun _ _ _ h => h) (Or.inr ⟨by kernel_rfl, rfl⟩) ?_
       refine aQh (i := 17) (v := undef) rfl rfl (by kernel_rfl) (by kernel_rfl) (by kernel_rfl) (fun _ _ _ h => h) (Or.inr ⟨by kernel_rfl, rfl⟩) ?_
       refine aQh (i := 18) (v := .bool false) rfl rfl (by kernel_rfl) (by kernel_rfl) (by kernel_rfl) (fun _ _ _ h => h) (Or.inl ⟨by kernel_rfl, fun wx => by go_simp⟩) ?_
       refine wpAny_done (by kernel_rfl) ?_ _
       go_simp
       have F7 := aQ0 (F5.out.step hb4 (aQ6 (b := w3.drew) ⟨rfl, rfl, rfl, Nat.le_refl _, fun _ _ _ => rfl⟩ hg4))
       clear hen ho F5 hb4 hg4
       have hm := aZ8 _ g s ⟨#[62]⟩ _ F7.out.fr.sc (by simp) hs (by decide) hr
       go_wp2_with fail
       refine hm.mono ?_
       rintro e w9 ⟨rfl, hb9, hg9⟩
       have F9 := aQ0 (F7.out.step hb9 hg9)
       clear hm F7 hb9 hg9
       obtain ⟨k0, k1, k2, k3, kf0, kf1, kf2, kf3⟩ := aQ9 F9.out.box
       obtain ⟨r0, r1, r2, r3, s0, s1, s2, s3⟩ := aQ9 F9.out.fr.res
       go_wp2
       refine bodyPost_ret (v := .agg #[.int .i64 8, .string nm, .string ByteArray.empty, .slice none 0 0]) (by simp [results, results91, go_sem, r0, r1, r2, r3]) rfl ?_
       rw [HZ.out]; exact F9.out.fr.fails (by simp) hr 8 nm ByteArray.empty (.slice none 0 0)
     · have hen := fun W' hW => cJi F5.out.fr.sc (show r < s.size by omega) W' hW
       obtain ⟨c, hcb⟩ := nmE (aQ1 s r)
       have hix : ∀ wx, (Instr.index 9 (.string s) (.int .i64 (r : Int))).run prog wx = .ok (.int .u8 c) wx := fun wx => by rw [aQ8 wx 9 s r (by omega) underlying9, hcb]
       obtain ⟨c0, c1, c2, c3, c4, f1, f2, f3, f4⟩ := aXi F5.out.fr.sc
       have hw1 : IntKind.i64.wrap ((r : Int) + 1) = (r : Int) + 1 := aXt (by omega) (by omega)
       have hhas : aQa s r [91] = decide (c = 91) := by
        rw [Plain12.aXl (by omega), Plain12.aKk, Bool.and_true, ← hcb]
        apply Bool.eq_iff_iff.2
        rw [beq_iff_eq, decide_eq_true_eq]
        exact ⟨fun h => (Plain12.aXp 91 91 rfl).2 h.symm, fun h => ((Plain12.aXp 91 91 rfl).1 h).symm⟩
       by_cases h91 : c = 91
       · have HZ : Hid (aX1 s p = if subF s (r + 1) ≠ 0 then aX2 (subF s (r + 1))
          else if aQp s (whiteZ s (subP s (r + 1))) [62] = 0 then ⟨0, 8, nm, subT s (r + 1), [], whiteZ s (subP s (r + 1)) + 1⟩ else aX2 (aQp s (whiteZ s (subP s (r + 1))) [62])) := by
           show aX1 s p = _
           rw [HZ0.out, if_pos (by rw [hhas]; exact decide_eq_true h91)]
         subst h91
         clear hhas hcb HZ0
         go_wp2_with fail
         go_quiet ((first | (go_at_call 83; exact Calls.quiet_of_same (ho _ rfl)) | (go_at_call 84; exact Calls.quiet_of (hen _ rfl))))
         go_wp2_with fail
         have F7 := aQ0 ((F5.out.drew nq).pos (z := (r : Int) + 1) (r + 1) (by omega))
         clear c0 c1 c2 c3 c4 f1 f2 f3 f4 F5 ho hen hix
         have hsub := cKf _ g s (r + 1) F7.out.fr.sc hs (by omega)
         refine hsub.mono ?_
         rintro e w5 ⟨tx, q5, rfl, hb5, hq5, hT5, hg5⟩
         have F8 := aQ0 (F7.out.step hb5 hg5)
         clear hsub F7 hb5 hg5
         obtain ⟨k0, k1, k2, k3, kf0, kf1, kf2, kf3⟩ := aQ9 F8.out.box
         obtain ⟨r0, r1, r2, r3, s0, s1, s2, s3⟩ := aQ9 F8.out.fr.res
         have hah := F8.out.ahead
         go_wp2_with fail
         have FE := aQ0 (F8.out.text tx)
         clear k0 k1 k2 k3 kf0 kf1 kf2 kf3 r0 r1 r2 r3 s0 s1 s2 s3 F8
         have hwh := aXq _ g s _ FE.out.fr.sc hs hq5
         go_wp2_with fail
         refine hwh.mono ?_
         rintro e w6 ⟨rfl, hbw, hgw⟩
         have FF := aQ0 (FE.out.step hbw hgw)
         have hqF := aQv (s := s) hq5
         clear hwh FE hbw hgw
         by_cases hsf : subF s (r + 1) = 0
         · obtain ⟨ht5, hq5'⟩ := hT5 hsf
           rw [hsf] at FF
           have HZ2 : Hid (aX1 s p = if aQp s (whiteZ s q5) [62] = 0 then ⟨0, 8, nm, tx, [], whiteZ s q5 + 1⟩ else aX2 (aQp s (whiteZ s q5) [62])) := by
            show aX1 s p = _
            rw [HZ.out, if_neg (by omega), ← ht5, ← hq5']
           clear HZ hT5 ht5 hq5' hsf
           have hm := aJa _ g s ⟨#[62]⟩ (whiteZ s q5) [62] rfl FF.out.fr.sc hs (by decide) hqF
           go_wp2_with fail
           refine hm.mono ?_
           rintro e w7 ⟨q7, rfl, hb7, hl7, hp7, hg7⟩
           have FG := aQ0 (FF.out.step hb7 hg7)
           clear hm FF hb7 hg7
           obtain ⟨k0, k1, k2, k3, kf0, kf1, kf2, kf3⟩ := aQ9 FG.out.box
           obtain ⟨r0, r1, r2, r3, s0, s1, s2, s3⟩ := aQ9 FG.out.fr.res
           go_wp2
           refine bodyPost_ret (v := .agg #[.int .i64 8, .string nm, .string tx, .slice none 0 0]) (by simp [results, results91, go_sem, r0, r1, r2, r3]) rfl ?_
           rw [HZ2.out]
           have FH := FG.out.fr
           by_cases hf7 : aQp s (whiteZ s q5) [62] = 0
           · have hq7 := hp7 hf7
             rw [if_pos hf7]
             rw [hf7] at FH
             subst hq7
             exact FH.tells hl7 8 nm tx
           · rw [if_neg hf7]
             exact FH.fails hf7 hl7 8 nm tx (.slice none 0 0)
         · have HZ2 : Hid (aX1 s p = aX2 (subF s (r + 1))) := by
            show aX1 s p = _
            rw [HZ.out, if_pos hsf]
           have hm := aZ8 _ g s ⟨#[62]⟩ _ FF.out.fr.sc hsf hs (by decide) hqF
           go_wp2_with fail
           refine hm.mono ?_
           rintro e w9 ⟨rfl, hb9, hg9⟩
           have F9 := aQ0 (FF.out.step hb9 hg9)
           clear hm FF hb9 hg9
           obtain ⟨k0, k1, k2, k3, kf0, kf1, kf2, kf3⟩ := aQ9 F9.out.box
           obtain ⟨r0, r1, r2, r3, s0, s1, s2, s3⟩ := aQ9 F9.out.fr.res
           go_wp2
           refine bodyPost_ret (v := .agg #[.int .i64 8, .string nm, .string tx, .slice none 0 0]) (by simp [results, results91, go_sem, r0, r1, r2, r3]) rfl ?_
           rw [HZ2.out]; exact F9.out.fr.fails hsf hqF 8 nm tx (.slice none 0 0)
       · have HZ : Hid (aX1 s p = if aQp s r [62] = 0 then ⟨0, 8, nm, ByteArray.empty, [], r + 1⟩ else aX2 (aQp s r [62])) := by
          show aX1 s p = _
          rw [HZ0.out, if_neg (by rw [hhas]; simpa using h91)]
         have e91 : (c == 91) = false := beq_eq_false_iff_ne.2 h91
         clear hhas hcb HZ0 h91
         go_wp2_with fail
         go_quiet ((first | (go_at_call 83; exact Calls.quiet_of_same (ho _ rfl)) | (go_at_call 84; exact Calls.quiet_of (hen _ rfl))))
         have F7 := aQ0 (F5.out.drew nq)
         clear c0 c1 c2 c3 c4 f1 f2 f3 f4 F5 ho hen hix
         have hm := aJa _ g s ⟨#[62]⟩ r [62] rfl F7.out.fr.sc hs (by decide) hr
         go_wp2_with fail
         refine hm.mono ?_
         rintro e w7 ⟨q7, rfl, hb7, hl7, hp7, hg7⟩
         have FG := aQ0 (F7.out.step hb7 hg7)
         clear hm F7 hb7 hg7
         obtain ⟨k0, k1, k2, k3, kf0, kf1, kf2, kf3⟩ := aQ9 FG.out.box
         obtain ⟨r0, r1, r2, r3, s0, s1, s2, s3⟩ := aQ9 FG.out.fr.res
         go_wp2
         refine bodyPost_ret (v := .agg #[.int .i64 8, .string nm, .string ByteArray.empty, .slice none 0 0]) (by simp [results, results91, go_sem, r0, r1, r2, r3]) rfl ?_
         rw [HZ.out]
         have FH := FG.out.fr
         by_cases hf7 : aQp s r [62] = 0
         · have hq7 := hp7 hf7
           rw [if_pos hf7]
           rw [hf7] at FH
           subst hq7
           exact FH.tells hl7 8 nm ByteArray.empty
         · rw [if_neg hf7]
           exact FH.fails hf7 hl7 8 nm ByteArray.empty (.slice none 0 0)
   · have HZ : Hid (aX1 s p = aX2 (nmF s q)) := by
      show aX1 s p = _
      unfold aX1
      simp only [hqd]
      rw [if_neg (by omega), if_pos hnf]
     clear hT
     have ho := fun W' hW => bJ6 F5.out.fr.sc W' hW
     simp only [decide_eq_false hnf] at ho
     go_wp2_with fail
     go_quiet ((go_at_call 83; exact Calls.quiet_of_same (ho _ rfl)))
     have F6 := aQ0 (F5.out.drew nq)
     clear ho F5
     have hm := aZ8 _ g s ⟨#[62]⟩ _ F6.out.fr.sc hnf hs (by decide) hr
     go_wp2_with fail
     refine hm.mono ?_
     rintro e w9 ⟨rfl, hb9, hg9⟩
     have F9 := aQ0 (F6.out.step hb9 hg9)
     clear hm F6 hb9 hg9
     obtain ⟨k0, k1, k2, k3, kf0, kf1, kf2, kf3⟩ := aQ9 F9.out.box
     obtain ⟨r0, r1, r2, r3, s0, s1, s2, s3⟩ := aQ9 F9.out.fr.res
     go_wp2
     refine bodyPost_ret (v := .agg #[.int .i64 8, .string nm, .string ByteArray.empty, .slice none 0 0]) (by simp [results, results91, go_sem, r0, r1, r2, r3]) rfl ?_
     rw [HZ.out]; exact F9.out.fr.fails hnf hr 8 nm ByteArray.empty (.slice none 0 0)
 · have hpe : whiteZ s p = p := by have := aXj s p; omega
   simp only [decide_eq_false hmv]
   rw [hpe] at F2
   have hen := aVt _ g s _ F2.out.fr.sc (by show p ≤ _; omega)
   by_cases he : s.size ≤ p
   · have HZ : Hid (aX1 s p = aX2 1) := by
      show aX1 s p = _
      unfold aX1
      simp only [hpe, ↓reduceIte]
      rw [if_pos he]
     simp only [decide_eq_true he, aZb (x := ⟨p, 0⟩) (s := s) he rfl] at hen
     go_wp2_with fail
     refine hen.mono ?_
     rintro e w2 ⟨rfl, hb2, hg2⟩
     have F3 := aQ0 (F2.out.step hb2 hg2)
     clear hen F2 hb2 hg2
     have hnm := bJd _ g s _ F3.out.fr.sc (show (1 : Nat) ≠ 0 by simp)
     go_wp2_with fail
     refine hnm.mono ?_
     rintro e wn ⟨rfl, hww⟩
     have FA := aQ0 (hww.symm ▸ F3.out)
     clear hnm hww F3
     obtain ⟨k0, k1, k2, k3, kf0, kf1, kf2, kf3⟩ := aQ9 FA.out.box
     obtain ⟨r0, r1, r2, r3, s0, s1, s2, s3⟩ := aQ9 FA.out.fr.res
     have hah := FA.out.ahead
     go_wp2_with fail
     have FB := aQ0 (FA.out.name ByteArray.empty)
     clear k0 k1 k2 k3 kf0 kf1 kf2 kf3 r0 r1 r2 r3 s0 s1 s2 s3 FA
     have hwh := aXq _ g s _ FB.out.fr.sc hs hp
     go_wp2_with fail
     refine hwh.mono ?_
     rintro e wz ⟨rfl, hbw, hgw⟩
     have FC := aQ0 (FB.out.step hbw hgw)
     have hqC := aQv (s := s) hp
     clear hwh FB hbw hgw
     have ho := fun W' hW => bJ6 FC.out.fr.sc W' hW
     simp only [decide_eq_false (show (1 : Nat) ≠ 0 by simp)] at ho
     go_wp2_with fail
     go_quiet ((go_at_call 83; exact Calls.quiet_of_same (ho _ rfl)))
     have FD := aQ0 (FC.out.drew nq)
     clear ho FC
     have hm := aZ8 _ g s ⟨#[62]⟩ _ FD.out.fr.sc (show (1 : Nat) ≠ 0 by simp) hs (by decide) hqC
     go_wp2_with fail
     refine hm.mono ?_
     rintro e w9 ⟨rfl, hb9, hg9⟩
     have F9 := aQ0 (FD.out.step hb9 hg9)
     clear hm FD hb9 hg9
     obtain ⟨k0, k1, k2, k3, kf0, kf1, kf2, kf3⟩ := aQ9 F9.out.box
     obtain ⟨r0, r1, r2, r3, s0, s1, s2, s3⟩ := aQ9 F9.out.fr.res
     go_wp2
     refine bodyPost_ret (v := .agg #[.int .i64 8, .string ByteArray.empty, .string ByteArray.empty, .slice none 0 0]) (by simp [results, results91, go_sem, r0, r1, r2, r3]) rfl ?_
     rw [HZ.out]; exact F9.out.fr.fails (show (1 : Nat) ≠ 0 by simp) hqC 8 ByteArray.empty ByteArray.empty (.slice none 0 0)
   · have HZ : Hid (aX1 s p = aX2 2) := by
      show aX1 s p = _
      unfold aX1
      simp only [hpe, ↓reduceIte]
      rw [if_neg he]
     simp only [decide_eq_false he, aV9 (x := ⟨p, 0⟩) (s := s) (show p < s.size by omega)] at hen
     go_wp2_with fail
     refine hen.mono ?_
     rintro e w2 ⟨rfl, hb2, hg2⟩
     have F3 := aQ0 (F2.out.step hb2 hg2)
     clear hen F2 hb2 hg2
     obtain ⟨c0, c1, c2, c3, c4, f1, f2, f3, f4⟩ := aXi F3.out.fr.sc
     go_wp2_with fail
     have F4 := aQ0 F3.out.bad
     clear F3 c0 c1 c2 c3 c4 f1 f2 f3 f4
     have hnm := bJd _ g s _ F4.out.fr.sc (show (2 : Nat) ≠ 0 by simp)
     refine hnm.mono ?_
     rintro e wn ⟨rfl, hww⟩
     have FA := aQ0 (hww.symm ▸ F4.out)
     clear hnm hww F4
     obtain ⟨k0, k1, k2, k3, kf0, kf1, kf2, kf3⟩ := aQ9 FA.out.box
     obtain ⟨r0, r1, r2, r3, s0, s1, s2, s3⟩ := aQ9 FA.out.fr.res
     have hah := FA.out.ahead
     go_wp2_with fail
     have FB := aQ0 (FA.out.name ByteArray.empty)
     clear k0 k1 k2 k3 kf0 kf1 kf2 kf3 r0 r1 r2 r3 s0 s1 s2 s3 FA
     have hwh := aXq _ g s _ FB.out.fr.sc hs hp
     go_wp2_with fail
     refine hwh.mono ?_
     rintro e wz ⟨rfl, hbw, hgw⟩
     have FC := aQ0 (FB.out.step hbw hgw)
     have hqC := aQv (s := s) hp
     clear hwh FB hbw hgw
     have ho := fun W' hW => bJ6 FC.out.fr.sc W' hW
     simp only [decide_eq_false (show (2 : Nat) ≠ 0 by simp)] at ho
     go_wp2_with fail
     go_quiet ((go_at_call 83; exact Calls.quiet_of_same (ho _ rfl)))
     have FD := aQ0 (FC.out.drew nq)
     clear ho FC
     have hm := aZ8 _ g s ⟨#[62]⟩ _ FD.out.fr.sc (show (2 : Nat) ≠ 0 by simp) hs (by decide) hqC
     go_wp2_with fail
     refine hm.mono ?_
     rintro e w9 ⟨rfl, hb9, hg9⟩
     have F9 := aQ0 (FD.out.step hb9 hg9)
     clear hm FD hb9 hg9
     obtain ⟨k0, k1, k2, k3, kf0, kf1, kf2, kf3⟩ := aQ9 F9.out.box
     obtain ⟨r0, r1, r2, r3, s0, s1, s2, s3⟩ := aQ9 F9.out.fr.res
     go_wp2
     refine bodyPost_ret (v := .agg #[.int .i64 8, .string ByteArray.empty, .string ByteArray.empty, .slice none 0 0]) (by simp [results, results91, go_sem, r0, r1, r2, r3]) rfl ?_
     rw [HZ.out]; exact F9.out.fr.fails (show (2 : Nat) ≠ 0 by simp) hqC 8 ByteArray.empty ByteArray.empty (.slice none 0 0)
open Go.RowKit Strs Strs2 Plain9 Plain10 Plain11 Plain12
theorem bXv {s what : ByteArray} : ∀ (f i p : Nat), (aV7 s what f i ⟨p, 0⟩).fl = 1 → s.size ≤ (aV7 s what f i ⟨p, 0⟩).pos
 | 0, i, p, h => by simp [aV7] at h
 | f + 1, i, p, h => by
  by_cases hi : i < what.size
  · by_cases he : s.size ≤ p
    · rw [bKt ⟨hi, rfl⟩ he, aZb he rfl]; exact he
    · by_cases hb : aQ1 s p = aQ1 what i
      · rw [cXb ⟨hi, rfl⟩ he hb] at h ⊢; exact bXv f _ _ h
      · rw [bKu ⟨hi, rfl⟩ he hb] at h; cases h
  · rw [aYf (fun hh => hi hh.1)] at h; cases h
theorem cVc (w : World) (g : Nat) (s what : ByteArray) (p : Nat) (sg : List UInt8) (hsg : what.data.toList = sg) (h : aQj w g s ⟨p, 0⟩) (hs : s.size ≤ 1048576) (hw : what.size ≤ 1048576) (hp : p ≤ s.size) :
 Calls prog 82 #[.pointer (some ⟨g, 0, none⟩), .string what] w fun e w' => ∃ q, e = .returned (.tuple #[]) ∧ aQj w' g s ⟨q, aQp s p sg⟩ ∧ q ≤ s.size ∧ (aQp s p sg = 0 → q = p + sg.length) ∧ (aQp s p sg = 1 → s.size ≤ q) ∧ w.grownBy w' (some g) := by
 subst hsg
 refine (bZg w g s what ⟨p, 0⟩ h hs hw hp).mono ?_
 rintro e w' ⟨he, hb, hg⟩
 have hfl := cWr (s := s) (what := what) hp
 refine ⟨((Sc.mk p 0).must s what).pos, he, ?_, cWq hp, cZz hp, fun h1 => bXv _ _ _ (hfl.trans h1), hg⟩
 rw [← hfl]; exact hb
theorem Fr0.drew {w W : World} {g : Nat} {s : ByteArray} {x : Sc} (h : Fr0 w W g s x) (n : Nat) : Fr0 w (W.drewN n) g s x := h.step h.sc (aQs W n _)
theorem Fr0.pos {w W : World} {g : Nat} {s : ByteArray} {p f : Nat} (h : Fr0 w W g s ⟨p, f⟩) {z : Int} (q : Nat) (hz : z = (q : Int)) : Fr0 w (W.setCell ⟨g, 1, none⟩ (.int .i64 z)) g s ⟨q, f⟩ := h.step (aZ6 h.sc q hz) (aX9 _)
theorem Fr0.pass {w W w' : World} {g : Nat} {s : ByteArray} {x : Sc} (h : Fr0 w W g s x) {kd : Int} {nm tx : ByteArray} {ao : Option Addr} {an ac : Nat} {q : Nat} {T : Tk} (hb : aQj w' g s ⟨q, T.fl⟩) (hq : q ≤ s.size)
 (hT : T.fl = 0 → kd = T.kind ∧ nm = T.name ∧ tx = T.text ∧ q = T.pos ∧ w'.ownsRow W.heap.size 54 2 (.slice ao an ac) T.attrs.length (aQc T.attrs)) (hg : W.grownBy w' (some g)) :
 aVx w g s T (.returned (.agg #[.int .i64 kd, .string nm, .string tx, .slice ao an ac])) ((((w'.setCell ⟨w.heap.size, 0, none⟩ (.int .i64 kd)).setCell ⟨w.heap.size, 1, none⟩ (.string nm)).setCell ⟨w.heap.size, 2, none⟩ (.string tx)).setCell ⟨w.heap.size, 3, none⟩ (.slice ao an ac)) := by
 have h' := h.step hb hg
 have hF := fin4 h'.sc h'.grown h'.lt (.int .i64 kd) (.string nm) (.string tx) (.slice ao an ac)
 have ha := bZ7 h.res
 refine ⟨kd, nm, tx, ao, an, ac, q, rfl, hF.1, hq, fun h0 => ?_, hF.2⟩
 obtain ⟨e1, e2, e3, e4, hr0⟩ := hT h0
 have hs : ∀ {W0 : World} (j : Nat) (u : Value), W0.ownsRow W.heap.size 54 2 (.slice ao an ac) T.attrs.length (aQc T.attrs) → (W0.setCell ⟨w.heap.size, j, none⟩ u).ownsRow W.heap.size 54 2 (.slice ao an ac) T.attrs.length (aQc T.attrs) :=
  fun j u h0 => h0.kept (aX9 (g := w.heap.size) (j := j) u) (.inr fun e => by have := h0.lt _ e; omega)
 have hr := hs 3 (.slice ao an ac) (hs 2 (.string tx) (hs 1 (.string nm) (hs 0 (.int .i64 kd) hr0)))
 refine ⟨e1, e2, e3, e4, ?_⟩
 rcases hr with ⟨h1, h2⟩
 refine ⟨h1, ?_⟩
 rcases h2 with h2 | ⟨b, cap, cur, h3, h4, h5⟩
 · exact .inl h2
 · exact .inr ⟨b, cap, cur, h3, by omega, h5⟩
theorem mark_ok (w : World) (g : Nat) (s : ByteArray) (p : Nat) (h : aQj w g s ⟨p, 0⟩) (hs : s.size ≤ 1048576) (hp : p < s.size) (h60 : aQ1 s p = 60) :
 Calls prog 64 #[.pointer (some ⟨g, 0, none⟩)] w fun e w' => aVx w g s (aJf s p) e w' := by
 obtain ⟨Z, hZd⟩ := nmE (aJf s p)
 rw [hZd]
 have F0 := aQ0 (Fr0.start h)
 have hm := aJa _ g s ⟨#[60]⟩ p [60] rfl F0.out.sc hs (by decide) (by omega)
 have hm0 : aQp s p [60] = 0 := by
  rw [aJ0, aXl hp, aKk, (aXp 60 60 rfl).1 h60]; rfl
 rw [hm0] at hm
 have HZ := aQ0 hZd
 have H60 := aQ0 h60
 clear h hm0 hZd h60
 go_enter func64, ntmps64
 go_wp2_with fail
 refine hm.mono ?_
 rintro e w1 ⟨q, rfl, hb1, hq, hq1, hg1⟩
 have hqq : q = p + 1 := by simpa using hq1
 have HQ := aQ0 hqq
 have F1 := aQ0 (F0.out.step hb1 hg1)
 clear hm F0 hb1 hg1 hq1 hqq
 have ho := aVc _ g s _ F1.out.sc
 simp only [decide_true] at ho
 have hen := aVt _ g s _ F1.out.sc (by show q ≤ _; omega)
 go_wp2_with fail
 refine ho.mono ?_
 rintro e w2 ⟨rfl, hww⟩
 obtain rfl := hww.symm
 clear ho
 by_cases he : s.size ≤ q
 · simp only [decide_eq_true he, aZb (x := ⟨q, 0⟩) (s := s) he rfl] at hen
   go_wp2_with fail
   refine hen.mono ?_
   rintro e w3 ⟨rfl, hb3, hg3⟩
   have F3 := aQ0 (F1.out.step hb3 hg3)
   clear hen F1 hb3 hg3
   obtain ⟨r0, r1, r2, r3, s0, s1, s2, s3⟩ := aQ9 F3.out.res
   go_wp2
   refine bodyPost_ret (v := .agg #[.int .i64 0, .string ⟨#[]⟩, .string ⟨#[]⟩, .slice none 0 0]) (by simp [results, results64, go_sem, r0, r1, r2, r3]) rfl ?_
   rw [← HZ.out, bYd hp H60.out (by rw [← HQ.out]; exact he)]
   exact F3.out.fails (by simp) hq 0 ByteArray.empty ByteArray.empty (.slice none 0 0)
 · simp only [decide_eq_false he, aV9 (x := ⟨q, 0⟩) (s := s) (show q < s.size by omega)] at hen
   go_wp2_with fail
   refine hen.mono ?_
   rintro e w3 ⟨rfl, hb3, hg3⟩
   have F3 := aQ0 (F1.out.step hb3 hg3)
   clear hen F1 hb3 hg3
   have hp1 : q < s.size := by omega
   obtain ⟨c, hcb⟩ := nmE (aQ1 s q)
   have hix : ∀ wx, (Instr.index 9 (.string s) (.int .i64 (q : Int))).run prog wx = .ok (.int .u8 c) wx := fun wx => by rw [aQ8 wx 9 s q (by omega) underlying9, hcb]
   have HC : Hid (aQ1 s (p + 1) = c) := by rw [← HQ.out]; exact aQ0 hcb
   have hw1 : IntKind.i64.wrap ((q : Int) + 1) = (q : Int) + 1 := aXt (by omega) (by omega)
   clear hcb
   obtain ⟨b0, b1, b2, b3, b4, f1, f2, f3, f4⟩ := aXi F3.out.sc
   go_wp2_with fail
   go_quiet (fail)
   have F4 := aQ0 (F3.out.drew nq)
   clear F3 b0 b1 b2 b3 b4 f1 f2 f3 f4 hix
   generalize w3.drewN nq = w4 at F4 ⊢
   obtain ⟨b0, b1, b2, b3, b4, f1, f2, f3, f4⟩ := aXi F4.out.sc
   by_cases h47 : c = 47
   · subst h47
     have HZ1 : Hid (Z = endZ s (q + 1)) := by rw [← HZ.out, bK2 (by have := HQ.out; omega) H60.out HC.out, HQ.out]; exact aQ0 rfl
     go_wp2_with fail
     have F5 := aQ0 (F4.out.pos (q + 1) (by omega : (q : Int) + 1 = ((q + 1 : Nat) : Int)))
     have hnm := bXj _ g s (q + 1) F5.out.sc hs (by omega)
     refine hnm.mono ?_
     rintro e w5 ⟨nm, q2, rfl, hb5, hq5, hT, hg5⟩
     have F6 := aQ0 (F5.out.step hb5 hg5)
     clear hnm F4 F5 hb5 hg5 b0 b1 b2 b3 b4 f1 f2 f3 f4
     have F7 := aQ0 (F6.out.new 2 nm ByteArray.empty (.slice none 0 0))
     have hwh := aXq _ g s _ F7.out.fr.sc hs hq5
     go_wp2_with fail
     refine hwh.mono ?_
     rintro e w6 ⟨rfl, hbw, hgw⟩
     have F8 := aQ0 (F7.out.step hbw hgw)
     have hr := aQv (s := s) hq5
     clear hwh F6 F7 hbw hgw
     by_cases hf : nmF s (q + 1) = 0
     · obtain ⟨hn, hq'⟩ := hT hf
       rw [hf] at F8
       have HZ2 : Hid (Z = if aQp s (whiteZ s q2) [62] = 0 then ⟨0, 2, nm, ByteArray.empty, [], whiteZ s q2 + 1⟩ else aX2 (aQp s (whiteZ s q2) [62])) := by
        rw [HZ1.out]; unfold endZ; rw [if_neg (by omega), ← hn, ← hq']; exact aQ0 rfl
       clear hT hn hq' hf HZ1
       have hm := aJa _ g s ⟨#[62]⟩ _ [62] rfl F8.out.fr.sc hs (by decide) hr
       go_wp2_with fail
       refine hm.mono ?_
       rintro e w7 ⟨q3, rfl, hb7, hl7, hp7, hg7⟩
       have F9 := aQ0 (F8.out.step hb7 hg7)
       clear hm F8 hb7 hg7
       obtain ⟨k0, k1, k2, k3, _, _, _, _⟩ := aQ9 F9.out.box
       obtain ⟨r0, r1, r2, r3, s0, s1, s2, s3⟩ := aQ9 F9.out.fr.res
       go_wp2
       refine bodyPost_ret (v := .agg #[.int .i64 2, .string nm, .string ByteArray.empty, .slice none 0 0]) (by simp [results, results64, go_sem, r0, r1, r2, r3]) rfl ?_
       rw [HZ2.out]
       by_cases hf2 : aQp s (whiteZ s q2) [62] = 0
       · have hq2 := hp7 hf2
         have F10 := F9.out.fr
         rw [hf2] at F10
         rw [if_pos hf2]
         subst hq2
         exact F10.tells hl7 2 nm ByteArray.empty
       · rw [if_neg hf2]
         exact F9.out.fr.fails hf2 hl7 2 nm ByteArray.empty (.slice none 0 0)
     · have HZ2 : Hid (Z = aX2 (nmF s (q + 1))) := by
        rw [HZ1.out]; unfold endZ; rw [if_pos hf]; exact aQ0 rfl
       have hm := aZ8 _ g s ⟨#[62]⟩ _ F8.out.fr.sc hf hs (by decide) hr
       clear hT HZ1
       go_wp2_with fail
       refine hm.mono ?_
       rintro e w7 ⟨rfl, hb7, hg7⟩
       have F9 := aQ0 (F8.out.step hb7 hg7)
       clear hm F8 hb7 hg7
       obtain ⟨k0, k1, k2, k3, _, _, _, _⟩ := aQ9 F9.out.box
       obtain ⟨r0, r1, r2, r3, s0, s1, s2, s3⟩ := aQ9 F9.out.fr.res
       go_wp2
       refine bodyPost_ret (v := .agg #[.int .i64 2, .string nm, .string ByteArray.empty, .slice none 0 0]) (by simp [results, results64, go_sem, r0, r1, r2, r3]) rfl ?_
       rw [HZ2.out]
       exact F9.out.fr.fails hf hr 2 nm ByteArray.empty (.slice none 0 0)
   by_cases h63 : c = 63
   · subst h63
     have HZ1 : Hid (piZ s (q + 1) = Z) := by rw [← HZ.out, cWv (by have := HQ.out; omega) H60.out HC.out, HQ.out]; exact aQ0 rfl
     go_wp2_with fail
     have F5 := aQ0 (F4.out.pos (q + 1) (by omega : (q : Int) + 1 = ((q + 1 : Nat) : Int)))
     have hc := pi_ok _ g s (q + 1) F5.out.sc hs (by omega)
     rw [HZ1.out] at hc
     refine hc.mono ?_
     rintro e w5 ⟨kd, nm, tx, ao, an, ac, q5, rfl, hb5, hq5, hT, hg5⟩
     have F6 := aQ0 (F5.out.step hb5 hg5)
     clear hc F4 b0 b1 b2 b3 b4 f1 f2 f3 f4
     obtain ⟨r0, r1, r2, r3, s0, s1, s2, s3⟩ := aQ9 F6.out.res
     have HP := aQ0 (F5.out.pass hb5 hq5 hT hg5)
     clear F5 F6 hb5 hT hg5
     go_wp2
     refine bodyPost_ret (v := .agg #[.int .i64 kd, .string nm, .string tx, .slice ao an ac]) (by simp [results, results64, go_sem, r0, r1, r2, r3]) rfl ?_
     exact HP.out
   by_cases h33 : c = 33
   · subst h33
     obtain ⟨r, hrd⟩ := nmE (q + 1)
     have hr : r ≤ s.size := by omega
     have hrp : (p + 2 : Nat) = r := by rw [← hrd, HQ.out]
     have HRP := aQ0 hrp
     have HRD := aQ0 hrd
     clear hrp hrd
     go_wp2_with fail
     have F5 := aQ0 (F4.out.pos (z := (q : Int) + 1) r (by have := HRD.out; omega))
     have hen := aVt _ g s _ F5.out.sc (by show r ≤ _; omega)
     clear F4 b0 b1 b2 b3 b4 f1 f2 f3 f4
     by_cases he2 : s.size ≤ r
     · simp only [decide_eq_true he2, aZb (x := ⟨r, 0⟩) (s := s) he2 rfl] at hen
       refine hen.mono ?_
       rintro e w6 ⟨rfl, hb6, hg6⟩
       have F6 := aQ0 (F5.out.step hb6 hg6)
       clear hen F5 hb6 hg6
       obtain ⟨r0, r1, r2, r3, s0, s1, s2, s3⟩ := aQ9 F6.out.res
       go_wp2
       refine bodyPost_ret (v := .agg #[.int .i64 0, .string ⟨#[]⟩, .string ⟨#[]⟩, .slice none 0 0]) (by simp [results, results64, go_sem, r0, r1, r2, r3]) rfl ?_
       rw [← HZ.out, bQy (by have := HQ.out; omega) H60.out HC.out (by rw [HRP.out]; exact he2)]
       exact F6.out.fails (by simp) hr 0 ByteArray.empty ByteArray.empty (.slice none 0 0)
     · simp only [decide_eq_false he2, aV9 (x := ⟨r, 0⟩) (s := s) (show r < s.size by omega)] at hen
       refine hen.mono ?_
       rintro e w6 ⟨rfl, hb6, hg6⟩
       have F6 := aQ0 (F5.out.step hb6 hg6)
       clear hen F5 hb6 hg6
       have hp2 : p + 2 < s.size := by have := HRP.out; omega
       have HP2 := aQ0 hp2
       clear hp2
       obtain ⟨d, hdb⟩ := nmE (aQ1 s r)
       have hix : ∀ wx, (Instr.index 9 (.string s) (.int .i64 (r : Int))).run prog wx = .ok (.int .u8 d) wx := fun wx => by rw [aQ8 wx 9 s r (by omega) underlying9, hdb]
       have HD : Hid (aQ1 s (p + 2) = d) := by rw [HRP.out]; exact aQ0 hdb
       clear hdb
       obtain ⟨b0, b1, b2, b3, b4, f1, f2, f3, f4⟩ := aXi F6.out.sc
       go_wp2_with fail
       go_quiet (fail)
       have F7 := aQ0 (F6.out.drew nq)
       clear F6 b0 b1 b2 b3 b4 f1 f2 f3 f4 hix
       generalize w6.drewN nq = w7 at F7 ⊢
       by_cases h45 : d = 45
       · subst h45
         have hZ1 := bYe HP2.out H60.out HC.out HD.out
         rw [HZ.out, HRP.out, show p + 4 = r + 2 by have := HRP.out; omega] at hZ1
         have HZ1 := aQ0 hZ1
         have hm := aJa _ g s ⟨#[45, 45]⟩ _ [45, 45] rfl F7.out.sc hs (by decide) hr
         clear hZ1
         go_wp2_with fail
         refine hm.mono ?_
         rintro e w8 ⟨q8, rfl, hb8, hl8, hp8, hg8⟩
         have F8 := aQ0 (F7.out.step hb8 hg8)
         clear hm F7 hb8 hg8
         have hc : Calls prog 89 #[.pointer (some ⟨g, 0, none⟩)] w8 fun e w' => aVx w8 g s Z e w' := by
          rw [HZ1.out]
          by_cases hf2 : aQp s r [45, 45] = 0
          · rw [if_pos hf2]
            have e8 : q8 = r + 2 := hp8 hf2
            have hsc := F8.out.sc
            rw [hf2, e8] at hsc
            exact comment_ok _ g s (r + 2) hsc hs (by rw [← e8]; exact hl8)
          · rw [if_neg hf2]
            exact cVm _ g s _ F8.out.sc hf2 hs hl8
         clear hp8 HZ1
         go_wp2_with fail
         refine hc.mono ?_
         rintro e w5 ⟨kd, nm, tx, ao, an, ac, q5, rfl, hb5, hq5, hT, hg5⟩
         have F9 := aQ0 (F8.out.step hb5 hg5)
         clear hc
         obtain ⟨r0, r1, r2, r3, s0, s1, s2, s3⟩ := aQ9 F9.out.res
         have HP := aQ0 (F8.out.pass hb5 hq5 hT hg5)
         clear F8 F9 hb5 hT hg5
         go_wp2
         refine bodyPost_ret (v := .agg #[.int .i64 kd, .string nm, .string tx, .slice ao an ac]) (by simp [results, results64, go_sem, r0, r1, r2, r3]) rfl ?_
         exact HP.out
       by_cases h91 : d = 91
       · subst h91
         have hZ1 := bK3 HP2.out H60.out HC.out HD.out
         rw [HZ.out, HRP.out, show p + 9 = r + 7 by have := HRP.out; omega] at hZ1
         have HZ1 := aQ0 hZ1
         have hm := aJa _ g s ⟨#[91, 67, 68, 65, 84, 65, 91]⟩ _ [91, 67, 68, 65, 84, 65, 91] rfl F7.out.sc hs (by decide) hr
         clear hZ1
         go_wp2_with fail
         refine hm.mono ?_
         rintro e w8 ⟨q8, rfl, hb8, hl8, hp8, hg8⟩
         have F8 := aQ0 (F7.out.step hb8 hg8)
         clear hm F7 hb8 hg8
         by_cases hf2 : aQp s r [91, 67, 68, 65, 84, 65, 91] = 0
         · have e8 : q8 = r + 7 := hp8 hf2
           have hZ2 := HZ1.out
           rw [if_pos hf2, ← e8] at hZ2
           have HZ2 := aQ0 hZ2
           rw [hf2] at F8
           have hc := aVk _ g s ⟨#[93, 93, 62]⟩ q8 [93, 93, 62] rfl F8.out.sc hs hl8 (by decide) (by simp)
           clear hp8 HZ1 hf2 e8 hZ2
           go_wp2_with fail
           refine hc.mono ?_
           rintro e w9 ⟨t, q9, rfl, hb9, hl9, hp9, hg9⟩
           have F9 := aQ0 (F8.out.step hb9 hg9)
           clear hc F8 hb9 hg9
           obtain ⟨r0, r1, r2, r3, s0, s1, s2, s3⟩ := aQ9 F9.out.res
           go_wp2
           refine bodyPost_ret (v := .agg #[.int .i64 5, .string ⟨#[]⟩, .string t, .slice none 0 0]) (by simp [results, results64, go_sem, r0, r1, r2, r3]) rfl ?_
           rw [HZ2.out]
           unfold aYk
           by_cases hf3 : upF s q8 [93, 93, 62] = 0
           · obtain ⟨ht, hqq⟩ := hp9 hf3
             have F10 := F9.out
             rw [hf3] at F10
             rw [if_pos hf3, ← ht, ← hqq]
             exact F10.tells hl9 5 ByteArray.empty t
           · rw [if_neg hf3]
             exact F9.out.fails hf3 hl9 5 ByteArray.empty t (.slice none 0 0)
         · have hZ2 := HZ1.out
           rw [if_neg hf2] at hZ2
           have HZ2 := aQ0 hZ2
           have hc := cKa _ g s ⟨#[93, 93, 62]⟩ _ F8.out.sc hf2
           clear hp8 HZ1 hZ2
           go_wp2_with fail
           refine hc.mono ?_
           rintro e w9 ⟨rfl, hww⟩
           obtain rfl := hww.symm
           clear hc
           obtain ⟨r0, r1, r2, r3, s0, s1, s2, s3⟩ := aQ9 F8.out.res
           go_wp2
           refine bodyPost_ret (v := .agg #[.int .i64 5, .string ⟨#[]⟩, .string ByteArray.empty, .slice none 0 0]) (by simp [results, results64, go_sem, r0, r1, r2, r3]) rfl ?_
           rw [HZ2.out]
           exact F8.out.fails hf2 hl8 5 ByteArray.empty ByteArray.empty (.slice none 0 0)
       · have hZ1 := cJ2 HP2.out H60.out HC.out (by rw [HD.out]; exact h45) (by rw [HD.out]; exact h91)
         rw [HZ.out, HRP.out, show p + 9 = r + 7 by have := HRP.out; omega] at hZ1
         have HZ1 := aQ0 hZ1
         have hm := cVc _ g s ⟨#[68, 79, 67, 84, 89, 80, 69]⟩ _ [68, 79, 67, 84, 89, 80, 69] rfl F7.out.sc hs (by decide) hr
         clear hZ1
         go_wp2_with fail
         refine hm.mono ?_
         rintro e w8 ⟨q8, rfl, hb8, hl8, hp8, hs8, hg8⟩
         have F8 := aQ0 (F7.out.step hb8 hg8)
         clear hm F7 hb8 hg8
         have hc : Calls prog 91 #[.pointer (some ⟨g, 0, none⟩)] w8 fun e w' => aVx w8 g s Z e w' := by
          rw [HZ1.out]
          by_cases hf2 : aQp s r [68, 79, 67, 84, 89, 80, 69] = 0
          · rw [if_pos hf2]
            have e8 : q8 = r + 7 := hp8 hf2
            have hsc := F8.out.sc
            rw [hf2, e8] at hsc
            exact doctype_ok _ g s (r + 7) hsc hs (by rw [← e8]; exact hl8)
          · rw [if_neg hf2]
            refine cVj _ g s _ _ F8.out.sc hf2 ?_ hs hl8
            rcases cWt s r [68, 79, 67, 84, 89, 80, 69] with h0 | h0 | h0
            · exact absurd h0 hf2
            · exact .inr (hs8 h0)
            · exact .inl h0
         clear hp8 hs8 HZ1
         go_wp2_with fail
         refine hc.mono ?_
         rintro e w5 ⟨kd, nm, tx, ao, an, ac, q5, rfl, hb5, hq5, hT, hg5⟩
         have F9 := aQ0 (F8.out.step hb5 hg5)
         clear hc
         obtain ⟨r0, r1, r2, r3, s0, s1, s2, s3⟩ := aQ9 F9.out.res
         have HP := aQ0 (F8.out.pass hb5 hq5 hT hg5)
         clear F8 F9 hb5 hT hg5
         go_wp2
         refine bodyPost_ret (v := .agg #[.int .i64 kd, .string nm, .string tx, .slice ao an ac]) (by simp [results, results64, go_sem, r0, r1, r2, r3]) rfl ?_
         exact HP.out
   · have HZ1 : Hid (tagZ s q = Z) := by rw [← HZ.out, cJ1 (by have := HQ.out; omega) H60.out (by rw [HC.out]; exact h47) (by rw [HC.out]; exact h63) (by rw [HC.out]; exact h33), HQ.out]; exact aQ0 rfl
     have hc := tag_ok _ g s q F4.out.sc hs hq
     rw [HZ1.out] at hc
     go_wp2_with fail
     refine hc.mono ?_
     rintro e w5 ⟨kd, nm, tx, ao, an, ac, q5, rfl, hb5, hq5, hT, hg5⟩
     have F6 := aQ0 (F4.out.step hb5 hg5)
     clear hc b0 b1 b2 b3 b4 f1 f2 f3 f4
     obtain ⟨r0, r1, r2, r3, s0, s1, s2, s3⟩ := aQ9 F6.out.res
     have HP := aQ0 (F4.out.pass hb5 hq5 hT hg5)
     clear F4 F6 hb5 hT hg5
     go_wp2
     refine bodyPost_ret (v := .agg #[.int .i64 kd, .string nm, .string tx, .slice ao an ac]) (by simp [results, results64, go_sem, r0, r1, r2, r3]) rfl ?_
     exact HP.out
end Go.Proofs.YtocnfoeaikiecaaGreatDoor
