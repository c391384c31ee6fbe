/- The model's scanner: the head's mark (doctype), where nothing was wrong ahead of it. -/
import Derived.Test.YtefahocflhlgiaaGreatDoorTok9
namespace Go.Proofs.YtefahocflhlgiaaGreatDoor
open Go.RowKit Plain1 Strs Strs2 Lists Plain3 Plain5 Plain6 Plain9 Plain10 Plain11

theorem take_put {P : Program} {md : Region.Mode} {ops : Array Oper} {Q : Exit → Act → World → Prop} {i d : Nat} {oi : Oper} {v : Value} {fuel : Nat} {listed : Array Bool} {a : Act} {w : World} (hi : ops[i]? = some oi) (hd : oi.dst = some d)
    (hs : Region.noSelect ops = true) (hf : Region.free md ops listed i = true) (hr : (Region.ready md ops listed).contains i = true)
    (hQ : ∀ c a w, Q (.panic c) (a.put oi.dst v) w → Q (.panic c) a w) (hy : Yields P ops oi v a)
    (h : wpAny P md ops Q fuel (listed.setIfInBounds i true) (a.put (some d) v) w) : wpAny P md ops Q (fuel + 1) listed a w :=
  wpAny_take hi hs hf hr hQ hy (by rw [hd]; exact h)
theorem put_lit (l : Array Value) (df : List Deferred) (d : Nat) (v : Value) : (Act.mk l df).put (some d) v = Act.mk (l.setIfInBounds d v) df := rfl

set_option maxHeartbeats 4000000 in
theorem doctype_ok (w : World) (g : Nat) (s : ByteArray) (p : Nat) (h : ScBox w g s ⟨p, 0⟩) (hs : s.size ≤ 1048576) (hp : p ≤ s.size) :
    Calls Tryz.prog 94 #[.pointer (some ⟨g, 0, none⟩)] w fun e w' => TkSays w g s (doctypeZ s p) e w' := by
  have F0 := mkHidT (Fr0.start h)
  have F1 : Hid (Fr w ((w.alloc zTok).alloc (.cells #[.int .i64 8, .string ByteArray.empty, .string ByteArray.empty, .slice none 0 0] 27)) g s ⟨p, 0⟩ (w.heap.size + 1) 8 ByteArray.empty ByteArray.empty (.slice none 0 0)) := by
    have h1 := F0.out.new 8 ByteArray.empty ByteArray.empty (.slice none 0 0)
    rw [show (w.alloc zTok).heap.size = w.heap.size + 1 by simp] at h1
    exact h1
  have hc := white_any _ g s _ F1.out.fr.sc hs hp
  clear h F0
  go_enter Tryz.func94, Tryz.ntmps94
  go_wp2_with fail
  refine hc.mono ?_
  rintro e w1 ⟨rfl, hb1, hg1⟩
  have F2 := mkHidT (F1.out.step hb1 hg1)
  have hq2 := whiteZ_le (s := s) hp
  clear hc F1 hb1 hg1
  by_cases hmv : p < whiteZ s p
  · simp only [decide_eq_true hmv]
    obtain ⟨q, hqd⟩ : ∃ q, whiteZ s p = q := ⟨_, rfl⟩
    rw [hqd] at F2 hq2 hmv
    have hnm := name_ok _ g s q F2.out.fr.sc hs hq2
    go_wp2_with fail
    refine hnm.mono ?_
    rintro e w2 ⟨nm, q3, rfl, hb2, hq3, hT, hg2⟩
    have F3 := mkHidT (F2.out.step hb2 hg2)
    clear hnm F2 hb2 hg2
    obtain ⟨k0, k1, k2, k3, kf0, kf1, kf2, kf3⟩ := tkcells F3.out.box
    obtain ⟨r0, r1, r2, r3, s0, s1, s2, s3⟩ := tkcells F3.out.fr.res
    have hah := F3.out.ahead
    go_wp2_with fail
    have F4 := mkHidT (F3.out.name nm)
    clear k0 k1 k2 k3 kf0 kf1 kf2 kf3 r0 r1 r2 r3 s0 s1 s2 s3 F3
    have hwh := white_any _ g s _ F4.out.fr.sc hs hq3
    go_wp2_with fail
    refine hwh.mono ?_
    rintro e w3 ⟨rfl, hbw, hgw⟩
    have F5 := mkHidT (F4.out.step hbw hgw)
    have hr := whiteZ_le (s := s) hq3
    clear hwh F4 hbw hgw
    by_cases hnf : nmF s q = 0
    · obtain ⟨hn, hq3'⟩ := hT hnf
      rw [hnf] at F5
      obtain ⟨r, hrd⟩ : ∃ r, whiteZ s q3 = r := ⟨_, rfl⟩
      rw [hrd] at F5 hr
      have HZ0 : Hid (doctypeZ s p = if hasAt s r [91] = true then
          (if subF s (r + 1) ≠ 0 then failT (subF s (r + 1))
           else if mustF s (whiteZ s (subP s (r + 1))) [62] = 0 then ⟨0, 8, nm, subT s (r + 1), [], whiteZ s (subP s (r + 1)) + 1⟩ else failT (mustF s (whiteZ s (subP s (r + 1))) [62]))
          else if mustF s r [62] = 0 then ⟨0, 8, nm, ByteArray.empty, [], r + 1⟩ else failT (mustF s r [62])) := by
        show doctypeZ s p = _
        unfold doctypeZ
        simp only [hqd]
        rw [if_neg (by omega), if_neg (by omega), ← hn, ← hq3', hrd]
      clear hT hn hq3' hqd hrd hnf
      have ho := fun W' hW => ok_at F5.out.fr.sc W' hW
      simp only [decide_true] at ho
      by_cases he : s.size ≤ r
      · have HZ : Hid (doctypeZ s p = failT 1) := by
          show doctypeZ s p = _
          rw [HZ0.out, if_neg (by rw [Plain12.has_end he]; simp)]
          have hm : mustF s r [62] = 1 := by unfold mustF lackZ; rw [if_neg (by rw [Plain12.has_end he]; simp), if_pos (Plain12.pre_end he _)]
          rw [hm]; rfl
        have hen := fun W' hW => end_at F5.out.fr.sc (show r ≤ _ by omega) W' hW
        simp only [decide_eq_true he, ended_end (x := ⟨r, 0⟩) (s := s) he rfl] at hen
        go_wp2_with fail
        refine wp_region_any (by kernel_rfl) ?_
        change wpAny _ _ _ _ _ _ _ (World.drew _)
        refine take_put (i := 0) (v := .pointer (some ⟨g, 0, none⟩)) rfl rfl (by kernel_rfl) (by kernel_rfl) (by kernel_rfl) (fun _ _ _ h => h) (Or.inl ⟨by rfl, fun wx => by go_simp⟩) ?_
        refine wpAny_ready (rs := [1]) (by kernel_rfl) (by simp) ?_
        refine AllReady.cons rfl (fun K hK => ?_) AllReady.nil
        go_simp
        refine (ho w3.drew rfl).mono ?_
        rintro e wo ⟨rfl, hww⟩
        subst hww
        refine hK _ _ ?_
        clear hK K
        refine take_put (i := 2) (v := .bool true) rfl rfl (by kernel_rfl) (by kernel_rfl) (by kernel_rfl) (fun _ _ _ h => h) (Or.inl ⟨by rfl, fun wx => by go_simp⟩) ?_
        refine take_put (i := 3) (v := .pointer (some ⟨g, 0, none⟩)) rfl rfl (by kernel_rfl) (by kernel_rfl) (by kernel_rfl) (fun _ _ _ h => h) (Or.inl ⟨by rfl, fun wx => by go_simp⟩) ?_
        refine wpAny_ready (rs := [4]) (by kernel_rfl) (by simp) ?_
        refine AllReady.cons rfl (fun K hK => ?_) AllReady.nil
        go_simp
        refine (hen w3.drew rfl).mono ?_
        rintro e w4 ⟨rfl, hb4, hg4⟩
        refine hK _ _ ?_
        clear hK K
        refine take_put (i := 5) (v := .bool false) rfl rfl (by kernel_rfl) (by kernel_rfl) (by kernel_rfl) (fun _ _ _ h => h) (Or.inl ⟨by rfl, fun wx => by go_simp⟩) ?_
        refine take_put (i := 6) (v := .bool false) rfl rfl (by kernel_rfl) (by kernel_rfl) (by kernel_rfl) (fun _ _ _ h => h) (Or.inl ⟨by rfl, fun wx => by go_simp⟩) ?_
        refine take_put (i := 7) (v := .bool false) rfl rfl (by kernel_rfl) (by kernel_rfl) (by kernel_rfl) (fun _ _ _ h => h) (Or.inl ⟨by rfl, fun wx => by go_simp⟩) ?_
        refine take_put (i := 8) (v := undef) rfl rfl (by kernel_rfl) (by kernel_rfl) (by kernel_rfl) (fun _ _ _ h => h) (Or.inr ⟨by kernel_rfl, rfl⟩) ?_
        refine take_put (i := 9) (v := undef) rfl rfl (by kernel_rfl) (by kernel_rfl) (by kernel_rfl) (fun _ _ _ h => h) (Or.inr ⟨by kernel_rfl, rfl⟩) ?_
        refine take_put (i := 10) (v := undef) rfl rfl (by kernel_rfl) (by kernel_rfl) (by kernel_rfl) (fun _ _ _ h => h) (Or.inr ⟨by kernel_rfl, rfl⟩) ?_
        refine take_put (i := 11) (v := undef) rfl rfl (by kernel_rfl) (by kernel_rfl) (by kernel_rfl) (fun _ _ _ h => h) (Or.inr ⟨by kernel_rfl, rfl⟩) ?_
        refine take_put (i := 12) (v := undef) rfl rfl (by kernel_rfl) (by kernel_rfl) (by kernel_rfl) (fun _ _ _ h => h) (Or.inr ⟨by kernel_rfl, rfl⟩) ?_
        refine take_put (i := 13) (v := undef) rfl rfl (by kernel_rfl) (by kernel_rfl) (by kernel_rfl) (fun _ _ _ h => h) (Or.inr ⟨by kernel_rfl, rfl⟩) ?_
        refine take_put (i := 14) (v := undef) rfl rfl (by kernel_rfl) (by kernel_rfl) (by kernel_rfl) (fun _ _ _ h => h) (Or.inr ⟨by kernel_rfl, rfl⟩) ?_
        refine take_put (i := 15) (v := undef) rfl rfl (by kernel_rfl) (by kernel_rfl) (by kernel_rfl) (fun _ _ _ h => h) (Or.inr ⟨by kernel_rfl, rfl⟩) ?_
        refine take_put (i := 16) (v := undef) rfl rfl (by kernel_rfl) (by kernel_rfl) (by kernel_rfl) (fun _ _ _ h => h) (Or.inr ⟨by kernel_rfl, rfl⟩) ?_
        refine take_put (i := 17) (v := undef) rfl rfl (by kernel_rfl) (by kernel_rfl) (by kernel_rfl) (fun _ _ _ h => h) (Or.inr ⟨by kernel_rfl, rfl⟩) ?_
        refine take_put (i := 18) (v := .bool false) rfl rfl (by kernel_rfl) (by kernel_rfl) (by kernel_rfl) (fun _ _ _ h => h) (Or.inl ⟨by kernel_rfl, fun wx => by go_simp⟩) ?_
        refine wpAny_done (by kernel_rfl) ?_ _
        go_simp
        have F7 := mkHidT (F5.out.step hb4 (gtrans5 (b := w3.drew) ⟨rfl, rfl, rfl, Nat.le_refl _, fun _ _ _ => rfl⟩ hg4))
        clear hen ho F5 hb4 hg4
        have hm := must_fails _ g s ⟨#[62]⟩ _ F7.out.fr.sc (by simp) hs (by decide) hr
        go_wp2_with fail
        refine hm.mono ?_
        rintro e w9 ⟨rfl, hb9, hg9⟩
        have F9 := mkHidT (F7.out.step hb9 hg9)
        clear hm F7 hb9 hg9
        obtain ⟨k0, k1, k2, k3, kf0, kf1, kf2, kf3⟩ := tkcells F9.out.box
        obtain ⟨r0, r1, r2, r3, s0, s1, s2, s3⟩ := tkcells F9.out.fr.res
        go_wp2
        refine bodyPost_ret (v := .agg #[.int .i64 8, .string nm, .string ByteArray.empty, .slice none 0 0]) (by simp [results, Tryz.results94, go_sem, r0, r1, r2, r3]) rfl ?_
        rw [HZ.out]; exact F9.out.fr.fails (by simp) hr 8 nm ByteArray.empty (.slice none 0 0)
      · have hen := fun W' hW => end_in F5.out.fr.sc (show r < s.size by omega) W' hW
        obtain ⟨c, hcb⟩ : ∃ c, byteAt s r = c := ⟨_, rfl⟩
        have hix : ∀ wx, (Instr.index 9 (.string s) (.int .i64 (r : Int))).run Tryz.prog wx = .ok (.int .u8 c) wx := fun wx => by rw [run_index_byte wx 9 s r (by omega) Tryz.underlying9, hcb]
        obtain ⟨c0, c1, c2, c3, c4, f1, f2, f3, f4⟩ := block0 F5.out.fr.sc
        have hw1 : IntKind.i64.wrap ((r : Int) + 1) = (r : Int) + 1 := wrapSm (by omega) (by omega)
        have hhas : hasAt s r [91] = decide (c = 91) := by
          rw [Plain12.has_cons (by omega), Plain12.has_nil, Bool.and_true, ← hcb]
          apply Bool.eq_iff_iff.2
          rw [beq_iff_eq, decide_eq_true_eq]
          exact ⟨fun h => (Plain12.u8At_is 91 91 rfl).2 h.symm, fun h => ((Plain12.u8At_is 91 91 rfl).1 h).symm⟩
        by_cases h91 : c = 91
        · have HZ : Hid (doctypeZ s p = if subF s (r + 1) ≠ 0 then failT (subF s (r + 1))
           else if mustF s (whiteZ s (subP s (r + 1))) [62] = 0 then ⟨0, 8, nm, subT s (r + 1), [], whiteZ s (subP s (r + 1)) + 1⟩ else failT (mustF s (whiteZ s (subP s (r + 1))) [62])) := by
            show doctypeZ s p = _
            rw [HZ0.out, if_pos (by rw [hhas]; exact decide_eq_true h91)]
          subst h91
          clear hhas hcb HZ0
          go_wp2_with fail
          go_quiet ((first | (go_at_call 68; exact Calls.quiet_of_same (ho _ rfl)) | (go_at_call 88; exact Calls.quiet_of (hen _ rfl))))
          go_wp2_with fail
          have F7 := mkHidT ((F5.out.drew nq).pos (z := (r : Int) + 1) (r + 1) (by omega))
          clear c0 c1 c2 c3 c4 f1 f2 f3 f4 F5 ho hen hix
          have hsub := subset_ok _ g s (r + 1) F7.out.fr.sc hs (by omega)
          refine hsub.mono ?_
          rintro e w5 ⟨tx, q5, rfl, hb5, hq5, hT5, hg5⟩
          have F8 := mkHidT (F7.out.step hb5 hg5)
          clear hsub F7 hb5 hg5
          obtain ⟨k0, k1, k2, k3, kf0, kf1, kf2, kf3⟩ := tkcells F8.out.box
          obtain ⟨r0, r1, r2, r3, s0, s1, s2, s3⟩ := tkcells F8.out.fr.res
          have hah := F8.out.ahead
          go_wp2_with fail
          have FE := mkHidT (F8.out.text tx)
          clear k0 k1 k2 k3 kf0 kf1 kf2 kf3 r0 r1 r2 r3 s0 s1 s2 s3 F8
          have hwh := white_any _ g s _ FE.out.fr.sc hs hq5
          go_wp2_with fail
          refine hwh.mono ?_
          rintro e w6 ⟨rfl, hbw, hgw⟩
          have FF := mkHidT (FE.out.step hbw hgw)
          have hqF := whiteZ_le (s := s) hq5
          clear hwh FE hbw hgw
          by_cases hsf : subF s (r + 1) = 0
          · obtain ⟨ht5, hq5'⟩ := hT5 hsf
            rw [hsf] at FF
            have HZ2 : Hid (doctypeZ s p = if mustF s (whiteZ s q5) [62] = 0 then ⟨0, 8, nm, tx, [], whiteZ s q5 + 1⟩ else failT (mustF s (whiteZ s q5) [62])) := by
              show doctypeZ s p = _
              rw [HZ.out, if_neg (by omega), ← ht5, ← hq5']
            clear HZ hT5 ht5 hq5' hsf
            have hm := must_call _ g s ⟨#[62]⟩ (whiteZ s q5) [62] rfl FF.out.fr.sc hs (by decide) hqF
            go_wp2_with fail
            refine hm.mono ?_
            rintro e w7 ⟨q7, rfl, hb7, hl7, hp7, hg7⟩
            have FG := mkHidT (FF.out.step hb7 hg7)
            clear hm FF hb7 hg7
            obtain ⟨k0, k1, k2, k3, kf0, kf1, kf2, kf3⟩ := tkcells FG.out.box
            obtain ⟨r0, r1, r2, r3, s0, s1, s2, s3⟩ := tkcells FG.out.fr.res
            go_wp2
            refine bodyPost_ret (v := .agg #[.int .i64 8, .string nm, .string tx, .slice none 0 0]) (by simp [results, Tryz.results94, go_sem, r0, r1, r2, r3]) rfl ?_
            rw [HZ2.out]
            have FH := FG.out.fr
            by_cases hf7 : mustF s (whiteZ s q5) [62] = 0
            · have hq7 := hp7 hf7
              rw [if_pos hf7]
              rw [hf7] at FH
              subst hq7
              exact FH.tells hl7 8 nm tx
            · rw [if_neg hf7]
              exact FH.fails hf7 hl7 8 nm tx (.slice none 0 0)
          · have HZ2 : Hid (doctypeZ s p = failT (subF s (r + 1))) := by
              show doctypeZ s p = _
              rw [HZ.out, if_pos hsf]
            have hm := must_fails _ g s ⟨#[62]⟩ _ FF.out.fr.sc hsf hs (by decide) hqF
            go_wp2_with fail
            refine hm.mono ?_
            rintro e w9 ⟨rfl, hb9, hg9⟩
            have F9 := mkHidT (FF.out.step hb9 hg9)
            clear hm FF hb9 hg9
            obtain ⟨k0, k1, k2, k3, kf0, kf1, kf2, kf3⟩ := tkcells F9.out.box
            obtain ⟨r0, r1, r2, r3, s0, s1, s2, s3⟩ := tkcells F9.out.fr.res
            go_wp2
            refine bodyPost_ret (v := .agg #[.int .i64 8, .string nm, .string tx, .slice none 0 0]) (by simp [results, Tryz.results94, go_sem, r0, r1, r2, r3]) rfl ?_
            rw [HZ2.out]; exact F9.out.fr.fails hsf hqF 8 nm tx (.slice none 0 0)
        · have HZ : Hid (doctypeZ s p = if mustF s r [62] = 0 then ⟨0, 8, nm, ByteArray.empty, [], r + 1⟩ else failT (mustF s r [62])) := by
            show doctypeZ s p = _
            rw [HZ0.out, if_neg (by rw [hhas]; simpa using h91)]
          have e91 : (c == 91) = false := beq_eq_false_iff_ne.2 h91
          clear hhas hcb HZ0 h91
          go_wp2_with fail
          go_quiet ((first | (go_at_call 68; exact Calls.quiet_of_same (ho _ rfl)) | (go_at_call 88; exact Calls.quiet_of (hen _ rfl))))
          have F7 := mkHidT (F5.out.drew nq)
          clear c0 c1 c2 c3 c4 f1 f2 f3 f4 F5 ho hen hix
          have hm := must_call _ g s ⟨#[62]⟩ r [62] rfl F7.out.fr.sc hs (by decide) hr
          go_wp2_with fail
          refine hm.mono ?_
          rintro e w7 ⟨q7, rfl, hb7, hl7, hp7, hg7⟩
          have FG := mkHidT (F7.out.step hb7 hg7)
          clear hm F7 hb7 hg7
          obtain ⟨k0, k1, k2, k3, kf0, kf1, kf2, kf3⟩ := tkcells FG.out.box
          obtain ⟨r0, r1, r2, r3, s0, s1, s2, s3⟩ := tkcells FG.out.fr.res
          go_wp2
          refine bodyPost_ret (v := .agg #[.int .i64 8, .string nm, .string ByteArray.empty, .slice none 0 0]) (by simp [results, Tryz.results94, go_sem, r0, r1, r2, r3]) rfl ?_
          rw [HZ.out]
          have FH := FG.out.fr
          by_cases hf7 : mustF s r [62] = 0
          · have hq7 := hp7 hf7
            rw [if_pos hf7]
            rw [hf7] at FH
            subst hq7
            exact FH.tells hl7 8 nm ByteArray.empty
          · rw [if_neg hf7]
            exact FH.fails hf7 hl7 8 nm ByteArray.empty (.slice none 0 0)
    · have HZ : Hid (doctypeZ s p = failT (nmF s q)) := by
        show doctypeZ s p = _
        unfold doctypeZ
        simp only [hqd]
        rw [if_neg (by omega), if_pos hnf]
      clear hT
      have ho := fun W' hW => ok_at F5.out.fr.sc W' hW
      simp only [decide_eq_false hnf] at ho
      go_wp2_with fail
      go_quiet ((go_at_call 68; exact Calls.quiet_of_same (ho _ rfl)))
      have F6 := mkHidT (F5.out.drew nq)
      clear ho F5
      have hm := must_fails _ g s ⟨#[62]⟩ _ F6.out.fr.sc hnf hs (by decide) hr
      go_wp2_with fail
      refine hm.mono ?_
      rintro e w9 ⟨rfl, hb9, hg9⟩
      have F9 := mkHidT (F6.out.step hb9 hg9)
      clear hm F6 hb9 hg9
      obtain ⟨k0, k1, k2, k3, kf0, kf1, kf2, kf3⟩ := tkcells F9.out.box
      obtain ⟨r0, r1, r2, r3, s0, s1, s2, s3⟩ := tkcells F9.out.fr.res
      go_wp2
      refine bodyPost_ret (v := .agg #[.int .i64 8, .string nm, .string ByteArray.empty, .slice none 0 0]) (by simp [results, Tryz.results94, go_sem, r0, r1, r2, r3]) rfl ?_
      rw [HZ.out]; exact F9.out.fr.fails hnf hr 8 nm ByteArray.empty (.slice none 0 0)
  · have hpe : whiteZ s p = p := by have := whiteZ_ge s p; omega
    simp only [decide_eq_false hmv]
    rw [hpe] at F2
    have hen := end_any _ g s _ F2.out.fr.sc (by show p ≤ _; omega)
    by_cases he : s.size ≤ p
    · have HZ : Hid (doctypeZ s p = failT 1) := by
        show doctypeZ s p = _
        unfold doctypeZ
        simp only [hpe, ↓reduceIte]
        rw [if_pos he]
      simp only [decide_eq_true he, ended_end (x := ⟨p, 0⟩) (s := s) he rfl] at hen
      go_wp2_with fail
      refine hen.mono ?_
      rintro e w2 ⟨rfl, hb2, hg2⟩
      have F3 := mkHidT (F2.out.step hb2 hg2)
      clear hen F2 hb2 hg2
      have hnm := name_no _ g s _ F3.out.fr.sc (show (1 : Nat) ≠ 0 by simp)
      go_wp2_with fail
      refine hnm.mono ?_
      rintro e wn ⟨rfl, hww⟩
      have FA := mkHidT (hww.symm ▸ F3.out)
      clear hnm hww F3
      obtain ⟨k0, k1, k2, k3, kf0, kf1, kf2, kf3⟩ := tkcells FA.out.box
      obtain ⟨r0, r1, r2, r3, s0, s1, s2, s3⟩ := tkcells FA.out.fr.res
      have hah := FA.out.ahead
      go_wp2_with fail
      have FB := mkHidT (FA.out.name ByteArray.empty)
      clear k0 k1 k2 k3 kf0 kf1 kf2 kf3 r0 r1 r2 r3 s0 s1 s2 s3 FA
      have hwh := white_any _ g s _ FB.out.fr.sc hs hp
      go_wp2_with fail
      refine hwh.mono ?_
      rintro e wz ⟨rfl, hbw, hgw⟩
      have FC := mkHidT (FB.out.step hbw hgw)
      have hqC := whiteZ_le (s := s) hp
      clear hwh FB hbw hgw
      have ho := fun W' hW => ok_at FC.out.fr.sc W' hW
      simp only [decide_eq_false (show (1 : Nat) ≠ 0 by simp)] at ho
      go_wp2_with fail
      go_quiet ((go_at_call 68; exact Calls.quiet_of_same (ho _ rfl)))
      have FD := mkHidT (FC.out.drew nq)
      clear ho FC
      have hm := must_fails _ g s ⟨#[62]⟩ _ FD.out.fr.sc (show (1 : Nat) ≠ 0 by simp) hs (by decide) hqC
      go_wp2_with fail
      refine hm.mono ?_
      rintro e w9 ⟨rfl, hb9, hg9⟩
      have F9 := mkHidT (FD.out.step hb9 hg9)
      clear hm FD hb9 hg9
      obtain ⟨k0, k1, k2, k3, kf0, kf1, kf2, kf3⟩ := tkcells F9.out.box
      obtain ⟨r0, r1, r2, r3, s0, s1, s2, s3⟩ := tkcells F9.out.fr.res
      go_wp2
      refine bodyPost_ret (v := .agg #[.int .i64 8, .string ByteArray.empty, .string ByteArray.empty, .slice none 0 0]) (by simp [results, Tryz.results94, go_sem, r0, r1, r2, r3]) rfl ?_
      rw [HZ.out]; exact F9.out.fr.fails (show (1 : Nat) ≠ 0 by simp) hqC 8 ByteArray.empty ByteArray.empty (.slice none 0 0)
    · have HZ : Hid (doctypeZ s p = failT 2) := by
        show doctypeZ s p = _
        unfold doctypeZ
        simp only [hpe, ↓reduceIte]
        rw [if_neg he]
      simp only [decide_eq_false he, ended_in (x := ⟨p, 0⟩) (s := s) (show p < s.size by omega)] at hen
      go_wp2_with fail
      refine hen.mono ?_
      rintro e w2 ⟨rfl, hb2, hg2⟩
      have F3 := mkHidT (F2.out.step hb2 hg2)
      clear hen F2 hb2 hg2
      obtain ⟨c0, c1, c2, c3, c4, f1, f2, f3, f4⟩ := block0 F3.out.fr.sc
      go_wp2_with fail
      have F4 := mkHidT F3.out.bad
      clear F3 c0 c1 c2 c3 c4 f1 f2 f3 f4
      have hnm := name_no _ g s _ F4.out.fr.sc (show (2 : Nat) ≠ 0 by simp)
      refine hnm.mono ?_
      rintro e wn ⟨rfl, hww⟩
      have FA := mkHidT (hww.symm ▸ F4.out)
      clear hnm hww F4
      obtain ⟨k0, k1, k2, k3, kf0, kf1, kf2, kf3⟩ := tkcells FA.out.box
      obtain ⟨r0, r1, r2, r3, s0, s1, s2, s3⟩ := tkcells FA.out.fr.res
      have hah := FA.out.ahead
      go_wp2_with fail
      have FB := mkHidT (FA.out.name ByteArray.empty)
      clear k0 k1 k2 k3 kf0 kf1 kf2 kf3 r0 r1 r2 r3 s0 s1 s2 s3 FA
      have hwh := white_any _ g s _ FB.out.fr.sc hs hp
      go_wp2_with fail
      refine hwh.mono ?_
      rintro e wz ⟨rfl, hbw, hgw⟩
      have FC := mkHidT (FB.out.step hbw hgw)
      have hqC := whiteZ_le (s := s) hp
      clear hwh FB hbw hgw
      have ho := fun W' hW => ok_at FC.out.fr.sc W' hW
      simp only [decide_eq_false (show (2 : Nat) ≠ 0 by simp)] at ho
      go_wp2_with fail
      go_quiet ((go_at_call 68; exact Calls.quiet_of_same (ho _ rfl)))
      have FD := mkHidT (FC.out.drew nq)
      clear ho FC
      have hm := must_fails _ g s ⟨#[62]⟩ _ FD.out.fr.sc (show (2 : Nat) ≠ 0 by simp) hs (by decide) hqC
      go_wp2_with fail
      refine hm.mono ?_
      rintro e w9 ⟨rfl, hb9, hg9⟩
      have F9 := mkHidT (FD.out.step hb9 hg9)
      clear hm FD hb9 hg9
      obtain ⟨k0, k1, k2, k3, kf0, kf1, kf2, kf3⟩ := tkcells F9.out.box
      obtain ⟨r0, r1, r2, r3, s0, s1, s2, s3⟩ := tkcells F9.out.fr.res
      go_wp2
      refine bodyPost_ret (v := .agg #[.int .i64 8, .string ByteArray.empty, .string ByteArray.empty, .slice none 0 0]) (by simp [results, Tryz.results94, go_sem, r0, r1, r2, r3]) rfl ?_
      rw [HZ.out]; exact F9.out.fr.fails (show (2 : Nat) ≠ 0 by simp) hqC 8 ByteArray.empty ByteArray.empty (.slice none 0 0)
end Go.Proofs.YtefahocflhlgiaaGreatDoor
