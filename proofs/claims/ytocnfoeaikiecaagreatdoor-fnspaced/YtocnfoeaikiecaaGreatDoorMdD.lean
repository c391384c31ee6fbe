import Derived.Test.YtocnfoeaikiecaaGreatDoorMdC
set_option maxHeartbeats 8000000
set_option maxRecDepth 100000
namespace Go.Proofs.YtocnfoeaikiecaaGreatDoor
open Go.RowKit Strs Strs2 Plain9 Plain10 Plain11 Tryz
theorem dX4 (s nm : ByteArray) (f p : Nat) (acc : List (ByteArray × ByteArray)) : aWn s nm (f + 1) p acc =
 if s.size ≤ whiteZ s p then aX2 1
 else if aQ1 s (whiteZ s p) = 62 then ⟨0, 1, nm, ByteArray.empty, acc, whiteZ s p + 1⟩
 else if aQ1 s (whiteZ s p) = 47 then (if aQp s (whiteZ s p) [47, 62] = 0 then ⟨0, 3, nm, ByteArray.empty, acc, whiteZ s p + 2⟩ else aX2 (aQp s (whiteZ s p) [47, 62]))
 else if whiteZ s p = p then aX2 2
 else if nmF s (whiteZ s p) ≠ 0 then aX2 (nmF s (whiteZ s p))
 else if aQp s (whiteZ s (nmP s (whiteZ s p))) [61] ≠ 0 then aX2 (aQp s (whiteZ s (nmP s (whiteZ s p))) [61])
 else if valF s (whiteZ s (whiteZ s (nmP s (whiteZ s p)) + 1)) ≠ 0 then aX2 (valF s (whiteZ s (whiteZ s (nmP s (whiteZ s p)) + 1)))
 else if hasZ acc (nmT s (whiteZ s p)) = true then aX2 3
 else aWn s nm f (valP s (whiteZ s (whiteZ s (nmP s (whiteZ s p)) + 1))) (acc ++ [(nmT s (whiteZ s p), valT s (whiteZ s (whiteZ s (nmP s (whiteZ s p)) + 1)))]) := by
 conv => lhs; unfold aWn
theorem Fa.kbox {w W W3 : World} {g : Nat} {s : ByteArray} {x : Sc} {k : Nat} {kd : Int} {nm : ByteArray} {v : Value} {acc : List (ByteArray × ByteArray)} {a : Nat} {an av : ByteArray} (h : Fa w W g s x k kd nm v acc a an av) (o : Obj) (hg : (W.alloc o).grownBy W3 v.ownBlock) : aKr W3 k kd nm ByteArray.empty v := by
 have h0 := h.ft.alloc o
 unfold aKr
 rw [hg.block _ (bZ7 h0.fr.box) (fun e => by have := h.ft.row.lt k e.symm; omega)]; exact h0.fr.box
def dKl (s nm : ByteArray) (R : Tk) (x : Sc) (acc : List (ByteArray × ByteArray)) : Prop := (x.fl = 0 ∧ acc.length ≤ x.pos ∧ ∃ f, aWn s nm f x.pos acc = R ∧ s.size + 1 ≤ x.pos + f) ∨ (x.fl ≠ 0 ∧ R = aX2 x.fl)
theorem tag_ok (w : World) (g : Nat) (s : ByteArray) (p : Nat) (h : aQj w g s ⟨p, 0⟩) (hs : s.size ≤ 1048576) (hp : p ≤ s.size) :
 Calls prog 88 #[.pointer (some ⟨g, 0, none⟩)] w fun e w' => aVx w g s (tagZ s p) e w' := by
 obtain ⟨i0, hi0, hz0, hz1, hz2⟩ := info_parts bQ2
 have F0 := aQ0 (Fr0.start h)
 have hc := bXj _ g s p F0.out.sc hs hp
 clear h
 go_enter func88, ntmps88
 go_wp2_with fail
 refine hc.mono ?_
 rintro e w1 ⟨nm, q, rfl, hb1, hq, hT, hg1⟩
 have F1 := aQ0 (F0.out.step hb1 hg1)
 clear hc F0 hb1 hg1
 have F2 := aQ0 (F1.out.new 1 nm ByteArray.empty (.slice none 0 0))
 obtain ⟨k, hkd⟩ := nmE (w1.heap.size)
 obtain ⟨R, hRd⟩ := nmE (tagZ s p)
 have HR := aQ0 hRd
 have hstart : Hid (dKl s nm R ⟨q, nmF s p⟩ []) := by
  show dKl s nm R ⟨q, nmF s p⟩ []
  unfold tagZ at hRd
  by_cases hf : nmF s p = 0
  · obtain ⟨hn, hq'⟩ := hT hf
    rw [if_neg (by omega), ← hn, ← hq'] at hRd
    exact .inl ⟨hf, Nat.zero_le _, s.size + 1, hRd, by show s.size + 1 ≤ q + _; omega⟩
  · rw [if_pos hf] at hRd
    exact .inr ⟨hf, hRd.symm⟩
 have F3 : Hid (Ft w _ g s ⟨q, nmF s p⟩ w1.heap.size 1 nm (.slice none 0 0) []) := aQ0 ⟨F2.out, World.ownsRow_nil _ _ _ _⟩
 clear hT F1 F2 hRd
 go_wp2_with fail
 rw [hkd] at F3
 go_loopw [] (fun wr => ∃ (x : Sc) (acc : List (ByteArray × ByteArray)) (v : Value), x.pos ≤ s.size ∧ dKl s nm R x acc ∧ Ft w wr g s x k 1 nm v acc) (fun wr => bZx wr g s.size)
 case atStart => exact ⟨⟨q, nmF s p⟩, [], _, hq, hstart.out, F3.out⟩
 case round =>
  obtain ⟨⟨q0, f0⟩, acc, v, hq0, hat, hft⟩ := hrel
  simp only at hq0
  obtain ⟨ao, cv, hv, hAt⟩ := aYl hft.row
  subst hv
  have HAT := aQ0 hAt
  have hk1 := hft.fr.ahead
  have hk2 := hft.fr.fr.lt
  have n1 : g ≠ k := by omega
  have n2 : k ≠ g := by omega
  have n3 : w.heap.size ≠ k := by omega
  have n4 : k ≠ w.heap.size := by omega
  have n5 : g ≠ w.heap.size := by omega
  have n6 : w.heap.size ≠ g := by omega
  clear hAt
  have F4 := aQ0 hft
  have ho := aVc wr g s _ hft.fr.fr.sc
  clear hft F3 hstart
  rcases hat with ⟨hf0, hal, f, hgo, hfu⟩ | ⟨hf0, hRf⟩
  · simp only at hf0 hgo hfu hal
    subst hf0
    have HM := aQ0 (bWv F4.out.fr.fr.sc s.size)
    obtain ⟨f', rfl⟩ : ∃ f', f = f' + 1 := ⟨f - 1, by omega⟩
    rw [dX4] at hgo
    simp only [decide_true] at ho
    go_wp2_with fail
    refine ho.mono ?_
    rintro e wo ⟨rfl, hww⟩
    have F5 := aQ0 (hww.symm ▸ F4.out)
    clear ho hww F4
    have hwh := aXq _ g s _ F5.out.fr.fr.sc hs hq0
    go_wp2_with fail
    refine hwh.mono ?_
    rintro e w2 ⟨rfl, hbw, hgw⟩
    have F6 := aQ0 (F5.out.step hbw hgw)
    have hq1 := aQv (s := s) hq0
    clear hwh F5 hbw hgw
    obtain ⟨q1, hq1d⟩ : ∃ q, whiteZ s q0 = q := ⟨_, rfl⟩
    rw [hq1d] at F6 hq1 hgo
    have hge : q0 ≤ q1 := by rw [← hq1d]; exact aXj s q0
    have HGO := aQ0 hgo
    have HQ1 := aQ0 hq1d
    clear hgo hq1d
    have hen := aVt _ g s _ F6.out.fr.fr.sc (by show q1 ≤ _; omega)
    by_cases he : s.size ≤ q1
    · have hR1 := HGO.out
      rw [if_pos he] at hR1
      have HR1 := aQ0 hR1
      simp only [decide_eq_true he, aZb (x := ⟨q1, 0⟩) (s := s) he rfl] at hen
      clear hR1
      go_wp2_with fail
      refine hen.mono ?_
      rintro e w3 ⟨rfl, hb3, hg3⟩
      have F7 := aQ0 (F6.out.step hb3 hg3)
      clear hen F6 hb3 hg3
      obtain ⟨k0, k1, k2, k3, kf0, kf1, kf2, kf3⟩ := aQ9 F7.out.fr.box
      obtain ⟨r0, r1, r2, r3, s0, s1, s2, s3⟩ := aQ9 F7.out.fr.fr.res
      go_wp2
      refine bodyPost_ret (v := .agg #[.int .i64 1, .string nm, .string ByteArray.empty, .slice ao acc.length cv]) (by simp [results, results88, go_sem, r0, r1, r2, r3]) rfl ?_
      rw [HR.out, ← HR1.out]
      exact F7.out.fr.fr.fails (by simp) hq1 1 nm ByteArray.empty (.slice ao acc.length cv)
    · simp only [decide_eq_false he, aV9 (x := ⟨q1, 0⟩) (s := s) (show q1 < s.size by omega)] at hen
      have hgo := HGO.out
      rw [if_neg he] at hgo
      obtain ⟨c, hcb⟩ := nmE (aQ1 s q1)
      rw [hcb] at hgo
      have hix : ∀ wx, (Instr.index 9 (.string s) (.int .i64 (q1 : Int))).run prog wx = .ok (.int .u8 c) wx := fun wx => by rw [aQ8 wx 9 s q1 (by omega) underlying9, hcb]
      have HGO2 := aQ0 hgo
      clear hgo hcb HGO
      have hw1 : IntKind.i64.wrap ((q1 : Int) + 1) = (q1 : Int) + 1 := aXt (by omega) (by omega)
      go_wp2_with fail
      refine hen.mono ?_
      rintro e w3 ⟨rfl, hb3, hg3⟩
      have F7 := aQ0 (F6.out.step hb3 hg3)
      clear hen F6 hb3 hg3
      obtain ⟨c0, c1, c2, c3, c4, f1, f2, f3, f4⟩ := aXi F7.out.fr.fr.sc
      by_cases h62 : c = 62
      · have hR1 := HGO2.out
        rw [if_pos h62] at hR1
        have HR1 := aQ0 hR1
        subst h62
        clear hR1
        go_wp2_with fail
        go_quiet (fail)
        obtain ⟨k0, k1, k2, k3, kf0, kf1, kf2, kf3⟩ := aQ9 F7.out.fr.box
        obtain ⟨r0, r1, r2, r3, s0, s1, s2, s3⟩ := aQ9 F7.out.fr.fr.res
        go_wp2
        have F8 := (F7.out.drew nq).pos (z := (q1 : Int) + 1) (q1 + 1) (by omega)
        refine bodyPost_ret (v := .agg #[.int .i64 1, .string nm, .string ByteArray.empty, .slice ao acc.length cv]) (by simp [results, results88, go_sem, r0, r1, r2, r3]) rfl ?_
        rw [HR.out, ← HR1.out]
        exact F8.tells (by omega)
      · have e62 : (c == 62) = false := beq_eq_false_iff_ne.2 h62
        have hgo := HGO2.out
        rw [if_neg h62] at hgo
        by_cases h47 : c = 47
        · rw [if_pos h47] at hgo
          have HR1 := aQ0 hgo
          subst h47
          clear hgo HGO2
          go_wp2_with fail
          go_quiet (fail)
          go_wp2_with fail
          have F8 := aQ0 (F7.out.drew nq)
          generalize w3.drewN nq = w4 at F8 ⊢
          clear c0 c1 c2 c3 c4 f1 f2 f3 f4 F7
          obtain ⟨c0, c1, c2, c3, c4, f1, f2, f3, f4⟩ := aXi F8.out.fr.fr.sc
          go_quiet (fail)
          go_wp2_with fail
          have F9 := aQ0 (F8.out.drew nq)
          have hm := aJa _ g s ⟨#[47, 62]⟩ q1 [47, 62] rfl F9.out.fr.fr.sc hs (by decide) hq1
          refine hm.mono ?_
          rintro e w5 ⟨q5, rfl, hb5, hl5, hp5, hg5⟩
          have FA := aQ0 (F9.out.step hb5 hg5)
          clear hm F8 F9 hb5 hg5 c0 c1 c2 c3 c4 f1 f2 f3 f4
          obtain ⟨k0, k1, k2, k3, kf0, kf1, kf2, kf3⟩ := aQ9 FA.out.fr.box
          obtain ⟨r0, r1, r2, r3, s0, s1, s2, s3⟩ := aQ9 FA.out.fr.fr.res
          go_wp2
          have FB := FA.out.kind 3
          refine bodyPost_ret (v := .agg #[.int .i64 3, .string nm, .string ByteArray.empty, .slice ao acc.length cv]) (by simp [results, results88, go_sem, r0, r1, r2, r3]) rfl ?_
          rw [HR.out, ← HR1.out]
          by_cases hf5 : aQp s q1 [47, 62] = 0
          · have hq5 := hp5 hf5
            rw [if_pos hf5]
            rw [hf5] at FB
            subst hq5
            exact FB.tells hl5
          · rw [if_neg hf5]
            exact FB.fr.fr.fails hf5 hl5 3 nm ByteArray.empty (.slice ao acc.length cv)
        · have e47 : (c == 47) = false := beq_eq_false_iff_ne.2 h47
          rw [if_neg h47] at hgo
          have HGO3 := aQ0 hgo
          clear hgo HGO2
          have hlen : acc.length ≤ 1048576 := by omega
          by_cases hwq : q1 = q0
          · have hwv : decide (q0 < whiteZ s q0) = false := by rw [HQ1.out]; exact decide_eq_false (by omega)
            have hR2 := HGO3.out
            rw [if_pos hwq] at hR2
            have HR1 := aQ0 hR2
            clear hR2 HGO3 hwq
            go_wp2_with fail
            go_quiet (fail)
            go_wp2_with fail
            have F8 := aQ0 (F7.out.drew nq)
            generalize w3.drewN nq = w4 at F8 ⊢
            clear c0 c1 c2 c3 c4 f1 f2 f3 f4 F7
            obtain ⟨c0, c1, c2, c3, c4, f1, f2, f3, f4⟩ := aXi F8.out.fr.fr.sc
            go_quiet (fail)
            go_wp2
            have F9 := (F8.out.drew nq).bad
            exact ⟨⟨⟨q1, 2⟩, acc, _, hq1, .inr ⟨by simp, HR1.out.symm⟩, F9⟩, by rw [HM.out, aYa F9.fr.fr.sc (by simp)]; omega⟩
          · have hwv : decide (q0 < whiteZ s q0) = true := by rw [HQ1.out]; exact decide_eq_true (by omega)
            have hgo := HGO3.out
            rw [if_neg hwq] at hgo
            have HGO4 := aQ0 hgo
            clear hgo HGO3
            go_wp2_with fail
            go_quiet (fail)
            go_wp2_with fail
            have F8 := aQ0 (F7.out.drew nq)
            generalize w3.drewN nq = w4 at F8 ⊢
            clear c0 c1 c2 c3 c4 f1 f2 f3 f4 F7
            obtain ⟨c0, c1, c2, c3, c4, f1, f2, f3, f4⟩ := aXi F8.out.fr.fr.sc
            go_quiet (fail)
            go_wp2_with fail
            have F9 := aQ0 (F8.out.drew nq)
            have hnm := bXj _ g s q1 F9.out.fr.fr.sc hs hq1
            refine hnm.mono ?_
            rintro e w5 ⟨an, q5, rfl, hb5, hq5, hT5, hg5⟩
            have FA := aQ0 ((F9.out.step hb5 hg5).newA an ByteArray.empty)
            clear hnm F8 F9 hb5 hg5 c0 c1 c2 c3 c4 f1 f2 f3 f4
            obtain ⟨A, hAd⟩ := nmE (w5.heap.size)
            have hwh := aXq _ g s _ FA.out.ft.fr.fr.sc hs hq5
            go_wp2_with fail
            refine hwh.mono ?_
            rintro e w6 ⟨rfl, hbw, hgw⟩
            have FB := aQ0 (FA.out.step hbw hgw)
            have hq6 := aQv (s := s) hq5
            clear hwh FA hbw hgw
            rw [hAd] at FB
            by_cases hnf : nmF s q1 = 0
            · obtain ⟨hn5, hq5'⟩ := hT5 hnf
              rw [hnf] at FB
              obtain ⟨r, hrd⟩ := nmE (whiteZ s q5)
              rw [hrd] at FB hq6
              have hgo := HGO4.out
              rw [if_neg (by omega), ← hn5, ← hq5', hrd] at hgo
              have hn1 := aZx hnf
              have hq5g : q1 < q5 := by omega
              have hq6g : q5 ≤ r := by rw [← hrd]; exact aXj s q5
              clear hT5 HGO4 hrd hn5 hnf hn1
              have hm := aJa _ g s ⟨#[61]⟩ r [61] rfl FB.out.ft.fr.fr.sc hs (by decide) hq6
              by_cases hmf : aQp s r [61] = 0
              · rw [if_neg (by omega)] at hgo
                rw [hmf] at hm
                have HGO5 := aQ0 hgo
                clear hgo
                go_wp2_with fail
                refine hm.mono ?_
                rintro e w7 ⟨q7, rfl, hb7, hl7, hp7, hg7⟩
                have hq7 : q7 = r + 1 := by simpa using hp7
                subst hq7
                have FC := aQ0 (FB.out.step hb7 hg7)
                clear hm FB hb7 hg7 hp7
                have hwh := aXq _ g s _ FC.out.ft.fr.fr.sc hs hl7
                go_wp2_with fail
                refine hwh.mono ?_
                rintro e w8 ⟨rfl, hbw, hgw⟩
                have FD := aQ0 (FC.out.step hbw hgw)
                have hq8 := aQv (s := s) hl7
                clear hwh FC hbw hgw
                obtain ⟨u, hud⟩ := nmE (whiteZ s (r + 1))
                rw [hud] at FD hq8
                have hgo := HGO5.out
                rw [hud] at hgo
                have hug : r + 1 ≤ u := by rw [← hud]; exact aXj s (r + 1)
                clear HGO5 hud
                have hvo := cZ3 _ g s u FD.out.ft.fr.fr.sc hs hq8
                go_wp2_with fail
                refine hvo.mono ?_
                rintro e w10 ⟨avl, q9, rfl, hb9, hq9, hT9, hg9⟩
                have FE := aQ0 (FD.out.step hb9 hg9)
                clear hvo FD hb9 hg9
                obtain ⟨a0, a1, af0, af1⟩ := aWe FE.out.box
                have HGO6 := aQ0 hgo
                clear hgo
                go_wp2_with fail
                have FF := aQ0 (FE.out.val avl)
                clear a0 a1 af0 af1 FE
                by_cases hvf : valF s u = 0
                · obtain ⟨hva, hq9'⟩ := hT9 hvf
                  have hvs := aYo hvf
                  have hq9g : q0 < q9 := by rw [hq9']; unfold valP; omega
                  have hgo := HGO6.out
                  rw [if_neg (by omega), ← hva, ← hq9'] at hgo
                  rw [hvf] at FF
                  clear HGO6 hT9 hvs hvf hva hq9'
                  have ho2 := fun W' hW => bJ6 FF.out.ft.fr.fr.sc W' hW
                  simp only [decide_true] at ho2
                  refine (ho2 _ rfl).mono ?_
                  rintro e wk ⟨rfl, hww⟩
                  have FG := aQ0 (hww.symm ▸ FF.out)
                  clear ho2 hww FF
                  obtain ⟨a2, c2, hv2, hAt2⟩ := aYl FG.out.ft.row
                  cases hv2
                  have hhas := fun c => bK4 wk ao c acc an hAt2 hlen
                  cases hhz : hasZ acc an with
                  | true =>
                   rw [hhz] at hhas
                   rw [hhz, if_pos rfl] at hgo
                   have HR1 := aQ0 hgo
                   clear hgo
                   obtain ⟨k0, k1, k2, k3, kf0, kf1, kf2, kf3⟩ := aQ9 FG.out.ft.fr.box
                   obtain ⟨r0, r1, r2, r3, s0, s1, s2, s3⟩ := aQ9 FG.out.ft.fr.fr.res
                   obtain ⟨a0, a1, af0, af1⟩ := aWe FG.out.box
                   go_wp2_with fail
                   refine (hhas _).mono ?_
                   rintro e wm ⟨rfl, hww⟩
                   have FH := aQ0 (hww.symm ▸ FG.out)
                   clear hhas hww FG k0 k1 k2 k3 kf0 kf1 kf2 kf3 r0 r1 r2 r3 s0 s1 s2 s3 a0 a1 af0 af1
                   obtain ⟨c0, c1, c2, c3, c4, f1, f2, f3, f4⟩ := aXi FH.out.ft.fr.fr.sc
                   have hA1 := FH.out.ahead
                   have nA1 : A ≠ g := by omega
                   have nA2 : g ≠ A := by omega
                   have FI := aQ0 FH.out.there
                   obtain ⟨k0, k1, k2, k3, kf0, kf1, kf2, kf3⟩ := aQ9 FH.out.ft.fr.box
                   obtain ⟨r0, r1, r2, r3, s0, s1, s2, s3⟩ := aQ9 FH.out.ft.fr.fr.res
                   obtain ⟨a0, a1, af0, af1⟩ := aWe FH.out.box
                   have HROW := aQ0 FI.out.ft.row
                   have hKs := bZ7 FH.out.ft.fr.box
                   go_wp2_with (at_builtin; refine wpList_append_own_wide _ rfl _ _ 31 rfl (k + 1) 54 i0 (.agg #[.string ByteArray.empty, .string ByteArray.empty]) 2 32 underlying31 hi0 hz0 hz1 hz2 rfl (by decide) _ _ _ rfl (HROW.out.alloc _) ⟨wm.heap.size, 0, none⟩ 1 1 [.string an, .string avl] rfl rfl (aWy ((wm.setCell ⟨g, 4, none⟩ (.bool true)).setCell ⟨g, 3, none⟩ (.bool true)) _ _ _ wm.heap.size (by simp)) (fun u hu => by simp at hu; rcases hu with rfl | rfl <;> rfl) (by unfold maxLen; omega) (by omega) (by simp; omega) ?_; intro v' w9 hown' hgrow' hnil'; obtain ⟨ao', cv', hv'⟩ := aKg hown'; subst hv'; have FT := aQ0 (FI.out.appended _ hown' hgrow'); obtain ⟨x0, x1, x2, x3, xf0, xf1, xf2, xf3⟩ := aQ9 (FI.out.kbox _ hgrow'); clear hown' hgrow' hnil')
                   exact ⟨⟨⟨q9, 3⟩, _, _, hq9, .inr ⟨by simp, HR1.out.symm⟩, FT.out⟩, by rw [HM.out, aYa FT.out.fr.fr.sc (by simp)]; omega⟩
                  | false =>
                   rw [hhz] at hhas
                   rw [hhz] at hgo
                   simp only [Bool.false_eq_true, if_false] at hgo
                   have HR1 := aQ0 hgo
                   clear hgo
                   obtain ⟨k0, k1, k2, k3, kf0, kf1, kf2, kf3⟩ := aQ9 FG.out.ft.fr.box
                   obtain ⟨r0, r1, r2, r3, s0, s1, s2, s3⟩ := aQ9 FG.out.ft.fr.fr.res
                   obtain ⟨a0, a1, af0, af1⟩ := aWe FG.out.box
                   go_wp2_with fail
                   refine (hhas _).mono ?_
                   rintro e wm ⟨rfl, hww⟩
                   have FH := aQ0 (hww.symm ▸ FG.out)
                   clear hhas hww FG k0 k1 k2 k3 kf0 kf1 kf2 kf3 r0 r1 r2 r3 s0 s1 s2 s3 a0 a1 af0 af1
                   obtain ⟨k0, k1, k2, k3, kf0, kf1, kf2, kf3⟩ := aQ9 FH.out.ft.fr.box
                   obtain ⟨r0, r1, r2, r3, s0, s1, s2, s3⟩ := aQ9 FH.out.ft.fr.fr.res
                   obtain ⟨a0, a1, af0, af1⟩ := aWe FH.out.box
                   have HROW := aQ0 FH.out.ft.row
                   have hKs := bZ7 FH.out.ft.fr.box
                   go_wp2_with (at_builtin; refine wpList_append_own_wide _ rfl _ _ 31 rfl (k + 1) 54 i0 (.agg #[.string ByteArray.empty, .string ByteArray.empty]) 2 32 underlying31 hi0 hz0 hz1 hz2 rfl (by decide) _ _ _ rfl (HROW.out.alloc _) ⟨wm.heap.size, 0, none⟩ 1 1 [.string an, .string avl] rfl rfl (aZl _ _ _ _) (fun u hu => by simp at hu; rcases hu with rfl | rfl <;> rfl) (by unfold maxLen; omega) (by omega) (by simp; omega) ?_; intro v' w9 hown' hgrow' hnil'; obtain ⟨ao', cv', hv'⟩ := aKg hown'; subst hv'; have FT := aQ0 (FH.out.appended _ hown' hgrow'); obtain ⟨x0, x1, x2, x3, xf0, xf1, xf2, xf3⟩ := aQ9 (FH.out.kbox _ hgrow'); clear hown' hgrow' hnil')
                   exact ⟨⟨⟨q9, 0⟩, _, _, hq9, .inl ⟨rfl, by simp; omega, f', HR1.out, by show s.size + 1 ≤ q9 + f'; omega⟩, FT.out⟩, by rw [HM.out, bWv FT.out.fr.fr.sc]; omega⟩
                · have hgo := HGO6.out
                  rw [if_pos hvf] at hgo
                  have HR1 := aQ0 hgo
                  clear hgo HGO6 hT9
                  have ho2 := fun W' hW => bJ6 FF.out.ft.fr.fr.sc W' hW
                  simp only [decide_eq_false hvf] at ho2
                  refine (ho2 _ rfl).mono ?_
                  rintro e wk ⟨rfl, hww⟩
                  have FG := aQ0 (hww.symm ▸ FF.out)
                  clear ho2 hww FF
                  obtain ⟨k0, k1, k2, k3, kf0, kf1, kf2, kf3⟩ := aQ9 FG.out.ft.fr.box
                  obtain ⟨r0, r1, r2, r3, s0, s1, s2, s3⟩ := aQ9 FG.out.ft.fr.fr.res
                  obtain ⟨a0, a1, af0, af1⟩ := aWe FG.out.box
                  have HROW := aQ0 FG.out.ft.row
                  have hKs := bZ7 FG.out.ft.fr.box
                  go_wp2_with (at_builtin; refine wpList_append_own_wide _ rfl _ _ 31 rfl (k + 1) 54 i0 (.agg #[.string ByteArray.empty, .string ByteArray.empty]) 2 32 underlying31 hi0 hz0 hz1 hz2 rfl (by decide) _ _ _ rfl (HROW.out.alloc _) ⟨wk.heap.size, 0, none⟩ 1 1 [.string an, .string avl] rfl rfl (aZl _ _ _ _) (fun u hu => by simp at hu; rcases hu with rfl | rfl <;> rfl) (by unfold maxLen; omega) (by omega) (by simp; omega) ?_; intro v' w9 hown' hgrow' hnil'; obtain ⟨ao', cv', hv'⟩ := aKg hown'; subst hv'; have FT := aQ0 (FG.out.appended _ hown' hgrow'); obtain ⟨x0, x1, x2, x3, xf0, xf1, xf2, xf3⟩ := aQ9 (FG.out.kbox _ hgrow'); clear hown' hgrow' hnil')
                  exact ⟨⟨⟨_, _⟩, _, _, hq9, .inr ⟨hvf, HR1.out.symm⟩, FT.out⟩, by rw [HM.out, aYa FT.out.fr.fr.sc hvf]; omega⟩
              · rw [if_pos hmf] at hgo
                have HR1 := aQ0 hgo
                clear hgo
                go_wp2_with fail
                refine hm.mono ?_
                rintro e w7 ⟨q7, rfl, hb7, hl7, hp7, hg7⟩
                have FC := aQ0 (FB.out.step hb7 hg7)
                clear hm FB hb7 hg7 hp7
                have hwh := aXq _ g s _ FC.out.ft.fr.fr.sc hs hl7
                go_wp2_with fail
                refine hwh.mono ?_
                rintro e w8 ⟨rfl, hbw, hgw⟩
                have FD := aQ0 (FC.out.step hbw hgw)
                have hq8 := aQv (s := s) hl7
                clear hwh FC hbw hgw
                have hvn := cZ4 _ g s _ FD.out.ft.fr.fr.sc hmf
                go_wp2_with fail
                refine hvn.mono ?_
                rintro e wv ⟨rfl, hww⟩
                have FE := aQ0 (hww.symm ▸ FD.out)
                clear hvn hww FD
                obtain ⟨a0, a1, af0, af1⟩ := aWe FE.out.box
                go_wp2_with fail
                have FF := aQ0 (FE.out.val ByteArray.empty)
                clear a0 a1 af0 af1 FE
                have ho2 := fun W' hW => bJ6 FF.out.ft.fr.fr.sc W' hW
                simp only [decide_eq_false hmf] at ho2
                refine (ho2 _ rfl).mono ?_
                rintro e wk ⟨rfl, hww⟩
                have FG := aQ0 (hww.symm ▸ FF.out)
                clear ho2 hww FF
                obtain ⟨k0, k1, k2, k3, kf0, kf1, kf2, kf3⟩ := aQ9 FG.out.ft.fr.box
                obtain ⟨r0, r1, r2, r3, s0, s1, s2, s3⟩ := aQ9 FG.out.ft.fr.fr.res
                obtain ⟨a0, a1, af0, af1⟩ := aWe FG.out.box
                have HROW := aQ0 FG.out.ft.row
                have hKs := bZ7 FG.out.ft.fr.box
                go_wp2_with (at_builtin; refine wpList_append_own_wide _ rfl _ _ 31 rfl (k + 1) 54 i0 (.agg #[.string ByteArray.empty, .string ByteArray.empty]) 2 32 underlying31 hi0 hz0 hz1 hz2 rfl (by decide) _ _ _ rfl (HROW.out.alloc _) ⟨wk.heap.size, 0, none⟩ 1 1 [.string an, .string ByteArray.empty] rfl rfl (aZl _ _ _ _) (fun u hu => by simp at hu; rcases hu with rfl | rfl <;> rfl) (by unfold maxLen; omega) (by omega) (by simp; omega) ?_; intro v' w9 hown' hgrow' hnil'; obtain ⟨ao', cv', hv'⟩ := aKg hown'; subst hv'; have FT := aQ0 (FG.out.appended _ hown' hgrow'); obtain ⟨x0, x1, x2, x3, xf0, xf1, xf2, xf3⟩ := aQ9 (FG.out.kbox _ hgrow'); clear hown' hgrow' hnil')
                exact ⟨⟨⟨_, _⟩, _, _, hq8, .inr ⟨hmf, HR1.out.symm⟩, FT.out⟩, by rw [HM.out, aYa FT.out.fr.fr.sc hmf]; omega⟩
            · have hR2 := HGO4.out
              rw [if_pos hnf] at hR2
              have HR1 := aQ0 hR2
              clear hR2 HGO4 hT5
              have hm := aZ8 _ g s ⟨#[61]⟩ _ FB.out.ft.fr.fr.sc hnf hs (by decide) hq6
              go_wp2_with fail
              refine hm.mono ?_
              rintro e w7 ⟨rfl, hb7, hg7⟩
              have FC := aQ0 (FB.out.step hb7 hg7)
              clear hm FB hb7 hg7
              have hwh := aXq _ g s _ FC.out.ft.fr.fr.sc hs hq6
              go_wp2_with fail
              refine hwh.mono ?_
              rintro e w8 ⟨rfl, hbw, hgw⟩
              have FD := aQ0 (FC.out.step hbw hgw)
              have hq8 := aQv (s := s) hq6
              clear hwh FC hbw hgw
              have hvn := cZ4 _ g s _ FD.out.ft.fr.fr.sc hnf
              go_wp2_with fail
              refine hvn.mono ?_
              rintro e wv ⟨rfl, hww⟩
              have FE := aQ0 (hww.symm ▸ FD.out)
              clear hvn hww FD
              obtain ⟨a0, a1, af0, af1⟩ := aWe FE.out.box
              go_wp2_with fail
              have FF := aQ0 (FE.out.val ByteArray.empty)
              clear a0 a1 af0 af1 FE
              have ho2 := fun W' hW => bJ6 FF.out.ft.fr.fr.sc W' hW
              simp only [decide_eq_false hnf] at ho2
              refine (ho2 _ rfl).mono ?_
              rintro e wk ⟨rfl, hww⟩
              have FG := aQ0 (hww.symm ▸ FF.out)
              clear ho2 hww FF
              obtain ⟨k0, k1, k2, k3, kf0, kf1, kf2, kf3⟩ := aQ9 FG.out.ft.fr.box
              obtain ⟨r0, r1, r2, r3, s0, s1, s2, s3⟩ := aQ9 FG.out.ft.fr.fr.res
              obtain ⟨a0, a1, af0, af1⟩ := aWe FG.out.box
              have HROW := aQ0 FG.out.ft.row
              have hKs := bZ7 FG.out.ft.fr.box
              go_wp2_with (at_builtin; refine wpList_append_own_wide _ rfl _ _ 31 rfl (k + 1) 54 i0 (.agg #[.string ByteArray.empty, .string ByteArray.empty]) 2 32 underlying31 hi0 hz0 hz1 hz2 rfl (by decide) _ _ _ rfl (HROW.out.alloc _) ⟨wk.heap.size, 0, none⟩ 1 1 [.string an, .string ByteArray.empty] rfl rfl (aZl _ _ _ _) (fun u hu => by simp at hu; rcases hu with rfl | rfl <;> rfl) (by unfold maxLen; omega) (by omega) (by simp; omega) ?_; intro v' w9 hown' hgrow' hnil'; obtain ⟨ao', cv', hv'⟩ := aKg hown'; subst hv'; have FT := aQ0 (FG.out.appended _ hown' hgrow'); obtain ⟨x0, x1, x2, x3, xf0, xf1, xf2, xf3⟩ := aQ9 (FG.out.kbox _ hgrow'); clear hown' hgrow' hnil')
              exact ⟨⟨⟨_, _⟩, _, _, hq8, .inr ⟨hnf, HR1.out.symm⟩, FT.out⟩, by rw [HM.out, aYa FT.out.fr.fr.sc hnf]; omega⟩
  · simp only at hf0 hRf
    simp only [decide_eq_false hf0] at ho
    have HR1 := aQ0 hRf
    clear hRf
    go_wp2_with fail
    refine ho.mono ?_
    rintro e wo ⟨rfl, hww⟩
    have F5 := aQ0 (hww.symm ▸ F4.out)
    clear ho hww F4
    obtain ⟨k0, k1, k2, k3, kf0, kf1, kf2, kf3⟩ := aQ9 F5.out.fr.box
    obtain ⟨r0, r1, r2, r3, s0, s1, s2, s3⟩ := aQ9 F5.out.fr.fr.res
    go_wp2
    refine bodyPost_ret (v := .agg #[.int .i64 1, .string nm, .string ByteArray.empty, .slice ao acc.length cv]) (by simp [results, results88, go_sem, r0, r1, r2, r3]) rfl ?_
    rw [HR.out, HR1.out]
    exact F5.out.fr.fr.fails hf0 hq0 1 nm ByteArray.empty (.slice ao acc.length cv)
open Go.RowKit Strs2 Plain9 Plain10
theorem cXh (s : ByteArray) (p : Nat) (closed : Bool) (w : World) (hs : s.size ≤ 1048576) (hp : p ≤ s.size) :
 Calls prog 63 #[.string s, .int .i64 p, .bool closed] w fun e w' => bXq w (aK0 (aKs s p closed) closed) e w' := by
 have hf := fun wx => aK4 s p ⟨#[60]⟩ wx hs (by decide) hp
 simp only [aW3 (s := s) (what := ⟨#[60]⟩) (by simp) p] at hf
 obtain ⟨E, hE⟩ := nmE (aVf s p)
 have hEb : p ≤ E ∧ E ≤ s.size := by
  rw [← hE]; unfold aVf
  rcases aZa s p [60] hp with h | ⟨i, h, h1, h2, _⟩
  · rw [if_pos h]; exact ⟨hp, Nat.le_refl _⟩
  · rw [if_neg (by omega), h]; simp at h2 ⊢; omega
 obtain ⟨X, hX⟩ := nmE (s.extract p E)
 have hXs : X.size ≤ 1048576 := by rw [← hX, aXy hEb.2]; omega
 have hf2 := fun wx => aK4 X 0 ⟨#[93, 93, 62]⟩ wx hXs (by decide) (Nat.zero_le _)
 simp only [aW3 (s := X) (what := ⟨#[93, 93, 62]⟩) (by simp) 0] at hf2
 have hsl : ∀ wx, (Instr.slice 9 (.string s) (some (.int .i64 (p : Int))) (some (.int .i64 (E : Int))) none).run prog wx = .ok (.string X) wx := fun wx => by rw [← hX]; exact aKx wx _ s p E _ _ rfl rfl hEb.1 hEb.2 underlying9
 have hT : aKs s p closed = if Lib.index X.data.toList [93, 93, 62] ≠ -1 then aX2 2 else if E = s.size ∧ closed = false then aX2 1 else ⟨0, 4, ByteArray.empty, X, [], E⟩ := by
  unfold aKs; rw [hE, hX]
 have HT := aQ0 hT
 clear hT
 rcases aZa s p [60] hp with hz | ⟨i, hz, _, h2, _⟩
 · have hEs : E = s.size := by rw [← hE]; unfold aVf; rw [if_pos hz]
   subst hEs
   clear hE hX hEb
   simp only [hz] at hf
   by_cases hi : Lib.index X.data.toList [93, 93, 62] = -1
   · have hz2 : fz X 0 [93, 93, 62] = -1 := (aJp X 0 _).2 hi
     simp only [hz2] at hf2
     cases closed with
     | false =>
      go_enter func63, ntmps63
      go_wp2_with fail
      refine (hf _).mono ?_
      rintro e w1 ⟨rfl, hww⟩
      subst hww
      go_wp2_with fail
      refine (hf2 _).mono ?_
      rintro e w1 ⟨rfl, hww⟩
      subst hww
      go_wp2
      refine bodyPost_ret (v := .agg #[.int .i64 0, .string ⟨#[]⟩, .string ⟨#[]⟩, .slice none 0 0, .int .i64 0, .int .i64 4]) (by simp [results, results63, go_sem]) rfl ?_
      rw [HT.out, if_neg (by omega), if_pos (by simp)]; rw [show aK0 (aX2 1) false = bQn 4 from rfl]
      exact ⟨_, rfl, World.ownsRow_nil _ _ _ _, bAl⟩
     | true =>
      go_enter func63, ntmps63
      go_wp2_with fail
      refine (hf _).mono ?_
      rintro e w1 ⟨rfl, hww⟩
      subst hww
      go_wp2_with fail
      refine (hf2 _).mono ?_
      rintro e w1 ⟨rfl, hww⟩
      subst hww
      go_wp2
      refine bodyPost_ret (v := .agg #[.int .i64 4, .string ⟨#[]⟩, .string X, .slice none 0 0, .int .i64 (s.size : Int), .int .i64 0]) (by simp [results, results63, go_sem]) rfl ?_
      rw [HT.out, if_neg (by omega), if_neg (by simp)]
      exact ⟨_, rfl, World.ownsRow_nil _ _ _ _, bAl⟩
   · have hz2 : ¬ fz X 0 [93, 93, 62] = -1 := fun h => hi ((aJp X 0 _).1 h)
     rcases aZa X 0 [93, 93, 62] (Nat.zero_le _) with h0 | ⟨j, h0, _⟩
     · exact absurd h0 hz2
     simp only [h0] at hf2
     clear hz2 h0
     go_enter func63, ntmps63
     go_wp2_with fail
     refine (hf _).mono ?_
     rintro e w1 ⟨rfl, hww⟩
     subst hww
     go_wp2_with fail
     refine (hf2 _).mono ?_
     rintro e w1 ⟨rfl, hww⟩
     subst hww
     go_wp2
     refine bodyPost_ret (v := .agg #[.int .i64 0, .string ⟨#[]⟩, .string ⟨#[]⟩, .slice none 0 0, .int .i64 0, .int .i64 3]) (by simp [results, results63, go_sem]) rfl ?_
     rw [HT.out, if_pos hi]; rw [show aK0 (aX2 2) closed = bQn 3 from by cases closed <;> rfl]
     exact ⟨_, rfl, World.ownsRow_nil _ _ _ _, bAl⟩
 · have hEi : E = i := by rw [← hE]; unfold aVf; rw [if_neg (by omega), hz]; rfl
   subst hEi
   clear hE hX hEb
   simp only [hz] at hf
   by_cases hi : Lib.index X.data.toList [93, 93, 62] = -1
   · have hz2 : fz X 0 [93, 93, 62] = -1 := (aJp X 0 _).2 hi
     simp only [hz2] at hf2
     have hlt : E < s.size := by simp at h2; omega
     have hne : ((E : Int) == (s.size : Int)) = false := beq_eq_false_iff_ne.2 (by omega)
     go_enter func63, ntmps63
     go_wp2_with fail
     refine (hf _).mono ?_
     rintro e w1 ⟨rfl, hww⟩
     subst hww
     go_wp2_with fail
     refine (hf2 _).mono ?_
     rintro e w1 ⟨rfl, hww⟩
     subst hww
     go_wp2
     refine bodyPost_ret (v := .agg #[.int .i64 4, .string ⟨#[]⟩, .string X, .slice none 0 0, .int .i64 (E : Int), .int .i64 0]) (by simp [results, results63, go_sem]) rfl ?_
     rw [HT.out, if_neg (by omega), if_neg (by omega)]
     exact ⟨_, rfl, World.ownsRow_nil _ _ _ _, bAl⟩
   · have hz2 : ¬ fz X 0 [93, 93, 62] = -1 := fun h => hi ((aJp X 0 _).1 h)
     rcases aZa X 0 [93, 93, 62] (Nat.zero_le _) with h0 | ⟨j, h0, _⟩
     · exact absurd h0 hz2
     simp only [h0] at hf2
     clear hz2 h0
     go_enter func63, ntmps63
     go_wp2_with fail
     refine (hf _).mono ?_
     rintro e w1 ⟨rfl, hww⟩
     subst hww
     go_wp2_with fail
     refine (hf2 _).mono ?_
     rintro e w1 ⟨rfl, hww⟩
     subst hww
     go_wp2
     refine bodyPost_ret (v := .agg #[.int .i64 0, .string ⟨#[]⟩, .string ⟨#[]⟩, .slice none 0 0, .int .i64 0, .int .i64 3]) (by simp [results, results63, go_sem]) rfl ?_
     rw [HT.out, if_pos hi]; rw [show aK0 (aX2 2) closed = bQn 3 from by cases closed <;> rfl]
     exact ⟨_, rfl, World.ownsRow_nil _ _ _ _, bAl⟩
end Go.Proofs.YtocnfoeaikiecaaGreatDoor
