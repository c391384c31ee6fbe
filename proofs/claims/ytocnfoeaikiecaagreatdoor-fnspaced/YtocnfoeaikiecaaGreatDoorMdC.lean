import Derived.Test.YtocnfoeaikiecaaGreatDoorMdB
set_option maxHeartbeats 4000000
set_option maxRecDepth 100000
namespace Go.Proofs.YtocnfoeaikiecaaGreatDoor
open Go.RowKit Strs Strs2 Plain9 Plain10 Plain11 Tryz
theorem dJh {s : ByteArray} {p : Nat} {sg : List UInt8} (hp : p < s.size) (h : aQa s p sg = false) : fz s p sg ≠ (p : Int) := by
 rw [aYh hp h]
 rcases aZa s (p + 1) sg (by omega) with h1 | ⟨i, h1, h2, _⟩
 · rw [h1]; omega
 · rw [h1]; omega
def SubAt (s : ByteArray) (R : Nat × Nat) (x : Sc) : Prop := (x.fl = 0 ∧ ∃ f, aZf s f x.pos = R ∧ s.size + 1 ≤ x.pos + f) ∨ (x.fl = 1 ∧ R.1 = 1)
theorem bZ9 {s : ByteArray} {R : Nat × Nat} {f p k q n F : Nat} (hR : aZf s (f + 1) k = R) (hfu : s.size + 1 ≤ k + (f + 1)) (hk : k < p) (hst : aZf s (f + 1) k = if F = 0 then aZf s f n else (1, k)) (hF : F = 0 ∨ F = 1) (hq : F = 0 → q = n ∧ p ≤ n) : SubAt s R ⟨q, F⟩ := by
 rw [hR] at hst
 rcases hF with h | h
 · subst h
   obtain ⟨rfl, hl⟩ := hq rfl
   exact .inl ⟨rfl, f, by rw [hst]; rfl, by show s.size + 1 ≤ q + f; omega⟩
 · subst h
   exact .inr ⟨rfl, by rw [hst]; rfl⟩
theorem cJo (W : World) (c : Int) (n : Nat) (hn : n = W.heap.size) : (convert 22 9 (.slice (some ⟨n, 0, none⟩) 1 1)).run prog (W.alloc (.cells #[.int .u8 c] 5)) = .ok (.string (strOfNums [c])) (W.alloc (.cells #[.int .u8 c] 5)) := by
 subst hn
 exact Bytes.bZj (B := 0) (xs := [c]) underlying22 underlying5 underlying9 (World.ownsRow_lit (size := 1) W #[.int .u8 c] 1 (Nat.zero_le _) (by decide) rfl)
def aJl (w : World) (g n : Nat) : Nat := match w.cell? ⟨g, 2, none⟩ with | some (.bool true) => 0 | _ => n + 1 - cQv w g
theorem aYu {w : World} {g : Nat} {s : ByteArray} {k : Nat} (h : aQj w g s ⟨k, 0⟩) (n : Nat) : aJl w g n = n + 1 - k := by
 obtain ⟨_, _, c2, _⟩ := aXi h
 unfold aJl; rw [c2, aYt h]
theorem bZc {w : World} {g : Nat} {s : ByteArray} {k : Nat} (h : aQj w g s ⟨k, 1⟩) (n : Nat) : aJl w g n = 0 := by
 obtain ⟨_, _, c2, _⟩ := aJz h
 unfold aJl; rw [c2]; rfl
theorem bWj (s : ByteArray) (p : Nat) (sg : List UInt8) : upF s p sg = 0 ∨ upF s p sg = 1 := by unfold upF; split <;> simp
theorem cKf (w : World) (g : Nat) (s : ByteArray) (p : Nat) (h : aQj w g s ⟨p, 0⟩) (hs : s.size ≤ 1048576) (hp : p ≤ s.size) :
 Calls prog 108 #[.pointer (some ⟨g, 0, none⟩)] w fun e w' => ∃ t q, e = .returned (.string t) ∧ aQj w' g s ⟨q, subF s p⟩ ∧ q ≤ s.size ∧ (subF s p = 0 → t = subT s p ∧ q = subP s p) ∧ w.grownBy w' (some g) := by
 obtain ⟨R, hR⟩ := nmE (aZf s (s.size + 1) p)
 have hF : subF s p = R.1 := by unfold subF; rw [hR]
 have hT : subT s p = s.extract p (R.2 - 1) := by unfold subT subP; rw [hR]
 have hP : subP s p = R.2 := by unfold subP; rw [hR]
 rw [hF, hT, hP]
 have HR := aQ0 hR
 obtain ⟨c0, c1, c2, c3, c4, f1, f2, f3, f4⟩ := aXi h
 have HB := aQ0 h
 clear hF hT hP hR h
 go_enter func108, ntmps108
 go_wp2_with fail
 go_loopw [] (fun wr => ∃ x : Sc, (x.fl = 0 → p ≤ x.pos) ∧ x.pos ≤ s.size ∧ SubAt s R x ∧ aQj wr g s x ∧ w.grownBy wr (some g)) (fun wr => aJl wr g s.size)
 case atStart => exact ⟨⟨p, 0⟩, fun _ => Nat.le_refl _, hp, .inl ⟨rfl, s.size + 1, HR.out, by show s.size + 1 ≤ p + _; omega⟩, HB.out, aQs w 0 _⟩
 case round =>
  obtain ⟨⟨k, F⟩, hk0, hk, hat, hbx, hg⟩ := hrel
  simp only at hk0 hk
  have HBX := aQ0 hbx
  have HG := aQ0 hg
  clear c0 c1 c2 c3 c4 f1 f2 f3 f4
  have ho := aVc wr g s _ hbx
  rcases hat with ⟨hF0, f, hgo, hfu⟩ | ⟨hF1, hR1⟩
  · simp only at hF0 hgo hfu
    subst hF0
    have HP := aQ0 (aYu hbx s.size)
    replace hk0 := hk0 rfl
    have HGO := aQ0 hgo
    have hc2 := aVt wr g s _ hbx (by show k ≤ _; omega)
    simp only [decide_true] at ho
    clear hbx hg hgo
    by_cases hlt : s.size ≤ k
    · have hst := dV6 (s := s) (f := f) (p := k) (by omega)
      rw [HGO.out] at hst
      have HST := aQ0 hst
      simp only [decide_eq_true hlt, aZb (x := ⟨k, 0⟩) (s := s) hlt rfl] at hc2
      clear hst
      go_wp2_with (first | (go_at_call 83; refine ho.mono ?_; rintro e w' ⟨rfl, hww⟩; obtain rfl := hww.symm) | (go_at_call 84; refine hc2.mono ?_; rintro e w5 ⟨rfl, hb5, hg5⟩))
      go_ret
      refine ⟨_, k, rfl, by rw [HST.out]; exact hb5, hk, ?_, aQ6 HG.out hg5⟩
      rw [HST.out]; simp
    · obtain ⟨f', rfl⟩ : ∃ f', f = f' + 1 := ⟨f - 1, by omega⟩
      simp only [decide_eq_false hlt, aV9 (x := ⟨k, 0⟩) (s := s) (show k < s.size by omega)] at hc2
      have hkl : k < s.size := by omega
      obtain ⟨c, hcb⟩ := nmE (aQ1 s k)
      have hix : ∀ wx, (Instr.index 9 (.string s) (.int .i64 (k : Int))).run prog wx = .ok (.int .u8 c) wx := fun wx => by rw [aQ8 wx 9 s k (by omega) underlying9, hcb]
      have HC := aQ0 hcb
      clear hcb
      have hw1 : IntKind.i64.wrap ((k : Int) + 1) = (k : Int) + 1 := aXt (by omega) (by omega)
      by_cases h93 : c = 93
      · have hst := cKh (s := s) (f := f') hkl (HC.out.trans h93)
        rw [HGO.out] at hst
        have HST := aQ0 hst
        subst h93
        have hw2 : IntKind.i64.wrap ((k : Int) + 1 - 1) = (k : Int) := by rw [aXt (by omega) (by omega)]; omega
        have hsl : ∀ wx, (Instr.slice 9 (.string s) (some (.int .i64 (p : Int))) (some (.int .i64 (k : Int))) none).run prog wx = .ok (.string (s.extract p k)) wx := fun wx => aKx wx _ s p k _ _ rfl rfl hk0 hk underlying9
        clear hst
        go_wp2_with (first | (go_at_call 83; refine ho.mono ?_; rintro e w' ⟨rfl, hww⟩; obtain rfl := hww.symm) | (go_at_call 84; refine hc2.mono ?_; rintro e w5 ⟨rfl, hb5, hg5⟩; obtain ⟨c0, c1, c2, c3, c4, f1, f2, f3, f4⟩ := aXi hb5; replace hb5 := aQ0 hb5; replace hg5 := aQ0 hg5))
        go_quiet (fail)
        go_wp2_with fail
        go_quiet (fail)
        go_wp2
        go_ret
        refine ⟨_, k + 1, rfl, by rw [HST.out]; exact aZ6 (W := w5.drewN _) hb5.out (k + 1) (by omega), by omega, ?_, aQ6 HG.out (aQ6 hg5.out (aQ6 (aQs w5 _ _) (aQ6 (aX9 _) (aQs _ _ _))))⟩
        rw [HST.out]; simp
      · have e93 : (c == 93) = false := beq_eq_false_iff_ne.2 h93
        by_cases h34 : c = 34
        · have hst := sub_q (s := s) (f := f') hkl (HC.out.trans h34)
          have HST := aQ0 hst
          subst h34
          clear hst h93
          go_wp2_with (first | (go_at_call 83; refine ho.mono ?_; rintro e w' ⟨rfl, hww⟩; obtain rfl := hww.symm) | (go_at_call 84; refine hc2.mono ?_; rintro e w5 ⟨rfl, hb5, hg5⟩; obtain ⟨c0, c1, c2, c3, c4, f1, f2, f3, f4⟩ := aXi hb5; replace hb5 := aQ0 hb5; replace hg5 := aQ0 hg5))
          go_quiet (fail)
          have hcv := cJo ((w5.drewN nq).setCell ⟨g, 1, none⟩ (.int .i64 ((k : Int) + 1))) 34 w5.heap.size (by rw [World.size_setCell]; rfl)
          go_wp2_with fail
          have hbx6 := aZ6 (W := w5.drewN nq) hb5.out (k + 1) (z := (k : Int) + 1) (by omega)
          have hg6 := aQ6 HG.out (aQ6 hg5.out (aQ6 (aQs w5 nq _) (aX9 (j := 1) (.int .i64 ((k : Int) + 1)))))
          have hm := aVk _ g s (strOfNums [34]) (k + 1) [34] rfl (aW1 hbx6 (.cells #[.int .u8 34] 5)) hs (by omega) (by decide) (by simp)
          replace hg6 := aQ6 hg6 (aVi _ (.cells #[.int .u8 34] 5) _)
          refine hm.mono ?_
          rintro e w6 ⟨t, q, rfl, hb6, hq6, hT6, hg7⟩
          have hpp := bQc (s := s) (p := k + 1) (sg := [34]) (by omega)
          have hat := aQ0 (bZ9 (p := k + 1) (q := q) HGO.out hfu (by omega) HST.out (bWj _ _ _) (fun h0 => ⟨(hT6 h0).2, by have := hpp h0; omega⟩))
          have hlt0 : upF s (k + 1) [34] = 0 → k < q := fun h0 => by have h1 := (hT6 h0).2; have := hpp h0; omega
          have hms : Hid (aJl w6 g s.size < aJl wr g s.size) := by
           show aJl w6 g s.size < aJl wr g s.size
           rw [HP.out]
           rcases bWj s (k + 1) [34] with h0 | h0
           · have h1 := hlt0 h0; rw [h0] at hb6; rw [aYu hb6]; omega
           · rw [h0] at hb6; rw [bZc hb6]; omega
          replace hlt0 := aQ0 hlt0
          replace hb6 := aQ0 hb6
          replace hg7 := aQ0 (aQ6 hg6 hg7)
          clear hm hbx6 hg6 hT6 hpp
          go_wp2
          exact ⟨⟨⟨q, _⟩, fun h0 => by have := hlt0.out h0; show p ≤ q; omega, hq6, hat.out, hb6.out, hg7.out⟩, hms.out⟩
        by_cases h39 : c = 39
        · have e34 : (c == 34) = false := beq_eq_false_iff_ne.2 h34
          have hst := sub_a (s := s) (f := f') hkl (HC.out.trans h39)
          have HST := aQ0 hst
          subst h39
          clear hst h93 h34 e34
          go_wp2_with (first | (go_at_call 83; refine ho.mono ?_; rintro e w' ⟨rfl, hww⟩; obtain rfl := hww.symm) | (go_at_call 84; refine hc2.mono ?_; rintro e w5 ⟨rfl, hb5, hg5⟩; obtain ⟨c0, c1, c2, c3, c4, f1, f2, f3, f4⟩ := aXi hb5; replace hb5 := aQ0 hb5; replace hg5 := aQ0 hg5))
          go_quiet (fail)
          have hcv := cJo ((w5.drewN nq).setCell ⟨g, 1, none⟩ (.int .i64 ((k : Int) + 1))) 39 w5.heap.size (by rw [World.size_setCell]; rfl)
          go_wp2_with fail
          have hbx6 := aZ6 (W := w5.drewN nq) hb5.out (k + 1) (z := (k : Int) + 1) (by omega)
          have hg6 := aQ6 HG.out (aQ6 hg5.out (aQ6 (aQs w5 nq _) (aX9 (j := 1) (.int .i64 ((k : Int) + 1)))))
          have hm := aVk _ g s (strOfNums [39]) (k + 1) [39] rfl (aW1 hbx6 (.cells #[.int .u8 39] 5)) hs (by omega) (by decide) (by simp)
          replace hg6 := aQ6 hg6 (aVi _ (.cells #[.int .u8 39] 5) _)
          refine hm.mono ?_
          rintro e w6 ⟨t, q, rfl, hb6, hq6, hT6, hg7⟩
          have hpp := bQc (s := s) (p := k + 1) (sg := [39]) (by omega)
          have hat := aQ0 (bZ9 (p := k + 1) (q := q) HGO.out hfu (by omega) HST.out (bWj _ _ _) (fun h0 => ⟨(hT6 h0).2, by have := hpp h0; omega⟩))
          have hlt0 : upF s (k + 1) [39] = 0 → k < q := fun h0 => by have h1 := (hT6 h0).2; have := hpp h0; omega
          have hms : Hid (aJl w6 g s.size < aJl wr g s.size) := by
           show aJl w6 g s.size < aJl wr g s.size
           rw [HP.out]
           rcases bWj s (k + 1) [39] with h0 | h0
           · have h1 := hlt0 h0; rw [h0] at hb6; rw [aYu hb6]; omega
           · rw [h0] at hb6; rw [bZc hb6]; omega
          replace hlt0 := aQ0 hlt0
          replace hb6 := aQ0 hb6
          replace hg7 := aQ0 (aQ6 hg6 hg7)
          clear hm hbx6 hg6 hT6 hpp
          go_wp2
          exact ⟨⟨⟨q, _⟩, fun h0 => by have := hlt0.out h0; show p ≤ q; omega, hq6, hat.out, hb6.out, hg7.out⟩, hms.out⟩
        have e34 : (c == 34) = false := beq_eq_false_iff_ne.2 h34
        have e39 : (c == 39) = false := beq_eq_false_iff_ne.2 h39
        have n93 : aQ1 s k ≠ 93 := by rw [HC.out]; exact h93
        have n34 : aQ1 s k ≠ 34 := by rw [HC.out]; exact h34
        have n39 : aQ1 s k ≠ 39 := by rw [HC.out]; exact h39
        have hfC := fun wx => aK4 s k ⟨#[60, 33, 45, 45]⟩ wx hs (by decide) hk
        have hfP := fun wx => aK4 s k ⟨#[60, 63]⟩ wx hs (by decide) hk
        simp only [aW3 (s := s) (what := ⟨#[60, 33, 45, 45]⟩) (by simp) k] at hfC
        simp only [aW3 (s := s) (what := ⟨#[60, 63]⟩) (by simp) k] at hfP
        cases hC : aQa s k [60, 33, 45, 45] with
        | true =>
         have hst := sub_c (s := s) (f := f') hkl n93 n34 n39 hC
         have HST := aQ0 hst
         have hroom := aX5 hC hk
         simp only [List.length_cons, List.length_nil] at hroom
         simp only [bQ8 hkl hC] at hfC
         have hw4 : IntKind.i64.wrap ((k : Int) + 4) = (k : Int) + 4 := aXt (by omega) (by omega)
         clear hst h93 h34 h39 n93 n34 n39 hC hfP
         go_wp2_with (first | (go_at_call 83; refine ho.mono ?_; rintro e w' ⟨rfl, hww⟩; obtain rfl := hww.symm) | (go_at_call 84; refine hc2.mono ?_; rintro e w5 ⟨rfl, hb5, hg5⟩; obtain ⟨c0, c1, c2, c3, c4, f1, f2, f3, f4⟩ := aXi hb5; replace hb5 := aQ0 hb5; replace hg5 := aQ0 hg5))
         go_quiet (fail)
         go_wp2_with fail
         replace hb5 := aQ0 (show aQj (w5.drewN nq) g s ⟨k, 0⟩ from hb5.out)
         replace hg5 := aQ0 (aQ6 hg5.out (aQs w5 nq _))
         generalize w5.drewN nq = w7 at hb5 hg5 ⊢
         clear c0 c1 c2 c3 c4 f1 f2 f3 f4
         obtain ⟨c0, c1, c2, c3, c4, f1, f2, f3, f4⟩ := aXi hb5.out
         go_quiet ((go_at_call 33; exact Calls.quiet_of_same (hfC _)))
         go_wp2_with fail
         have hbx6 := aZ6 (W := w7.drewN nq) hb5.out (k + 4) (z := (k : Int) + 4) (by omega)
         have hg6 := aQ6 HG.out (aQ6 hg5.out (aQ6 (aQs w7 nq _) (aX9 (j := 1) (.int .i64 ((k : Int) + 4)))))
         have hm := aVk _ g s ⟨#[45, 45, 62]⟩ (k + 4) [45, 45, 62] rfl hbx6 hs (by omega) (by decide) (by simp)
         refine hm.mono ?_
         rintro e w6 ⟨t, q, rfl, hb6, hq6, hT6, hg7⟩
         have hpp := bQc (s := s) (p := k + 4) (sg := [45, 45, 62]) (by omega)
         have hat := aQ0 (bZ9 (p := k + 1) (q := q) HGO.out hfu (by omega) HST.out (bWj _ _ _) (fun h0 => ⟨(hT6 h0).2, by have := hpp h0; omega⟩))
         have hlt0 : upF s (k + 4) [45, 45, 62] = 0 → k < q := fun h0 => by have h1 := (hT6 h0).2; have := hpp h0; omega
         have hms : Hid (aJl w6 g s.size < aJl wr g s.size) := by
          show aJl w6 g s.size < aJl wr g s.size
          rw [HP.out]
          rcases bWj s (k + 4) [45, 45, 62] with h0 | h0
          · have h1 := hlt0 h0; rw [h0] at hb6; rw [aYu hb6]; omega
          · rw [h0] at hb6; rw [bZc hb6]; omega
         replace hlt0 := aQ0 hlt0
         replace hb6 := aQ0 hb6
         replace hg7 := aQ0 (aQ6 hg6 hg7)
         clear hm hbx6 hg6 hT6 hpp
         go_wp2
         exact ⟨⟨⟨q, _⟩, fun h0 => by have := hlt0.out h0; show p ≤ q; omega, hq6, hat.out, hb6.out, hg7.out⟩, hms.out⟩
        | false =>
         obtain ⟨z, hz⟩ := nmE (fz s k [60, 33, 45, 45])
         have ezC : (z == (k : Int)) = false := beq_eq_false_iff_ne.2 (by rw [← hz]; exact dJh hkl hC)
         simp only [hz] at hfC
         clear hz
         cases hP : aQa s k [60, 63] with
         | true =>
          have hst := sub_p (s := s) (f := f') hkl n93 n34 n39 hC hP
          have HST := aQ0 hst
          have hroom := aX5 hP hk
          simp only [List.length_cons, List.length_nil] at hroom
          simp only [bQ8 hkl hP] at hfP
          have hw4 : IntKind.i64.wrap ((k : Int) + 2) = (k : Int) + 2 := aXt (by omega) (by omega)
          clear hst h93 h34 h39 n93 n34 n39 hC hP
          go_wp2_with (first | (go_at_call 83; refine ho.mono ?_; rintro e w' ⟨rfl, hww⟩; obtain rfl := hww.symm) | (go_at_call 84; refine hc2.mono ?_; rintro e w5 ⟨rfl, hb5, hg5⟩; obtain ⟨c0, c1, c2, c3, c4, f1, f2, f3, f4⟩ := aXi hb5; replace hb5 := aQ0 hb5; replace hg5 := aQ0 hg5))
          go_quiet (fail)
          go_wp2_with fail
          replace hb5 := aQ0 (show aQj (w5.drewN nq) g s ⟨k, 0⟩ from hb5.out)
          replace hg5 := aQ0 (aQ6 hg5.out (aQs w5 nq _))
          generalize w5.drewN nq = w7 at hb5 hg5 ⊢
          clear c0 c1 c2 c3 c4 f1 f2 f3 f4
          obtain ⟨c0, c1, c2, c3, c4, f1, f2, f3, f4⟩ := aXi hb5.out
          go_quiet ((go_at_call 33; exact Calls.quiet_of_same (hfC _)))
          go_wp2_with fail
          replace hb5 := aQ0 (show aQj (w7.drewN nq) g s ⟨k, 0⟩ from hb5.out)
          replace hg5 := aQ0 (aQ6 hg5.out (aQs w7 nq _))
          generalize w7.drewN nq = w8 at hb5 hg5 ⊢
          clear c0 c1 c2 c3 c4 f1 f2 f3 f4
          obtain ⟨c0, c1, c2, c3, c4, f1, f2, f3, f4⟩ := aXi hb5.out
          go_quiet ((go_at_call 33; exact Calls.quiet_of_same (hfP _)))
          go_wp2_with fail
          have hbx6 := aZ6 (W := w8.drewN nq) hb5.out (k + 2) (z := (k : Int) + 2) (by omega)
          have hg6 := aQ6 HG.out (aQ6 hg5.out (aQ6 (aQs w8 nq _) (aX9 (j := 1) (.int .i64 ((k : Int) + 2)))))
          have hm := aVk _ g s ⟨#[63, 62]⟩ (k + 2) [63, 62] rfl hbx6 hs (by omega) (by decide) (by simp)
          refine hm.mono ?_
          rintro e w6 ⟨t, q, rfl, hb6, hq6, hT6, hg7⟩
          have hpp := bQc (s := s) (p := k + 2) (sg := [63, 62]) (by omega)
          have hat := aQ0 (bZ9 (p := k + 1) (q := q) HGO.out hfu (by omega) HST.out (bWj _ _ _) (fun h0 => ⟨(hT6 h0).2, by have := hpp h0; omega⟩))
          have hlt0 : upF s (k + 2) [63, 62] = 0 → k < q := fun h0 => by have h1 := (hT6 h0).2; have := hpp h0; omega
          have hms : Hid (aJl w6 g s.size < aJl wr g s.size) := by
           show aJl w6 g s.size < aJl wr g s.size
           rw [HP.out]
           rcases bWj s (k + 2) [63, 62] with h0 | h0
           · have h1 := hlt0 h0; rw [h0] at hb6; rw [aYu hb6]; omega
           · rw [h0] at hb6; rw [bZc hb6]; omega
          replace hlt0 := aQ0 hlt0
          replace hb6 := aQ0 hb6
          replace hg7 := aQ0 (aQ6 hg6 hg7)
          clear hm hbx6 hg6 hT6 hpp
          go_wp2
          exact ⟨⟨⟨q, _⟩, fun h0 => by have := hlt0.out h0; show p ≤ q; omega, hq6, hat.out, hb6.out, hg7.out⟩, hms.out⟩
         | false =>
          obtain ⟨z2, hz2⟩ : ∃ z, fz s k [60, 63] = z := ⟨_, rfl⟩
          have ezP : (z2 == (k : Int)) = false := beq_eq_false_iff_ne.2 (by rw [← hz2]; exact dJh hkl hP)
          simp only [hz2] at hfP
          have hst := sub_d (s := s) (f := f') hkl n93 n34 n39 hC hP
          rw [HGO.out] at hst
          have HST := aQ0 hst
          clear hz2 hst h93 h34 h39 n93 n34 n39 hC hP
          go_wp2_with (first | (go_at_call 83; refine ho.mono ?_; rintro e w' ⟨rfl, hww⟩; obtain rfl := hww.symm) | (go_at_call 84; refine hc2.mono ?_; rintro e w5 ⟨rfl, hb5, hg5⟩; obtain ⟨c0, c1, c2, c3, c4, f1, f2, f3, f4⟩ := aXi hb5; replace hb5 := aQ0 hb5; replace hg5 := aQ0 hg5))
          go_quiet (fail)
          go_wp2_with fail
          replace hb5 := aQ0 (show aQj (w5.drewN nq) g s ⟨k, 0⟩ from hb5.out)
          replace hg5 := aQ0 (aQ6 hg5.out (aQs w5 nq _))
          generalize w5.drewN nq = w7 at hb5 hg5 ⊢
          clear c0 c1 c2 c3 c4 f1 f2 f3 f4
          obtain ⟨c0, c1, c2, c3, c4, f1, f2, f3, f4⟩ := aXi hb5.out
          go_quiet ((go_at_call 33; exact Calls.quiet_of_same (hfC _)))
          go_wp2_with fail
          replace hb5 := aQ0 (show aQj (w7.drewN nq) g s ⟨k, 0⟩ from hb5.out)
          replace hg5 := aQ0 (aQ6 hg5.out (aQs w7 nq _))
          generalize w7.drewN nq = w8 at hb5 hg5 ⊢
          clear c0 c1 c2 c3 c4 f1 f2 f3 f4
          obtain ⟨c0, c1, c2, c3, c4, f1, f2, f3, f4⟩ := aXi hb5.out
          go_quiet ((go_at_call 33; exact Calls.quiet_of_same (hfP _)))
          go_wp2
          have hbx6 := aZ6 (W := w8.drewN nq) hb5.out (k + 1) (z := (k : Int) + 1) (by omega)
          have hg6 := aQ6 HG.out (aQ6 hg5.out (aQ6 (aQs w8 nq _) (aX9 (j := 1) (.int .i64 ((k : Int) + 1)))))
          exact ⟨⟨⟨k + 1, 0⟩, fun _ => by show p ≤ k + 1; omega, hkl, .inl ⟨rfl, f', HST.out.symm, by show s.size + 1 ≤ k + 1 + f'; omega⟩, hbx6, hg6⟩, by rw [HP.out, aYu hbx6]; omega⟩
  · simp only at hF1
    subst hF1
    simp only [show decide ((1 : Nat) = 0) = false from rfl] at ho
    have HR1 := aQ0 hR1
    clear hbx hg hR1
    go_wp2_with (go_at_call 83; refine ho.mono ?_; rintro e w' ⟨rfl, hww⟩; obtain rfl := hww.symm)
    go_ret
    refine ⟨_, k, rfl, by rw [HR1.out]; exact HBX.out, hk, ?_, HG.out⟩
    rw [HR1.out]; simp
open Go.RowKit Plain10
theorem cJi {W : World} {g : Nat} {s : ByteArray} {x : Sc} (h : aQj W g s x) (hp : x.pos < s.size) (W' : World) (hW : W'.heap = W.heap) :
 Calls prog 84 #[.pointer (some ⟨g, 0, none⟩)] W' fun e w' => e = .returned (.bool false) ∧ ∃ n, w' = W'.drewN n := by
 have h' : aQj W' g s x := by unfold aQj; rw [hW]; exact h
 obtain ⟨c0, c1, c2, c3, c4, f1, f2, f3, f4⟩ := aJz h'
 clear h h' hW
 have hei : ¬ (s.size : Int) ≤ (x.pos : Int) := by omega
 go_enter func84, ntmps84
 go_wp2_with fail
 go_quiet (fail)
 go_wp2
 go_ret
 exact ⟨rfl, nq, rfl⟩
theorem bJ6 {W : World} {g : Nat} {s : ByteArray} {x : Sc} (h : aQj W g s x) (W' : World) (hW : W'.heap = W.heap) :
 Calls prog 83 #[.pointer (some ⟨g, 0, none⟩)] W' fun e w' => e = .returned (.bool (decide (x.fl = 0))) ∧ w' = W' :=
 aVc W' g s x (by unfold aQj; rw [hW]; exact h)
theorem cYw {W : World} {g : Nat} {s : ByteArray} {x : Sc} (h : aQj W g s x) (hp : x.pos ≤ 1048577) (W' : World) (hW : W'.heap = W.heap) :
 Calls prog 84 #[.pointer (some ⟨g, 0, none⟩)] W' fun e w' => e = .returned (.bool (decide (s.size ≤ x.pos))) ∧ aQj w' g s (x.ended s) ∧ W'.grownBy w' (some g) :=
 aVt W' g s x (by unfold aQj; rw [hW]; exact h) hp
open Go.RowKit Plain10
theorem bK4 (w : World) (a : Option Addr) (c : Nat) (l : List (ByteArray × ByteArray)) (n : ByteArray) (h : cZ1 w a l) (hl : l.length ≤ 1048576) :
 Calls prog 93 #[.slice a l.length c, .string n] w fun e w' => e = .returned (.bool (hasZ l n)) ∧ w' = w := by
 have HA := aQ0 h
 clear h
 obtain ⟨R, hR⟩ := nmE (hasZ l n)
 rw [hR]
 have HR := aQ0 hR
 clear hR
 go_enter func93, ntmps93
 go_wp2
 go_loop [5] (fun i => ∃ k : Nat, k ≤ l.length ∧ i = .int .i64 k ∧ bYq l n k = false) (fun i => l.length - (intOf i).toNat)
 case atStart => exact ⟨0, Nat.zero_le _, rfl, rfl⟩
 case round =>
  obtain ⟨k, hk, rfl, hno⟩ := hrel
  have HNO := aQ0 hno
  clear hno
  by_cases hlt : k < l.length
  · have hlti : (k : Int) < (l.length : Int) := by omega
    rcases HA.out with h0 | ⟨g, ha, hcells⟩
    · subst h0; simp at hlt
    · subst ha
      obtain ⟨h1, _⟩ := hcells k hlt
      obtain ⟨m, hm⟩ := nmE ((l[k]'hlt).1)
      rw [hm] at h1
      have HM := aQ0 hm
      clear hcells hm
      cases hst : (m.toList == n.toList) with
      | true =>
       have hRt : R = true := by rw [← HR.out]; apply cVd (k := k + 1); rw [bK5 hlt, HM.out, hst, Bool.or_true]
       subst hRt
       go_wp2
       go_ret
       exact ⟨rfl, rfl⟩
      | false =>
       have hno2 : bYq l n (k + 1) = false := by rw [bK5 hlt, HM.out, hst, HNO.out]; rfl
       have HN2 := aQ0 hno2
       clear hno2
       go_wp2
       go_round
       case rel => exact ⟨k + 1, by omega, by go_num, HN2.out⟩
       case measure => simp [intOf]; omega
  · have hlti : ¬ (k : Int) < (l.length : Int) := by omega
    have hRf : R = false := by
     rw [← HR.out]
     have hkl : k = l.length := by omega
     have h0 := HNO.out
     rw [hkl] at h0
     unfold bYq at h0
     rw [List.take_length] at h0
     exact h0
    subst hRf
    go_wp2
    go_ret
    exact ⟨rfl, rfl⟩
open Go.RowKit Plain10
def bXq (w : World) (O : Out) (e : Ending) (w' : World) : Prop :=
 ∃ v, e = .returned (.agg #[.int .i64 O.tk.kind, .string O.tk.name, .string O.tk.text, v, .int .i64 O.at1, .int .i64 O.code]) ∧ w'.ownsRow w.heap.size 54 2 v O.tk.attrs.length (aQc O.tk.attrs) ∧ Below w.heap.size w w'
def zOut : Obj := .cells #[.int .i64 0, .string ⟨#[]⟩, .string ⟨#[]⟩, .slice none 0 0, .int .i64 0, .int .i64 0] 101
def set6 (W : World) (b : Nat) (v0 v1 v2 v3 v4 v5 : Value) : World :=
 (((((W.setCell ⟨b, 0, none⟩ v0).setCell ⟨b, 1, none⟩ v1).setCell ⟨b, 2, none⟩ v2).setCell ⟨b, 3, none⟩ v3).setCell ⟨b, 4, none⟩ v4).setCell ⟨b, 5, none⟩ v5
theorem dJp {B b : Nat} {a W : World} (h : Below B a W) (hb : B ≤ b) (v0 v1 v2 v3 v4 v5 : Value) : Below B a (set6 W b v0 v1 v2 v3 v4 v5) :=
 (((((h.setCell (p := ⟨b, 0, none⟩) hb _).setCell (p := ⟨b, 1, none⟩) hb _).setCell (p := ⟨b, 2, none⟩) hb _).setCell (p := ⟨b, 3, none⟩) hb _).setCell (p := ⟨b, 4, none⟩) hb _).setCell (p := ⟨b, 5, none⟩) hb _
theorem row6 {W : World} {B b n : Nat} {t : TypeId} {sz : Nat} {v : Value} {cs : List Value} (h : W.ownsRow B t sz v n cs) (hb : b < B) (v0 v1 v2 v3 v4 v5 : Value) : (set6 W b v0 v1 v2 v3 v4 v5).ownsRow B t sz v n cs :=
 row1 (row1 (row1 (row1 (row1 (row1 h hb 0 _) hb 1 _) hb 2 _) hb 3 _) hb 4 _) hb 5 _
theorem cWf {w W : World} {O : Out} {v : Value} {B : Nat} (hb : Below w.heap.size w W) (hr : W.ownsRow B 54 2 v O.tk.attrs.length (aQc O.tk.attrs)) (hB : w.heap.size < B) :
 bXq w O (.returned (.agg #[.int .i64 O.tk.kind, .string O.tk.name, .string O.tk.text, v, .int .i64 O.at1, .int .i64 O.code]))
  (set6 W w.heap.size (.int .i64 O.tk.kind) (.string O.tk.name) (.string O.tk.text) v (.int .i64 O.at1) (.int .i64 O.code)) :=
 ⟨v, rfl, cZn (row6 hr hB _ _ _ _ _ _) (by omega), dJp hb (Nat.le_refl _) _ _ _ _ _ _⟩
theorem bZk {w W : World} (c : Int) (hb : Below w.heap.size w W) :
 bXq w (bQn c) (.returned (.agg #[.int .i64 0, .string ⟨#[]⟩, .string ⟨#[]⟩, .slice none 0 0, .int .i64 0, .int .i64 c]))
  (set6 W w.heap.size (.int .i64 0) (.string ⟨#[]⟩) (.string ⟨#[]⟩) (.slice none 0 0) (.int .i64 0) (.int .i64 c)) :=
 ⟨_, rfl, World.ownsRow_nil _ _ _ _, dJp hb (Nat.le_refl _) _ _ _ _ _ _⟩
theorem cZs {W : World} {b : Nat} {v0 v1 v2 v3 v4 v5 : Value} {t : TypeId} (h : W.heap[b]? = some (.cells #[v0, v1, v2, v3, v4, v5] t)) :
 (W.cell? ⟨b, 0, none⟩ = some v0 ∧ W.cell? ⟨b, 1, none⟩ = some v1 ∧ W.cell? ⟨b, 2, none⟩ = some v2 ∧ W.cell? ⟨b, 3, none⟩ = some v3 ∧ W.cell? ⟨b, 4, none⟩ = some v4 ∧ W.cell? ⟨b, 5, none⟩ = some v5) ∧
 W.frozen? ⟨b, 0, none⟩ = false ∧ W.frozen? ⟨b, 1, none⟩ = false ∧ W.frozen? ⟨b, 2, none⟩ = false ∧ W.frozen? ⟨b, 3, none⟩ = false ∧ W.frozen? ⟨b, 4, none⟩ = false ∧ W.frozen? ⟨b, 5, none⟩ = false := by
 simp [World.cell?, World.frozen?, h]
open Go.RowKit Lists Plain10
structure Ft (w W : World) (g : Nat) (s : ByteArray) (x : Sc) (k : Nat) (kd : Int) (nm : ByteArray) (v : Value) (acc : List (ByteArray × ByteArray)) : Prop where
 fr : Fr w W g s x k kd nm ByteArray.empty v
 row : W.ownsRow (k + 1) 54 2 v acc.length (aQc acc)
variable {w W W' : World} {g : Nat} {s : ByteArray} {x x' : Sc} {k : Nat} {kd : Int} {nm : ByteArray} {v : Value} {acc : List (ByteArray × ByteArray)}
theorem Ft.step (h : Ft w W g s x k kd nm v acc) (hb : aQj W' g s x') (hg : W.grownBy W' (some g)) : Ft w W' g s x' k kd nm v acc :=
 ⟨h.fr.step hb hg, h.row.kept hg (.inr fun e => by have := h.row.lt g e; have := h.fr.ahead; have := h.fr.fr.lt; omega)⟩
theorem Ft.drew (h : Ft w W g s x k kd nm v acc) (n : Nat) : Ft w (W.drewN n) g s x k kd nm v acc := h.step h.fr.fr.sc (aQs W n _)
theorem Ft.bad {p : Nat} (h : Ft w W g s ⟨p, 0⟩ k kd nm v acc) : Ft w (W.setCell ⟨g, 3, none⟩ (.bool true)) g s ⟨p, 2⟩ k kd nm v acc := h.step (aWd h.fr.fr.sc) (aX9 _)
theorem Ft.pos {p f : Nat} (h : Ft w W g s ⟨p, f⟩ k kd nm v acc) {z : Int} (q : Nat) (hz : z = (q : Int)) : Ft w (W.setCell ⟨g, 1, none⟩ (.int .i64 z)) g s ⟨q, f⟩ k kd nm v acc := h.step (aZ6 h.fr.fr.sc q hz) (aX9 _)
theorem Ft.kind (h : Ft w W g s x k kd nm v acc) (z : Int) : Ft w (W.setCell ⟨k, 0, none⟩ (.int .i64 z)) g s x k z nm v acc :=
 ⟨h.fr.kind z, h.row.kept (aX9 (g := k) (j := 0) (.int .i64 z)) (.inr fun e => by have := h.row.lt k e; omega)⟩
theorem Ft.alloc (h : Ft w W g s x k kd nm v acc) (o : Obj) : Ft w (W.alloc o) g s x k kd nm v acc := h.step (aW1 h.fr.fr.sc o) (aVi W o _)
structure Fa (w W : World) (g : Nat) (s : ByteArray) (x : Sc) (k : Nat) (kd : Int) (nm : ByteArray) (v : Value) (acc : List (ByteArray × ByteArray)) (a : Nat) (an av : ByteArray) : Prop where
 ft : Ft w W g s x k kd nm v acc
 box : dQw W a an av
 ahead : k < a
 apart : ∀ b, v.ownBlock = some b → b < a
variable {a : Nat} {an av : ByteArray}
theorem Ft.newA (h : Ft w W g s x k kd nm v acc) (an av : ByteArray) : Fa w (W.alloc (.cells #[.string an, .string av] 54)) g s x k kd nm v acc W.heap.size an av :=
 ⟨h.alloc _, Below.heap_new _ _, bZ7 h.fr.box, fun b hb => (h.row.lt b hb).2⟩
theorem Fa.step (h : Fa w W g s x k kd nm v acc a an av) (hb : aQj W' g s x') (hg : W.grownBy W' (some g)) : Fa w W' g s x' k kd nm v acc a an av := by
 have hl := h.ft.fr.fr.lt
 have ha := h.ft.fr.ahead
 have hk := h.ahead
 refine ⟨h.ft.step hb hg, ?_, h.ahead, h.apart⟩
 unfold dQw
 rw [hg.block a (gLt h.box) (fun e => by have := Option.some.inj e; omega)]; exact h.box
theorem Fa.drew (h : Fa w W g s x k kd nm v acc a an av) (n : Nat) : Fa w (W.drewN n) g s x k kd nm v acc a an av := h.step h.ft.fr.fr.sc (aQs W n _)
theorem Fa.there {p : Nat} (h : Fa w W g s ⟨p, 0⟩ k kd nm v acc a an av) : Fa w ((W.setCell ⟨g, 4, none⟩ (.bool true)).setCell ⟨g, 3, none⟩ (.bool true)) g s ⟨p, 3⟩ k kd nm v acc a an av :=
 h.step (dQi h.ft.fr.fr.sc) (aQ6 (aX9 _) (aX9 _))
theorem Fa.val (h : Fa w W g s x k kd nm v acc a an av) (t : ByteArray) : Fa w (W.setCell ⟨a, 1, none⟩ (.string t)) g s x k kd nm v acc a an t := by
 have hl := h.ft.fr.fr.lt
 have ha := h.ft.fr.ahead
 have hk := h.ahead
 refine ⟨⟨⟨⟨bVx h.ft.fr.fr.sc (by omega) _, ?_, bXm h.ft.fr.fr.grown (by omega) _, hl⟩, ?_, ha⟩, ?_⟩, ?_, hk, h.apart⟩
 · unfold aKr; rw [bZv _ (by omega)]; exact h.ft.fr.fr.res
 · unfold aKr; rw [bZv _ (by omega)]; exact h.ft.fr.box
 · exact h.ft.row.kept (aX9 (g := a) (j := 1) (.string t)) (.inr fun e => by have := h.apart a e; omega)
 · unfold dQw; rw [set5 h.box 1 (.string t)]; rfl
theorem Fa.appended {W3 : World} {v' : Value} (h : Fa w W g s x k kd nm v acc a an av) (o : Obj) (hr : W3.ownsRow (k + 1) 54 2 v' (acc.length + 1) (aQc acc ++ [.string an, .string av])) (hg : (W.alloc o).grownBy W3 v.ownBlock) :
 Ft w (W3.setCell ⟨k, 3, none⟩ v') g s x k kd nm v' (acc ++ [(an, av)]) := by
 have hl := h.ft.fr.fr.lt
 have ha := h.ft.fr.ahead
 have hne : ∀ b, b ≤ k → some b ≠ v.ownBlock := fun b hb e => by have := h.ft.row.lt b e.symm; omega
 have h0 := h.ft.alloc o
 have hsc : aQj W3 g s x := by unfold aQj; rw [hg.block g (dXc h0.fr.fr.sc) (hne g (by omega))]; exact h0.fr.fr.sc
 have hres : aKr W3 w.heap.size 0 ByteArray.empty ByteArray.empty (.slice none 0 0) := by unfold aKr; rw [hg.block _ (bZ7 h0.fr.fr.res) (hne _ (by omega))]; exact h0.fr.fr.res
 have hbox : aKr W3 k kd nm ByteArray.empty v := by unfold aKr; rw [hg.block _ (bZ7 h0.fr.box) (hne _ (by omega))]; exact h0.fr.box
 have hgr : w.grownBy W3 (some g) := ⟨hg.os.trans h0.fr.fr.grown.os, hg.tape.trans h0.fr.fr.grown.tape, hg.output.trans h0.fr.fr.grown.output, Nat.le_trans h0.fr.fr.grown.size hg.size,
  fun i hi hne' => (hg.block i (Nat.lt_of_lt_of_le hi h0.fr.fr.grown.size) (hne i (by omega))).trans (h0.fr.fr.grown.block i hi hne')⟩
 have hF : Fr w W3 g s x k kd nm ByteArray.empty v := ⟨⟨hsc, hres, hgr, hl⟩, hbox, ha⟩
 refine ⟨hF.kset 3 v' rfl, ?_⟩
 have e1 : (acc ++ [(an, av)]).length = acc.length + 1 := by simp
 rw [e1, aVj]
 exact hr.kept (aX9 (g := k) (j := 3) v') (.inr fun e => by have := hr.lt k e; omega)
theorem Ft.tells {p : Nat} (h : Ft w W g s ⟨p, 0⟩ k kd nm v acc) (hp : p ≤ s.size) :
 aVx w g s ⟨0, kd, nm, ByteArray.empty, acc, p⟩ (.returned (.agg #[.int .i64 kd, .string nm, .string ByteArray.empty, v])) ((((W.setCell ⟨w.heap.size, 0, none⟩ (.int .i64 kd)).setCell ⟨w.heap.size, 1, none⟩ (.string nm)).setCell ⟨w.heap.size, 2, none⟩ (.string ByteArray.empty)).setCell ⟨w.heap.size, 3, none⟩ v) := by
 have hF := fin4 h.fr.fr.sc h.fr.fr.grown h.fr.fr.lt (.int .i64 kd) (.string nm) (.string ByteArray.empty) v
 have ha := h.fr.ahead
 have hs : ∀ {W0 : World} (j : Nat) (u : Value), W0.ownsRow (k + 1) 54 2 v acc.length (aQc acc) → (W0.setCell ⟨w.heap.size, j, none⟩ u).ownsRow (k + 1) 54 2 v acc.length (aQc acc) :=
  fun j u h0 => h0.kept (aX9 (g := w.heap.size) (j := j) u) (.inr fun e => by have := h0.lt _ e; omega)
 have hr := hs 3 v (hs 2 (.string ByteArray.empty) (hs 1 (.string nm) (hs 0 (.int .i64 kd) h.row)))
 obtain ⟨ao, an, ac, rfl⟩ : ∃ ao an ac, v = .slice ao an ac := by
  rcases aJw h.row with ⟨rfl, _⟩ | ⟨_, _, rfl⟩
  · exact ⟨_, _, _, rfl⟩
  · exact ⟨_, _, _, rfl⟩
 refine ⟨kd, nm, ByteArray.empty, _, _, _, p, rfl, hF.1, hp, fun _ => ⟨rfl, rfl, rfl, rfl, ?_⟩, hF.2⟩
 rcases hr with ⟨h1, h2⟩
 refine ⟨h1, ?_⟩
 rcases h2 with h2 | ⟨b, cap, cur, h3, h4, h5⟩
 · exact .inl h2
 · exact .inr ⟨b, cap, cur, h3, by omega, h5⟩
def bZx (w : World) (g n : Nat) : Nat := match w.cell? ⟨g, 2, none⟩, w.cell? ⟨g, 3, none⟩ with | some (.bool false), some (.bool false) => n + 1 - cQv w g | _, _ => 0
theorem bWv {p : Nat} (h : aQj W g s ⟨p, 0⟩) (n : Nat) : bZx W g n = n + 1 - p := by
 obtain ⟨_, _, c2, c3, _⟩ := aXi h
 unfold bZx; rw [c2, c3, aYt h]
theorem aYa {p f : Nat} (h : aQj W g s ⟨p, f⟩) (hf : f ≠ 0) (n : Nat) : bZx W g n = 0 := by
 obtain ⟨_, _, c2, c3, _⟩ := aJz h
 unfold bZx; rw [c2, c3]
 rcases bZi f with ⟨h0, _⟩ | ⟨_, _, e1, e2⟩ | ⟨_, _, e1, e2⟩
 · exact absurd h0 hf
 · simp only [e1]
 · simp only [e1, e2]
end Go.Proofs.YtocnfoeaikiecaaGreatDoor
