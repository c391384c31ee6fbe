import Derived.Test.YtdblemolaojebaaGreatDoorImC
set_option maxHeartbeats 4000000
namespace Go.Proofs.YtdblemolaojebaaGreatDoor
open Go.RowKit Strs Strs2 Plain9 Plain10 Plain11 Plain12 Plain13
structure Is [Inhabited Hold] (w W : World) (g : Nat) (s : ByteArray) (p : Nat) (m : Int) : Prop where
 sc : aQi W g s p
 env : Env W m
 grown : w.grownBy W (some g)
 far : Far g
theorem Is.step [Inhabited Hold] {w W W' : World} {g : Nat} {s : ByteArray} {p p' : Nat} {m : Int} (h : Is w W g s p m) (hb : aQi W' g s p') (hg : W.grownBy W' (some g)) : Is w W' g s p' m :=
 ⟨hb, h.env.keep h.far hg, aQ3 h.grown hg, h.far⟩
theorem aJn {s : ByteArray} {k : Nat} (hk : k < s.size) (n : Nat) (c : UInt8) (hc : c.toNat = n) : aQ5 s k [c] = decide (aQ2 s k = (n : Int)) := by
 rw [aXk hk, aKz, Bool.and_true]
 by_cases h : aQ2 s k = (n : Int)
 · rw [decide_eq_true h, (aXb n c hc).1 h]; simp
 · rw [decide_eq_false h]
   exact beq_eq_false_iff_ne.2 fun e => h ((aXb n c hc).2 e.symm)
def imPos (w : World) (g : Nat) : Nat := match w.cell? ⟨g, 1, none⟩ with | some (.int _ n) => n.toNat | _ => 0
theorem aJ2 [Inhabited Hold] {w : World} {g : Nat} {s : ByteArray} {p : Nat} (h : aQi w g s p) : imPos w g = p := by
 obtain ⟨_, c1, _⟩ := aQz h
 unfold imPos; rw [c1]; simp
theorem bVk (s : ByteArray) : ∀ (f p : Nat), (aZa s f p).1 = 0 ∨ (aZa s f p).1 = 1
 | 0, p => .inr rfl
 | f + 1, p => by
  unfold aZa
  split
  · split
    · exact .inl rfl
    · split
      · split
        · exact bVk s f _
        · exact .inr rfl
      · split
        · split
          · exact bVk s f _
          · exact .inr rfl
        · split
          · split
            · exact bVk s f _
            · exact .inr rfl
          · split
            · split
              · exact bVk s f _
              · exact .inr rfl
            · exact bVk s f _
  · exact .inr rfl
theorem imHead_any [Inhabited Hold] {w : World} {g : Nat} {s : ByteArray} {p : Nat} {m : Int} (h : aQi w g s p) (he : Env w m) (hF : Far g) (hs : s.size ≤ 1048576) (hp : p ≤ s.size) :
 Calls Tryz.prog 97 #[.pointer (some ⟨g, 0, none⟩)] w fun e w' => bXv w g s (subF s p) (subT s p) (subP s p) e w' := by
 have hFF : subF s p = (aZa s (s.size + 1) p).1 := rfl
 have hTT : subT s p = s.extract p ((aZa s (s.size + 1) p).2 - 1) := rfl
 have hPP : subP s p = (aZa s (s.size + 1) p).2 := rfl
 rw [hFF, hTT, hPP]
 obtain ⟨R, hR⟩ : ∃ R, aZa s (s.size + 1) p = R := ⟨_, rfl⟩
 rw [hR]
 have HR := aQ1 hR
 have S0 := aQ1 (show Is w w g s p m from ⟨h, he, ⟨rfl, rfl, rfl, Nat.le_refl _, fun _ _ _ => rfl⟩, hF⟩)
 obtain ⟨c0, c1, f1⟩ := aQz h
 clear hFF hTT hPP hR h he hF
 go_enter Tryz.func97, Tryz.ntmps97
 go_wp2
 go_loopw [] (fun wr => ∃ (f k : Nat), p ≤ k ∧ k ≤ s.size ∧ aZa s f k = R ∧ s.size + 1 ≤ k + f ∧ Is w wr g s k m) (fun wr => s.size + 1 - imPos wr g)
 case atStart => exact ⟨s.size + 1, p, Nat.le_refl _, hp, HR.out, by omega, S0.out⟩
 case round =>
  obtain ⟨f, k, hpk, hk, hgo, hfu, hS⟩ := hrel
  have HGO := aQ1 hgo
  have T0 := aQ1 hS
  have HM := aQ1 (aJ2 hS.sc)
  clear c0 c1 f1 S0 hgo hS
  obtain ⟨c0, c1, f1⟩ := aQz T0.out.sc
  by_cases hlt : k < s.size
  · obtain ⟨f', rfl⟩ : ∃ f', f = f' + 1 := ⟨f - 1, by omega⟩
    have hlti : (k : Int) < (s.size : Int) := by omega
    go_wp2_with fail
    go_quiet (fail)
    have T1 := aQ1 (T0.out.step (W' := wr.drewN nq) T0.out.sc (aQb wr nq _))
    generalize wr.drewN nq = w1 at T1 ⊢
    clear T0 c0 c1 f1
    by_cases h93 : aQ2 s k = 93
    · have hRk : R = (0, k + 1) := by rw [← HGO.out]; exact sub_close hlt h93
      subst hRk
      have ht := aQc (sg := ⟨#[93]⟩) T1.out.sc hs hk
      rw [show aQ5 s k (⟨#[93]⟩ : ByteArray).data.toList = true from by rw [aJn hlt 93 93 rfl]; exact decide_eq_true h93, if_pos rfl] at ht
      go_wp2_with fail
      refine ht.mono ?_
      rintro e T2_w ⟨rfl, hbt, hgt⟩
      have T2 := aQ1 (T1.out.step hbt hgt)
      clear ht hbt hgt T1
      obtain ⟨k1, hk1d⟩ : ∃ k1, k + 1 = k1 := ⟨_, rfl⟩
      replace T2 : Hid (Is w T2_w g s k1 m) := by rw [← hk1d]; exact T2
      have HK1 := aQ1 hk1d
      have hw1 : IntKind.i64.wrap ((k1 : Int) - 1) = (k : Int) := by rw [aZ2 (by omega) (by omega)]; omega
      clear hk1d
      obtain ⟨c0, c1, f1⟩ := aQz T2.out.sc
      have hsl : ∀ wx, (Instr.slice 9 (.string s) (some (.int .i64 (p : Int))) (some (.int .i64 (k : Int))) none).run Tryz.prog wx = .ok (.string (s.extract p k)) wx := fun wx => aYd wx _ s p k _ _ rfl rfl hpk hk Tryz.underlying9
      have hfr := fun wx => aVl (s.extract p k) wx (by rw [aX7 hk]; omega)
      go_wp2_with fail
      go_region_held3 (fun W => W.cell? ⟨g, 0, none⟩ = some (.string s) ∧ W.cell? ⟨g, 1, none⟩ = some (.int .i64 (k1 : Int))) (go_keep)
       (first | (go_at_call 94; refine (hfr _).mono ?_; rintro e w' ⟨rfl, hg'⟩; obtain ⟨c0, c1, f1⟩ := aQz (aJd (w := T2_w.drew) T2.out.sc hg')))
      have T3 := aQ1 (T2.out.step (aJd (w := T2_w.drew) T2.out.sc hg') (aQ3 (aQb T2_w 1 _) (bJf (a := T2_w.drew) hg')))
      clear hg' T2
      go_wp2
      go_ret2
      exact ⟨_, k1, rfl, T3.out.sc, by have := HK1.out; omega, fun _ => ⟨by simp, HK1.out.symm⟩, T3.out.grown⟩
    by_cases h34 : aQ2 s k = 34
    · have hk1 : k + 1 ≤ s.size := by omega
      have ht := aQc (sg := ⟨#[93]⟩) T1.out.sc hs hk
      rw [show aQ5 s k (⟨#[93]⟩ : ByteArray).data.toList = false from by rw [aJn hlt 93 93 rfl]; exact decide_eq_false h93, if_neg (by simp)] at ht
      go_wp2_with fail
      refine ht.mono ?_
      rintro e T2_w ⟨rfl, hbt, hgt⟩
      have T2 := aQ1 (T1.out.step hbt hgt)
      clear ht hbt hgt T1
      have ht := aQc (sg := ⟨#[34]⟩) T2.out.sc hs hk
      rw [show aQ5 s k (⟨#[34]⟩ : ByteArray).data.toList = true from by rw [aJn hlt 34 34 rfl]; exact decide_eq_true h34, if_pos rfl] at ht
      go_wp2_with fail
      refine ht.mono ?_
      rintro e T3_w ⟨rfl, hbt, hgt⟩
      have T3 := aQ1 (T2.out.step hbt hgt)
      clear ht hbt hgt T2
      replace T3 : Hid (Is w T3_w g s (k + 1) m) := T3
      have hu := aKr (sg := ⟨#[34]⟩) T3.out.sc T3.out.env.mx hs hk1
      go_wp2_with fail
      refine hu.mono ?_
      rintro e T9_w ⟨t, q, rfl, hbt, hq, hT, hgt⟩
      have T9 := aQ1 (T3.out.step hbt hgt)
      clear hu hbt hgt T3
      by_cases hf : upF s (k + 1) [34] = 0
      · obtain ⟨_, hqe⟩ := hT hf
        have hst := sub_q (f := f') hlt h34
        rw [HGO.out, if_pos hf, ← hqe] at hst
        have HST := aQ1 hst
        have hle := (aYy (s := s) (p := k + 1) (sg := [34]) (by omega) hf)
        rw [← hqe] at hle
        simp only [List.length_cons, List.length_nil] at hle
        simp only [hf, aXq]
        clear hT hqe hst hf
        go_wp2
        go_roundw
        case rel => exact ⟨f', q, by omega, hq, HST.out.symm, by omega, T9.out⟩
        case measure => rw [aJ2 T9.out.sc, HM.out]; omega
      · have hf1 : upF s (k + 1) [34] = 1 := (aYw hf).2
        have hst := sub_q (f := f') hlt h34
        rw [HGO.out, if_neg hf] at hst
        subst hst
        simp only [hf1, aZ1]
        clear hT hf hf1
        go_wp2
        go_ret2
        exact aJu (by simp) T9.out.sc hq T9.out.grown
    by_cases h39 : aQ2 s k = 39
    · have hk1 : k + 1 ≤ s.size := by omega
      have ht := aQc (sg := ⟨#[93]⟩) T1.out.sc hs hk
      rw [show aQ5 s k (⟨#[93]⟩ : ByteArray).data.toList = false from by rw [aJn hlt 93 93 rfl]; exact decide_eq_false h93, if_neg (by simp)] at ht
      go_wp2_with fail
      refine ht.mono ?_
      rintro e T2_w ⟨rfl, hbt, hgt⟩
      have T2 := aQ1 (T1.out.step hbt hgt)
      clear ht hbt hgt T1
      have ht := aQc (sg := ⟨#[34]⟩) T2.out.sc hs hk
      rw [show aQ5 s k (⟨#[34]⟩ : ByteArray).data.toList = false from by rw [aJn hlt 34 34 rfl]; exact decide_eq_false h34, if_neg (by simp)] at ht
      go_wp2_with fail
      refine ht.mono ?_
      rintro e T3_w ⟨rfl, hbt, hgt⟩
      have T3 := aQ1 (T2.out.step hbt hgt)
      clear ht hbt hgt T2
      have ht := aQc (sg := ⟨#[39]⟩) T3.out.sc hs hk
      rw [show aQ5 s k (⟨#[39]⟩ : ByteArray).data.toList = true from by rw [aJn hlt 39 39 rfl]; exact decide_eq_true h39, if_pos rfl] at ht
      go_wp2_with fail
      refine ht.mono ?_
      rintro e T4_w ⟨rfl, hbt, hgt⟩
      have T4 := aQ1 (T3.out.step hbt hgt)
      clear ht hbt hgt T3
      replace T4 : Hid (Is w T4_w g s (k + 1) m) := T4
      have hu := aKr (sg := ⟨#[39]⟩) T4.out.sc T4.out.env.mx hs hk1
      go_wp2_with fail
      refine hu.mono ?_
      rintro e T9_w ⟨t, q, rfl, hbt, hq, hT, hgt⟩
      have T9 := aQ1 (T4.out.step hbt hgt)
      clear hu hbt hgt T4
      by_cases hf : upF s (k + 1) [39] = 0
      · obtain ⟨_, hqe⟩ := hT hf
        have hst := sub_a (f := f') hlt h39
        rw [HGO.out, if_pos hf, ← hqe] at hst
        have HST := aQ1 hst
        have hle := (aYy (s := s) (p := k + 1) (sg := [39]) (by omega) hf)
        rw [← hqe] at hle
        simp only [List.length_cons, List.length_nil] at hle
        simp only [hf, aXq]
        clear hT hqe hst hf
        go_wp2
        go_roundw
        case rel => exact ⟨f', q, by omega, hq, HST.out.symm, by omega, T9.out⟩
        case measure => rw [aJ2 T9.out.sc, HM.out]; omega
      · have hf1 : upF s (k + 1) [39] = 1 := (aYw hf).2
        have hst := sub_a (f := f') hlt h39
        rw [HGO.out, if_neg hf] at hst
        subst hst
        simp only [hf1, aZ1]
        clear hT hf hf1
        go_wp2
        go_ret2
        exact aJu (by simp) T9.out.sc hq T9.out.grown
    by_cases hcm : aQ5 s k [60, 33, 45, 45] = true
    · have hk1 : k + 4 ≤ s.size := by have := aQ9 hcm hk; simpa using this
      have ht := aQc (sg := ⟨#[93]⟩) T1.out.sc hs hk
      rw [show aQ5 s k (⟨#[93]⟩ : ByteArray).data.toList = false from by rw [aJn hlt 93 93 rfl]; exact decide_eq_false h93, if_neg (by simp)] at ht
      go_wp2_with fail
      refine ht.mono ?_
      rintro e T2_w ⟨rfl, hbt, hgt⟩
      have T2 := aQ1 (T1.out.step hbt hgt)
      clear ht hbt hgt T1
      have ht := aQc (sg := ⟨#[34]⟩) T2.out.sc hs hk
      rw [show aQ5 s k (⟨#[34]⟩ : ByteArray).data.toList = false from by rw [aJn hlt 34 34 rfl]; exact decide_eq_false h34, if_neg (by simp)] at ht
      go_wp2_with fail
      refine ht.mono ?_
      rintro e T3_w ⟨rfl, hbt, hgt⟩
      have T3 := aQ1 (T2.out.step hbt hgt)
      clear ht hbt hgt T2
      have ht := aQc (sg := ⟨#[39]⟩) T3.out.sc hs hk
      rw [show aQ5 s k (⟨#[39]⟩ : ByteArray).data.toList = false from by rw [aJn hlt 39 39 rfl]; exact decide_eq_false h39, if_neg (by simp)] at ht
      go_wp2_with fail
      refine ht.mono ?_
      rintro e T4_w ⟨rfl, hbt, hgt⟩
      have T4 := aQ1 (T3.out.step hbt hgt)
      clear ht hbt hgt T3
      have ht := aQc (sg := ⟨#[60, 33, 45, 45]⟩) T4.out.sc hs hk
      rw [show aQ5 s k (⟨#[60, 33, 45, 45]⟩ : ByteArray).data.toList = true from hcm, if_pos rfl] at ht
      go_wp2_with fail
      refine ht.mono ?_
      rintro e T5_w ⟨rfl, hbt, hgt⟩
      have T5 := aQ1 (T4.out.step hbt hgt)
      clear ht hbt hgt T4
      replace T5 : Hid (Is w T5_w g s (k + 4) m) := T5
      have hu := aKr (sg := ⟨#[45, 45, 62]⟩) T5.out.sc T5.out.env.mx hs hk1
      go_wp2_with fail
      refine hu.mono ?_
      rintro e T9_w ⟨t, q, rfl, hbt, hq, hT, hgt⟩
      have T9 := aQ1 (T5.out.step hbt hgt)
      clear hu hbt hgt T5
      by_cases hf : upF s (k + 4) [45, 45, 62] = 0
      · obtain ⟨_, hqe⟩ := hT hf
        have hst := sub_c (f := f') hlt h93 h34 h39 hcm
        rw [HGO.out, if_pos hf, ← hqe] at hst
        have HST := aQ1 hst
        have hle := (aYy (s := s) (p := k + 4) (sg := [45, 45, 62]) (by omega) hf)
        rw [← hqe] at hle
        simp only [List.length_cons, List.length_nil] at hle
        simp only [hf, aXq]
        clear hT hqe hst hf
        go_wp2
        go_roundw
        case rel => exact ⟨f', q, by omega, hq, HST.out.symm, by omega, T9.out⟩
        case measure => rw [aJ2 T9.out.sc, HM.out]; omega
      · have hf1 : upF s (k + 4) [45, 45, 62] = 1 := (aYw hf).2
        have hst := sub_c (f := f') hlt h93 h34 h39 hcm
        rw [HGO.out, if_neg hf] at hst
        subst hst
        simp only [hf1, aZ1]
        clear hT hf hf1
        go_wp2
        go_ret2
        exact aJu (by simp) T9.out.sc hq T9.out.grown
    have hcm' : aQ5 s k [60, 33, 45, 45] = false := by simpa using hcm
    by_cases hpi : aQ5 s k [60, 63] = true
    · have hk1 : k + 2 ≤ s.size := by have := aQ9 hpi hk; simpa using this
      have ht := aQc (sg := ⟨#[93]⟩) T1.out.sc hs hk
      rw [show aQ5 s k (⟨#[93]⟩ : ByteArray).data.toList = false from by rw [aJn hlt 93 93 rfl]; exact decide_eq_false h93, if_neg (by simp)] at ht
      go_wp2_with fail
      refine ht.mono ?_
      rintro e T2_w ⟨rfl, hbt, hgt⟩
      have T2 := aQ1 (T1.out.step hbt hgt)
      clear ht hbt hgt T1
      have ht := aQc (sg := ⟨#[34]⟩) T2.out.sc hs hk
      rw [show aQ5 s k (⟨#[34]⟩ : ByteArray).data.toList = false from by rw [aJn hlt 34 34 rfl]; exact decide_eq_false h34, if_neg (by simp)] at ht
      go_wp2_with fail
      refine ht.mono ?_
      rintro e T3_w ⟨rfl, hbt, hgt⟩
      have T3 := aQ1 (T2.out.step hbt hgt)
      clear ht hbt hgt T2
      have ht := aQc (sg := ⟨#[39]⟩) T3.out.sc hs hk
      rw [show aQ5 s k (⟨#[39]⟩ : ByteArray).data.toList = false from by rw [aJn hlt 39 39 rfl]; exact decide_eq_false h39, if_neg (by simp)] at ht
      go_wp2_with fail
      refine ht.mono ?_
      rintro e T4_w ⟨rfl, hbt, hgt⟩
      have T4 := aQ1 (T3.out.step hbt hgt)
      clear ht hbt hgt T3
      have ht := aQc (sg := ⟨#[60, 33, 45, 45]⟩) T4.out.sc hs hk
      rw [show aQ5 s k (⟨#[60, 33, 45, 45]⟩ : ByteArray).data.toList = false from hcm', if_neg (by simp)] at ht
      go_wp2_with fail
      refine ht.mono ?_
      rintro e T5_w ⟨rfl, hbt, hgt⟩
      have T5 := aQ1 (T4.out.step hbt hgt)
      clear ht hbt hgt T4
      have ht := aQc (sg := ⟨#[60, 63]⟩) T5.out.sc hs hk
      rw [show aQ5 s k (⟨#[60, 63]⟩ : ByteArray).data.toList = true from hpi, if_pos rfl] at ht
      go_wp2_with fail
      refine ht.mono ?_
      rintro e T6_w ⟨rfl, hbt, hgt⟩
      have T6 := aQ1 (T5.out.step hbt hgt)
      clear ht hbt hgt T5
      replace T6 : Hid (Is w T6_w g s (k + 2) m) := T6
      have hu := aKr (sg := ⟨#[63, 62]⟩) T6.out.sc T6.out.env.mx hs hk1
      go_wp2_with fail
      refine hu.mono ?_
      rintro e T9_w ⟨t, q, rfl, hbt, hq, hT, hgt⟩
      have T9 := aQ1 (T6.out.step hbt hgt)
      clear hu hbt hgt T6
      by_cases hf : upF s (k + 2) [63, 62] = 0
      · obtain ⟨_, hqe⟩ := hT hf
        have hst := sub_p (f := f') hlt h93 h34 h39 hcm' hpi
        rw [HGO.out, if_pos hf, ← hqe] at hst
        have HST := aQ1 hst
        have hle := (aYy (s := s) (p := k + 2) (sg := [63, 62]) (by omega) hf)
        rw [← hqe] at hle
        simp only [List.length_cons, List.length_nil] at hle
        simp only [hf, aXq]
        clear hT hqe hst hf
        go_wp2
        go_roundw
        case rel => exact ⟨f', q, by omega, hq, HST.out.symm, by omega, T9.out⟩
        case measure => rw [aJ2 T9.out.sc, HM.out]; omega
      · have hf1 : upF s (k + 2) [63, 62] = 1 := (aYw hf).2
        have hst := sub_p (f := f') hlt h93 h34 h39 hcm' hpi
        rw [HGO.out, if_neg hf] at hst
        subst hst
        simp only [hf1, aZ1]
        clear hT hf hf1
        go_wp2
        go_ret2
        exact aJu (by simp) T9.out.sc hq T9.out.grown
    have hpi' : aQ5 s k [60, 63] = false := by simpa using hpi
    have ht := aQc (sg := ⟨#[93]⟩) T1.out.sc hs hk
    rw [show aQ5 s k (⟨#[93]⟩ : ByteArray).data.toList = false from by rw [aJn hlt 93 93 rfl]; exact decide_eq_false h93, if_neg (by simp)] at ht
    go_wp2_with fail
    refine ht.mono ?_
    rintro e T2_w ⟨rfl, hbt, hgt⟩
    have T2 := aQ1 (T1.out.step hbt hgt)
    clear ht hbt hgt T1
    have ht := aQc (sg := ⟨#[34]⟩) T2.out.sc hs hk
    rw [show aQ5 s k (⟨#[34]⟩ : ByteArray).data.toList = false from by rw [aJn hlt 34 34 rfl]; exact decide_eq_false h34, if_neg (by simp)] at ht
    go_wp2_with fail
    refine ht.mono ?_
    rintro e T3_w ⟨rfl, hbt, hgt⟩
    have T3 := aQ1 (T2.out.step hbt hgt)
    clear ht hbt hgt T2
    have ht := aQc (sg := ⟨#[39]⟩) T3.out.sc hs hk
    rw [show aQ5 s k (⟨#[39]⟩ : ByteArray).data.toList = false from by rw [aJn hlt 39 39 rfl]; exact decide_eq_false h39, if_neg (by simp)] at ht
    go_wp2_with fail
    refine ht.mono ?_
    rintro e T4_w ⟨rfl, hbt, hgt⟩
    have T4 := aQ1 (T3.out.step hbt hgt)
    clear ht hbt hgt T3
    have ht := aQc (sg := ⟨#[60, 33, 45, 45]⟩) T4.out.sc hs hk
    rw [show aQ5 s k (⟨#[60, 33, 45, 45]⟩ : ByteArray).data.toList = false from hcm', if_neg (by simp)] at ht
    go_wp2_with fail
    refine ht.mono ?_
    rintro e T5_w ⟨rfl, hbt, hgt⟩
    have T5 := aQ1 (T4.out.step hbt hgt)
    clear ht hbt hgt T4
    have ht := aQc (sg := ⟨#[60, 63]⟩) T5.out.sc hs hk
    rw [show aQ5 s k (⟨#[60, 63]⟩ : ByteArray).data.toList = false from hpi', if_neg (by simp)] at ht
    go_wp2_with fail
    refine ht.mono ?_
    rintro e T6_w ⟨rfl, hbt, hgt⟩
    have T6 := aQ1 (T5.out.step hbt hgt)
    clear ht hbt hgt T5
    have hst := sub_d (f := f') hlt h93 h34 h39 hcm' hpi'
    rw [HGO.out] at hst
    have HST := aQ1 hst
    have hw1 : IntKind.i64.wrap ((k : Int) + 1) = (k : Int) + 1 := aZ2 (by omega) (by omega)
    obtain ⟨c0, c1, f1⟩ := aQz T6.out.sc
    have T7 := aQ1 (T6.out.step (aW7 (z := (k : Int) + 1) T6.out.sc (k + 1) (by omega)) (aQa _))
    clear hst h93 h34 h39 hcm hpi hcm' hpi'
    go_wp2
    go_roundw
    case rel => exact ⟨f', k + 1, by omega, by omega, HST.out.symm, by omega, T7.out⟩
    case measure => rw [aJ2 T7.out.sc, HM.out]; omega
  · have hR1 : R = (1, k) := by rw [← HGO.out]; exact sub_end hlt
    subst hR1
    have hlti : ¬ (k : Int) < (s.size : Int) := by omega
    go_wp2_with fail
    go_quiet (fail)
    go_wp2
    go_ret2
    exact aJu (by simp) T0.out.sc hk (aQ3 T0.out.grown (aQb wr nq _))
open Go.RowKit Strs Lists Plain9 Plain10 Plain11 Plain12
theorem part_lack {s : ByteArray} {p : Nat} (h : whiteZ s p = p) : aKp s p = if s.size ≤ p then 1 else 2 := by
 unfold aKp aW5
 rw [if_neg (by omega)]
 by_cases he : s.size ≤ p
 · rw [if_pos he, bKh he, if_pos rfl]
 · have hlt : p < s.size := by omega
   rw [if_neg he, aZs hlt]
   have hb : (u8At s p == 32) = false := by
    refine beq_eq_false_iff_ne.2 fun e => ?_
    have h32 : aQ2 s p = 32 := (aXb 32 32 rfl).2 e
    have hw : p < s.size ∧ whiteB (aQ2 s p) = true := ⟨hlt, by rw [h32]; rfl⟩
    have h1 : whiteZ s p = aZk s s.size (p + 1) := by unfold whiteZ; exact aJo hw
    have h2 := (aYb (s := s) s.size (p + 1)).1
    omega
   rw [hb]
   simp
structure Ik [Inhabited Hold] (w W : World) (g : Nat) (s : ByteArray) (p : Nat) (m : Int) (k : Nat) (kd : Int) (nm tx : ByteArray) (v : Value) : Prop where
 ir : Ir w W g s p m
 box : aQt W k kd nm tx v
 ahead : w.heap.size < k
theorem Ir.new [Inhabited Hold] {w W : World} {g : Nat} {s : ByteArray} {p : Nat} {m : Int} (h : Ir w W g s p m) (kd : Int) (nm tx : ByteArray) (v : Value) :
 Ik w (W.alloc (.cells #[.int .i64 kd, .string nm, .string tx, v] 73)) g s p m W.heap.size kd nm tx v :=
 ⟨h.step (aZu h.sc _) (aZg W _ _), tk_new W kd nm tx v, bX4 h.res⟩
theorem Ik.step [Inhabited Hold] {w W W' : World} {g : Nat} {s : ByteArray} {p p' : Nat} {m : Int} {k : Nat} {kd : Int} {nm tx : ByteArray} {v : Value} (h : Ik w W g s p m k kd nm tx v) (hb : aQi W' g s p') (hg : W.grownBy W' (some g)) : Ik w W' g s p' m k kd nm tx v :=
 ⟨h.ir.step hb hg, tk_keep h.box hg (by have := h.ir.lt; have := h.ahead; omega), h.ahead⟩
theorem Env.set {W : World} {m : Int} {k j : Nat} {u : Value} (h : Env W m) (hk : Far k) : Env (W.setCell ⟨k, j, none⟩ u) m := h.keep hk (aQa u)
theorem far_new {w : World} {m : Int} {k : Nat} (he : Env w m) (hk : w.heap.size ≤ k) : Far k := by
 obtain ⟨⟨t, fr, h1⟩, ⟨t', fr', h2⟩⟩ := he.tabs
 have a1 := (gLt h1)
 have a2 := (gLt h2)
 have a3 := aQf he.mx
 have a4 := aQf (he.fo 120 88 (by simp [bZ0]))
 exact ⟨by omega, by omega, by omega, by omega⟩
theorem Ik.text [Inhabited Hold] {w W : World} {g : Nat} {s : ByteArray} {p : Nat} {m : Int} {k : Nat} {kd : Int} {nm tx : ByteArray} {v : Value} (h : Ik w W g s p m k kd nm tx v) (hk : Far k) (t : ByteArray) : Ik w (W.setCell ⟨k, 2, none⟩ (.string t)) g s p m k kd nm t v := by
 have ha := h.ahead
 have hl := h.ir.lt
 refine ⟨⟨aZd h.ir.sc (by omega) _, ?_, h.ir.env.set hk, aJ1 h.ir.grown (by omega) _, hl, h.ir.far⟩, ?_, ha⟩
 · unfold aQt; rw [aJw _ (by omega)]; exact h.ir.res
 · unfold aQt; rw [set5 h.box 2 (.string t)]; rfl
theorem aYr {W : World} {k r i : Nat} {u0 u1 u2 u3 v : Value} (hne : k ≠ r) (h : W.cell? ⟨k, i, none⟩ = some v) :
 ((((W.setCell ⟨r, 0, none⟩ u0).setCell ⟨r, 1, none⟩ u1).setCell ⟨r, 2, none⟩ u2).setCell ⟨r, 3, none⟩ u3).cell? ⟨k, i, none⟩ = some v := by
 have h1 : ∀ {W' : World} {j : Nat} {u : Value}, W'.cell? ⟨k, i, none⟩ = some v → (W'.setCell ⟨r, j, none⟩ u).cell? ⟨k, i, none⟩ = some v := fun {W' j u} h0 => by
  rw [World.cell?_of_block (w := W') (a := ⟨k, i, none⟩) (Below.heap_setCell W' ⟨r, j, none⟩ u k hne)]; exact h0
 exact h1 (h1 (h1 (h1 h)))
theorem bW1 [Inhabited Hold] {w : World} {g : Nat} {s : ByteArray} {p : Nat} {m : Int} (h : aQi w g s p) (he : Env w m) (hF : Far g) (hv0 : VB s 0) (hv : VB s p) (hs : s.size ≤ 1048576) (hp : p ≤ s.size) :
 Calls Tryz.prog 63 #[.pointer (some ⟨g, 0, none⟩)] w fun e w' => aKw w g s (aJm s p) e w' := by
 have F0 := aQ1 (Ir.start h he hF)
 have hc := aZx F0.out.sc F0.out.env F0.out.far hv0 hv hs hp
 obtain ⟨Z, hZ⟩ : ∃ Z, aJm s p = Z := ⟨_, rfl⟩
 rw [hZ]
 have HZ := aQ1 hZ
 have HE := aQ1 he
 clear h he hF hZ
 go_enter Tryz.func63, Tryz.ntmps63
 go_wp2_with fail
 refine hc.mono ?_
 rintro e w1 ⟨t, q1, rfl, hb1, hq1, hT, hg1⟩
 have F1 := aQ1 (F0.out.step hb1 hg1)
 clear hc F0 hb1 hg1
 obtain ⟨r0, r1, r2, r3, s0, s1, s2, s3⟩ := aQ6 F1.out.res
 by_cases hf : pnF s p = 0
 · obtain ⟨ht, hq'⟩ := hT hf
   have hpart : p < whiteZ s p ∧ nmF s (whiteZ s p) = 0 := by
    unfold pnF at hf
    by_cases h0 : aKp s p = 0
    · rw [if_pos h0] at hf
      refine ⟨?_, hf⟩
      by_cases hlt : p < whiteZ s p
      · exact hlt
      · have := aQw s p
        rw [part_lack (by omega)] at h0
        split at h0 <;> cases h0
    · rw [if_neg h0] at hf; exact absurd hf h0
   have hZ1 : Z = (if aQ5 s (whiteZ s q1) [91] = true then
    (if subF s (whiteZ s q1 + 1) ≠ 0 then aQy (subF s (whiteZ s q1 + 1))
     else if aQm s (whiteZ s (subP s (whiteZ s q1 + 1))) [62] = 0 then ⟨0, 8, t, subT s (whiteZ s q1 + 1), [], whiteZ s (subP s (whiteZ s q1 + 1)) + 1⟩ else aQy (aQm s (whiteZ s (subP s (whiteZ s q1 + 1))) [62]))
    else if aQm s (whiteZ s q1) [62] = 0 then ⟨0, 8, t, ByteArray.empty, [], whiteZ s q1 + 1⟩ else aQy (aQm s (whiteZ s q1) [62])) := by
    rw [← HZ.out]; unfold aJm
    rw [if_neg (by omega), if_neg (by omega), ht, hq']
   have HZ1 := aQ1 hZ1
   have F2 := aQ1 (F1.out.new 8 t ByteArray.empty (.slice none 0 0))
   have hwh := aXi F2.out.ir.sc hs hq1
   simp only [hf, aXq]
   clear hT ht hq' hZ1 hf HZ hpart
   go_wp2_with fail
   refine hwh.mono ?_
   rintro e w2 ⟨rfl, hb2, hg2⟩
   have F3 := aQ1 (F2.out.step hb2 hg2)
   have hr := aQq (s := s) hq1
   obtain ⟨r, hrd⟩ : ∃ r, whiteZ s q1 = r := ⟨_, rfl⟩
   rw [hrd] at F3 hr HZ1
   have HFK := aQ1 (far_new (k := w1.heap.size) HE.out (by have := F3.out.ahead; omega))
   generalize w1.heap.size = k at F3 HFK ⊢
   clear hwh F2 F1 hb2 hg2 r0 r1 r2 r3 s0 s1 s2 s3 hrd
   have ht := aQc (sg := ⟨#[91]⟩) F3.out.ir.sc hs hr
   cases hbr : aQ5 s r [91] with
   | true =>
    have hr1 : r + 1 ≤ s.size := by have := aQ9 hbr hr; simpa using this
    rw [show aQ5 s r (⟨#[91]⟩ : ByteArray).data.toList = true from hbr, if_pos rfl] at ht
    have hZ2 := HZ1.out
    rw [hbr, if_pos rfl] at hZ2
    have HZ2 := aQ1 hZ2
    clear hZ2 HZ1 hbr
    go_wp2_with fail
    refine ht.mono ?_
    rintro e w3 ⟨rfl, hb3, hg3⟩
    have F4 : Hid (Ik w w3 g s (r + 1) m k 8 t ByteArray.empty (.slice none 0 0)) := aQ1 (F3.out.step hb3 hg3)
    have hh := imHead_any F4.out.ir.sc F4.out.ir.env F4.out.ir.far hs hr1
    clear ht F3 hb3 hg3
    obtain ⟨u, hud⟩ : ∃ u, r + 1 = u := ⟨_, rfl⟩
    rw [hud] at F4 hh HZ2 hr1
    clear hud
    go_wp2_with fail
    refine hh.mono ?_
    rintro e w4 ⟨x, q4, rfl, hb4, hq4, hT4, hg4⟩
    have F5 := aQ1 (F4.out.step hb4 hg4)
    clear hh F4 hb4 hg4
    obtain ⟨k0, k1, k2, k3, kf0, kf1, kf2, kf3⟩ := aQ6 F5.out.box
    have hah := F5.out.ahead
    have F6 := aQ1 (F5.out.text HFK.out x)
    by_cases hsf : subF s u = 0
    · obtain ⟨hx, hq4'⟩ := hT4 hsf
      have hZ3 := HZ2.out
      rw [hsf, if_neg (by simp), ← hx, ← hq4'] at hZ3
      have HZ3 := aQ1 hZ3
      simp only [hsf, aXq]
      have hwh := aXi F6.out.ir.sc hs hq4
      clear hT4 hx hq4' hZ3 HZ2 hsf F5
      go_wp2_with fail
      refine hwh.mono ?_
      rintro e w5 ⟨rfl, hb5, hg5⟩
      have F7 := aQ1 (F6.out.step hb5 hg5)
      have hr5 := aQq (s := s) hq4
      obtain ⟨y, hyd⟩ : ∃ y, whiteZ s q4 = y := ⟨_, rfl⟩
      rw [hyd] at F7 hr5 HZ3
      clear hwh F6 hb5 hg5 k0 k1 k2 k3 kf0 kf1 kf2 kf3 hyd
      obtain ⟨k0, k1, k2, k3, kf0, kf1, kf2, kf3⟩ := aQ6 F7.out.box
      have hm := fun (W : World) (hW : aQi W g s y) => aZ8 (sg := ⟨#[62]⟩) hW hs hr5
      have hne : k ≠ w.heap.size := by omega
      go_wp2_with fail
      go_region_held3 (fun W => W.cell? ⟨k, 0, none⟩ = some (.int .i64 8) ∧ W.cell? ⟨k, 1, none⟩ = some (.string t) ∧ W.cell? ⟨k, 2, none⟩ = some (.string x) ∧ W.cell? ⟨k, 3, none⟩ = some (.slice none 0 0)) (first | go_keep | exact ⟨aYr hne k0, aYr hne k1, aYr hne k2, aYr hne k3⟩)
       (first | (go_at_call 95; refine (hm w5.drew F7.out.ir.sc).mono ?_; rintro e w6 ⟨rfl, hb6, hg6⟩; have F8 := aQ1 (F7.out.step (W' := w6) hb6 (aQ3 (b := w5.drew) (aQb w5 1 _) hg6)); obtain ⟨k0, k1, k2, k3, _, _, _, _⟩ := aQ6 F8.out.box; obtain ⟨r0, r1, r2, r3, s0, s1, s2, s3⟩ := aQ6 F8.out.ir.res))
      go_wp2
      refine bodyPost_ret (v := .tuple #[.agg #[.int .i64 8, .string t, .string x, .slice none 0 0], errV (aQm s y [62])]) (by simp [results, Tryz.results63, go_sem, r0, r1, r2, r3]) rfl ?_
      rw [HZ3.out]
      exact Ir.must (T := ⟨0, 8, t, x, [], y + 1⟩) F8.out.ir hr5 (fun h0 => by have := aQ9 (aX8.1 h0) hr5; simpa using this) ⟨rfl, rfl⟩
    · have hs1 : subF s u = 1 := by
       rcases bVk s (s.size + 1) u with h0 | h0
       · exact absurd h0 hsf
       · exact h0
      have hZ3 := HZ2.out
      rw [if_pos hsf, hs1] at hZ3
      have HZ3 := aQ1 hZ3
      simp only [hs1, aZ1]
      clear hT4 hZ3 HZ2 hsf hs1 F5
      obtain ⟨r0, r1, r2, r3, s0, s1, s2, s3⟩ := aQ6 F6.out.ir.res
      go_wp2
      refine bodyPost_ret (v := .tuple #[.agg #[.int .i64 0, .string ⟨#[]⟩, .string ⟨#[]⟩, .slice none 0 0], errV 1]) (by simp [results, Tryz.results63, go_sem, r0, r1, r2, r3, aZ1]) rfl ?_
      rw [HZ3.out]
      exact F6.out.ir.fails (by omega) hq4 0 ByteArray.empty ByteArray.empty (.slice none 0 0)
   | false =>
    rw [show aQ5 s r (⟨#[91]⟩ : ByteArray).data.toList = false from hbr, if_neg (by simp)] at ht
    have hZ2 := HZ1.out
    rw [hbr, if_neg (by simp)] at hZ2
    have HZ2 := aQ1 hZ2
    clear hZ2 HZ1 hbr
    go_wp2_with fail
    refine ht.mono ?_
    rintro e w3 ⟨rfl, hb3, hg3⟩
    have F4 := aQ1 (F3.out.step hb3 hg3)
    clear ht F3 hb3 hg3
    have hah := F4.out.ahead
    obtain ⟨k0, k1, k2, k3, kf0, kf1, kf2, kf3⟩ := aQ6 F4.out.box
    have hm := fun (W : World) (hW : aQi W g s r) => aZ8 (sg := ⟨#[62]⟩) hW hs hr
    have hne : k ≠ w.heap.size := by omega
    go_wp2_with fail
    go_region_held3 (fun W => W.cell? ⟨k, 0, none⟩ = some (.int .i64 8) ∧ W.cell? ⟨k, 1, none⟩ = some (.string t) ∧ W.cell? ⟨k, 2, none⟩ = some (.string ByteArray.empty) ∧ W.cell? ⟨k, 3, none⟩ = some (.slice none 0 0)) (first | go_keep | exact ⟨aYr hne k0, aYr hne k1, aYr hne k2, aYr hne k3⟩)
     (first | (go_at_call 95; refine (hm w3.drew F4.out.ir.sc).mono ?_; rintro e w6 ⟨rfl, hb6, hg6⟩; have F8 := aQ1 (F4.out.step (W' := w6) hb6 (aQ3 (b := w3.drew) (aQb w3 1 _) hg6)); obtain ⟨k0, k1, k2, k3, _, _, _, _⟩ := aQ6 F8.out.box; obtain ⟨r0, r1, r2, r3, s0, s1, s2, s3⟩ := aQ6 F8.out.ir.res))
    go_wp2
    refine bodyPost_ret (v := .tuple #[.agg #[.int .i64 8, .string t, .string ByteArray.empty, .slice none 0 0], errV (aQm s r [62])]) (by simp [results, Tryz.results63, go_sem, r0, r1, r2, r3]) rfl ?_
    rw [HZ2.out]
    exact Ir.must (T := ⟨0, 8, t, ByteArray.empty, [], r + 1⟩) F8.out.ir hr (fun h0 => by have := aQ9 (aX8.1 h0) hr; simpa using this) ⟨rfl, rfl⟩
 · have hpn : pnF s p = 1 ∨ pnF s p = 2 := by
    have h1 := aJ8 s p
    have h2 := aWl s (whiteZ s p)
    unfold pnF at hf ⊢
    split
    · rename_i h0; rw [if_pos h0] at hf; omega
    · omega
   have hZ1 : Z = aQy (pnF s p) := by
    rw [← HZ.out]; unfold aJm pnF
    by_cases h0 : whiteZ s p = p
    · rw [if_pos h0, part_lack h0]
      by_cases h1 : s.size ≤ p
      · rw [if_pos h1, if_neg (by omega)]
      · rw [if_neg h1, if_neg (by omega)]
    · have hlt : p < whiteZ s p := by have := aQw s p; omega
      have hp0 : aKp s p = 0 := by unfold aKp; rw [if_pos hlt]
      unfold pnF at hf
      rw [hp0, if_pos rfl] at hf
      rw [if_neg h0, if_pos hf, hp0, if_pos rfl]
   rcases hpn with h0 | h0
   all_goals
    rw [h0] at hZ1
    have HZ1 := aQ1 hZ1
    simp only [h0, aZ1, aZp]
    clear hT hZ1 hf HZ h0
    go_wp2
    refine bodyPost_ret (v := .tuple #[.agg #[.int .i64 0, .string ⟨#[]⟩, .string ⟨#[]⟩, .slice none 0 0], _]) (by simp [results, Tryz.results63, go_sem, r0, r1, r2, r3]; rfl) rfl ?_
    rw [HZ1.out]
    exact F1.out.fails (by omega) hq1 0 ByteArray.empty ByteArray.empty (.slice none 0 0)
end Go.Proofs.YtdblemolaojebaaGreatDoor
