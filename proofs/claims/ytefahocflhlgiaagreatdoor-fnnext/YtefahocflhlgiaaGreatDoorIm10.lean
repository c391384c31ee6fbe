/- The program's scanner: a head's text. -/
import Derived.Test.YtefahocflhlgiaaGreatDoorIm9
namespace Go.Proofs.YtefahocflhlgiaaGreatDoor
open Go.RowKit Plain1 Plain2 Strs Strs2 Lists Plain3 Plain5 Plain6 Plain9 Plain10 Plain11 Plain12 Plain13 Plain14

/-- The scanner and the package's variables, as a call has come to them. -/
structure Is (w W : World) (g : Nat) (s : ByteArray) (p : Nat) (m : Int) : Prop where
  sc : ImBox W g s p
  env : Env W m
  grown : w.grownBy W (some g)
  far : Far g
theorem Is.step {w W W' : World} {g : Nat} {s : ByteArray} {p p' : Nat} {m : Int} (h : Is w W g s p m) (hb : ImBox W' g s p') (hg : W.grownBy W' (some g)) : Is w W' g s p' m :=
  ⟨hb, h.env.keep h.far hg, im_gtrans h.grown hg, h.far⟩
theorem has_one {s : ByteArray} {k : Nat} (hk : k < s.size) (n : Nat) (c : UInt8) (hc : c.toNat = n) : hasAt s k [c] = decide (byteAt s k = (n : Int)) := by
  rw [has_cons hk, has_nil, Bool.and_true]
  by_cases h : byteAt s k = (n : Int)
  · rw [decide_eq_true h, (u8At_is n c hc).1 h]; simp
  · rw [decide_eq_false h]
    exact beq_eq_false_iff_ne.2 fun e => h ((u8At_is n c hc).2 e.symm)
def imPos (w : World) (g : Nat) : Nat := match w.cell? ⟨g, 1, none⟩ with | some (.int _ n) => n.toNat | _ => 0
theorem imPos_of {w : World} {g : Nat} {s : ByteArray} {p : Nat} (h : ImBox w g s p) : imPos w g = p := by
  obtain ⟨_, c1, _⟩ := imcells h
  unfold imPos; rw [c1]; simp
theorem sub_01 (s : ByteArray) : ∀ (f p : Nat), (subGo s f p).1 = 0 ∨ (subGo s f p).1 = 1
  | 0, p => .inr rfl
  | f + 1, p => by
    unfold subGo
    split
    · split
      · exact .inl rfl
      · split
        · split
          · exact sub_01 s f _
          · exact .inr rfl
        · split
          · split
            · exact sub_01 s f _
            · exact .inr rfl
          · split
            · split
              · exact sub_01 s f _
              · exact .inr rfl
            · split
              · split
                · exact sub_01 s f _
                · exact .inr rfl
              · exact sub_01 s f _
    · exact .inr rfl

set_option maxHeartbeats 4000000 in
theorem imHead_any {w : World} {g : Nat} {s : ByteArray} {p : Nat} {m : Int} (h : ImBox w g s p) (he : Env w m) (hF : Far g) (hs : s.size ≤ 1048576) (hp : p ≤ s.size) :
    Calls Tryz.prog 77 #[.pointer (some ⟨g, 0, none⟩)] w fun e w' => StSays w g s (subF s p) (subT s p) (subP s p) e w' := by
  have hFF : subF s p = (subGo s (s.size + 1) p).1 := rfl
  have hTT : subT s p = s.extract p ((subGo s (s.size + 1) p).2 - 1) := rfl
  have hPP : subP s p = (subGo s (s.size + 1) p).2 := rfl
  rw [hFF, hTT, hPP]
  obtain ⟨R, hR⟩ : ∃ R, subGo s (s.size + 1) p = R := ⟨_, rfl⟩
  rw [hR]
  have HR := mkHidI1 hR
  have S0 := mkHidI1 (show Is w w g s p m from ⟨h, he, ⟨rfl, rfl, rfl, Nat.le_refl _, fun _ _ _ => rfl⟩, hF⟩)
  obtain ⟨c0, c1, f1⟩ := imcells h
  clear hFF hTT hPP hR h he hF
  go_enter Tryz.func77, Tryz.ntmps77
  go_wp2
  go_loopw [] (fun wr => ∃ (f k : Nat), p ≤ k ∧ k ≤ s.size ∧ subGo s f k = R ∧ s.size + 1 ≤ k + f ∧ Is w wr g s k m) (fun wr => s.size + 1 - imPos wr g)
  case atStart => exact ⟨s.size + 1, p, Nat.le_refl _, hp, HR.out, by omega, S0.out⟩
  case round =>
    obtain ⟨f, k, hpk, hk, hgo, hfu, hS⟩ := hrel
    have HGO := mkHidI1 hgo
    have T0 := mkHidI1 hS
    have HM := mkHidI1 (imPos_of hS.sc)
    clear c0 c1 f1 S0 hgo hS
    obtain ⟨c0, c1, f1⟩ := imcells T0.out.sc
    by_cases hlt : k < s.size
    · obtain ⟨f', rfl⟩ : ∃ f', f = f' + 1 := ⟨f - 1, by omega⟩
      have hlti : (k : Int) < (s.size : Int) := by omega
      go_wp2_with fail
      go_quiet (fail)
      have T1 := mkHidI1 (T0.out.step (W' := wr.drewN nq) T0.out.sc (im_gdrew wr nq _))
      generalize wr.drewN nq = w1 at T1 ⊢
      clear T0 c0 c1 f1
      by_cases h93 : byteAt s k = 93
      · have hRk : R = (0, k + 1) := by rw [← HGO.out]; exact sub_close hlt h93
        subst hRk
        have ht := take_any (sg := ⟨#[93]⟩) T1.out.sc hs hk
        rw [show hasAt s k (⟨#[93]⟩ : ByteArray).data.toList = true from by rw [has_one hlt 93 93 rfl]; exact decide_eq_true h93, if_pos rfl] at ht
        go_wp2_with fail
        refine ht.mono ?_
        rintro e T2_w ⟨rfl, hbt, hgt⟩
        have T2 := mkHidI1 (T1.out.step hbt hgt)
        clear ht hbt hgt T1
        obtain ⟨k1, hk1d⟩ : ∃ k1, k + 1 = k1 := ⟨_, rfl⟩
        replace T2 : Hid (Is w T2_w g s k1 m) := by rw [← hk1d]; exact T2
        have HK1 := mkHidI1 hk1d
        have hw1 : IntKind.i64.wrap ((k1 : Int) - 1) = (k : Int) := by rw [wrapSm (by omega) (by omega)]; omega
        clear hk1d
        obtain ⟨c0, c1, f1⟩ := imcells T2.out.sc
        have hsl : ∀ wx, (Instr.slice 9 (.string s) (some (.int .i64 (p : Int))) (some (.int .i64 (k : Int))) none).run Tryz.prog wx = .ok (.string (s.extract p k)) wx := fun wx => sub_text wx _ s p k _ _ rfl rfl hpk hk Tryz.underlying9
        have hfr := fun wx => fresh_any (s.extract p k) wx (by rw [ext_size hk]; omega)
        go_wp2_with fail
        go_region_held3 (fun W => W.cell? ⟨g, 0, none⟩ = some (.string s) ∧ W.cell? ⟨g, 1, none⟩ = some (.int .i64 (k1 : Int))) (go_keep)
          (first | (go_at_call 42; refine (hfr _).mono ?_; rintro e w' ⟨rfl, hg'⟩; obtain ⟨c0, c1, f1⟩ := imcells (im_grown (w := T2_w.drew) T2.out.sc hg')))
        have T3 := mkHidI1 (T2.out.step (im_grown (w := T2_w.drew) T2.out.sc hg') (im_gtrans (im_gdrew T2_w 1 _) (gnone (a := T2_w.drew) hg')))
        clear hg' T2
        go_wp2
        go_ret2
        exact ⟨_, k1, rfl, T3.out.sc, by have := HK1.out; omega, fun _ => ⟨by simp, HK1.out.symm⟩, T3.out.grown⟩
      by_cases h34 : byteAt s k = 34
      · have hk1 : k + 1 ≤ s.size := by omega
        have ht := take_any (sg := ⟨#[93]⟩) T1.out.sc hs hk
        rw [show hasAt s k (⟨#[93]⟩ : ByteArray).data.toList = false from by rw [has_one hlt 93 93 rfl]; exact decide_eq_false h93, if_neg (by simp)] at ht
        go_wp2_with fail
        refine ht.mono ?_
        rintro e T2_w ⟨rfl, hbt, hgt⟩
        have T2 := mkHidI1 (T1.out.step hbt hgt)
        clear ht hbt hgt T1
        have ht := take_any (sg := ⟨#[34]⟩) T2.out.sc hs hk
        rw [show hasAt s k (⟨#[34]⟩ : ByteArray).data.toList = true from by rw [has_one hlt 34 34 rfl]; exact decide_eq_true h34, if_pos rfl] at ht
        go_wp2_with fail
        refine ht.mono ?_
        rintro e T3_w ⟨rfl, hbt, hgt⟩
        have T3 := mkHidI1 (T2.out.step hbt hgt)
        clear ht hbt hgt T2
        replace T3 : Hid (Is w T3_w g s (k + 1) m) := T3
        have hu := upTo_any (sg := ⟨#[34]⟩) T3.out.sc T3.out.env.mx hs hk1
        go_wp2_with fail
        refine hu.mono ?_
        rintro e T9_w ⟨t, q, rfl, hbt, hq, hT, hgt⟩
        have T9 := mkHidI1 (T3.out.step hbt hgt)
        clear hu hbt hgt T3
        by_cases hf : upF s (k + 1) [34] = 0
        · obtain ⟨_, hqe⟩ := hT hf
          have hst := sub_q (f := f') hlt h34
          rw [HGO.out, if_pos hf, ← hqe] at hst
          have HST := mkHidI1 hst
          have hle := (up_le (s := s) (p := k + 1) (sg := [34]) (by omega) hf)
          rw [← hqe] at hle
          simp only [List.length_cons, List.length_nil] at hle
          simp only [hf, errV0]
          clear hT hqe hst hf
          go_wp2
          go_roundw
          case rel => exact ⟨f', q, by omega, hq, HST.out.symm, by omega, T9.out⟩
          case measure => rw [imPos_of T9.out.sc, HM.out]; omega
        · have hf1 : upF s (k + 1) [34] = 1 := (cut_no hf).2
          have hst := sub_q (f := f') hlt h34
          rw [HGO.out, if_neg hf] at hst
          subst hst
          simp only [hf1, errV1]
          clear hT hf hf1
          go_wp2
          go_ret2
          exact st_fail (by simp) T9.out.sc hq T9.out.grown
      by_cases h39 : byteAt s k = 39
      · have hk1 : k + 1 ≤ s.size := by omega
        have ht := take_any (sg := ⟨#[93]⟩) T1.out.sc hs hk
        rw [show hasAt s k (⟨#[93]⟩ : ByteArray).data.toList = false from by rw [has_one hlt 93 93 rfl]; exact decide_eq_false h93, if_neg (by simp)] at ht
        go_wp2_with fail
        refine ht.mono ?_
        rintro e T2_w ⟨rfl, hbt, hgt⟩
        have T2 := mkHidI1 (T1.out.step hbt hgt)
        clear ht hbt hgt T1
        have ht := take_any (sg := ⟨#[34]⟩) T2.out.sc hs hk
        rw [show hasAt s k (⟨#[34]⟩ : ByteArray).data.toList = false from by rw [has_one hlt 34 34 rfl]; exact decide_eq_false h34, if_neg (by simp)] at ht
        go_wp2_with fail
        refine ht.mono ?_
        rintro e T3_w ⟨rfl, hbt, hgt⟩
        have T3 := mkHidI1 (T2.out.step hbt hgt)
        clear ht hbt hgt T2
        have ht := take_any (sg := ⟨#[39]⟩) T3.out.sc hs hk
        rw [show hasAt s k (⟨#[39]⟩ : ByteArray).data.toList = true from by rw [has_one hlt 39 39 rfl]; exact decide_eq_true h39, if_pos rfl] at ht
        go_wp2_with fail
        refine ht.mono ?_
        rintro e T4_w ⟨rfl, hbt, hgt⟩
        have T4 := mkHidI1 (T3.out.step hbt hgt)
        clear ht hbt hgt T3
        replace T4 : Hid (Is w T4_w g s (k + 1) m) := T4
        have hu := upTo_any (sg := ⟨#[39]⟩) T4.out.sc T4.out.env.mx hs hk1
        go_wp2_with fail
        refine hu.mono ?_
        rintro e T9_w ⟨t, q, rfl, hbt, hq, hT, hgt⟩
        have T9 := mkHidI1 (T4.out.step hbt hgt)
        clear hu hbt hgt T4
        by_cases hf : upF s (k + 1) [39] = 0
        · obtain ⟨_, hqe⟩ := hT hf
          have hst := sub_a (f := f') hlt h39
          rw [HGO.out, if_pos hf, ← hqe] at hst
          have HST := mkHidI1 hst
          have hle := (up_le (s := s) (p := k + 1) (sg := [39]) (by omega) hf)
          rw [← hqe] at hle
          simp only [List.length_cons, List.length_nil] at hle
          simp only [hf, errV0]
          clear hT hqe hst hf
          go_wp2
          go_roundw
          case rel => exact ⟨f', q, by omega, hq, HST.out.symm, by omega, T9.out⟩
          case measure => rw [imPos_of T9.out.sc, HM.out]; omega
        · have hf1 : upF s (k + 1) [39] = 1 := (cut_no hf).2
          have hst := sub_a (f := f') hlt h39
          rw [HGO.out, if_neg hf] at hst
          subst hst
          simp only [hf1, errV1]
          clear hT hf hf1
          go_wp2
          go_ret2
          exact st_fail (by simp) T9.out.sc hq T9.out.grown
      by_cases hcm : hasAt s k [60, 33, 45, 45] = true
      · have hk1 : k + 4 ≤ s.size := by have := has_room hcm hk; simpa using this
        have ht := take_any (sg := ⟨#[93]⟩) T1.out.sc hs hk
        rw [show hasAt s k (⟨#[93]⟩ : ByteArray).data.toList = false from by rw [has_one hlt 93 93 rfl]; exact decide_eq_false h93, if_neg (by simp)] at ht
        go_wp2_with fail
        refine ht.mono ?_
        rintro e T2_w ⟨rfl, hbt, hgt⟩
        have T2 := mkHidI1 (T1.out.step hbt hgt)
        clear ht hbt hgt T1
        have ht := take_any (sg := ⟨#[34]⟩) T2.out.sc hs hk
        rw [show hasAt s k (⟨#[34]⟩ : ByteArray).data.toList = false from by rw [has_one hlt 34 34 rfl]; exact decide_eq_false h34, if_neg (by simp)] at ht
        go_wp2_with fail
        refine ht.mono ?_
        rintro e T3_w ⟨rfl, hbt, hgt⟩
        have T3 := mkHidI1 (T2.out.step hbt hgt)
        clear ht hbt hgt T2
        have ht := take_any (sg := ⟨#[39]⟩) T3.out.sc hs hk
        rw [show hasAt s k (⟨#[39]⟩ : ByteArray).data.toList = false from by rw [has_one hlt 39 39 rfl]; exact decide_eq_false h39, if_neg (by simp)] at ht
        go_wp2_with fail
        refine ht.mono ?_
        rintro e T4_w ⟨rfl, hbt, hgt⟩
        have T4 := mkHidI1 (T3.out.step hbt hgt)
        clear ht hbt hgt T3
        have ht := take_any (sg := ⟨#[60, 33, 45, 45]⟩) T4.out.sc hs hk
        rw [show hasAt s k (⟨#[60, 33, 45, 45]⟩ : ByteArray).data.toList = true from hcm, if_pos rfl] at ht
        go_wp2_with fail
        refine ht.mono ?_
        rintro e T5_w ⟨rfl, hbt, hgt⟩
        have T5 := mkHidI1 (T4.out.step hbt hgt)
        clear ht hbt hgt T4
        replace T5 : Hid (Is w T5_w g s (k + 4) m) := T5
        have hu := upTo_any (sg := ⟨#[45, 45, 62]⟩) T5.out.sc T5.out.env.mx hs hk1
        go_wp2_with fail
        refine hu.mono ?_
        rintro e T9_w ⟨t, q, rfl, hbt, hq, hT, hgt⟩
        have T9 := mkHidI1 (T5.out.step hbt hgt)
        clear hu hbt hgt T5
        by_cases hf : upF s (k + 4) [45, 45, 62] = 0
        · obtain ⟨_, hqe⟩ := hT hf
          have hst := sub_c (f := f') hlt h93 h34 h39 hcm
          rw [HGO.out, if_pos hf, ← hqe] at hst
          have HST := mkHidI1 hst
          have hle := (up_le (s := s) (p := k + 4) (sg := [45, 45, 62]) (by omega) hf)
          rw [← hqe] at hle
          simp only [List.length_cons, List.length_nil] at hle
          simp only [hf, errV0]
          clear hT hqe hst hf
          go_wp2
          go_roundw
          case rel => exact ⟨f', q, by omega, hq, HST.out.symm, by omega, T9.out⟩
          case measure => rw [imPos_of T9.out.sc, HM.out]; omega
        · have hf1 : upF s (k + 4) [45, 45, 62] = 1 := (cut_no hf).2
          have hst := sub_c (f := f') hlt h93 h34 h39 hcm
          rw [HGO.out, if_neg hf] at hst
          subst hst
          simp only [hf1, errV1]
          clear hT hf hf1
          go_wp2
          go_ret2
          exact st_fail (by simp) T9.out.sc hq T9.out.grown
      have hcm' : hasAt s k [60, 33, 45, 45] = false := by simpa using hcm
      by_cases hpi : hasAt s k [60, 63] = true
      · have hk1 : k + 2 ≤ s.size := by have := has_room hpi hk; simpa using this
        have ht := take_any (sg := ⟨#[93]⟩) T1.out.sc hs hk
        rw [show hasAt s k (⟨#[93]⟩ : ByteArray).data.toList = false from by rw [has_one hlt 93 93 rfl]; exact decide_eq_false h93, if_neg (by simp)] at ht
        go_wp2_with fail
        refine ht.mono ?_
        rintro e T2_w ⟨rfl, hbt, hgt⟩
        have T2 := mkHidI1 (T1.out.step hbt hgt)
        clear ht hbt hgt T1
        have ht := take_any (sg := ⟨#[34]⟩) T2.out.sc hs hk
        rw [show hasAt s k (⟨#[34]⟩ : ByteArray).data.toList = false from by rw [has_one hlt 34 34 rfl]; exact decide_eq_false h34, if_neg (by simp)] at ht
        go_wp2_with fail
        refine ht.mono ?_
        rintro e T3_w ⟨rfl, hbt, hgt⟩
        have T3 := mkHidI1 (T2.out.step hbt hgt)
        clear ht hbt hgt T2
        have ht := take_any (sg := ⟨#[39]⟩) T3.out.sc hs hk
        rw [show hasAt s k (⟨#[39]⟩ : ByteArray).data.toList = false from by rw [has_one hlt 39 39 rfl]; exact decide_eq_false h39, if_neg (by simp)] at ht
        go_wp2_with fail
        refine ht.mono ?_
        rintro e T4_w ⟨rfl, hbt, hgt⟩
        have T4 := mkHidI1 (T3.out.step hbt hgt)
        clear ht hbt hgt T3
        have ht := take_any (sg := ⟨#[60, 33, 45, 45]⟩) T4.out.sc hs hk
        rw [show hasAt s k (⟨#[60, 33, 45, 45]⟩ : ByteArray).data.toList = false from hcm', if_neg (by simp)] at ht
        go_wp2_with fail
        refine ht.mono ?_
        rintro e T5_w ⟨rfl, hbt, hgt⟩
        have T5 := mkHidI1 (T4.out.step hbt hgt)
        clear ht hbt hgt T4
        have ht := take_any (sg := ⟨#[60, 63]⟩) T5.out.sc hs hk
        rw [show hasAt s k (⟨#[60, 63]⟩ : ByteArray).data.toList = true from hpi, if_pos rfl] at ht
        go_wp2_with fail
        refine ht.mono ?_
        rintro e T6_w ⟨rfl, hbt, hgt⟩
        have T6 := mkHidI1 (T5.out.step hbt hgt)
        clear ht hbt hgt T5
        replace T6 : Hid (Is w T6_w g s (k + 2) m) := T6
        have hu := upTo_any (sg := ⟨#[63, 62]⟩) T6.out.sc T6.out.env.mx hs hk1
        go_wp2_with fail
        refine hu.mono ?_
        rintro e T9_w ⟨t, q, rfl, hbt, hq, hT, hgt⟩
        have T9 := mkHidI1 (T6.out.step hbt hgt)
        clear hu hbt hgt T6
        by_cases hf : upF s (k + 2) [63, 62] = 0
        · obtain ⟨_, hqe⟩ := hT hf
          have hst := sub_p (f := f') hlt h93 h34 h39 hcm' hpi
          rw [HGO.out, if_pos hf, ← hqe] at hst
          have HST := mkHidI1 hst
          have hle := (up_le (s := s) (p := k + 2) (sg := [63, 62]) (by omega) hf)
          rw [← hqe] at hle
          simp only [List.length_cons, List.length_nil] at hle
          simp only [hf, errV0]
          clear hT hqe hst hf
          go_wp2
          go_roundw
          case rel => exact ⟨f', q, by omega, hq, HST.out.symm, by omega, T9.out⟩
          case measure => rw [imPos_of T9.out.sc, HM.out]; omega
        · have hf1 : upF s (k + 2) [63, 62] = 1 := (cut_no hf).2
          have hst := sub_p (f := f') hlt h93 h34 h39 hcm' hpi
          rw [HGO.out, if_neg hf] at hst
          subst hst
          simp only [hf1, errV1]
          clear hT hf hf1
          go_wp2
          go_ret2
          exact st_fail (by simp) T9.out.sc hq T9.out.grown
      have hpi' : hasAt s k [60, 63] = false := by simpa using hpi
      have ht := take_any (sg := ⟨#[93]⟩) T1.out.sc hs hk
      rw [show hasAt s k (⟨#[93]⟩ : ByteArray).data.toList = false from by rw [has_one hlt 93 93 rfl]; exact decide_eq_false h93, if_neg (by simp)] at ht
      go_wp2_with fail
      refine ht.mono ?_
      rintro e T2_w ⟨rfl, hbt, hgt⟩
      have T2 := mkHidI1 (T1.out.step hbt hgt)
      clear ht hbt hgt T1
      have ht := take_any (sg := ⟨#[34]⟩) T2.out.sc hs hk
      rw [show hasAt s k (⟨#[34]⟩ : ByteArray).data.toList = false from by rw [has_one hlt 34 34 rfl]; exact decide_eq_false h34, if_neg (by simp)] at ht
      go_wp2_with fail
      refine ht.mono ?_
      rintro e T3_w ⟨rfl, hbt, hgt⟩
      have T3 := mkHidI1 (T2.out.step hbt hgt)
      clear ht hbt hgt T2
      have ht := take_any (sg := ⟨#[39]⟩) T3.out.sc hs hk
      rw [show hasAt s k (⟨#[39]⟩ : ByteArray).data.toList = false from by rw [has_one hlt 39 39 rfl]; exact decide_eq_false h39, if_neg (by simp)] at ht
      go_wp2_with fail
      refine ht.mono ?_
      rintro e T4_w ⟨rfl, hbt, hgt⟩
      have T4 := mkHidI1 (T3.out.step hbt hgt)
      clear ht hbt hgt T3
      have ht := take_any (sg := ⟨#[60, 33, 45, 45]⟩) T4.out.sc hs hk
      rw [show hasAt s k (⟨#[60, 33, 45, 45]⟩ : ByteArray).data.toList = false from hcm', if_neg (by simp)] at ht
      go_wp2_with fail
      refine ht.mono ?_
      rintro e T5_w ⟨rfl, hbt, hgt⟩
      have T5 := mkHidI1 (T4.out.step hbt hgt)
      clear ht hbt hgt T4
      have ht := take_any (sg := ⟨#[60, 63]⟩) T5.out.sc hs hk
      rw [show hasAt s k (⟨#[60, 63]⟩ : ByteArray).data.toList = false from hpi', if_neg (by simp)] at ht
      go_wp2_with fail
      refine ht.mono ?_
      rintro e T6_w ⟨rfl, hbt, hgt⟩
      have T6 := mkHidI1 (T5.out.step hbt hgt)
      clear ht hbt hgt T5
      have hst := sub_d (f := f') hlt h93 h34 h39 hcm' hpi'
      rw [HGO.out] at hst
      have HST := mkHidI1 hst
      have hw1 : IntKind.i64.wrap ((k : Int) + 1) = (k : Int) + 1 := wrapSm (by omega) (by omega)
      obtain ⟨c0, c1, f1⟩ := imcells T6.out.sc
      have T7 := mkHidI1 (T6.out.step (im_set (z := (k : Int) + 1) T6.out.sc (k + 1) (by omega)) (im_gset _))
      clear hst h93 h34 h39 hcm hpi hcm' hpi'
      go_wp2
      go_roundw
      case rel => exact ⟨f', k + 1, by omega, by omega, HST.out.symm, by omega, T7.out⟩
      case measure => rw [imPos_of T7.out.sc, HM.out]; omega
    · have hR1 : R = (1, k) := by rw [← HGO.out]; exact sub_end hlt
      subst hR1
      have hlti : ¬ (k : Int) < (s.size : Int) := by omega
      go_wp2_with fail
      go_quiet (fail)
      go_wp2
      go_ret2
      exact st_fail (by simp) T0.out.sc hk (im_gtrans T0.out.grown (im_gdrew wr nq _))
end Go.Proofs.YtefahocflhlgiaaGreatDoor
