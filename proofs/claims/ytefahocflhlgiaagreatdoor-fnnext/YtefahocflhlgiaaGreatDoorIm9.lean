/- The program's scanner: text between marks. -/
import Derived.Test.YtefahocflhlgiaaGreatDoorIm8
namespace Go.Proofs.YtefahocflhlgiaaGreatDoor
open Go.RowKit Plain1 Plain2 Strs Strs2 Lists Plain3 Plain5 Plain6 Plain9 Plain10 Plain11 Plain12 Plain13 Plain14

theorem text_cut {s : ByteArray} {p : Nat} (hp : p ≤ s.size) : ∃ b : Bool, (Lib.cut (rest s p) [60]).2.2 = b ∧ (⟨(Lib.cut (rest s p) [60]).1.toArray⟩ : ByteArray) = s.extract p (textE s p) ∧ p ≤ textE s p ∧ textE s p ≤ s.size ∧ (b = false ↔ textE s p = s.size) := by
  by_cases hf : upF s p [60] = 0
  · obtain ⟨e1, e2, e3⟩ := cut_yes hp hf
    have hz : ¬ fz s p [60] = -1 := by unfold upF at hf; intro h; rw [if_pos h] at hf; cases hf
    have hE : textE s p = (fz s p [60]).toNat := by unfold textE; rw [if_neg hz]
    rcases fz_spec s p [60] hp with h0 | ⟨i, h0, h1, h2, _⟩
    · exact absurd h0 hz
    · rw [h0, Int.toNat_natCast] at hE
      simp only [List.length_cons, List.length_nil] at h2
      refine ⟨true, e1, ?_, by omega, by omega, ?_⟩
      · rw [e2]; unfold upT; rw [h0, Int.toNat_natCast, hE]
      · constructor
        · intro h; cases h
        · intro h; omega
  · obtain ⟨e1, e2⟩ := cut_no hf
    have hz : fz s p [60] = -1 := by
      unfold upF at hf
      by_cases h : fz s p [60] = -1
      · exact h
      · rw [if_neg h] at hf; exact absurd rfl hf
    have hE : textE s p = s.size := by unfold textE; rw [if_pos hz]
    rw [e1, hE]
    refine ⟨false, rfl, ?_, hp, Nat.le_refl _, by simp⟩
    have := take_ext (s := s) hp
    rw [← this, List.take_of_length_le (by rw [rest_len]; omega)]

set_option maxHeartbeats 4000000 in
theorem imPlain_any {w : World} {g : Nat} {s : ByteArray} {p : Nat} {m : Int} (closed : Bool) (h : ImBox w g s p) (he : Env w m) (hF : Far g) (hs : s.size ≤ 1048576) (hp : p ≤ s.size) :
    Calls Tryz.prog 49 #[.pointer (some ⟨g, 0, none⟩), .bool closed] w fun e w' => TtSays w g s (textZ s p closed) e w' := by
  have F0 := mkHidI1 (Ir.start h he hF)
  obtain ⟨W0, hW0⟩ : ∃ W0, w.alloc zTok = W0 := ⟨_, rfl⟩
  rw [hW0] at F0
  have HW0 : Hid (w.alloc (.cells #[.int .i64 0, .string ⟨#[]⟩, .string ⟨#[]⟩, .slice none 0 0] 27) = W0) := mkHidI1 hW0
  clear hW0
  have hsl : ∀ wx, (Instr.slice 9 (.string s) (some (.int .i64 (p : Int))) none none).run Tryz.prog wx = .ok (.string (s.extract p s.size)) wx := fun wx => sub_from wx _ s p _ rfl hp Tryz.underlying9
  have hcut := fun n => Tryz.strings_Cut (s.extract p s.size) ⟨#[60]⟩ m (W0.drewN n) (by rw [ext_sz]; omega) F0.out.env.mx
  simp only [ext_rest] at hcut
  obtain ⟨b, hb, hX, hpe, hes, hbe⟩ := text_cut hp
  have hZ : textZ s p closed = if Lib.index (s.extract p (textE s p)).data.toList [93, 93, 62] ≠ -1 then failT 2 else if textE s p = s.size ∧ closed = false then failT 1 else ⟨0, 4, ByteArray.empty, s.extract p (textE s p), [], textE s p⟩ := rfl
  rw [hZ]
  obtain ⟨E, hE⟩ : ∃ E, textE s p = E := ⟨_, rfl⟩
  rw [hE] at hX hpe hes hbe ⊢
  obtain ⟨X, hXd⟩ : ∃ X, s.extract p E = X := ⟨_, rfl⟩
  have hXs : X.size = E - p := by rw [← hXd, ext_size hes]
  rw [hXd] at hX ⊢
  rw [hb, hX] at hcut
  have hct := fun n => Tryz.strings_Contains X ⟨#[93, 93, 62]⟩ m (W0.drewN n) (by omega) F0.out.env.mx
  simp only at hct
  have hw1 : IntKind.i64.wrap ((p : Int) + (X.size : Int)) = (E : Int) := by rw [wrapSm (by omega) (by omega)]; omega
  have hfr := fun wx => fresh_any X wx (by omega)
  obtain ⟨c0, c1, f1⟩ := imcells F0.out.sc
  obtain ⟨B, hB⟩ : ∃ B, Lib.contains X.data.toList [93, 93, 62] = B := ⟨_, rfl⟩
  rw [hB] at hct
  have hBi : Hid (B = false ↔ Lib.index X.data.toList [93, 93, 62] = -1) := by
    refine mkHidI1 ?_
    rw [← hB]
    unfold Lib.contains
    rcases Lib.index_spec X.data.toList [93, 93, 62] with ⟨h1, _⟩ | ⟨i, h1, _⟩
    · rw [h1]; simp
    · rw [h1]; simp
  have HXS := mkHidI1 hXs
  have HBE := mkHidI1 hbe
  clear h he hF hZ hb hX hE hXd hB hXs hbe
  cases hBb : B with
  | true =>
    have hi : ¬ Lib.index X.data.toList [93, 93, 62] = -1 := fun h => by have := hBi.out.2 h; rw [hBb] at this; cases this
    rw [if_pos hi]
    subst hBb
    clear hBi hi
    go_enter Tryz.func49, Tryz.ntmps49
    go_wp2_with fail
    rw [HW0.out]
    go_quiet ((go_at_call 74; exact Calls.quiet_of (hcut _)))
    have F1 := mkHidI1 (F0.out.step (W' := W0.drewN nq) F0.out.sc (im_gdrew _ nq _))
    go_wp2_with fail
    refine (hct nq).mono ?_
    rintro e w1 ⟨rfl, hww⟩
    have F2 := mkHidI1 (hww.symm ▸ F1.out)
    clear hww F0 F1 hct hcut c0 c1 f1
    obtain ⟨r0, r1, r2, r3, s0, s1, s2, s3⟩ := tkcells F2.out.res
    go_wp2
    refine bodyPost_ret (v := .tuple #[.agg #[.int .i64 0, .string ⟨#[]⟩, .string ⟨#[]⟩, .slice none 0 0], errV 2]) (by simp [results, Tryz.results49, go_sem, r0, r1, r2, r3, errV2]) rfl ?_
    exact F2.out.fails (by omega) hp 0 ByteArray.empty ByteArray.empty (.slice none 0 0)
  | false =>
    have hi : Lib.index X.data.toList [93, 93, 62] = -1 := hBi.out.1 hBb
    rw [if_neg (by omega)]
    subst hBb
    clear hBi hi
    by_cases hsh : b = false ∧ closed = false
    · obtain ⟨hb0, hc0⟩ := hsh
      rw [if_pos ⟨HBE.out.1 hb0, hc0⟩]
      subst hb0 hc0
      go_enter Tryz.func49, Tryz.ntmps49
      go_wp2_with fail
      rw [HW0.out]
      go_quiet ((go_at_call 74; exact Calls.quiet_of (hcut _)))
      have F1 := mkHidI1 (F0.out.step (W' := W0.drewN nq) F0.out.sc (im_gdrew _ nq _))
      go_wp2_with fail
      refine (hct nq).mono ?_
      rintro e w1 ⟨rfl, hww⟩
      have F2 := mkHidI1 (hww.symm ▸ F1.out)
      clear hww F0 F1 hct hcut c0 c1 f1
      obtain ⟨r0, r1, r2, r3, s0, s1, s2, s3⟩ := tkcells F2.out.res
      go_wp2
      refine bodyPost_ret (v := .tuple #[.agg #[.int .i64 0, .string ⟨#[]⟩, .string ⟨#[]⟩, .slice none 0 0], errV 1]) (by simp [results, Tryz.results49, go_sem, r0, r1, r2, r3, errV1]) rfl ?_
      exact F2.out.fails (by omega) hp 0 ByteArray.empty ByteArray.empty (.slice none 0 0)
    · rw [if_neg (fun hh => hsh ⟨HBE.out.2 hh.1, hh.2⟩)]
      have hbc : (b = true) ∨ (b = false ∧ closed = true) := by
        cases b <;> cases closed <;> simp at hsh ⊢
      clear hsh HBE
      rcases hbc with rfl | ⟨rfl, rfl⟩
      all_goals
        go_enter Tryz.func49, Tryz.ntmps49
        go_wp2_with fail
        rw [HW0.out]
        go_quiet ((go_at_call 74; exact Calls.quiet_of (hcut _)))
        have F1 := mkHidI1 (F0.out.step (W' := W0.drewN nq) F0.out.sc (im_gdrew _ nq _))
        go_wp2_with fail
        refine (hct nq).mono ?_
        rintro e w1 ⟨rfl, hww⟩
        have F2 := mkHidI1 (hww.symm ▸ F1.out)
        clear hww F0 F1 hct hcut c0 c1 f1
        obtain ⟨c0, c1, f1⟩ := imcells F2.out.sc
        go_wp2_with fail
        refine (hfr _).mono ?_
        rintro e w2 ⟨rfl, hg2⟩
        have F3 := mkHidI1 ((F2.out.step (im_set F2.out.sc E rfl) (im_gset _)).step (im_grown (im_set F2.out.sc E rfl) hg2) (gnone hg2))
        clear hg2 hfr F2 c0 c1 f1
        obtain ⟨r0, r1, r2, r3, s0, s1, s2, s3⟩ := tkcells F3.out.res
        go_wp2
        refine bodyPost_ret (v := .tuple #[.agg #[.int .i64 4, .string ⟨#[]⟩, .string X, .slice none 0 0], errV 0]) (by simp [results, Tryz.results49, go_sem, r0, r1, r2, r3, errV0]) rfl ?_
        exact F3.out.tells hes 4 ByteArray.empty X
end Go.Proofs.YtefahocflhlgiaaGreatDoor
