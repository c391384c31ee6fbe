/- The program's scanner: a value; a name behind white. -/
import Derived.Test.YtefahocflhlgiaaGreatDoorIm6
namespace Go.Proofs.YtefahocflhlgiaaGreatDoor
open Go.RowKit Plain1 Plain2 Strs Strs2 Lists Plain3 Plain5 Plain6 Plain9 Plain10 Plain11 Plain12 Plain13 Plain14

theorem st_fail {w w' : World} {g : Nat} {s : ByteArray} {f : Nat} {t : ByteArray} {q p : Nat} {t' : ByteArray} (hf : f ≠ 0) (hb : ImBox w' g s p) (hp : p ≤ s.size) (hg : w.grownBy w' (some g)) : StSays w g s f t q (.returned (.tuple #[.string t', errV f])) w' :=
  ⟨t', p, rfl, hb, hp, fun h => absurd h hf, hg⟩

set_option maxHeartbeats 4000000 in
theorem imValue_any {w : World} {g : Nat} {s : ByteArray} {p : Nat} (h : ImBox w g s p) (hs : s.size ≤ 1048576) (hp : p ≤ s.size) :
    Calls Tryz.prog 80 #[.pointer (some ⟨g, 0, none⟩), .int .u8 60] w fun e w' => StSays w g s (valF s p) (valT s p) (valP s p) e w' := by
  have HB := mkHidI1 h
  obtain ⟨c0, c1, f1⟩ := imcells h
  clear h
  by_cases he : s.size ≤ p
  · have hF : valF s p = 1 := by unfold valF; rw [if_pos he]
    have hpe : p = s.size := by omega
    rw [hF]
    generalize valT s p = T
    generalize valP s p = Q
    subst hpe
    clear hF he
    go_enter Tryz.func80, Tryz.ntmps80
    go_wp2_with fail
    go_quiet (fail)
    go_wp2
    go_ret2
    exact st_fail (by omega) HB.out (Nat.le_refl _) (im_gdrew w nq _)
  have hlt : p < s.size := by omega
  have hne : ¬ (p : Int) = (s.size : Int) := by omega
  obtain ⟨c, hc⟩ : ∃ c, byteAt s p = c := ⟨_, rfl⟩
  have hix : ∀ wx, (Instr.index 9 (.string s) (.int .i64 (p : Int))).run Tryz.prog wx = .ok (.int .u8 c) wx := fun wx => by rw [run_index_byte wx 9 s p (by omega) Tryz.underlying9, hc]
  by_cases hq : quoteB c = true
  · have hF : valF s p = (valGo s c (s.size + 1) (p + 1)).1 := by unfold valF; rw [if_neg he, hc, if_pos hq]
    have hTT : valT s p = s.extract (p + 1) (valGo s c (s.size + 1) (p + 1)).2 := by unfold valT valE; rw [hc]
    have hPP : valP s p = (valGo s c (s.size + 1) (p + 1)).2 + 1 := by unfold valP valE; rw [hc]
    rw [hF, hTT, hPP]
    obtain ⟨R, hR⟩ : ∃ R, valGo s c (s.size + 1) (p + 1) = R := ⟨_, rfl⟩
    rw [hR]
    have HR := mkHidI1 hR
    clear hF hTT hPP hR hc
    have hq' := of_decide_eq_true hq
    have hw1 : IntKind.i64.wrap ((p : Int) + 1) = ((p + 1 : Nat) : Int) := by rw [wrapSm (by omega) (by omega)]; omega
    have hqq : (c = 34 ∧ ¬ c = 39) ∨ (¬ c = 34 ∧ c = 39) := by omega
    clear hq hq'
    go_enter Tryz.func80, Tryz.ntmps80
    go_wp2_with fail
    go_quiet (fail)
    have HB1 : Hid (ImBox (w.drewN nq) g s p) := HB
    have HG1 := mkHidI1 (im_gdrew w nq (some g))
    generalize w.drewN nq = w1 at HB1 HG1 ⊢
    clear c0 c1 f1
    obtain ⟨c0, c1, f1⟩ := imcells HB1.out
    go_wp2_with fail
    go_quiet (fail)
    have HB2 : Hid (ImBox (w1.drewN nq) g s p) := HB1
    have HG2 := mkHidI1 (im_gtrans HG1.out (im_gdrew w1 nq (some g)))
    generalize w1.drewN nq = w2 at HB2 HG2 ⊢
    clear c0 c1 f1 HB1 HG1 hix
    obtain ⟨c0, c1, f1⟩ := imcells HB2.out
    have hgo : Hid (∃ f k : Nat, (p + 1 : Nat) = k ∧ p + 1 ≤ k ∧ k ≤ s.size ∧ valGo s c f k = R ∧ s.size + 1 ≤ k + f) := mkHidI1 ⟨s.size + 1, p + 1, rfl, Nat.le_refl _, by omega, HR.out, by omega⟩
    rcases hqq with ⟨hq1, hq2⟩ | ⟨hq1, hq2⟩
    all_goals
      go_wp2
      go_loop [7] (fun i => ∃ f k : Nat, i = .int .i64 k ∧ p + 1 ≤ k ∧ k ≤ s.size ∧ valGo s c f k = R ∧ s.size + 1 ≤ k + f) (fun i => s.size - (intOf i).toNat)
      case atStart =>
        obtain ⟨f, k, rfl, h1, h2, h3, h4⟩ := hgo.out
        exact ⟨f, _, by simp, h1, h2, h3, h4⟩
      case round =>
        obtain ⟨f, k, rfl, hk1, hk2, hval, hfu⟩ := hrel
        have HV := mkHidI1 hval
        clear hval
        by_cases hkl : k < s.size
        · obtain ⟨f', rfl⟩ : ∃ f', f = f' + 1 := ⟨f - 1, by omega⟩
          obtain ⟨d, hd⟩ : ∃ d, byteAt s k = d := ⟨_, rfl⟩
          have hix : ∀ wx, (Instr.index 9 (.string s) (.int .i64 (k : Int))).run Tryz.prog wx = .ok (.int .u8 d) wx := fun wx => by rw [run_index_byte wx 9 s k (by omega) Tryz.underlying9, hd]
          have HD := mkHidI1 hd
          clear hd
          by_cases h60 : d = 60
          · have hR2 : R = (2, k) := by rw [← HV.out]; exact val_bad hkl (by rw [HD.out]; exact h60)
            subst hR2
            subst h60
            go_wp2
            go_ret2
            exact st_fail (by simp) HB2.out hp HG2.out
          · by_cases hdc : d = c
            · have hR2 : R = (0, k) := by rw [← HV.out]; exact val_hit hkl (by rw [HD.out]; exact h60) (by rw [HD.out]; exact hdc)
              subst hR2
              have hsl : ∀ wx, (Instr.slice 9 (.string s) (some (.int .i64 ((p : Int) + 1))) (some (.int .i64 (k : Int))) none).run Tryz.prog wx = .ok (.string (s.extract (p + 1) k)) wx := fun wx => sub_text wx _ s (p + 1) k _ _ (by omega) rfl hk1 hk2 Tryz.underlying9
              have hsl2 : ∀ wx, (Instr.slice 9 (.string s) (some (.int .i64 ((p + 1 : Nat) : Int))) (some (.int .i64 (k : Int))) none).run Tryz.prog wx = .ok (.string (s.extract (p + 1) k)) wx := fun wx => sub_text wx _ s (p + 1) k _ _ rfl rfl hk1 hk2 Tryz.underlying9
              have hfr := fun wx => fresh_any (s.extract (p + 1) k) wx (by rw [ext_size hk2]; omega)
              have hw2 : IntKind.i64.wrap ((k : Int) + 1) = (k : Int) + 1 := wrapSm (by omega) (by omega)
              clear HD HV hgo
              subst hdc
              go_wp2_with fail
              go_region_held3 (fun W => W.cell? ⟨g, 0, none⟩ = some (.string s) ∧ W.cell? ⟨g, 1, none⟩ = some (.int .i64 (p : Int))) (go_keep)
                (first | (go_at_call 42; refine (hfr _).mono ?_; rintro e w' ⟨rfl, hg'⟩; obtain ⟨c0, c1, f1⟩ := imcells (im_grown (w := w2.drew) HB2.out hg')))
              have HB3 := mkHidI1 (im_grown (w := w2.drew) HB2.out hg')
              have HG3 : Hid (w.grownBy w' (some g)) := mkHidI1 (im_gtrans HG2.out (im_gtrans (im_gdrew w2 1 _) (gnone (a := w2.drew) hg')))
              clear hg'
              go_wp2
              go_ret2
              exact ⟨_, k + 1, rfl, im_set HB3.out (k + 1) (by omega), by omega, fun _ => ⟨rfl, rfl⟩, im_gtrans HG3.out (im_gset _)⟩
            · have hR2 : valGo s c f' (k + 1) = R := by rw [← HV.out]; exact (val_on hkl (by rw [HD.out]; exact h60) (by rw [HD.out]; exact hdc)).symm
              have HV2 := mkHidI1 hR2
              clear hR2
              go_wp2
              go_round
              case rel => exact ⟨f', k + 1, by go_num, by omega, by omega, HV2.out, by omega⟩
              case measure => simp [intOf]; omega
        · have hR2 : R = (1, k) := by rw [← HV.out]; exact val_end (by omega)
          subst hR2
          go_wp2
          go_ret2
          exact st_fail (by simp) HB2.out hp HG2.out
  · have hF : valF s p = 2 := by unfold valF; rw [if_neg he, hc, if_neg hq]
    rw [hF]
    generalize valT s p = T
    generalize valP s p = Q
    have hq1 : ¬ c = 34 := fun h => hq (by subst h; rfl)
    have hq2 : ¬ c = 39 := fun h => hq (by subst h; rfl)
    have hb1 : (c != 34) = true := by simpa using hq1
    have hb2 : (c != 39) = true := by simpa using hq2
    clear hF hc hq hq1 hq2
    go_enter Tryz.func80, Tryz.ntmps80
    go_wp2_with fail
    go_quiet (fail)
    have HB1 : Hid (ImBox (w.drewN nq) g s p) := HB
    have HG1 := mkHidI1 (im_gdrew w nq (some g))
    generalize w.drewN nq = w1 at HB1 HG1 ⊢
    clear c0 c1 f1
    obtain ⟨c0, c1, f1⟩ := imcells HB1.out
    go_wp2_with fail
    go_quiet (fail)
    go_wp2
    go_ret2
    exact st_fail (by omega) HB1.out hp (im_gtrans HG1.out (im_gdrew w1 nq _))
end Go.Proofs.YtefahocflhlgiaaGreatDoor
