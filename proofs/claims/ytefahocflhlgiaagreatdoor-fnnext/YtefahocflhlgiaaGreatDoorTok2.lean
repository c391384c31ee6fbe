/- The model's scanner: white and must. -/
import Derived.Test.YtefahocflhlgiaaGreatDoorTok1
namespace Go.Proofs.YtefahocflhlgiaaGreatDoor
open Go.RowKit Plain1 Strs Lists Plain9 Plain10

theorem white_byte (b : Int) (w : World) (h0 : 0 ≤ b) (h1 : b ≤ 255) :
    Calls Tryz.prog 102 #[.int .u8 b] w fun e w' => e = .returned (.bool (whiteB b)) ∧ w' = w := by
  go_enter Tryz.func102, Tryz.ntmps102
  go_wp2
  all_goals
    go_ret
    exact ⟨ret_bool (by unfold whiteB; apply Bool.eq_iff_iff.2; simp at *; try omega), rfl⟩

def scPos (w : World) (g : Nat) : Nat := match w.cell? ⟨g, 1, none⟩ with | some (.int _ n) => n.toNat | _ => 0
theorem scPos_of {w : World} {g : Nat} {s : ByteArray} {x : Sc} (h : ScBox w g s x) : scPos w g = x.pos := by
  obtain ⟨_, c1, _⟩ := block5 h
  unfold scPos
  rw [c1]
  simp

set_option maxHeartbeats 1000000 in
theorem white_any (w : World) (g : Nat) (s : ByteArray) (x : Sc) (h : ScBox w g s x) (hs : s.size ≤ 1048576) (hp : x.pos ≤ s.size) :
    Calls Tryz.prog 66 #[.pointer (some ⟨g, 0, none⟩)] w fun e w' => e = .returned (.bool (decide (x.pos < whiteZ s x.pos))) ∧ ScBox w' g s ⟨whiteZ s x.pos, x.fl⟩ ∧ w.grownBy w' (some g) := by
  obtain ⟨pos, fl⟩ := x
  obtain ⟨R, hR⟩ : ∃ R, whiteZ s pos = R := ⟨_, rfl⟩
  simp only at hp ⊢
  rw [hR]
  have HR : Hid (whiteGo s (s.size + 1) pos = R) := hR
  have HB : Hid (ScBox w g s ⟨pos, fl⟩) := h
  obtain ⟨c0, c1, c2, c3, c4, f1, f2, f3, f4⟩ := block5 h
  simp only at c0 c1 c2 c3 c4
  clear h hR
  go_enter Tryz.func66, Tryz.ntmps66
  go_wp2_with fail
  go_loopw [] (fun wr => ∃ (f k : Nat), pos ≤ k ∧ k ≤ s.size ∧ whiteGo s f k = R ∧ s.size + 1 ≤ k + f ∧ ScBox wr g s ⟨k, fl⟩ ∧ w.grownBy wr (some g)) (fun wr => s.size - scPos wr g)
  case atStart => exact ⟨s.size + 1, pos, Nat.le_refl _, hp, HR.out, by omega, HB.out, gdrew5 w 0 _⟩
  case round =>
    obtain ⟨f, k, hk0, hk, hf, hfu, hbx, hg⟩ := hrel
    have HF : Hid (whiteGo s f k = R) := hf
    have HBX : Hid (ScBox wr g s ⟨k, fl⟩) := hbx
    have HG : Hid (w.grownBy wr (some g)) := hg
    have HP : Hid (scPos wr g = k) := scPos_of hbx
    clear c0 c1 c2 c3 c4 f1 f2 f3 f4
    obtain ⟨c0, c1, c2, c3, c4, f1, f2, f3, f4⟩ := block5 hbx
    simp only at c0 c1 c2 c3 c4
    clear hf hbx hg
    by_cases hlt : k < s.size
    · obtain ⟨b, hb⟩ : ∃ b, byteAt s k = b := ⟨_, rfl⟩
      have hbd := byteAt_bd s k
      rw [hb] at hbd
      obtain ⟨hb0, hb1⟩ := hbd
      have hix : ∀ wx, (Instr.index 9 (.string s) (.int .i64 (k : Int))).run Tryz.prog wx = .ok (.int .u8 b) wx := fun wx => by rw [run_index_byte wx 9 s k hlt Tryz.underlying9, hb]
      have HBB : Hid (byteAt s k = b) := hb
      clear hb
      have hki : (k : Int) < (s.size : Int) := by omega
      cases hw : whiteB b with
      | true =>
        obtain ⟨f', rfl⟩ : ∃ f', f = f' + 1 := ⟨f - 1, by omega⟩
        have hon := whiteGo_on (f := f') (i := k) (s := s) ⟨hlt, by rw [HBB.out]; exact hw⟩
        rw [HF.out] at hon
        have HON : Hid (R = whiteGo s f' (k + 1)) := hon
        clear hon
        go_wp2_with fail
        go_quiet ((go_at_call 102; exact Calls.quiet_of_same (white_byte _ _ hb0 hb1)))
        go_wp2
        have hnew : ScBox ((wr.drewN nq).setCell ⟨g, 1, none⟩ (.int .i64 ((k : Int) + 1))) g s ⟨k + 1, fl⟩ := set5 (w := wr.drewN nq) HBX.out 1 _
        go_roundw
        case rel => exact ⟨f', k + 1, by omega, by omega, HON.out.symm, by omega, hnew, gtrans5 HG.out (gtrans5 (gdrew5 wr nq _) (gset5 _))⟩
        case measure => rw [scPos_of hnew, HP.out]; simp only []; omega
      | false =>
        have hst := whiteGo_stop (f := f) (i := k) (s := s) (fun hh => by rw [HBB.out, hw] at hh; cases hh.2)
        rw [HF.out] at hst
        have HST : Hid (R = k) := hst
        clear hst
        go_wp2_with fail
        go_quiet ((go_at_call 102; exact Calls.quiet_of_same (white_byte _ _ hb0 hb1)))
        go_wp2
        go_ret
        refine ⟨ret_bool ?_, ?_, gtrans5 HG.out (gdrew5 wr nq _)⟩
        · rw [HST.out]
        · rw [HST.out]; exact HBX.out
    · have hst := whiteGo_stop (f := f) (i := k) (s := s) (fun hh => hlt hh.1)
      rw [HF.out] at hst
      have HST : Hid (R = k) := hst
      clear hst
      have hki : ¬ (k : Int) < (s.size : Int) := by omega
      have hkd : decide ((k : Int) < (s.size : Int)) = false := by simpa using hki
      go_wp2_with fail
      go_quiet (fail)
      go_wp2
      go_ret
      refine ⟨ret_bool ?_, ?_, gtrans5 HG.out (gdrew5 wr nq _)⟩
      · rw [HST.out]
      · rw [HST.out]; exact HBX.out

theorem mkHidT {p : Prop} (h : p) : Hid p := h

set_option maxHeartbeats 2000000 in
theorem must_any (w : World) (g : Nat) (s what : ByteArray) (x : Sc) (h : ScBox w g s x) (hs : s.size ≤ 1048576) (hw : what.size ≤ 1048576) (hp : x.pos ≤ s.size) :
    Calls Tryz.prog 87 #[.pointer (some ⟨g, 0, none⟩), .string what] w fun e w' => e = .returned (.tuple #[]) ∧ ScBox w' g s (x.must s what) ∧ w.grownBy w' (some g) := by
  obtain ⟨R, hR⟩ : ∃ R, x.must s what = R := ⟨_, rfl⟩
  rw [hR]
  have HR : Hid (mustGo s what (what.size + 1) 0 x = R) := hR
  have HB := mkHidT h
  clear h hR
  go_enter Tryz.func87, Tryz.ntmps87
  go_wp2_with fail
  go_loopw [4] (fun i wr => ∃ (f k : Nat) (y : Sc), k ≤ what.size ∧ i = .int .i64 k ∧ y.pos ≤ s.size ∧ mustGo s what f k y = R ∧ what.size + 1 ≤ k + f ∧ ScBox wr g s y ∧ w.grownBy wr (some g)) (fun i _ => what.size - (intOf i).toNat)
  case atStart => exact ⟨what.size + 1, 0, x, Nat.zero_le _, rfl, hp, HR.out, by omega, HB.out, gdrew5 w 0 _⟩
  case round =>
    obtain ⟨f, k, y, hk, rfl, hyp, hf, hfu, hbx, hg⟩ := hrel
    have HF := mkHidT hf
    have HBX := mkHidT hbx
    have HG := mkHidT hg
    clear hf hbx hg
    by_cases hlt : k < what.size
    · have hlti : (k : Int) < (what.size : Int) := by omega
      by_cases hok0 : y.fl = 0
      rotate_left
      · have hok : decide (y.fl = 0) = false := decide_eq_false hok0
        have hst := must_stop (f := f) (i := k) (x := y) (s := s) (what := what) (fun hh => hok0 hh.2)
        rw [HF.out] at hst
        subst hst
        have hc := ok_any wr g s R HBX.out
        rw [hok] at hc
        go_wp2_with (go_at_call 68; refine hc.mono ?_; rintro e w' ⟨rfl, rfl⟩)
        go_end0
        exact ⟨rfl, HBX.out, HG.out⟩
      · have hok : decide (y.fl = 0) = true := decide_eq_true hok0
        have HOK := mkHidT hok0
        obtain ⟨f', rfl⟩ : ∃ f', f = f' + 1 := ⟨f - 1, by omega⟩
        have hc := ok_any wr g s y HBX.out
        rw [hok] at hc
        have hc2 := end_any wr g s y HBX.out (by omega)
        by_cases he : s.size ≤ y.pos
        · have hst := must_end (f := f') (i := k) (x := y) (s := s) (what := what) ⟨hlt, hok0⟩ he
          rw [HF.out] at hst
          subst hst
          rw [decide_eq_true he] at hc2
          go_wp2_with (first | (go_at_call 68; refine hc.mono ?_; rintro e w' ⟨rfl, rfl⟩) | (go_at_call 88; refine hc2.mono ?_; rintro e w2 ⟨rfl, hb2, hg2⟩))
          go_end0
          exact ⟨rfl, hb2, gtrans5 HG.out hg2⟩
        · have hend : y.ended s = y := ended_in (by omega)
          rw [decide_eq_false he, hend] at hc2
          clear hend
          obtain ⟨b, hb⟩ : ∃ b, byteAt s y.pos = b := ⟨_, rfl⟩
          obtain ⟨c, hcb⟩ : ∃ c, byteAt what k = c := ⟨_, rfl⟩
          have hix : ∀ wx, (Instr.index 9 (.string s) (.int .i64 (y.pos : Int))).run Tryz.prog wx = .ok (.int .u8 b) wx := fun wx => by rw [run_index_byte wx 9 s y.pos (by omega) Tryz.underlying9, hb]
          have hiw : ∀ wx, (Instr.index 9 (.string what) (.int .i64 (k : Int))).run Tryz.prog wx = .ok (.int .u8 c) wx := fun wx => by rw [run_index_byte wx 9 what k hlt Tryz.underlying9, hcb]
          by_cases heq : b = c
          · have hst := must_on (f := f') (i := k) (x := y) (s := s) (what := what) ⟨hlt, hok0⟩ he (by rw [hb, hcb]; exact heq)
            rw [HF.out] at hst
            have HON := mkHidT hst
            have hne : (b != c) = false := by simp [heq]
            clear hst heq hb hcb hok hok0
            go_wp2_with (first | (go_at_call 68; refine hc.mono ?_; rintro e w' ⟨rfl, rfl⟩) | (go_at_call 88; refine hc2.mono ?_; rintro e w2 ⟨rfl, hb2, hg2⟩; obtain ⟨c0, c1, c2, c3, c4, f1, f2, f3, f4⟩ := block5 hb2; replace hb2 := mkHidT hb2; replace hg2 := mkHidT hg2))
            go_quiet (fail)
            go_wp2
            have hnew : ScBox ((w2.drewN nq).setCell ⟨g, 1, none⟩ (.int .i64 ((y.pos : Int) + 1))) g s ⟨y.pos + 1, y.fl⟩ := set5 (w := w2.drewN nq) hb2.out 1 _
            go_roundw
            case rel => exact ⟨f', k + 1, ⟨y.pos + 1, y.fl⟩, by omega, by go_num, by simp only []; omega, HON.out.symm, by omega, hnew, gtrans5 HG.out (gtrans5 hg2.out (gtrans5 (gdrew5 w2 nq _) (gset5 _)))⟩
            case measure => simp [intOf]; omega
          · have hst := must_bad (f := f') (i := k) (x := y) (s := s) (what := what) ⟨hlt, hok0⟩ he (by rw [hb, hcb]; exact heq)
            rw [HF.out] at hst
            subst hst
            have hne : (b != c) = true := by simp [heq]
            clear heq hb hcb hok hok0
            go_wp2_with (first | (go_at_call 68; refine hc.mono ?_; rintro e w' ⟨rfl, rfl⟩) | (go_at_call 88; refine hc2.mono ?_; rintro e w2 ⟨rfl, hb2, hg2⟩; obtain ⟨c0, c1, c2, c3, c4, f1, f2, f3, f4⟩ := block5 hb2; replace hb2 := mkHidT hb2; replace hg2 := mkHidT hg2))
            go_quiet (fail)
            go_wp2
            refine bodyPost_ret (v := .tuple #[]) (by simp [results, Tryz.results87]) rfl ?_
            exact ⟨rfl, box_badf (W := w2.drewN nq) HOK.out hb2.out, gtrans5 HG.out (gtrans5 hg2.out (gtrans5 (gdrew5 w2 nq _) (gset5 _)))⟩
    · have hlti : ¬ (k : Int) < (what.size : Int) := by omega
      have hst := must_stop (f := f) (i := k) (x := y) (s := s) (what := what) (fun hh => hlt hh.1)
      rw [HF.out] at hst
      subst hst
      go_wp2_with fail
      go_end0
      exact ⟨rfl, HBX.out, HG.out⟩
end Go.Proofs.YtefahocflhlgiaaGreatDoor
