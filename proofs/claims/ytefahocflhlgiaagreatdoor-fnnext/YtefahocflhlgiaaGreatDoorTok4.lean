/- The model's scanner: till and value. -/
import Derived.Test.YtefahocflhlgiaaGreatDoorTok3
import Derived.Test.YtefahocflhlgiaaGreatDoorPlain12
namespace Go.Proofs.YtefahocflhlgiaaGreatDoor
open Go.RowKit Plain1 Strs Strs2 Lists Plain3 Plain5 Plain6 Plain9 Plain10 Plain11

theorem till_no (w : World) (g : Nat) (s what : ByteArray) (x : Sc) (h : ScBox w g s x) (h0 : x.fl ≠ 0) :
    Calls Tryz.prog 93 #[.pointer (some ⟨g, 0, none⟩), .string what] w fun e w' => e = .returned (.string ByteArray.empty) ∧ w' = w := by
  have hc := ok_any w g s x h
  rw [decide_eq_false h0] at hc
  clear h h0
  go_enter Tryz.func93, Tryz.ntmps93
  go_wp2_with (go_at_call 68; refine hc.mono ?_; rintro e w' ⟨rfl, rfl⟩)
  go_ret
  exact ⟨rfl, rfl⟩
theorem value_no (w : World) (g : Nat) (s : ByteArray) (x : Sc) (h : ScBox w g s x) (h0 : x.fl ≠ 0) :
    Calls Tryz.prog 119 #[.pointer (some ⟨g, 0, none⟩)] w fun e w' => e = .returned (.string ByteArray.empty) ∧ w' = w := by
  have hc := ok_any w g s x h
  rw [decide_eq_false h0] at hc
  clear h h0
  go_enter Tryz.func119, Tryz.ntmps119
  go_wp2_with (go_at_call 68; refine hc.mono ?_; rintro e w' ⟨rfl, rfl⟩)
  go_ret
  exact ⟨rfl, rfl⟩

set_option maxHeartbeats 1000000 in
theorem till_ok (w : World) (g : Nat) (s what : ByteArray) (p : Nat) (h : ScBox w g s ⟨p, 0⟩) (hs : s.size ≤ 1048576) (hp : p ≤ s.size) (hw : what.size ≤ 1048576) (hw0 : what.data.toList ≠ []) :
    Calls Tryz.prog 93 #[.pointer (some ⟨g, 0, none⟩), .string what] w fun e w' => ∃ t q, e = .returned (.string t) ∧ ScBox w' g s ⟨q, upF s p what.data.toList⟩ ∧ q ≤ s.size ∧ (upF s p what.data.toList = 0 → t = upT s p what.data.toList ∧ q = upP s p what.data.toList) ∧ w.grownBy w' (some g) := by
  have hc := ok_any w g s _ h
  simp only [decide_true] at hc
  have hfind := fun wx => find_any s p what wx hs hw hp
  simp only [findZ_fz hw0] at hfind
  obtain ⟨c0, c1, c2, c3, c4, f1, f2, f3, f4⟩ := block0 h
  have HB := mkHidT h
  clear h hw0
  rcases fz_spec s p what.data.toList hp with hz | ⟨i, hz, hpi, hr, ho, _⟩
  · have hF : upF s p what.data.toList = 1 := by unfold upF; rw [if_pos hz]
    rw [hF]
    rw [hz] at hfind
    clear hz hF
    go_enter Tryz.func93, Tryz.ntmps93
    go_wp2_with (go_at_call 68; refine hc.mono ?_; rintro e w' ⟨rfl, hww⟩; obtain rfl := hww.symm)
    go_quiet ((go_at_call 33; exact Calls.quiet_of_same (hfind _)))
    go_wp2
    go_ret
    exact ⟨_, s.size, rfl, box_short (box_pos (W := w.drewN _) HB.out s.size), Nat.le_refl _, fun h => (by cases h), gtrans5 (gdrew5 w _ _) (gtrans5 (gset5 _) (gset5 _))⟩
  · have hF : upF s p what.data.toList = 0 := by unfold upF; rw [if_neg (by omega)]
    have hT : upT s p what.data.toList = s.extract p i := by unfold upT; rw [hz]; rfl
    have hP : upP s p what.data.toList = i + what.size := by unfold upP; rw [hz, ← Lib.size_eq]; rfl
    rw [← Lib.size_eq] at hr
    rw [hF, hT, hP]
    rw [hz] at hfind
    clear hz hF hT hP ho
    have hsl : ∀ wx, (Instr.slice 9 (.string s) (some (.int .i64 (p : Int))) (some (.int .i64 (i : Int))) none).run Tryz.prog wx = .ok (.string (s.extract p i)) wx := fun wx => sub_text wx _ s p i _ _ rfl rfl hpi (by omega) Tryz.underlying9
    go_enter Tryz.func93, Tryz.ntmps93
    go_wp2_with (go_at_call 68; refine hc.mono ?_; rintro e w' ⟨rfl, hww⟩; obtain rfl := hww.symm)
    go_quiet ((go_at_call 33; exact Calls.quiet_of_same (hfind _)))
    go_wp2_with fail
    go_quiet (fail)
    go_wp2
    go_ret
    exact ⟨_, i + what.size, rfl, box_posI (W := w.drewN _) HB.out (i + what.size) (by omega), hr, fun _ => ⟨rfl, rfl⟩, gtrans5 (gdrew5 w _ _) (gset5 _)⟩

set_option maxHeartbeats 2000000 in
theorem value_ok (w : World) (g : Nat) (s : ByteArray) (p : Nat) (h : ScBox w g s ⟨p, 0⟩) (hs : s.size ≤ 1048576) (hp : p ≤ s.size) :
    Calls Tryz.prog 119 #[.pointer (some ⟨g, 0, none⟩)] w fun e w' => ∃ t q, e = .returned (.string t) ∧ ScBox w' g s ⟨q, valF s p⟩ ∧ q ≤ s.size ∧ (valF s p = 0 → t = valT s p ∧ q = valP s p) ∧ w.grownBy w' (some g) := by
  have hc := ok_any w g s _ h
  have hc2 := end_any w g s _ h (by show p ≤ _; omega)
  simp only [decide_true] at hc hc2
  by_cases he : s.size ≤ p
  · rw [decide_eq_true he, ended_end (x := ⟨p, 0⟩) he rfl] at hc2
    have hF : valF s p = 1 := by unfold valF; rw [if_pos he]
    rw [hF]
    clear h hF
    go_enter Tryz.func119, Tryz.ntmps119
    go_wp2_with (first | (go_at_call 68; refine hc.mono ?_; rintro e w' ⟨rfl, hww⟩; obtain rfl := hww.symm) | (go_at_call 88; refine hc2.mono ?_; rintro e w2 ⟨rfl, hb2, hg2⟩))
    go_ret
    exact ⟨_, p, rfl, hb2, hp, fun h => (by cases h), hg2⟩
  rw [decide_eq_false he, ended_in (x := ⟨p, 0⟩) (by show p < _; omega)] at hc2
  obtain ⟨b, hb⟩ : ∃ b, byteAt s p = b := ⟨_, rfl⟩
  have hix : ∀ wx, (Instr.index 9 (.string s) (.int .i64 (p : Int))).run Tryz.prog wx = .ok (.int .u8 b) wx := fun wx => by rw [run_index_byte wx 9 s p (by omega) Tryz.underlying9, hb]
  have HBB := mkHidT hb
  clear h hb
  cases hq : quoteB b with
  | false =>
    have hF : valF s p = 2 := by unfold valF; rw [if_neg he, HBB.out, hq]; rfl
    rw [hF]
    have hq' : ¬ (b = 34 ∨ b = 39) := of_decide_eq_false hq
    have q1 : (b != 34) = true := bne_iff_ne.2 (by omega)
    have q2 : (b != 39) = true := bne_iff_ne.2 (by omega)
    clear hF hq hq'
    go_enter Tryz.func119, Tryz.ntmps119
    go_wp2_with (first | (go_at_call 68; refine hc.mono ?_; rintro e w' ⟨rfl, hww⟩; obtain rfl := hww.symm) | (go_at_call 88; refine hc2.mono ?_; rintro e w2 ⟨rfl, hb2, hg2⟩; obtain ⟨c0, c1, c2, c3, c4, f1, f2, f3, f4⟩ := block0 hb2; replace hb2 := mkHidT hb2; replace hg2 := mkHidT hg2))
    go_quiet (fail)
    go_wp2
    go_ret
    exact ⟨_, p, rfl, box_bad (W := w2.drewN nq) hb2.out, hp, fun h => (by cases h), gtrans5 hg2.out (gtrans5 (gdrew5 w2 nq _) (gset5 _))⟩
  | true =>
    obtain ⟨R, hR⟩ : ∃ R, valGo s b (s.size + 1) (p + 1) = R := ⟨_, rfl⟩
    have hF : valF s p = R.1 := by unfold valF; rw [if_neg he, HBB.out, hq, if_pos rfl, hR]
    have hT : valT s p = s.extract (p + 1) R.2 := by unfold valT valE; rw [HBB.out, hR]
    have hP : valP s p = R.2 + 1 := by unfold valP valE; rw [HBB.out, hR]
    rw [hF, hT, hP]
    have HR := mkHidT hR
    have hq' : b = 34 ∨ b = 39 := of_decide_eq_true hq
    have q1 : (b != 34 && b != 39) = false := by rcases hq' with h | h <;> subst h <;> rfl
    have q2 : (b == 60) = false := by rcases hq' with h | h <;> subst h <;> rfl
    have q3 : (if (b != 34) = true then (b != 39) else false) = false := by rcases hq' with h | h <;> subst h <;> rfl
    clear hF hT hP hR hq
    go_enter Tryz.func119, Tryz.ntmps119
    go_wp2_with (first | (go_at_call 68; refine hc.mono ?_; rintro e w' ⟨rfl, hww⟩; obtain rfl := hww.symm) | (go_at_call 88; refine hc2.mono ?_; rintro e w2 ⟨rfl, hb2, hg2⟩; obtain ⟨c0, c1, c2, c3, c4, f1, f2, f3, f4⟩ := block0 hb2; replace hb2 := mkHidT hb2; replace hg2 := mkHidT hg2))
    go_quiet (fail)
    have hwr : IntKind.i64.wrap ((p : Int) + 1) = (p : Int) + 1 := wrapSm (by omega) (by omega)
    go_wp2_with fail
    all_goals
      have hbx4 := mkHidT (box_posI (W := w2.drewN nq) hb2.out (p + 1) (z := (p : Int) + 1) (by omega))
      have hg4 := mkHidT (gtrans5 hg2.out (gtrans5 (gdrew5 w2 nq _) (gset5 (j := 1) (.int .i64 ((p : Int) + 1)))))
      generalize (w2.drewN nq).setCell ⟨g, 1, none⟩ (.int .i64 ((p : Int) + 1)) = w4 at hbx4 hg4 ⊢
      clear c0 c1 c2 c3 c4 f1 f2 f3 f4 hb2 hg2 hc hc2 hix
      go_loopw [] (fun wr => ∃ (f k : Nat), p + 1 ≤ k ∧ k ≤ s.size ∧ valGo s b f k = R ∧ s.size + 1 ≤ k + f ∧ ScBox wr g s ⟨k, 0⟩ ∧ w.grownBy wr (some g)) (fun wr => s.size - scPos wr g)
      case atStart => exact ⟨s.size + 1, p + 1, Nat.le_refl _, by omega, HR.out, by omega, hbx4.out, hg4.out⟩
      case round =>
        obtain ⟨f, k, hk0, hk, hf, hfu, hbx, hg⟩ := hrel
        have HF := mkHidT hf
        have HBX := mkHidT hbx
        have HG := mkHidT hg
        have HP := mkHidT (scPos_of hbx)
        have hc2 := end_any wr g s _ hbx (by show k ≤ _; omega)
        clear hf hbx hg
        by_cases hlt : s.size ≤ k
        · have hst := val_end (s := s) (q := b) (f := f) (i := k) (by omega)
          rw [HF.out] at hst
          have HST := mkHidT hst
          clear hst
          simp only [decide_eq_true hlt, ended_end (x := ⟨k, 0⟩) (s := s) hlt rfl] at hc2
          go_wp2_with (go_at_call 88; refine hc2.mono ?_; rintro e w5 ⟨rfl, hb5, hg5⟩)
          go_ret
          refine ⟨_, k, rfl, by rw [HST.out]; exact hb5, hk, ?_, gtrans5 HG.out hg5⟩
          rw [HST.out]; simp
        · obtain ⟨f', rfl⟩ : ∃ f', f = f' + 1 := ⟨f - 1, by omega⟩
          simp only [decide_eq_false hlt, ended_in (x := ⟨k, 0⟩) (s := s) (show k < s.size by omega)] at hc2
          obtain ⟨c, hcb⟩ : ∃ c, byteAt s k = c := ⟨_, rfl⟩
          have hix : ∀ wx, (Instr.index 9 (.string s) (.int .i64 (k : Int))).run Tryz.prog wx = .ok (.int .u8 c) wx := fun wx => by rw [run_index_byte wx 9 s k (by omega) Tryz.underlying9, hcb]
          have HC := mkHidT hcb
          clear hcb
          have hwk : IntKind.i64.wrap ((k : Int) + 1) = (k : Int) + 1 := wrapSm (by omega) (by omega)
          by_cases h60 : c = 60
          · have hst := val_bad (s := s) (q := b) (f := f') (i := k) (by omega) (HC.out.trans h60)
            rw [HF.out] at hst
            have HST := mkHidT hst
            clear hst
            subst h60
            go_wp2_with (go_at_call 88; refine hc2.mono ?_; rintro e w5 ⟨rfl, hb5, hg5⟩; obtain ⟨c0, c1, c2, c3, c4, f1, f2, f3, f4⟩ := block0 hb5; replace hb5 := mkHidT hb5; replace hg5 := mkHidT hg5)
            go_quiet (fail)
            go_wp2
            go_ret
            refine ⟨_, k, rfl, by rw [HST.out]; exact box_bad (W := w5.drewN _) hb5.out, hk, ?_, gtrans5 HG.out (gtrans5 hg5.out (gtrans5 (gdrew5 w5 _ _) (gset5 _)))⟩
            rw [HST.out]; simp
          · have e60 : (c == 60) = false := beq_eq_false_iff_ne.2 h60
            by_cases hcq : c = b
            · have hst := val_hit (s := s) (q := b) (f := f') (i := k) (by omega) (by rw [HC.out]; exact h60) (HC.out.trans hcq)
              rw [HF.out] at hst
              have HST := mkHidT hst
              clear hst
              have ecb : (c == b) = true := beq_iff_eq.2 hcq
              have hsl : ∀ wx, (Instr.slice 9 (.string s) (some (.int .i64 ((p : Int) + 1))) (some (.int .i64 (k : Int))) none).run Tryz.prog wx = .ok (.string (s.extract (p + 1) k)) wx := fun wx => sub_text wx _ s (p + 1) k _ _ (by omega) rfl (by omega) (by omega) Tryz.underlying9
              have hwk2 : IntKind.i64.wrap ((k : Int) + 1 - 1) = (k : Int) := by rw [wrapSm (by omega) (by omega)]; omega
              clear h60 hcq
              go_wp2_with (go_at_call 88; refine hc2.mono ?_; rintro e w5 ⟨rfl, hb5, hg5⟩; obtain ⟨c0, c1, c2, c3, c4, f1, f2, f3, f4⟩ := block0 hb5; replace hb5 := mkHidT hb5; replace hg5 := mkHidT hg5)
              go_quiet (fail)
              go_wp2_with fail
              go_quiet (fail)
              go_wp2
              go_ret
              exact ⟨_, k + 1, rfl, by rw [HST.out]; exact box_posI (W := w5.drewN _) hb5.out (k + 1) (by omega), by omega, fun _ => by rw [HST.out]; exact ⟨rfl, rfl⟩, gtrans5 HG.out (gtrans5 hg5.out (gtrans5 (gdrew5 w5 _ _) (gtrans5 (gset5 _) (gdrew5 _ _ _))))⟩
            · have hst := val_on (s := s) (q := b) (f := f') (i := k) (by omega) (by rw [HC.out]; exact h60) (by rw [HC.out]; exact hcq)
              rw [HF.out] at hst
              have HON := mkHidT hst
              have ecb : (c == b) = false := beq_eq_false_iff_ne.2 hcq
              clear h60 hcq hst
              go_wp2_with (go_at_call 88; refine hc2.mono ?_; rintro e w5 ⟨rfl, hb5, hg5⟩; obtain ⟨c0, c1, c2, c3, c4, f1, f2, f3, f4⟩ := block0 hb5; replace hb5 := mkHidT hb5; replace hg5 := mkHidT hg5)
              go_quiet (fail)
              go_wp2
              have hnew := box_posI (W := w5.drewN nq) hb5.out (k + 1) (z := (k : Int) + 1) (by omega)
              refine ⟨⟨f', k + 1, by omega, by omega, HON.out.symm, by omega, hnew, gtrans5 HG.out (gtrans5 hg5.out (gtrans5 (gdrew5 w5 _ _) (gset5 _)))⟩, ?_⟩
              rw [scPos_of hnew, HP.out]
              show s.size - (k + 1) < s.size - k
              omega
end Go.Proofs.YtefahocflhlgiaaGreatDoor
