/- The model's scanner: name, till and value. -/
import Derived.Test.YtefahocflhlgiaaGreatDoorTok2
import Derived.Test.YtefahocflhlgiaaGreatDoorNameModel
import Derived.Test.YtefahocflhlgiaaGreatDoorStrs2
import Derived.Deep.RegionWith
namespace Go.Proofs.YtefahocflhlgiaaGreatDoor
open Go.RowKit Plain1 Strs Strs2 Lists Plain3 Plain5 Plain6 Plain9 Plain10

theorem nameGo_room {s : ByteArray} {p : Nat} : ∀ (f n : Nat), p + n ≤ s.size → p + nameGo s p f n ≤ s.size
  | 0, n, h => h
  | f + 1, n, h => by
    by_cases hl : p + n < s.size
    · by_cases hs : stops s p n
      · rw [nameGo_stop hl hs]; exact h
      · rw [nameGo_on hl hs]
        have hr : (runeZ s (p + n)).2 ≠ 0 := fun h0 => hs (.inl h0)
        have := rune_le hr
        exact nameGo_room f _ (by omega)
    · rw [nameGo_end (by omega)]; exact h
theorem nameZ_room {s : ByteArray} {p : Nat} (h : p ≤ s.size) : p + nameZ s p ≤ s.size := nameGo_room _ _ h
theorem box_below {w w' : World} {g : Nat} {s : ByteArray} {x : Sc} (h : ScBox w g s x) (hb : Below w.heap.size w w') : ScBox w' g s x := by
  have hlt : g < w.heap.size := (Array.getElem?_eq_some_iff.1 h).1
  unfold ScBox
  rw [hb.block g hlt]; exact h
theorem gbelow5 {a b : World} {r : Option Nat} (h : Below a.heap.size a b) : a.grownBy b r := ⟨h.os, h.tape, h.output, h.size, fun i hi _ => h.block i hi⟩
theorem name_no (w : World) (g : Nat) (s : ByteArray) (x : Sc) (h : ScBox w g s x) (h0 : x.fl ≠ 0) :
    Calls Tryz.prog 89 #[.pointer (some ⟨g, 0, none⟩)] w fun e w' => e = .returned (.string ByteArray.empty) ∧ w' = w := by
  have hc := ok_any w g s x h
  rw [decide_eq_false h0] at hc
  clear h h0
  go_enter Tryz.func89, Tryz.ntmps89
  go_wp2_with (go_at_call 68; refine hc.mono ?_; rintro e w' ⟨rfl, rfl⟩)
  go_ret
  exact ⟨rfl, rfl⟩

set_option maxHeartbeats 1000000 in
theorem name_ok (w : World) (g : Nat) (s : ByteArray) (p : Nat) (h : ScBox w g s ⟨p, 0⟩) (hs : s.size ≤ 1048576) (hp : p ≤ s.size) :
    Calls Tryz.prog 89 #[.pointer (some ⟨g, 0, none⟩)] w fun e w' => ∃ t q, e = .returned (.string t) ∧ ScBox w' g s ⟨q, nmF s p⟩ ∧ q ≤ s.size ∧ (nmF s p = 0 → t = nmT s p ∧ q = nmP s p) ∧ w.grownBy w' (some g) := by
  have hc := ok_any w g s _ h
  have hc2 := end_any w g s _ h (by show p ≤ _; omega)
  have hroom := nameZ_room hp
  simp only [decide_true] at hc hc2
  obtain ⟨F, hF⟩ : ∃ F, nmF s p = F := ⟨_, rfl⟩
  rw [hF]
  have HF := mkHidT hF
  clear hF
  by_cases he : s.size ≤ p
  · rw [decide_eq_true he, ended_end (x := ⟨p, 0⟩) he rfl] at hc2
    have hF1 : F = 1 := by
      rw [← HF.out]; unfold nmF
      have hn : nameZ s p = 0 := nameGo_end (by omega)
      rw [hn, if_neg (by omega), if_pos (by omega)]
    subst hF1
    clear h hroom
    go_enter Tryz.func89, Tryz.ntmps89
    go_wp2_with (first | (go_at_call 68; refine hc.mono ?_; rintro e w' ⟨rfl, hww⟩; obtain rfl := hww.symm) | (go_at_call 88; refine hc2.mono ?_; rintro e w2 ⟨rfl, hb2, hg2⟩))
    go_ret
    exact ⟨_, p, rfl, hb2, hp, fun h => (by cases h), hg2⟩
  · rw [decide_eq_false he, ended_in (x := ⟨p, 0⟩) (by show p < _; omega)] at hc2
    obtain ⟨n, hn⟩ : ∃ n, nameZ s p = n := ⟨_, rfl⟩
    rw [hn] at hroom
    have hT : nmT s p = s.extract p (p + n) := by unfold nmT; rw [hn]
    have hP : nmP s p = p + n := by unfold nmP; rw [hn]
    rw [hT, hP]
    have HN := mkHidT hn
    clear hT hP hn h
    go_enter Tryz.func89, Tryz.ntmps89
    go_wp2_with (first | (go_at_call 68; refine hc.mono ?_; rintro e w' ⟨rfl, hww⟩; obtain rfl := hww.symm) | (go_at_call 88; refine hc2.mono ?_; rintro e w2 ⟨rfl, hb2, hg2⟩; obtain ⟨c0, c1, c2, c3, c4, f1, f2, f3, f4⟩ := block0 hb2; replace hb2 := mkHidT hb2; replace hg2 := mkHidT hg2) | fail)
    go_region_with (go_at_call 117; refine (l01Name_any s p _ hs hp).mono ?_; rintro e w3 ⟨rfl, hb3⟩; rw [HN.out])
    all_goals
      have hbx3 : ScBox w3 g s ⟨p, 0⟩ := box_below (w := w2.drew) hb2.out hb3
      have hg3 : w.grownBy w3 (some g) := gtrans5 hg2.out (gtrans5 (b := w2.drew) ⟨rfl, rfl, rfl, Nat.le_refl _, fun _ _ _ => rfl⟩ (gbelow5 hb3))
      replace hbx3 := mkHidT hbx3
      replace hg3 := mkHidT hg3
      clear c0 c1 c2 c3 c4 f1 f2 f3 f4 hb2 hg2 hb3
      obtain ⟨c0, c1, c2, c3, c4, f1, f2, f3, f4⟩ := block0 hbx3.out
      have hwr : IntKind.i64.wrap ((p : Int) + (n : Int)) = (p : Int) + (n : Int) := wrapSm (by omega) (by omega)
      have hsl : ∀ wx, (Instr.slice 9 (.string s) (some (.int .i64 (p : Int))) (some (.int .i64 ((p : Int) + (n : Int)))) none).run Tryz.prog wx = .ok (.string (s.extract p (p + n))) wx := fun wx => sub_text wx _ s p (p + n) _ _ rfl (by omega) (by omega) hroom Tryz.underlying9
      have HF2 : Hid (F = if 60 < n then 2 else if s.size ≤ p + n then 1 else if n = 0 then 2 else 0) := by
        rw [← HF.out]; unfold nmF; rw [HN.out]; exact mkHidT rfl
      by_cases hn0 : n = 0
      · subst hn0
        have hF2 := HF2.out
        rw [if_neg (by omega), if_neg (by omega), if_pos rfl] at hF2
        subst hF2
        go_wp2_with fail
        go_quiet (fail)
        go_wp2
        go_ret
        exact ⟨_, p, rfl, box_bad (box_posI (W := w3.drewN nq) hbx3.out p (by omega)), hp, fun h => (by cases h), gtrans5 hg3.out (gtrans5 (gdrew5 w3 nq _) (gtrans5 (gset5 _) (gset5 _)))⟩
      by_cases h60 : 60 < n
      · have hF2 := HF2.out
        rw [if_pos h60] at hF2
        subst hF2
        go_wp2_with fail
        go_quiet (fail)
        go_wp2
        go_ret
        exact ⟨_, p + n, rfl, box_bad (box_posI (W := w3.drewN nq) hbx3.out (p + n) (by omega)), hroom, fun h => (by cases h), gtrans5 hg3.out (gtrans5 (gdrew5 w3 nq _) (gtrans5 (gset5 _) (gset5 _)))⟩
      have e0 : ((n : Int) == 0) = false := beq_eq_false_iff_ne.2 (by omega)
      have e60 : ¬ (60 : Int) < (n : Int) := by omega
      by_cases hend : s.size ≤ p + n
      · have hF2 := HF2.out
        rw [if_neg h60, if_pos hend] at hF2
        subst hF2
        have hei : (s.size : Int) ≤ (p : Int) + (n : Int) := by omega
        go_wp2_with fail
        go_quiet (fail)
        go_wp2_with fail
        have hbx4 := mkHidT (box_posI (W := w3.drewN nq) hbx3.out (p + n) (z := (p : Int) + (n : Int)) (by omega))
        have hg4 := mkHidT (gtrans5 hg3.out (gtrans5 (gdrew5 w3 nq _) (gset5 (j := 1) (.int .i64 ((p : Int) + (n : Int))))))
        generalize (w3.drewN nq).setCell ⟨g, 1, none⟩ (.int .i64 ((p : Int) + (n : Int))) = w4 at hbx4 hg4 ⊢
        clear c0 c1 c2 c3 c4 f1 f2 f3 f4
        obtain ⟨c0, c1, c2, c3, c4, f1, f2, f3, f4⟩ := block0 hbx4.out
        push_cast at c1
        go_quiet (fail)
        go_wp2
        go_ret
        exact ⟨_, p + n, rfl, box_short (W := w4.drewN _) hbx4.out, hroom, fun h => (by cases h), gtrans5 hg4.out (gtrans5 (gdrew5 w4 _ _) (gset5 _))⟩
      · have hF2 := HF2.out
        rw [if_neg h60, if_neg hend, if_neg hn0] at hF2
        subst hF2
        have hei : ¬ (s.size : Int) ≤ (p : Int) + (n : Int) := by omega
        go_wp2_with fail
        go_quiet (fail)
        go_wp2_with fail
        have hbx4 := mkHidT (box_posI (W := w3.drewN nq) hbx3.out (p + n) (z := (p : Int) + (n : Int)) (by omega))
        have hg4 := mkHidT (gtrans5 hg3.out (gtrans5 (gdrew5 w3 nq _) (gset5 (j := 1) (.int .i64 ((p : Int) + (n : Int))))))
        generalize (w3.drewN nq).setCell ⟨g, 1, none⟩ (.int .i64 ((p : Int) + (n : Int))) = w4 at hbx4 hg4 ⊢
        clear c0 c1 c2 c3 c4 f1 f2 f3 f4
        obtain ⟨c0, c1, c2, c3, c4, f1, f2, f3, f4⟩ := block0 hbx4.out
        push_cast at c1
        go_quiet (fail)
        go_wp2
        go_ret
        exact ⟨_, rfl, p + n, hbx4.out, hroom, ⟨rfl, rfl⟩, gtrans5 hg4.out (gdrew5 w4 _ _)⟩
end Go.Proofs.YtefahocflhlgiaaGreatDoor
