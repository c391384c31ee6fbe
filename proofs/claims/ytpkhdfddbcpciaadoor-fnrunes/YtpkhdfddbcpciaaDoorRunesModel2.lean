/- The contract of the model's Runes. -/
import Derived.Test.YtpkhdfddbcpciaaDoorRunesModel
namespace Go.Proofs.YtpkhdfddbcpciaaDoor
open Go.RowKit Plain1 Strs Plain3 Plain5 Lists

set_option maxHeartbeats 1000000 in
theorem specRunes_any (s : ByteArray) (w : World) (hs : s.size ≤ 1048576) :
    Calls Tryd.prog 15 #[.string s] w fun e w' => ∃ v, e = .returned (.agg #[v, .int .i64 (rAt s), .int .i64 (rCode s)]) ∧ w'.ownsRow w.heap.size 2 1 v (rList s).length ((rList s).map (Value.int .i64)) ∧ Below w.heap.size w w' := by
  by_cases hbig : 4000 < s.size
  · have e1 : rList s = [] := by unfold rList; rw [if_pos hbig]
    have e2 : rAt s = 0 := by unfold rAt; rw [if_pos hbig]
    have e3 : rCode s = 2 := by unfold rCode; rw [if_pos hbig]
    rw [e1, e2, e3]
    clear e1 e2 e3
    go_enter Tryd.func15, Tryd.ntmps15
    go_wp2
    refine bodyPost_ret (v := .agg #[.slice none 0 0, .int .i64 0, .int .i64 2]) (by simp [results, Tryd.results15, go_sem]) rfl ⟨_, rfl, World.ownsRow_nil _ _ _ _, ?_⟩
    exact (Below.refl _ _).alloc (Nat.le_refl _) _
  · have hcall := fun wx => l01Runes_any s wx hs
    by_cases hbad : 0 ≤ (scanAll s).2
    · have e1 : rList s = [] := by unfold rList; rw [if_neg hbig]; exact scan_list _ _ _ hbad
      have e2 : rAt s = (scanAll s).2 := by unfold rAt; rw [if_neg hbig, if_pos hbad]
      have e3 : rCode s = 3 := by unfold rCode; rw [if_neg hbig, if_pos hbad]
      rw [e1, e2, e3]
      clear e1 e2 e3
      obtain ⟨R, hR⟩ : ∃ R, scanAll s = R := ⟨_, rfl⟩
      rw [hR] at hcall hbad ⊢
      clear hR
      obtain ⟨l, p⟩ := R
      simp only at hcall hbad ⊢
      go_enter Tryd.func15, Tryd.ntmps15
      go_wp2_with (go_at_call 39; refine (hcall _).mono ?_; rintro e w1 ⟨v1, rfl, ho1, hb1⟩; obtain ⟨k0, k1, k2, f0, f1, f2, hz1, HB⟩ := box3 hb1; clear hb1 hcall)
      refine bodyPost_ret (v := .agg #[.slice none 0 0, .int .i64 p, .int .i64 3]) (by simp [results, Tryd.results15, go_sem, k0, k1, k2]) rfl ⟨_, rfl, World.ownsRow_nil _ _ _ _, ?_⟩
      exact ((HB.out.setCell (Nat.le_refl _) _).setCell (Nat.le_refl _) _).setCell (Nat.le_refl _) _
    · have e1 : rList s = (scanAll s).1 := by unfold rList; rw [if_neg hbig]
      have e2 : rAt s = 0 := by unfold rAt; rw [if_neg hbig, if_neg hbad]
      have e3 : rCode s = 0 := by unfold rCode; rw [if_neg hbig, if_neg hbad]
      rw [e1, e2, e3]
      clear e1 e2 e3
      obtain ⟨R, hR⟩ : ∃ R, scanAll s = R := ⟨_, rfl⟩
      rw [hR] at hcall hbad ⊢
      clear hR
      obtain ⟨l, p⟩ := R
      simp only at hcall hbad ⊢
      have hneg : p < 0 := by omega
      clear hbad
      go_enter Tryd.func15, Tryd.ntmps15
      go_wp2_with (go_at_call 39; refine (hcall _).mono ?_; rintro e w1 ⟨v1, rfl, ho1, hb1⟩; obtain ⟨k0, k1, k2, f0, f1, f2, hz1, HB⟩ := box3 hb1; clear hb1 hcall; obtain ⟨ao, cv, hv⟩ := owns_slice' ho1; subst hv)
      refine bodyPost_ret (v := .agg #[.slice ao l.length cv, .int .i64 0, .int .i64 0]) (by simp [results, Tryd.results15, go_sem, k0, k1, k2]) rfl ⟨_, rfl, ?_, ?_⟩
      · have hq : w.heap.size < (w.alloc (.cells #[.slice none 0 0, .int .i64 0, .int .i64 0] 28)).heap.size := by simp
        exact owns_le (ownsRow_setCell_below (ownsRow_setCell_below (ownsRow_setCell_below ho1 hq _) hq _) hq _) (by simp)
      · exact ((HB.out.setCell (Nat.le_refl _) _).setCell (Nat.le_refl _) _).setCell (Nat.le_refl _) _
end Go.Proofs.YtpkhdfddbcpciaaDoor
