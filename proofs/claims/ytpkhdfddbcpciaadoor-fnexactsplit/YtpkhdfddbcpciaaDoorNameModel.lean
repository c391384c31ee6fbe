/- The contracts of the model's l01Name and NameRight. -/
import Derived.Test.YtpkhdfddbcpciaaDoorRuneModel
import Derived.Test.YtpkhdfddbcpciaaDoorPartsModel
import Derived.Test.YtpkhdfddbcpciaaDoorPlain6
import Derived.WalkKit
namespace Go.Proofs.YtpkhdfddbcpciaaDoor
open Go.RowKit Plain1 Plain2 Strs Plain3 Plain5 Plain6

theorem mkHidN {p : Prop} (h : p) : Hid p := h

set_option maxHeartbeats 1000000 in
theorem l01Name_any (s : ByteArray) (p : Nat) (w : World) (hs : s.size ≤ 1048576) (hp : p ≤ s.size) :
    Calls Tryd.prog 44 #[.string s, .int .i64 p] w fun e w' => e = .returned (.int .i64 (nameZ s p : Int)) ∧ Below w.heap.size w w' := by
  obtain ⟨R, hR⟩ : ∃ R, nameZ s p = R := ⟨_, rfl⟩
  rw [hR]
  have HR : Hid (nameGo s p (s.size + 1) 0 = R) := hR
  clear hR
  go_enter Tryd.func44, Tryd.ntmps44
  go_wp2
  go_loopw [5] (fun i wr => ∃ (f n : Nat), p + n ≤ s.size ∧ i = .int .i64 n ∧ nameGo s p f n = R ∧ s.size < n + f ∧ Below w.heap.size w wr) (fun i _ => s.size - (intOf i).toNat)
  case atStart => exact ⟨s.size + 1, 0, by omega, rfl, HR.out, by omega, Below.refl _ _⟩
  case round =>
    obtain ⟨f, n, hn, rfl, hgo, hf, hb⟩ := hrel
    have HS : Hid (nameGo s p f n = R) := hgo
    have HB : Hid (Below w.heap.size w wr) := hb
    clear hgo hb
    by_cases hlt : p + n < s.size
    · obtain ⟨f', rfl⟩ : ∃ f', f = f' + 1 := ⟨f - 1, by omega⟩
      have hcall := rune_any s (p + n) wr hlt hs
      obtain ⟨r, hr⟩ : ∃ r, runeZ s (p + n) = r := ⟨_, rfl⟩
      rw [hr] at hcall
      obtain ⟨c, k⟩ := r
      simp only at hcall
      rw [show ((p + n : Nat) : Int) = (p : Int) + (n : Int) by omega] at hcall
      have hst : stops s p n ↔ (k = 0 ∨ (n = 0 ∧ startB c = false) ∨ partB c = false) := by unfold stops; rw [hr]
      by_cases hstop : stops s p n
      · have hR2 := nameGo_stop (f := f') hlt hstop
        rw [HS.out] at hR2
        replace hR2 := hR2.symm
        subst hR2
        have hcase := hst.1 hstop
        clear hst hstop hr HS HR
        by_cases hk : k = 0
        · subst hk
          go_wp2_with (first | (go_at_call 51; refine hcall.mono ?_; rintro e w' ⟨rfl, rfl⟩) | (go_at_call 23; refine (specStart_any _ _).mono ?_; rintro e w2 ⟨rfl, hb2⟩; replace hb2 := mkHidN hb2) | (go_at_call 25; refine (specPart_any _ _).mono ?_; rintro e w3 ⟨rfl, hb3⟩; replace hb3 := mkHidN hb3))
          go_ret
          exact ⟨rfl, HB.out⟩
        have hk' : ((k : Int) == 0) = false := by simp; omega
        by_cases h0 : n = 0
        · subst h0
          cases hsb : startB c with
          | false =>
            go_wp2_with (first | (go_at_call 51; refine hcall.mono ?_; rintro e w' ⟨rfl, rfl⟩) | (go_at_call 23; refine (specStart_any _ _).mono ?_; rintro e w2 ⟨rfl, hb2⟩; replace hb2 := mkHidN hb2) | (go_at_call 25; refine (specPart_any _ _).mono ?_; rintro e w3 ⟨rfl, hb3⟩; replace hb3 := mkHidN hb3))
            go_ret
            exact ⟨rfl, HB.out.trans (hb2.out.mono HB.out.size)⟩
          | true =>
            have hpb : partB c = false := by
              rcases hcase with h | ⟨_, h⟩ | h
              · exact absurd h hk
              · rw [hsb] at h; cases h
              · exact h
            go_wp2_with (first | (go_at_call 51; refine hcall.mono ?_; rintro e w' ⟨rfl, rfl⟩) | (go_at_call 23; refine (specStart_any _ _).mono ?_; rintro e w2 ⟨rfl, hb2⟩; replace hb2 := mkHidN hb2) | (go_at_call 25; refine (specPart_any _ _).mono ?_; rintro e w3 ⟨rfl, hb3⟩; replace hb3 := mkHidN hb3))
            go_ret
            exact ⟨rfl, (HB.out.trans (hb2.out.mono HB.out.size)).trans (hb3.out.mono (HB.out.trans (hb2.out.mono HB.out.size)).size)⟩
        · have h0' : ((n : Int) == 0) = false := by simp; omega
          have hpb : partB c = false := by
            rcases hcase with h | ⟨h, _⟩ | h
            · exact absurd h hk
            · exact absurd h h0
            · exact h
          go_wp2_with (first | (go_at_call 51; refine hcall.mono ?_; rintro e w' ⟨rfl, rfl⟩) | (go_at_call 23; refine (specStart_any _ _).mono ?_; rintro e w2 ⟨rfl, hb2⟩; replace hb2 := mkHidN hb2) | (go_at_call 25; refine (specPart_any _ _).mono ?_; rintro e w3 ⟨rfl, hb3⟩; replace hb3 := mkHidN hb3))
          go_ret
          exact ⟨rfl, HB.out.trans (hb3.out.mono HB.out.size)⟩
      · have hR2 := nameGo_on (f := f') hlt hstop
        have hk : (runeZ s (p + n)).2 ≠ 0 := by rw [hr]; intro h; exact hstop (hst.2 (.inl h))
        have hle := rune_le hk
        rw [HS.out, hr] at hR2
        rw [hr] at hle hk
        simp only at hR2 hle hk
        have HG : Hid (R = nameGo s p f' (n + k)) := hR2
        have hpart : partB c = true := by
          cases h : partB c with
          | true => rfl
          | false => exact absurd (hst.2 (.inr (.inr h))) hstop
        have hstart : n = 0 → startB c = true := by
          intro h0
          cases h : startB c with
          | true => rfl
          | false => exact absurd (hst.2 (.inr (.inl ⟨h0, h⟩))) hstop
        have hk' : ((k : Int) == 0) = false := by simp; omega
        clear hst hstop hR2 hr
        by_cases h0 : n = 0
        · subst h0
          have hs1 := hstart rfl
          clear hstart
          go_wp2_with (first | (go_at_call 51; refine hcall.mono ?_; rintro e w' ⟨rfl, rfl⟩) | (go_at_call 23; refine (specStart_any _ _).mono ?_; rintro e w2 ⟨rfl, hb2⟩; replace hb2 := mkHidN hb2) | (go_at_call 25; refine (specPart_any _ _).mono ?_; rintro e w3 ⟨rfl, hb3⟩; replace hb3 := mkHidN hb3))
          go_roundw
          case rel => exact ⟨f', k, by omega, by go_num, by rw [HG.out, Nat.zero_add], by omega, (HB.out.trans (hb2.out.mono HB.out.size)).trans (hb3.out.mono (HB.out.trans (hb2.out.mono HB.out.size)).size)⟩
          case measure => simp [intOf]; omega
        · have h0' : ((n : Int) == 0) = false := by simp; omega
          clear hstart
          go_wp2_with (first | (go_at_call 51; refine hcall.mono ?_; rintro e w' ⟨rfl, rfl⟩) | (go_at_call 23; refine (specStart_any _ _).mono ?_; rintro e w2 ⟨rfl, hb2⟩; replace hb2 := mkHidN hb2) | (go_at_call 25; refine (specPart_any _ _).mono ?_; rintro e w3 ⟨rfl, hb3⟩; replace hb3 := mkHidN hb3))
          go_roundw
          case rel => exact ⟨f', n + k, by omega, by go_num, HG.out.symm, by omega, HB.out.trans (hb3.out.mono HB.out.size)⟩
          case measure => simp [intOf]; omega
    · have he := nameGo_end (f := f) (show s.size ≤ p + n by omega)
      rw [HS.out] at he
      subst he
      go_wp2
      go_ret
      exact ⟨rfl, HB.out⟩
end Go.Proofs.YtpkhdfddbcpciaaDoor
