/- The contract of the model's CharRight: it returns whether its number is a character, and leaves the world as it was. -/
/- The contract of the model's l01Rune: the character at a place of a text. -/
/- The contract of the model's NameStart: below 128 by tests, else a loop over a slice of ranges. -/
/- The contract of the model's NamePart. -/
/- The contracts of the model's l01Name and NameRight. -/
/- The contract of the model's NameRight. -/
/- The contracts of the model's l05Split and Split. -/
import Derived.Test.YtlfcmlcpdpkibaaDoorProg
import Derived.Test.YtlfcmlcpdpkibaaDoorPlA
import Derived.Test.YtlfcmlcpdpkibaaDoorNmI
import Derived.WalkKit
import Derived.WalkSmall
import Derived.Deep.QuietTactic
import Derived.BigQuiet
import Derived.Test.YtlfcmlcpdpkibaaDoorPlK
import Derived.WalkSpells
import Derived.RegionTactic
import Derived.BigRegion
import Derived.Deep.RegionWith
import Derived.OwnWalk
namespace Go.Proofs.YtlfcmlcpdpkibaaDoor
open Go.RowKit Plain1

theorem l01Is_any (n lo hi : Int) (w : World) :
    Calls Tryd.prog 74 #[.int .i64 n, .int .i64 lo, .int .i64 hi] w fun e w' => e = .returned (.bool (decide (lo ≤ n ∧ n ≤ hi))) ∧ w' = w := by
  go_enter Tryd.func74, Tryd.ntmps74
  go_wp2
  all_goals
    go_ret
    exact ⟨ret_bool (by rw [Bool.eq_iff_iff]; simp at *; omega), rfl⟩

theorem specChar_any (n : Int) (w : World) :
    Calls Tryd.prog 73 #[.int .i64 n] w fun e w' => e = .returned (.bool (charB n)) ∧ w' = w := by
  go_enter Tryd.func73, Tryd.ntmps73
  go_wp2
  all_goals
    go_ret
    exact ⟨ret_bool (by rw [Bool.eq_iff_iff, charB_iff]; simp at *; omega), rfl⟩

end Go.Proofs.YtlfcmlcpdpkibaaDoor

namespace Go.Proofs.YtlfcmlcpdpkibaaDoor
open Go.RowKit Plain1 Strs Plain3

set_option maxHeartbeats 1000000 in
theorem rune_1 (s : ByteArray) (pos : Nat) (b0 : Int) (w : World) (hp : pos < s.size) (hs : s.size ≤ 1048576) (hb : byteAt s pos = b0) (hp0 : 0 ≤ b0) (h1 : b0 < 128) :
    Calls Tryd.prog 64 #[.string s, .int .i64 pos] w fun e w' => e = .returned (.tuple #[.int .i64 (fin s pos (b0) 1 0).1, .int .i64 ((fin s pos (b0) 1 0).2 : Int)]) ∧ w' = w := by
  have HB : Hid (byteAt s pos = b0) := hb
  clear hb
  have hn : ¬ s.size < pos + 1 := by omega
  generalize hf : fin s pos (b0) 1 0 = f
  have HF : Hid (fin s pos (b0) 1 0 = f) := hf
  clear hf
  go_enter Tryd.func64, Tryd.ntmps64
  go_wp2_with (first | (refine wpList_index_byte rfl 9 (.tmp 11) (.tmp 12) rfl s pos _ b0 rfl rfl rfl hp Tryd.underlying9 HB.out ?_) | go_in)
  go_loop [6, 9] (fun c i => ∃ (j : Nat) (x : Int), 1 ≤ j ∧ j ≤ 1 ∧ i = .int .i64 j ∧ c = .int .i64 x ∧ Bd j x ∧ x = vz s pos (b0) (j - 1) ∧ conts s pos j) (fun _ i => 1 - (intOf i).toNat)
  case atStart => exact ⟨1, _, by omega, by omega, rfl, rfl, by unfold Bd; omega, rfl, conts_one _ _⟩
  case round =>
    obtain ⟨j, x, hj1, hj2, rfl, rfl, hx, hv, hc⟩ := hrel
    have HX : Hid (Bd j x) := hx
    have HV : Hid (x = vz s pos (b0) (j - 1)) := hv
    have HC : Hid (conts s pos j) := hc
    have hx0 : 0 ≤ x := hx.1
    have hx1 : x ≤ 33554431 := hx.2.2.2.2
    clear hx hv hc
    · obtain rfl : j = 1 := by omega
      have hv : vz s pos (b0) (1 - 1) = x := HV.out.symm
      by_cases hlow : x < 0
      · go_wp2
        go_ret2
        exact ⟨ret_two (a := (0, 0)) (by rw [← HF.out, fin_low (by omega)]), rfl⟩
      have HV' : Hid (vz s pos (b0) (1 - 1) = x) := hv
      clear hv
      by_cases hch : charB x = true
      · go_wp2_with (first | (go_at_call 73; refine (specChar_any _ _).mono ?_; rintro e w' ⟨rfl, rfl⟩))
        go_ret2
        exact ⟨ret_two (a := (x, 1)) (by rw [← HF.out, fin_good (by omega) HC.out (by rw [HV'.out]; omega) (by rw [HV'.out]; exact hch), HV'.out]), rfl⟩
      · have hch' : charB x = false := by simpa using hch
        clear hch
        go_wp2_with (first | (go_at_call 73; refine (specChar_any _ _).mono ?_; rintro e w' ⟨rfl, rfl⟩))
        go_ret2
        exact ⟨ret_two (a := (0, 0)) (by rw [← HF.out, fin_char (by rw [HV'.out]; exact hch')]), rfl⟩

set_option maxHeartbeats 1000000 in
theorem rune_2 (s : ByteArray) (pos : Nat) (b0 : Int) (w : World) (hp : pos < s.size) (hs : s.size ≤ 1048576) (hb : byteAt s pos = b0) (h0 : 192 ≤ b0) (h1 : b0 < 224) :
    Calls Tryd.prog 64 #[.string s, .int .i64 pos] w fun e w' => e = .returned (.tuple #[.int .i64 (fin s pos (b0 - 192) 2 128).1, .int .i64 ((fin s pos (b0 - 192) 2 128).2 : Int)]) ∧ w' = w := by
  have HB : Hid (byteAt s pos = b0) := hb
  clear hb
  by_cases hn : s.size < pos + 2
  · go_enter Tryd.func64, Tryd.ntmps64
    go_wp2_with (first | (refine wpList_index_byte rfl 9 (.tmp 11) (.tmp 12) rfl s pos _ b0 rfl rfl rfl hp Tryd.underlying9 HB.out ?_) | go_in)
    go_ret2
    exact ⟨ret_two (a := (0, 0)) (fin_short hn).symm, rfl⟩
  generalize hf : fin s pos (b0 - 192) 2 128 = f
  have HF : Hid (fin s pos (b0 - 192) 2 128 = f) := hf
  clear hf
  go_enter Tryd.func64, Tryd.ntmps64
  go_wp2_with (first | (refine wpList_index_byte rfl 9 (.tmp 11) (.tmp 12) rfl s pos _ b0 rfl rfl rfl hp Tryd.underlying9 HB.out ?_) | go_in)
  go_loop [6, 9] (fun c i => ∃ (j : Nat) (x : Int), 1 ≤ j ∧ j ≤ 2 ∧ i = .int .i64 j ∧ c = .int .i64 x ∧ Bd j x ∧ x = vz s pos (b0 - 192) (j - 1) ∧ conts s pos j) (fun _ i => 2 - (intOf i).toNat)
  case atStart => exact ⟨1, _, by omega, by omega, rfl, rfl, by unfold Bd; omega, rfl, conts_one _ _⟩
  case round =>
    obtain ⟨j, x, hj1, hj2, rfl, rfl, hx, hv, hc⟩ := hrel
    have HX : Hid (Bd j x) := hx
    have HV : Hid (x = vz s pos (b0 - 192) (j - 1)) := hv
    have HC : Hid (conts s pos j) := hc
    have hx0 : 0 ≤ x := hx.1
    have hx1 : x ≤ 33554431 := hx.2.2.2.2
    clear hx hv hc
    by_cases hlt : j < 2
    · obtain ⟨bj, hbj⟩ : ∃ b, byteAt s (pos + j) = b := ⟨_, rfl⟩
      have hbd := byteAt_bd s (pos + j)
      rw [hbj] at hbd
      obtain ⟨hbd0, hbd1⟩ := hbd
      have HJ : Hid (byteAt s (pos + j) = bj) := hbj
      clear hbj
      have hpj : pos + j < s.size := by omega
      by_cases hgo : 128 ≤ bj ∧ bj < 192
      · obtain ⟨hg0, hg1⟩ := hgo
        go_wp2_with (first | (refine wpList_index_byte rfl 9 (.tmp 56) (.tmp 59) rfl s (pos + j) _ bj rfl rfl (by omega) hpj Tryd.underlying9 HJ.out ?_) | go_in)
        go_round
        case rel => exact ⟨j + 1, 64 * x + bj - 128, by omega, by omega, by go_num, rfl, Bd_step HX.out hj1 (by omega) hg0 hg1, by rw [vz_step _ _ _ _ hj1, HJ.out, ← HV.out], conts_snoc HC.out (by unfold goesOn; rw [HJ.out]; exact ⟨hg0, hg1⟩)⟩
        case measure => simp [intOf]; omega
      · have hno : ¬ goesOn s (pos + j) := by unfold goesOn; rw [HJ.out]; exact hgo
        have HN : Hid (¬ goesOn s (pos + j)) := hno
        clear hno
        have hgo' : bj < 128 ∨ 192 ≤ bj := by omega
        clear hgo
        rcases hgo' with hg | hg
        all_goals
          go_wp2_with (first | (refine wpList_index_byte rfl 9 (.tmp 56) (.tmp 59) rfl s (pos + j) _ bj rfl rfl (by omega) hpj Tryd.underlying9 HJ.out ?_) | go_in)
          go_ret2
          exact ⟨ret_two (a := (0, 0)) (by rw [← HF.out, fin_cont hj1 hlt HN.out]), rfl⟩
    · obtain rfl : j = 2 := by omega
      have hv : vz s pos (b0 - 192) (2 - 1) = x := HV.out.symm
      by_cases hlow : x < 128
      · go_wp2
        go_ret2
        exact ⟨ret_two (a := (0, 0)) (by rw [← HF.out, fin_low (by omega)]), rfl⟩
      have HV' : Hid (vz s pos (b0 - 192) (2 - 1) = x) := hv
      clear hv
      by_cases hch : charB x = true
      · go_wp2_with (first | (go_at_call 73; refine (specChar_any _ _).mono ?_; rintro e w' ⟨rfl, rfl⟩))
        go_ret2
        exact ⟨ret_two (a := (x, 2)) (by rw [← HF.out, fin_good (by omega) HC.out (by rw [HV'.out]; omega) (by rw [HV'.out]; exact hch), HV'.out]), rfl⟩
      · have hch' : charB x = false := by simpa using hch
        clear hch
        go_wp2_with (first | (go_at_call 73; refine (specChar_any _ _).mono ?_; rintro e w' ⟨rfl, rfl⟩))
        go_ret2
        exact ⟨ret_two (a := (0, 0)) (by rw [← HF.out, fin_char (by rw [HV'.out]; exact hch')]), rfl⟩

set_option maxHeartbeats 1000000 in
theorem rune_3 (s : ByteArray) (pos : Nat) (b0 : Int) (w : World) (hp : pos < s.size) (hs : s.size ≤ 1048576) (hb : byteAt s pos = b0) (h0 : 224 ≤ b0) (h1 : b0 < 240) :
    Calls Tryd.prog 64 #[.string s, .int .i64 pos] w fun e w' => e = .returned (.tuple #[.int .i64 (fin s pos (b0 - 224) 3 2048).1, .int .i64 ((fin s pos (b0 - 224) 3 2048).2 : Int)]) ∧ w' = w := by
  have HB : Hid (byteAt s pos = b0) := hb
  clear hb
  by_cases hn : s.size < pos + 3
  · go_enter Tryd.func64, Tryd.ntmps64
    go_wp2_with (first | (refine wpList_index_byte rfl 9 (.tmp 11) (.tmp 12) rfl s pos _ b0 rfl rfl rfl hp Tryd.underlying9 HB.out ?_) | go_in)
    go_ret2
    exact ⟨ret_two (a := (0, 0)) (fin_short hn).symm, rfl⟩
  generalize hf : fin s pos (b0 - 224) 3 2048 = f
  have HF : Hid (fin s pos (b0 - 224) 3 2048 = f) := hf
  clear hf
  go_enter Tryd.func64, Tryd.ntmps64
  go_wp2_with (first | (refine wpList_index_byte rfl 9 (.tmp 11) (.tmp 12) rfl s pos _ b0 rfl rfl rfl hp Tryd.underlying9 HB.out ?_) | go_in)
  go_loop [6, 9] (fun c i => ∃ (j : Nat) (x : Int), 1 ≤ j ∧ j ≤ 3 ∧ i = .int .i64 j ∧ c = .int .i64 x ∧ Bd j x ∧ x = vz s pos (b0 - 224) (j - 1) ∧ conts s pos j) (fun _ i => 3 - (intOf i).toNat)
  case atStart => exact ⟨1, _, by omega, by omega, rfl, rfl, by unfold Bd; omega, rfl, conts_one _ _⟩
  case round =>
    obtain ⟨j, x, hj1, hj2, rfl, rfl, hx, hv, hc⟩ := hrel
    have HX : Hid (Bd j x) := hx
    have HV : Hid (x = vz s pos (b0 - 224) (j - 1)) := hv
    have HC : Hid (conts s pos j) := hc
    have hx0 : 0 ≤ x := hx.1
    have hx1 : x ≤ 33554431 := hx.2.2.2.2
    clear hx hv hc
    by_cases hlt : j < 3
    · obtain ⟨bj, hbj⟩ : ∃ b, byteAt s (pos + j) = b := ⟨_, rfl⟩
      have hbd := byteAt_bd s (pos + j)
      rw [hbj] at hbd
      obtain ⟨hbd0, hbd1⟩ := hbd
      have HJ : Hid (byteAt s (pos + j) = bj) := hbj
      clear hbj
      have hpj : pos + j < s.size := by omega
      by_cases hgo : 128 ≤ bj ∧ bj < 192
      · obtain ⟨hg0, hg1⟩ := hgo
        go_wp2_with (first | (refine wpList_index_byte rfl 9 (.tmp 56) (.tmp 59) rfl s (pos + j) _ bj rfl rfl (by omega) hpj Tryd.underlying9 HJ.out ?_) | go_in)
        go_round
        case rel => exact ⟨j + 1, 64 * x + bj - 128, by omega, by omega, by go_num, rfl, Bd_step HX.out hj1 (by omega) hg0 hg1, by rw [vz_step _ _ _ _ hj1, HJ.out, ← HV.out], conts_snoc HC.out (by unfold goesOn; rw [HJ.out]; exact ⟨hg0, hg1⟩)⟩
        case measure => simp [intOf]; omega
      · have hno : ¬ goesOn s (pos + j) := by unfold goesOn; rw [HJ.out]; exact hgo
        have HN : Hid (¬ goesOn s (pos + j)) := hno
        clear hno
        have hgo' : bj < 128 ∨ 192 ≤ bj := by omega
        clear hgo
        rcases hgo' with hg | hg
        all_goals
          go_wp2_with (first | (refine wpList_index_byte rfl 9 (.tmp 56) (.tmp 59) rfl s (pos + j) _ bj rfl rfl (by omega) hpj Tryd.underlying9 HJ.out ?_) | go_in)
          go_ret2
          exact ⟨ret_two (a := (0, 0)) (by rw [← HF.out, fin_cont hj1 hlt HN.out]), rfl⟩
    · obtain rfl : j = 3 := by omega
      have hv : vz s pos (b0 - 224) (3 - 1) = x := HV.out.symm
      by_cases hlow : x < 2048
      · go_wp2
        go_ret2
        exact ⟨ret_two (a := (0, 0)) (by rw [← HF.out, fin_low (by omega)]), rfl⟩
      have HV' : Hid (vz s pos (b0 - 224) (3 - 1) = x) := hv
      clear hv
      by_cases hch : charB x = true
      · go_wp2_with (first | (go_at_call 73; refine (specChar_any _ _).mono ?_; rintro e w' ⟨rfl, rfl⟩))
        go_ret2
        exact ⟨ret_two (a := (x, 3)) (by rw [← HF.out, fin_good (by omega) HC.out (by rw [HV'.out]; omega) (by rw [HV'.out]; exact hch), HV'.out]), rfl⟩
      · have hch' : charB x = false := by simpa using hch
        clear hch
        go_wp2_with (first | (go_at_call 73; refine (specChar_any _ _).mono ?_; rintro e w' ⟨rfl, rfl⟩))
        go_ret2
        exact ⟨ret_two (a := (0, 0)) (by rw [← HF.out, fin_char (by rw [HV'.out]; exact hch')]), rfl⟩

set_option maxHeartbeats 1000000 in
theorem rune_4 (s : ByteArray) (pos : Nat) (b0 : Int) (w : World) (hp : pos < s.size) (hs : s.size ≤ 1048576) (hb : byteAt s pos = b0) (h0 : 240 ≤ b0) (h1 : b0 < 248) :
    Calls Tryd.prog 64 #[.string s, .int .i64 pos] w fun e w' => e = .returned (.tuple #[.int .i64 (fin s pos (b0 - 240) 4 65536).1, .int .i64 ((fin s pos (b0 - 240) 4 65536).2 : Int)]) ∧ w' = w := by
  have HB : Hid (byteAt s pos = b0) := hb
  clear hb
  by_cases hn : s.size < pos + 4
  · go_enter Tryd.func64, Tryd.ntmps64
    go_wp2_with (first | (refine wpList_index_byte rfl 9 (.tmp 11) (.tmp 12) rfl s pos _ b0 rfl rfl rfl hp Tryd.underlying9 HB.out ?_) | go_in)
    go_ret2
    exact ⟨ret_two (a := (0, 0)) (fin_short hn).symm, rfl⟩
  generalize hf : fin s pos (b0 - 240) 4 65536 = f
  have HF : Hid (fin s pos (b0 - 240) 4 65536 = f) := hf
  clear hf
  go_enter Tryd.func64, Tryd.ntmps64
  go_wp2_with (first | (refine wpList_index_byte rfl 9 (.tmp 11) (.tmp 12) rfl s pos _ b0 rfl rfl rfl hp Tryd.underlying9 HB.out ?_) | go_in)
  go_loop [6, 9] (fun c i => ∃ (j : Nat) (x : Int), 1 ≤ j ∧ j ≤ 4 ∧ i = .int .i64 j ∧ c = .int .i64 x ∧ Bd j x ∧ x = vz s pos (b0 - 240) (j - 1) ∧ conts s pos j) (fun _ i => 4 - (intOf i).toNat)
  case atStart => exact ⟨1, _, by omega, by omega, rfl, rfl, by unfold Bd; omega, rfl, conts_one _ _⟩
  case round =>
    obtain ⟨j, x, hj1, hj2, rfl, rfl, hx, hv, hc⟩ := hrel
    have HX : Hid (Bd j x) := hx
    have HV : Hid (x = vz s pos (b0 - 240) (j - 1)) := hv
    have HC : Hid (conts s pos j) := hc
    have hx0 : 0 ≤ x := hx.1
    have hx1 : x ≤ 33554431 := hx.2.2.2.2
    clear hx hv hc
    by_cases hlt : j < 4
    · obtain ⟨bj, hbj⟩ : ∃ b, byteAt s (pos + j) = b := ⟨_, rfl⟩
      have hbd := byteAt_bd s (pos + j)
      rw [hbj] at hbd
      obtain ⟨hbd0, hbd1⟩ := hbd
      have HJ : Hid (byteAt s (pos + j) = bj) := hbj
      clear hbj
      have hpj : pos + j < s.size := by omega
      by_cases hgo : 128 ≤ bj ∧ bj < 192
      · obtain ⟨hg0, hg1⟩ := hgo
        go_wp2_with (first | (refine wpList_index_byte rfl 9 (.tmp 56) (.tmp 59) rfl s (pos + j) _ bj rfl rfl (by omega) hpj Tryd.underlying9 HJ.out ?_) | go_in)
        go_round
        case rel => exact ⟨j + 1, 64 * x + bj - 128, by omega, by omega, by go_num, rfl, Bd_step HX.out hj1 (by omega) hg0 hg1, by rw [vz_step _ _ _ _ hj1, HJ.out, ← HV.out], conts_snoc HC.out (by unfold goesOn; rw [HJ.out]; exact ⟨hg0, hg1⟩)⟩
        case measure => simp [intOf]; omega
      · have hno : ¬ goesOn s (pos + j) := by unfold goesOn; rw [HJ.out]; exact hgo
        have HN : Hid (¬ goesOn s (pos + j)) := hno
        clear hno
        have hgo' : bj < 128 ∨ 192 ≤ bj := by omega
        clear hgo
        rcases hgo' with hg | hg
        all_goals
          go_wp2_with (first | (refine wpList_index_byte rfl 9 (.tmp 56) (.tmp 59) rfl s (pos + j) _ bj rfl rfl (by omega) hpj Tryd.underlying9 HJ.out ?_) | go_in)
          go_ret2
          exact ⟨ret_two (a := (0, 0)) (by rw [← HF.out, fin_cont hj1 hlt HN.out]), rfl⟩
    · obtain rfl : j = 4 := by omega
      have hv : vz s pos (b0 - 240) (4 - 1) = x := HV.out.symm
      by_cases hlow : x < 65536
      · go_wp2
        go_ret2
        exact ⟨ret_two (a := (0, 0)) (by rw [← HF.out, fin_low (by omega)]), rfl⟩
      have HV' : Hid (vz s pos (b0 - 240) (4 - 1) = x) := hv
      clear hv
      by_cases hch : charB x = true
      · go_wp2_with (first | (go_at_call 73; refine (specChar_any _ _).mono ?_; rintro e w' ⟨rfl, rfl⟩))
        go_ret2
        exact ⟨ret_two (a := (x, 4)) (by rw [← HF.out, fin_good (by omega) HC.out (by rw [HV'.out]; omega) (by rw [HV'.out]; exact hch), HV'.out]), rfl⟩
      · have hch' : charB x = false := by simpa using hch
        clear hch
        go_wp2_with (first | (go_at_call 73; refine (specChar_any _ _).mono ?_; rintro e w' ⟨rfl, rfl⟩))
        go_ret2
        exact ⟨ret_two (a := (0, 0)) (by rw [← HF.out, fin_char (by rw [HV'.out]; exact hch')]), rfl⟩

set_option maxHeartbeats 1000000 in
theorem rune_none (s : ByteArray) (pos : Nat) (b0 : Int) (w : World) (hp : pos < s.size) (hb : byteAt s pos = b0) (hb1 : b0 ≤ 255) (h : (128 ≤ b0 ∧ b0 < 192) ∨ 248 ≤ b0) :
    Calls Tryd.prog 64 #[.string s, .int .i64 pos] w fun e w' => e = .returned (.tuple #[.int .i64 0, .int .i64 0]) ∧ w' = w := by
  have HB : Hid (byteAt s pos = b0) := hb
  clear hb
  rcases h with ⟨h0, h1⟩ | h0
  all_goals
    go_enter Tryd.func64, Tryd.ntmps64
    go_wp2_with (first | (refine wpList_index_byte rfl 9 (.tmp 11) (.tmp 12) rfl s pos _ b0 rfl rfl rfl hp Tryd.underlying9 HB.out ?_) | go_in)
    go_ret2
    exact ⟨rfl, rfl⟩

theorem rune_any (s : ByteArray) (pos : Nat) (w : World) (hp : pos < s.size) (hs : s.size ≤ 1048576) :
    Calls Tryd.prog 64 #[.string s, .int .i64 pos] w fun e w' => e = .returned (.tuple #[.int .i64 (runeZ s pos).1, .int .i64 ((runeZ s pos).2 : Int)]) ∧ w' = w := by
  have hbd := byteAt_bd s pos
  unfold runeZ
  by_cases c1 : byteAt s pos < 128
  · rw [if_pos c1]; exact rune_1 s pos _ w hp hs rfl hbd.1 c1
  rw [if_neg c1]
  by_cases c2 : 192 ≤ byteAt s pos ∧ byteAt s pos < 224
  · rw [if_pos c2]; exact rune_2 s pos _ w hp hs rfl c2.1 c2.2
  rw [if_neg c2]
  by_cases c3 : 224 ≤ byteAt s pos ∧ byteAt s pos < 240
  · rw [if_pos c3]; exact rune_3 s pos _ w hp hs rfl c3.1 c3.2
  rw [if_neg c3]
  by_cases c4 : 240 ≤ byteAt s pos ∧ byteAt s pos < 248
  · rw [if_pos c4]; exact rune_4 s pos _ w hp hs rfl c4.1 c4.2
  rw [if_neg c4]
  exact rune_none s pos _ w hp rfl hbd.2 (by omega)
end Go.Proofs.YtlfcmlcpdpkibaaDoor

namespace Go.Proofs.YtlfcmlcpdpkibaaDoor
open Go.RowKit Plain1 Plain2

theorem specStart_low (n : Int) (w : World) (h : n < 128) :
    Calls Tryd.prog 65 #[.int .i64 n] w fun e w' => e = .returned (.bool (startB n)) ∧ Below w.heap.size w w' := by
  rw [startB_low h]
  go_enter Tryd.func65, Tryd.ntmps65
  go_wp2
  all_goals
    go_ret
    exact ⟨ret_bool (by apply Bool.eq_iff_iff.2; simp at *; try omega), Below.refl _ _⟩

theorem modelCell (j : Nat) (hj : j < 24) : (#[.int .i64 192, .int .i64 214, .int .i64 216, .int .i64 246, .int .i64 248, .int .i64 767, .int .i64 880, .int .i64 893, .int .i64 895, .int .i64 8191, .int .i64 8204, .int .i64 8205, .int .i64 8304, .int .i64 8591, .int .i64 11264, .int .i64 12271, .int .i64 12289, .int .i64 55295, .int .i64 63744, .int .i64 64975, .int .i64 65008, .int .i64 65533, .int .i64 65536, .int .i64 983039] : Array Value)[j]? = some (.int .i64 (modelL.getD j 0)) := by
  have e : (#[.int .i64 192, .int .i64 214, .int .i64 216, .int .i64 246, .int .i64 248, .int .i64 767, .int .i64 880, .int .i64 893, .int .i64 895, .int .i64 8191, .int .i64 8204, .int .i64 8205, .int .i64 8304, .int .i64 8591, .int .i64 11264, .int .i64 12271, .int .i64 12289, .int .i64 55295, .int .i64 63744, .int .i64 64975, .int .i64 65008, .int .i64 65533, .int .i64 65536, .int .i64 983039] : Array Value) = (modelL.map (Value.int .i64)).toArray := rfl
  rw [e]
  have hl : j < modelL.length := hj
  simp [List.getD, hl]
theorem modelPair (k : Nat) (hk : k < 12) : modelL.getD (2 * k) 0 = loOf modelP k ∧ modelL.getD (2 * k + 1) 0 = hiOf modelP k := by
  have h : k = 0 ∨ k = 1 ∨ k = 2 ∨ k = 3 ∨ k = 4 ∨ k = 5 ∨ k = 6 ∨ k = 7 ∨ k = 8 ∨ k = 9 ∨ k = 10 ∨ k = 11 := by omega
  rcases h with rfl | rfl | rfl | rfl | rfl | rfl | rfl | rfl | rfl | rfl | rfl | rfl <;> exact ⟨rfl, rfl⟩

theorem specStart_high (n : Int) (w : World) (h : 128 ≤ n) :
    Calls Tryd.prog 65 #[.int .i64 n] w fun e w' => e = .returned (.bool (startB n)) ∧ Below w.heap.size w w' := by
  rw [startB_high h]
  go_enter Tryd.func65, Tryd.ntmps65
  go_wp2
  go_loopw [4] (fun i wr => ∃ k : Nat, k ≤ 12 ∧ i = .int .i64 ((2 * k : Nat) : Int) ∧ inTo modelP k n = false ∧ Below w.heap.size w wr ∧ ∀ j, j < 24 → wr.cell? ⟨w.heap.size, j, none⟩ = some (.int .i64 (modelL.getD j 0))) (fun i _ => 24 - (intOf i).toNat)
  case atStart =>
    refine ⟨0, Nat.zero_le _, rfl, inTo_zero _ _, (Below.refl _ _).alloc (Nat.le_refl _) _, fun j hj => ?_⟩
    rw [World.cell?_alloc_new]
    exact modelCell j hj
  case round =>
    obtain ⟨k, hk, rfl, hno, hb, hc⟩ := hrel
    by_cases hlt : k < 12
    · have c0 := hc (2 * k) (by omega)
      have c1 := hc (2 * k + 1) (by omega)
      rw [(modelPair k hlt).1] at c0
      rw [(modelPair k hlt).2] at c1
      have HC : Hid (∀ j, j < 24 → wr.cell? ⟨w.heap.size, j, none⟩ = some (.int .i64 (modelL.getD j 0))) := hc
      clear hc
      have hsn := inTo_succ modelP k n (by simpa [modelP, startsL] using hlt)
      rw [hno, Bool.false_or] at hsn
      have HS : Hid (inTo modelP (k + 1) n = decide (loOf modelP k ≤ n ∧ n ≤ hiOf modelP k)) := hsn
      clear hsn hno
      have HB : Hid (Below w.heap.size w wr) := hb
      clear hb
      go_wp2_with fail
      go_quiet ((go_at_call 74; exact Calls.quiet_of_same (l01Is_any _ _ _ _)))
      go_wp2
      · have hin : loOf modelP k ≤ n ∧ n ≤ hiOf modelP k := by assumption
        go_ret
        exact ⟨ret_bool (inTo_mono (l := modelP) (k := k + 1) (by rw [HS.out]; exact decide_eq_true hin)).symm, below_drewN HB.out _⟩
      · have hin : ¬ (loOf modelP k ≤ n ∧ n ≤ hiOf modelP k) := by assumption
        go_roundw
        case rel => exact ⟨k + 1, by omega, by go_num, by rw [HS.out]; exact decide_eq_false hin, below_drewN HB.out _, fun j hj => HC.out j hj⟩
        case measure => simp [intOf]; omega
    · have : k = 12 := by omega
      subst this
      clear hc
      go_wp2
      go_ret
      exact ⟨ret_bool hno.symm, hb⟩

theorem specStart_any (n : Int) (w : World) :
    Calls Tryd.prog 65 #[.int .i64 n] w fun e w' => e = .returned (.bool (startB n)) ∧ Below w.heap.size w w' := by
  by_cases h : n < 128
  · exact specStart_low n w h
  · exact specStart_high n w (by omega)
end Go.Proofs.YtlfcmlcpdpkibaaDoor

namespace Go.Proofs.YtlfcmlcpdpkibaaDoor
open Go.RowKit Plain1 Plain2

theorem specPart_any (n : Int) (w : World) :
    Calls Tryd.prog 66 #[.int .i64 n] w fun e w' => e = .returned (.bool (partB n)) ∧ Below w.heap.size w w' := by
  by_cases hs : startB n = true
  · go_enter Tryd.func66, Tryd.ntmps66
    go_wp2_with (first | (go_at_call 65; refine (specStart_any _ _).mono ?_; rintro e w1 ⟨rfl, hb1⟩) | go_in)
    go_ret
    exact ⟨ret_bool (by rw [partB_eq, hs]; rfl), hb1⟩
  · have hs' : startB n = false := by simpa using hs
    clear hs
    go_enter Tryd.func66, Tryd.ntmps66
    go_wp2_with (first | (go_at_call 65; refine (specStart_any _ _).mono ?_; rintro e w1 ⟨rfl, hb1⟩) | go_in)
    all_goals
      go_ret
      exact ⟨ret_bool (by rw [partB_eq, hs']; apply Bool.eq_iff_iff.2; simp at *; try omega), by assumption⟩
end Go.Proofs.YtlfcmlcpdpkibaaDoor

namespace Go.Proofs.YtlfcmlcpdpkibaaDoor
open Go.RowKit Plain1 Plain2 Strs Plain3 Plain5 Plain6

theorem mkHidN {p : Prop} (h : p) : Hid p := h

set_option maxHeartbeats 1000000 in
theorem l01Name_any (s : ByteArray) (p : Nat) (w : World) (hs : s.size ≤ 1048576) (hp : p ≤ s.size) :
    Calls Tryd.prog 57 #[.string s, .int .i64 p] w fun e w' => e = .returned (.int .i64 (nameZ s p : Int)) ∧ Below w.heap.size w w' := by
  obtain ⟨R, hR⟩ : ∃ R, nameZ s p = R := ⟨_, rfl⟩
  rw [hR]
  have HR : Hid (nameGo s p (s.size + 1) 0 = R) := hR
  clear hR
  go_enter Tryd.func57, Tryd.ntmps57
  go_wp2
  go_loopw [5] (fun i wr => ∃ (f n : Nat), p + n ≤ s.size ∧ i = .int .i64 n ∧ nameGo s p f n = R ∧ s.size < n + f ∧ Below w.heap.size w wr) (fun i _ => s.size - (intOf i).toNat)
  case atStart => exact ⟨s.size + 1, 0, by omega, rfl, HR.out, by omega, Below.refl _ _⟩
  case round =>
    obtain ⟨f, n, hn, rfl, hgo, hf, hb⟩ := hrel
    have HS : Hid (nameGo s p f n = R) := hgo
    have HB : Hid (Below w.heap.size w wr) := hb
    clear hgo hb
    by_cases hlt : p + n < s.size
    · obtain ⟨f', rfl⟩ : ∃ f', f = f' + 1 := ⟨f - 1, by omega⟩
      have hcall := rune_any s (p + n) wr hlt hs
      obtain ⟨r, hr⟩ : ∃ r, runeZ s (p + n) = r := ⟨_, rfl⟩
      rw [hr] at hcall
      obtain ⟨c, k⟩ := r
      simp only at hcall
      rw [show ((p + n : Nat) : Int) = (p : Int) + (n : Int) by omega] at hcall
      have hst : stops s p n ↔ (k = 0 ∨ (n = 0 ∧ startB c = false) ∨ partB c = false) := by unfold stops; rw [hr]
      by_cases hstop : stops s p n
      · have hR2 := nameGo_stop (f := f') hlt hstop
        rw [HS.out] at hR2
        replace hR2 := hR2.symm
        subst hR2
        have hcase := hst.1 hstop
        clear hst hstop hr HS HR
        by_cases hk : k = 0
        · subst hk
          go_wp2_with (first | (go_at_call 64; refine hcall.mono ?_; rintro e w' ⟨rfl, rfl⟩) | (go_at_call 65; refine (specStart_any _ _).mono ?_; rintro e w2 ⟨rfl, hb2⟩; replace hb2 := mkHidN hb2) | (go_at_call 66; refine (specPart_any _ _).mono ?_; rintro e w3 ⟨rfl, hb3⟩; replace hb3 := mkHidN hb3))
          go_ret
          exact ⟨rfl, HB.out⟩
        have hk' : ((k : Int) == 0) = false := by simp; omega
        by_cases h0 : n = 0
        · subst h0
          cases hsb : startB c with
          | false =>
            go_wp2_with (first | (go_at_call 64; refine hcall.mono ?_; rintro e w' ⟨rfl, rfl⟩) | (go_at_call 65; refine (specStart_any _ _).mono ?_; rintro e w2 ⟨rfl, hb2⟩; replace hb2 := mkHidN hb2) | (go_at_call 66; refine (specPart_any _ _).mono ?_; rintro e w3 ⟨rfl, hb3⟩; replace hb3 := mkHidN hb3))
            go_ret
            exact ⟨rfl, HB.out.trans (hb2.out.mono HB.out.size)⟩
          | true =>
            have hpb : partB c = false := by
              rcases hcase with h | ⟨_, h⟩ | h
              · exact absurd h hk
              · rw [hsb] at h; cases h
              · exact h
            go_wp2_with (first | (go_at_call 64; refine hcall.mono ?_; rintro e w' ⟨rfl, rfl⟩) | (go_at_call 65; refine (specStart_any _ _).mono ?_; rintro e w2 ⟨rfl, hb2⟩; replace hb2 := mkHidN hb2) | (go_at_call 66; refine (specPart_any _ _).mono ?_; rintro e w3 ⟨rfl, hb3⟩; replace hb3 := mkHidN hb3))
            go_ret
            exact ⟨rfl, (HB.out.trans (hb2.out.mono HB.out.size)).trans (hb3.out.mono (HB.out.trans (hb2.out.mono HB.out.size)).size)⟩
        · have h0' : ((n : Int) == 0) = false := by simp; omega
          have hpb : partB c = false := by
            rcases hcase with h | ⟨h, _⟩ | h
            · exact absurd h hk
            · exact absurd h h0
            · exact h
          go_wp2_with (first | (go_at_call 64; refine hcall.mono ?_; rintro e w' ⟨rfl, rfl⟩) | (go_at_call 65; refine (specStart_any _ _).mono ?_; rintro e w2 ⟨rfl, hb2⟩; replace hb2 := mkHidN hb2) | (go_at_call 66; refine (specPart_any _ _).mono ?_; rintro e w3 ⟨rfl, hb3⟩; replace hb3 := mkHidN hb3))
          go_ret
          exact ⟨rfl, HB.out.trans (hb3.out.mono HB.out.size)⟩
      · have hR2 := nameGo_on (f := f') hlt hstop
        have hk : (runeZ s (p + n)).2 ≠ 0 := by rw [hr]; intro h; exact hstop (hst.2 (.inl h))
        have hle := rune_le hk
        rw [HS.out, hr] at hR2
        rw [hr] at hle hk
        simp only at hR2 hle hk
        have HG : Hid (R = nameGo s p f' (n + k)) := hR2
        have hpart : partB c = true := by
          cases h : partB c with
          | true => rfl
          | false => exact absurd (hst.2 (.inr (.inr h))) hstop
        have hstart : n = 0 → startB c = true := by
          intro h0
          cases h : startB c with
          | true => rfl
          | false => exact absurd (hst.2 (.inr (.inl ⟨h0, h⟩))) hstop
        have hk' : ((k : Int) == 0) = false := by simp; omega
        clear hst hstop hR2 hr
        by_cases h0 : n = 0
        · subst h0
          have hs1 := hstart rfl
          clear hstart
          go_wp2_with (first | (go_at_call 64; refine hcall.mono ?_; rintro e w' ⟨rfl, rfl⟩) | (go_at_call 65; refine (specStart_any _ _).mono ?_; rintro e w2 ⟨rfl, hb2⟩; replace hb2 := mkHidN hb2) | (go_at_call 66; refine (specPart_any _ _).mono ?_; rintro e w3 ⟨rfl, hb3⟩; replace hb3 := mkHidN hb3))
          go_roundw
          case rel => exact ⟨f', k, by omega, by go_num, by rw [HG.out, Nat.zero_add], by omega, (HB.out.trans (hb2.out.mono HB.out.size)).trans (hb3.out.mono (HB.out.trans (hb2.out.mono HB.out.size)).size)⟩
          case measure => simp [intOf]; omega
        · have h0' : ((n : Int) == 0) = false := by simp; omega
          clear hstart
          go_wp2_with (first | (go_at_call 64; refine hcall.mono ?_; rintro e w' ⟨rfl, rfl⟩) | (go_at_call 65; refine (specStart_any _ _).mono ?_; rintro e w2 ⟨rfl, hb2⟩; replace hb2 := mkHidN hb2) | (go_at_call 66; refine (specPart_any _ _).mono ?_; rintro e w3 ⟨rfl, hb3⟩; replace hb3 := mkHidN hb3))
          go_roundw
          case rel => exact ⟨f', n + k, by omega, by go_num, HG.out.symm, by omega, HB.out.trans (hb3.out.mono HB.out.size)⟩
          case measure => simp [intOf]; omega
    · have he := nameGo_end (f := f) (show s.size ≤ p + n by omega)
      rw [HS.out] at he
      subst he
      go_wp2
      go_ret
      exact ⟨rfl, HB.out⟩
end Go.Proofs.YtlfcmlcpdpkibaaDoor

namespace Go.Proofs.YtlfcmlcpdpkibaaDoor
open Go.RowKit Plain1 Plain2 Strs Plain3 Plain5 Plain6

theorem specName_any (s : ByteArray) (w : World) :
    Calls Tryd.prog 52 #[.string s] w fun e w' => e = .returned (.bool (nameB s)) ∧ Below w.heap.size w w' := by
  by_cases h1 : s.size < 1
  · rw [nameB_empty h1]
    go_enter Tryd.func52, Tryd.ntmps52
    go_wp2_with fail
    go_ret
    exact ⟨rfl, Below.refl _ _⟩
  by_cases h2 : 60 < s.size
  · rw [nameB_long h2]
    go_enter Tryd.func52, Tryd.ntmps52
    go_wp2_with fail
    go_ret
    exact ⟨rfl, Below.refl _ _⟩
  rw [nameB_spec (by omega) (by omega)]
  have hcall := l01Name_any s 0 w (by omega) (by omega)
  obtain ⟨R, hR⟩ : ∃ R, nameZ s 0 = R := ⟨_, rfl⟩
  rw [hR] at hcall ⊢
  clear hR
  go_enter Tryd.func52, Tryd.ntmps52
  go_wp2_with (go_at_call 57; refine hcall.mono ?_; rintro e w1 ⟨rfl, hb1⟩)
  go_ret
  refine ⟨ret_bool ?_, hb1⟩
  apply Bool.eq_iff_iff.2
  simp
  try omega
end Go.Proofs.YtlfcmlcpdpkibaaDoor

namespace Go.Proofs.YtlfcmlcpdpkibaaDoor
open Go.RowKit Plain1 Plain2 Strs Strs2 Lists Plain3 Plain5 Plain6 Plain9 Plain10 Plain11 Plain12 Plain13 PlainS

theorem mkHidM {p : Prop} (h : p) : Hid p := h
theorem below_drewM {w w' : World} (h : Below w.drew.heap.size w.drew w') : Below w.heap.size w w' := ⟨h.os, h.tape, h.output, h.size, h.block⟩
/-- What the search's end leaves to be asked. -/
def splFin (s : ByteArray) : Option Int → ByteArray × ByteArray × Bool
  | none => (⟨#[]⟩, ⟨#[]⟩, false)
  | some k => if k < 0 then (⟨#[]⟩, s, nameB s) else (s.extract 0 k.toNat, s.extract (k.toNat + 1) s.size, nameB (s.extract 0 k.toNat) && nameB (s.extract (k.toNat + 1) s.size))
theorem spl_fin (s : ByteArray) : splitZ s = splFin s (colZ s) := by unfold splitZ splFin; cases colZ s <;> rfl

set_option maxHeartbeats 2000000 in
theorem l05Split_any (s : ByteArray) (w : World) (hs : s.size ≤ 1048576) :
    Calls Tryd.prog 39 #[.string s] w fun e w' => e = .returned (.tuple #[.string (splitZ s).1, .string (splitZ s).2.1, .bool (splitZ s).2.2]) ∧ Below w.heap.size w w' := by
  rw [spl_fin]
  obtain ⟨R, hR⟩ : ∃ R, colZ s = R := ⟨_, rfl⟩
  rw [hR]
  have HR := mkHidM hR
  obtain ⟨Z, hZ⟩ : ∃ Z, splFin s R = Z := ⟨_, rfl⟩
  rw [hZ]
  have HZ := mkHidM hZ
  clear hR hZ
  go_enter Tryd.func39, Tryd.ntmps39
  go_wp2
  go_loop [5, 6] (fun kv iv => ∃ (f i : Nat) (k : Int), kv = .int .i64 k ∧ iv = .int .i64 i ∧ i ≤ s.size ∧ splGo s f i k = R ∧ s.size < i + f ∧ -1 ≤ k ∧ k < s.size) (fun _ iv => s.size - (intOf iv).toNat)
  case atStart => exact ⟨s.size + 1, 0, -1, rfl, rfl, Nat.zero_le _, HR.out, by omega, by omega, by omega⟩
  case round =>
    obtain ⟨f, i, k, rfl, rfl, hi, hgo, hf, hk1, hk2⟩ := hrel
    have HG := mkHidM hgo
    clear hgo
    by_cases hlt : i < s.size
    · obtain ⟨f', rfl⟩ : ∃ f', f = f' + 1 := ⟨f - 1, by omega⟩
      obtain ⟨d, hd⟩ : ∃ d, byteAt s i = d := ⟨_, rfl⟩
      have hix : ∀ wx, (Instr.index 9 (.string s) (.int .i64 (i : Int))).run Tryd.prog wx = .ok (.int .u8 d) wx := fun wx => by rw [run_index_byte wx 9 s i (by omega) Tryd.underlying9, hd]
      have HD := mkHidM hd
      clear hd
      by_cases h58 : d = 58
      · subst h58
        by_cases hk : 0 ≤ k
        · have hR : R = none := by rw [← HG.out]; exact spl_two hlt HD.out hk
          have hZ2 : Z = (⟨#[]⟩, ⟨#[]⟩, false) := by rw [← HZ.out, hR]; rfl
          subst hZ2
          clear hR
          go_wp2
          refine bodyPost_ret (v := .tuple #[.string ⟨#[]⟩, .string ⟨#[]⟩, .bool false]) (by simp [results, Tryd.results39, go_sem]) rfl ?_
          exact ⟨rfl, Below.refl _ _⟩
        · have hR : splGo s f' (i + 1) i = R := by rw [← HG.out]; exact (spl_one hlt HD.out hk).symm
          have HR2 := mkHidM hR
          clear hR
          go_wp2
          go_round
          case rel => exact ⟨f', i + 1, i, rfl, by go_num, by omega, HR2.out, by omega, by omega, by omega⟩
          case measure => simp [intOf]; omega
      · have hR : splGo s f' (i + 1) k = R := by rw [← HG.out]; exact (spl_on hlt (by rw [HD.out]; exact h58)).symm
        have HR2 := mkHidM hR
        clear hR
        go_wp2
        go_round
        case rel => exact ⟨f', i + 1, k, rfl, by go_num, by omega, HR2.out, by omega, by omega, by omega⟩
        case measure => simp [intOf]; omega
    · have hR : R = some k := by rw [← HG.out]; exact spl_end hlt
      by_cases hk : k < 0
      · have hF : Z = (⟨#[]⟩, s, nameB s) := by rw [← HZ.out, hR]; unfold splFin; simp only; rw [if_pos hk]
        subst hF
        clear hR
        have hn := fun wx => specName_any s wx
        go_wp2_with (go_at_call 52; refine (hn _).mono ?_; rintro e w1 ⟨rfl, hb1⟩)
        refine bodyPost_ret (v := .tuple #[.string ⟨#[]⟩, .string s, .bool (nameB s)]) (by simp [results, Tryd.results39, go_sem]) rfl ?_
        exact ⟨rfl, hb1⟩
      · obtain ⟨j, rfl⟩ : ∃ j : Nat, k = (j : Int) := ⟨k.toNat, by omega⟩
        have hF : Z = (s.extract 0 j, s.extract (j + 1) s.size, nameB (s.extract 0 j) && nameB (s.extract (j + 1) s.size)) := by
          rw [← HZ.out, hR]; unfold splFin; simp only; rw [if_neg hk, Int.toNat_natCast]
        have hj : j < s.size := by omega
        have hw1 : IntKind.i64.wrap ((j : Int) + 1) = (j : Int) + 1 := wrapSm (by omega) (by omega)
        have hsl1 : ∀ wx, (Instr.slice 9 (.string s) none (some (.int .i64 (j : Int))) none).run Tryd.prog wx = .ok (.string (s.extract 0 j)) wx := fun wx => sub_to wx _ s j _ rfl (by omega) Tryd.underlying9
        have hsl2 : ∀ wx, (Instr.slice 9 (.string s) (some (.int .i64 ((j : Int) + 1))) none none).run Tryd.prog wx = .ok (.string (s.extract (j + 1) s.size)) wx := fun wx => sub_from wx _ s (j + 1) _ (by omega) (by omega) Tryd.underlying9
        obtain ⟨X, hX⟩ : ∃ X, s.extract 0 j = X := ⟨_, rfl⟩
        obtain ⟨Y, hY⟩ : ∃ Y, s.extract (j + 1) s.size = Y := ⟨_, rfl⟩
        rw [hX] at hsl1 hF
        rw [hY] at hsl2 hF
        subst hF
        have hn1 := fun wx => specName_any X wx
        have hn2 := fun wx => specName_any Y wx
        clear hX hY hR
        cases hbX : nameB X with
        | false =>
          rw [hbX] at hn1
          go_wp2_with fail
          refine wp_region_any (by kernel_rfl) ?_
          (try (change wpAny _ _ _ _ _ _ _ (World.drew _)))
          refine wpAny_take (i := 0) (v := .string s) rfl (by kernel_rfl) (by kernel_rfl) (by kernel_rfl) (fun _ _ _ h => h) (Or.inl ⟨by rfl, by intro wx; go_simp⟩) ?_
          dsimp [Act.put]
          refine wpAny_take (i := 1) (v := .int .i64 (j : Int)) rfl (by kernel_rfl) (by kernel_rfl) (by kernel_rfl) (fun _ _ _ h => h) (Or.inl ⟨by rfl, by intro wx; go_simp⟩) ?_
          dsimp [Act.put]
          refine wpAny_take (i := 2) (v := .string X) rfl (by kernel_rfl) (by kernel_rfl) (by kernel_rfl) (fun _ _ _ h => h) (Or.inl ⟨by rfl, by intro wx; go_simp⟩) ?_
          dsimp [Act.put]
          refine wpAny_take (i := 3) (v := .string s) rfl (by kernel_rfl) (by kernel_rfl) (by kernel_rfl) (fun _ _ _ h => h) (Or.inl ⟨by rfl, by intro wx; go_simp⟩) ?_
          dsimp [Act.put]
          refine wpAny_take (i := 4) (v := .int .i64 (j : Int)) rfl (by kernel_rfl) (by kernel_rfl) (by kernel_rfl) (fun _ _ _ h => h) (Or.inl ⟨by rfl, by intro wx; go_simp⟩) ?_
          dsimp [Act.put]
          refine wpAny_take (i := 5) (v := .int .i64 ((j : Int) + 1)) rfl (by kernel_rfl) (by kernel_rfl) (by kernel_rfl) (fun _ _ _ h => h) (Or.inl ⟨by rfl, by intro wx; go_simp⟩) ?_
          dsimp [Act.put]
          refine wpAny_take (i := 6) (v := .string Y) rfl (by kernel_rfl) (by kernel_rfl) (by kernel_rfl) (fun _ _ _ h => h) (Or.inl ⟨by rfl, by intro wx; go_simp⟩) ?_
          dsimp [Act.put]
          refine wpAny_take (i := 7) (v := .string s) rfl (by kernel_rfl) (by kernel_rfl) (by kernel_rfl) (fun _ _ _ h => h) (Or.inl ⟨by rfl, by intro wx; go_simp⟩) ?_
          dsimp [Act.put]
          refine wpAny_take (i := 8) (v := .int .i64 (j : Int)) rfl (by kernel_rfl) (by kernel_rfl) (by kernel_rfl) (fun _ _ _ h => h) (Or.inl ⟨by rfl, by intro wx; go_simp⟩) ?_
          dsimp [Act.put]
          refine wpAny_take (i := 9) (v := .string X) rfl (by kernel_rfl) (by kernel_rfl) (by kernel_rfl) (fun _ _ _ h => h) (Or.inl ⟨by rfl, by intro wx; go_simp⟩) ?_
          dsimp [Act.put]
          refine wpAny_ready (rs := [10]) (by kernel_rfl) (by simp) ?_
          refine AllReady.cons rfl (fun K hK => ?_) AllReady.nil
          go_simp
          go_wp2_with (go_at_call 52; refine (hn1 _).mono ?_; rintro e w1 ⟨rfl, hb1⟩)
          (first | (refine hK _ _ ?_; clear hK K) | skip)
          refine wpAny_take (i := 11) (v := .bool false) rfl (by kernel_rfl) (by kernel_rfl) (by kernel_rfl) (fun _ _ _ h => h) (Or.inl ⟨by rfl, by intro wx; go_simp⟩) ?_
          dsimp [Act.put]
          refine wpAny_take (i := 12) (v := undef) rfl (by kernel_rfl) (by kernel_rfl) (by kernel_rfl) (fun _ _ _ h => h) (Or.inr ⟨by rfl, rfl⟩) ?_
          dsimp [Act.put]
          refine wpAny_take (i := 13) (v := undef) rfl (by kernel_rfl) (by kernel_rfl) (by kernel_rfl) (fun _ _ _ h => h) (Or.inr ⟨by rfl, rfl⟩) ?_
          dsimp [Act.put]
          refine wpAny_take (i := 14) (v := undef) rfl (by kernel_rfl) (by kernel_rfl) (by kernel_rfl) (fun _ _ _ h => h) (Or.inr ⟨by rfl, rfl⟩) ?_
          dsimp [Act.put]
          refine wpAny_take (i := 15) (v := undef) rfl (by kernel_rfl) (by kernel_rfl) (by kernel_rfl) (fun _ _ _ h => h) (Or.inr ⟨by rfl, rfl⟩) ?_
          dsimp [Act.put]
          refine wpAny_take (i := 16) (v := undef) rfl (by kernel_rfl) (by kernel_rfl) (by kernel_rfl) (fun _ _ _ h => h) (Or.inr ⟨by rfl, rfl⟩) ?_
          dsimp [Act.put]
          refine wpAny_take (i := 17) (v := .bool false) rfl (by kernel_rfl) (by kernel_rfl) (by kernel_rfl) (fun _ _ _ h => h) (Or.inl ⟨by rfl, by intro wx; go_simp⟩) ?_
          dsimp [Act.put]
          refine wpAny_take (i := 18) (v := .string X) rfl (by kernel_rfl) (by kernel_rfl) (by kernel_rfl) (fun _ _ _ h => h) (Or.inl ⟨by rfl, by intro wx; go_simp⟩) ?_
          dsimp [Act.put]
          refine wpAny_take (i := 19) (v := .string Y) rfl (by kernel_rfl) (by kernel_rfl) (by kernel_rfl) (fun _ _ _ h => h) (Or.inl ⟨by rfl, by intro wx; go_simp⟩) ?_
          dsimp [Act.put]
          refine wpAny_take (i := 20) (v := .bool false) rfl (by kernel_rfl) (by kernel_rfl) (by kernel_rfl) (fun _ _ _ h => h) (Or.inl ⟨by rfl, by intro wx; go_simp⟩) ?_
          dsimp [Act.put]
          refine wpAny_done (by kernel_rfl) ?_ _
          go_wp2
          go_ret3
          exact ⟨rfl, below_drewM hb1⟩
        | true =>
          rw [hbX] at hn1
          go_wp2_with fail
          refine wp_region_any (by kernel_rfl) ?_
          (try (change wpAny _ _ _ _ _ _ _ (World.drew _)))
          refine wpAny_take (i := 0) (v := .string s) rfl (by kernel_rfl) (by kernel_rfl) (by kernel_rfl) (fun _ _ _ h => h) (Or.inl ⟨by rfl, by intro wx; go_simp⟩) ?_
          dsimp [Act.put]
          refine wpAny_take (i := 1) (v := .int .i64 (j : Int)) rfl (by kernel_rfl) (by kernel_rfl) (by kernel_rfl) (fun _ _ _ h => h) (Or.inl ⟨by rfl, by intro wx; go_simp⟩) ?_
          dsimp [Act.put]
          refine wpAny_take (i := 2) (v := .string X) rfl (by kernel_rfl) (by kernel_rfl) (by kernel_rfl) (fun _ _ _ h => h) (Or.inl ⟨by rfl, by intro wx; go_simp⟩) ?_
          dsimp [Act.put]
          refine wpAny_take (i := 3) (v := .string s) rfl (by kernel_rfl) (by kernel_rfl) (by kernel_rfl) (fun _ _ _ h => h) (Or.inl ⟨by rfl, by intro wx; go_simp⟩) ?_
          dsimp [Act.put]
          refine wpAny_take (i := 4) (v := .int .i64 (j : Int)) rfl (by kernel_rfl) (by kernel_rfl) (by kernel_rfl) (fun _ _ _ h => h) (Or.inl ⟨by rfl, by intro wx; go_simp⟩) ?_
          dsimp [Act.put]
          refine wpAny_take (i := 5) (v := .int .i64 ((j : Int) + 1)) rfl (by kernel_rfl) (by kernel_rfl) (by kernel_rfl) (fun _ _ _ h => h) (Or.inl ⟨by rfl, by intro wx; go_simp⟩) ?_
          dsimp [Act.put]
          refine wpAny_take (i := 6) (v := .string Y) rfl (by kernel_rfl) (by kernel_rfl) (by kernel_rfl) (fun _ _ _ h => h) (Or.inl ⟨by rfl, by intro wx; go_simp⟩) ?_
          dsimp [Act.put]
          refine wpAny_take (i := 7) (v := .string s) rfl (by kernel_rfl) (by kernel_rfl) (by kernel_rfl) (fun _ _ _ h => h) (Or.inl ⟨by rfl, by intro wx; go_simp⟩) ?_
          dsimp [Act.put]
          refine wpAny_take (i := 8) (v := .int .i64 (j : Int)) rfl (by kernel_rfl) (by kernel_rfl) (by kernel_rfl) (fun _ _ _ h => h) (Or.inl ⟨by rfl, by intro wx; go_simp⟩) ?_
          dsimp [Act.put]
          refine wpAny_take (i := 9) (v := .string X) rfl (by kernel_rfl) (by kernel_rfl) (by kernel_rfl) (fun _ _ _ h => h) (Or.inl ⟨by rfl, by intro wx; go_simp⟩) ?_
          dsimp [Act.put]
          refine wpAny_ready (rs := [10]) (by kernel_rfl) (by simp) ?_
          refine AllReady.cons rfl (fun K hK => ?_) AllReady.nil
          go_simp
          go_wp2_with (go_at_call 52; refine (hn1 _).mono ?_; rintro e w1 ⟨rfl, hb1⟩)
          (first | (refine hK _ _ ?_; clear hK K) | skip)
          refine wpAny_take (i := 11) (v := .bool true) rfl (by kernel_rfl) (by kernel_rfl) (by kernel_rfl) (fun _ _ _ h => h) (Or.inl ⟨by rfl, by intro wx; go_simp⟩) ?_
          dsimp [Act.put]
          refine wpAny_take (i := 12) (v := .string s) rfl (by kernel_rfl) (by kernel_rfl) (by kernel_rfl) (fun _ _ _ h => h) (Or.inl ⟨by rfl, by intro wx; go_simp⟩) ?_
          dsimp [Act.put]
          refine wpAny_take (i := 13) (v := .int .i64 (j : Int)) rfl (by kernel_rfl) (by kernel_rfl) (by kernel_rfl) (fun _ _ _ h => h) (Or.inl ⟨by rfl, by intro wx; go_simp⟩) ?_
          dsimp [Act.put]
          refine wpAny_take (i := 14) (v := .int .i64 ((j : Int) + 1)) rfl (by kernel_rfl) (by kernel_rfl) (by kernel_rfl) (fun _ _ _ h => h) (Or.inl ⟨by rfl, by intro wx; go_simp⟩) ?_
          dsimp [Act.put]
          refine wpAny_take (i := 15) (v := .string Y) rfl (by kernel_rfl) (by kernel_rfl) (by kernel_rfl) (fun _ _ _ h => h) (Or.inl ⟨by rfl, by intro wx; go_simp⟩) ?_
          dsimp [Act.put]
          refine wpAny_ready (rs := [16]) (by kernel_rfl) (by simp) ?_
          refine AllReady.cons rfl (fun K hK => ?_) AllReady.nil
          go_simp
          go_wp2_with (go_at_call 52; refine (hn2 _).mono ?_; rintro e w2 ⟨rfl, hb2⟩)
          (first | (refine hK _ _ ?_; clear hK K) | skip)
          refine wpAny_take (i := 17) (v := .bool (nameB Y)) rfl (by kernel_rfl) (by kernel_rfl) (by kernel_rfl) (fun _ _ _ h => h) (Or.inl ⟨by rfl, by intro wx; go_simp⟩) ?_
          dsimp [Act.put]
          refine wpAny_take (i := 18) (v := .string X) rfl (by kernel_rfl) (by kernel_rfl) (by kernel_rfl) (fun _ _ _ h => h) (Or.inl ⟨by rfl, by intro wx; go_simp⟩) ?_
          dsimp [Act.put]
          refine wpAny_take (i := 19) (v := .string Y) rfl (by kernel_rfl) (by kernel_rfl) (by kernel_rfl) (fun _ _ _ h => h) (Or.inl ⟨by rfl, by intro wx; go_simp⟩) ?_
          dsimp [Act.put]
          refine wpAny_take (i := 20) (v := .bool (nameB Y)) rfl (by kernel_rfl) (by kernel_rfl) (by kernel_rfl) (fun _ _ _ h => h) (Or.inl ⟨by rfl, by intro wx; go_simp⟩) ?_
          dsimp [Act.put]
          refine wpAny_done (by kernel_rfl) ?_ _
          go_wp2
          go_ret3
          exact ⟨by simp, below_drewM (hb1.trans (hb2.mono hb1.size))⟩
end Go.Proofs.YtlfcmlcpdpkibaaDoor
