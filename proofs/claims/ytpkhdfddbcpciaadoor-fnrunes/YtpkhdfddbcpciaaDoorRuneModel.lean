/- The contract of the model's l01Rune: the character at a place of a text. -/
import Derived.Test.YtpkhdfddbcpciaaDoorChars
import Derived.Test.YtpkhdfddbcpciaaDoorPlain3
import Derived.WalkKit
namespace Go.Proofs.YtpkhdfddbcpciaaDoor
open Go.RowKit Plain1 Strs Plain3

set_option maxHeartbeats 1000000 in
theorem rune_1 (s : ByteArray) (pos : Nat) (b0 : Int) (w : World) (hp : pos < s.size) (hs : s.size ≤ 1048576) (hb : byteAt s pos = b0) (hp0 : 0 ≤ b0) (h1 : b0 < 128) :
    Calls Tryd.prog 51 #[.string s, .int .i64 pos] w fun e w' => e = .returned (.tuple #[.int .i64 (fin s pos (b0) 1 0).1, .int .i64 ((fin s pos (b0) 1 0).2 : Int)]) ∧ w' = w := by
  have HB : Hid (byteAt s pos = b0) := hb
  clear hb
  have hn : ¬ s.size < pos + 1 := by omega
  generalize hf : fin s pos (b0) 1 0 = f
  have HF : Hid (fin s pos (b0) 1 0 = f) := hf
  clear hf
  go_enter Tryd.func51, Tryd.ntmps51
  go_wp2_with (first | (refine wpList_index_byte rfl 9 (.tmp 11) (.tmp 12) rfl s pos _ b0 rfl rfl rfl hp Tryd.underlying9 HB.out ?_) | go_in)
  go_loop [6, 9] (fun c i => ∃ (j : Nat) (x : Int), 1 ≤ j ∧ j ≤ 1 ∧ i = .int .i64 j ∧ c = .int .i64 x ∧ Bd j x ∧ x = vz s pos (b0) (j - 1) ∧ conts s pos j) (fun _ i => 1 - (intOf i).toNat)
  case atStart => exact ⟨1, _, by omega, by omega, rfl, rfl, by unfold Bd; omega, rfl, conts_one _ _⟩
  case round =>
    obtain ⟨j, x, hj1, hj2, rfl, rfl, hx, hv, hc⟩ := hrel
    have HX : Hid (Bd j x) := hx
    have HV : Hid (x = vz s pos (b0) (j - 1)) := hv
    have HC : Hid (conts s pos j) := hc
    have hx0 : 0 ≤ x := hx.1
    have hx1 : x ≤ 33554431 := hx.2.2.2.2
    clear hx hv hc
    · obtain rfl : j = 1 := by omega
      have hv : vz s pos (b0) (1 - 1) = x := HV.out.symm
      by_cases hlow : x < 0
      · go_wp2
        go_ret2
        exact ⟨ret_two (a := (0, 0)) (by rw [← HF.out, fin_low (by omega)]), rfl⟩
      have HV' : Hid (vz s pos (b0) (1 - 1) = x) := hv
      clear hv
      by_cases hch : charB x = true
      · go_wp2_with (first | (go_at_call 21; refine (specChar_any _ _).mono ?_; rintro e w' ⟨rfl, rfl⟩))
        go_ret2
        exact ⟨ret_two (a := (x, 1)) (by rw [← HF.out, fin_good (by omega) HC.out (by rw [HV'.out]; omega) (by rw [HV'.out]; exact hch), HV'.out]), rfl⟩
      · have hch' : charB x = false := by simpa using hch
        clear hch
        go_wp2_with (first | (go_at_call 21; refine (specChar_any _ _).mono ?_; rintro e w' ⟨rfl, rfl⟩))
        go_ret2
        exact ⟨ret_two (a := (0, 0)) (by rw [← HF.out, fin_char (by rw [HV'.out]; exact hch')]), rfl⟩

set_option maxHeartbeats 1000000 in
theorem rune_2 (s : ByteArray) (pos : Nat) (b0 : Int) (w : World) (hp : pos < s.size) (hs : s.size ≤ 1048576) (hb : byteAt s pos = b0) (h0 : 192 ≤ b0) (h1 : b0 < 224) :
    Calls Tryd.prog 51 #[.string s, .int .i64 pos] w fun e w' => e = .returned (.tuple #[.int .i64 (fin s pos (b0 - 192) 2 128).1, .int .i64 ((fin s pos (b0 - 192) 2 128).2 : Int)]) ∧ w' = w := by
  have HB : Hid (byteAt s pos = b0) := hb
  clear hb
  by_cases hn : s.size < pos + 2
  · go_enter Tryd.func51, Tryd.ntmps51
    go_wp2_with (first | (refine wpList_index_byte rfl 9 (.tmp 11) (.tmp 12) rfl s pos _ b0 rfl rfl rfl hp Tryd.underlying9 HB.out ?_) | go_in)
    go_ret2
    exact ⟨ret_two (a := (0, 0)) (fin_short hn).symm, rfl⟩
  generalize hf : fin s pos (b0 - 192) 2 128 = f
  have HF : Hid (fin s pos (b0 - 192) 2 128 = f) := hf
  clear hf
  go_enter Tryd.func51, Tryd.ntmps51
  go_wp2_with (first | (refine wpList_index_byte rfl 9 (.tmp 11) (.tmp 12) rfl s pos _ b0 rfl rfl rfl hp Tryd.underlying9 HB.out ?_) | go_in)
  go_loop [6, 9] (fun c i => ∃ (j : Nat) (x : Int), 1 ≤ j ∧ j ≤ 2 ∧ i = .int .i64 j ∧ c = .int .i64 x ∧ Bd j x ∧ x = vz s pos (b0 - 192) (j - 1) ∧ conts s pos j) (fun _ i => 2 - (intOf i).toNat)
  case atStart => exact ⟨1, _, by omega, by omega, rfl, rfl, by unfold Bd; omega, rfl, conts_one _ _⟩
  case round =>
    obtain ⟨j, x, hj1, hj2, rfl, rfl, hx, hv, hc⟩ := hrel
    have HX : Hid (Bd j x) := hx
    have HV : Hid (x = vz s pos (b0 - 192) (j - 1)) := hv
    have HC : Hid (conts s pos j) := hc
    have hx0 : 0 ≤ x := hx.1
    have hx1 : x ≤ 33554431 := hx.2.2.2.2
    clear hx hv hc
    by_cases hlt : j < 2
    · obtain ⟨bj, hbj⟩ : ∃ b, byteAt s (pos + j) = b := ⟨_, rfl⟩
      have hbd := byteAt_bd s (pos + j)
      rw [hbj] at hbd
      obtain ⟨hbd0, hbd1⟩ := hbd
      have HJ : Hid (byteAt s (pos + j) = bj) := hbj
      clear hbj
      have hpj : pos + j < s.size := by omega
      by_cases hgo : 128 ≤ bj ∧ bj < 192
      · obtain ⟨hg0, hg1⟩ := hgo
        go_wp2_with (first | (refine wpList_index_byte rfl 9 (.tmp 56) (.tmp 59) rfl s (pos + j) _ bj rfl rfl (by omega) hpj Tryd.underlying9 HJ.out ?_) | go_in)
        go_round
        case rel => exact ⟨j + 1, 64 * x + bj - 128, by omega, by omega, by go_num, rfl, Bd_step HX.out hj1 (by omega) hg0 hg1, by rw [vz_step _ _ _ _ hj1, HJ.out, ← HV.out], conts_snoc HC.out (by unfold goesOn; rw [HJ.out]; exact ⟨hg0, hg1⟩)⟩
        case measure => simp [intOf]; omega
      · have hno : ¬ goesOn s (pos + j) := by unfold goesOn; rw [HJ.out]; exact hgo
        have HN : Hid (¬ goesOn s (pos + j)) := hno
        clear hno
        have hgo' : bj < 128 ∨ 192 ≤ bj := by omega
        clear hgo
        rcases hgo' with hg | hg
        all_goals
          go_wp2_with (first | (refine wpList_index_byte rfl 9 (.tmp 56) (.tmp 59) rfl s (pos + j) _ bj rfl rfl (by omega) hpj Tryd.underlying9 HJ.out ?_) | go_in)
          go_ret2
          exact ⟨ret_two (a := (0, 0)) (by rw [← HF.out, fin_cont hj1 hlt HN.out]), rfl⟩
    · obtain rfl : j = 2 := by omega
      have hv : vz s pos (b0 - 192) (2 - 1) = x := HV.out.symm
      by_cases hlow : x < 128
      · go_wp2
        go_ret2
        exact ⟨ret_two (a := (0, 0)) (by rw [← HF.out, fin_low (by omega)]), rfl⟩
      have HV' : Hid (vz s pos (b0 - 192) (2 - 1) = x) := hv
      clear hv
      by_cases hch : charB x = true
      · go_wp2_with (first | (go_at_call 21; refine (specChar_any _ _).mono ?_; rintro e w' ⟨rfl, rfl⟩))
        go_ret2
        exact ⟨ret_two (a := (x, 2)) (by rw [← HF.out, fin_good (by omega) HC.out (by rw [HV'.out]; omega) (by rw [HV'.out]; exact hch), HV'.out]), rfl⟩
      · have hch' : charB x = false := by simpa using hch
        clear hch
        go_wp2_with (first | (go_at_call 21; refine (specChar_any _ _).mono ?_; rintro e w' ⟨rfl, rfl⟩))
        go_ret2
        exact ⟨ret_two (a := (0, 0)) (by rw [← HF.out, fin_char (by rw [HV'.out]; exact hch')]), rfl⟩

set_option maxHeartbeats 1000000 in
theorem rune_3 (s : ByteArray) (pos : Nat) (b0 : Int) (w : World) (hp : pos < s.size) (hs : s.size ≤ 1048576) (hb : byteAt s pos = b0) (h0 : 224 ≤ b0) (h1 : b0 < 240) :
    Calls Tryd.prog 51 #[.string s, .int .i64 pos] w fun e w' => e = .returned (.tuple #[.int .i64 (fin s pos (b0 - 224) 3 2048).1, .int .i64 ((fin s pos (b0 - 224) 3 2048).2 : Int)]) ∧ w' = w := by
  have HB : Hid (byteAt s pos = b0) := hb
  clear hb
  by_cases hn : s.size < pos + 3
  · go_enter Tryd.func51, Tryd.ntmps51
    go_wp2_with (first | (refine wpList_index_byte rfl 9 (.tmp 11) (.tmp 12) rfl s pos _ b0 rfl rfl rfl hp Tryd.underlying9 HB.out ?_) | go_in)
    go_ret2
    exact ⟨ret_two (a := (0, 0)) (fin_short hn).symm, rfl⟩
  generalize hf : fin s pos (b0 - 224) 3 2048 = f
  have HF : Hid (fin s pos (b0 - 224) 3 2048 = f) := hf
  clear hf
  go_enter Tryd.func51, Tryd.ntmps51
  go_wp2_with (first | (refine wpList_index_byte rfl 9 (.tmp 11) (.tmp 12) rfl s pos _ b0 rfl rfl rfl hp Tryd.underlying9 HB.out ?_) | go_in)
  go_loop [6, 9] (fun c i => ∃ (j : Nat) (x : Int), 1 ≤ j ∧ j ≤ 3 ∧ i = .int .i64 j ∧ c = .int .i64 x ∧ Bd j x ∧ x = vz s pos (b0 - 224) (j - 1) ∧ conts s pos j) (fun _ i => 3 - (intOf i).toNat)
  case atStart => exact ⟨1, _, by omega, by omega, rfl, rfl, by unfold Bd; omega, rfl, conts_one _ _⟩
  case round =>
    obtain ⟨j, x, hj1, hj2, rfl, rfl, hx, hv, hc⟩ := hrel
    have HX : Hid (Bd j x) := hx
    have HV : Hid (x = vz s pos (b0 - 224) (j - 1)) := hv
    have HC : Hid (conts s pos j) := hc
    have hx0 : 0 ≤ x := hx.1
    have hx1 : x ≤ 33554431 := hx.2.2.2.2
    clear hx hv hc
    by_cases hlt : j < 3
    · obtain ⟨bj, hbj⟩ : ∃ b, byteAt s (pos + j) = b := ⟨_, rfl⟩
      have hbd := byteAt_bd s (pos + j)
      rw [hbj] at hbd
      obtain ⟨hbd0, hbd1⟩ := hbd
      have HJ : Hid (byteAt s (pos + j) = bj) := hbj
      clear hbj
      have hpj : pos + j < s.size := by omega
      by_cases hgo : 128 ≤ bj ∧ bj < 192
      · obtain ⟨hg0, hg1⟩ := hgo
        go_wp2_with (first | (refine wpList_index_byte rfl 9 (.tmp 56) (.tmp 59) rfl s (pos + j) _ bj rfl rfl (by omega) hpj Tryd.underlying9 HJ.out ?_) | go_in)
        go_round
        case rel => exact ⟨j + 1, 64 * x + bj - 128, by omega, by omega, by go_num, rfl, Bd_step HX.out hj1 (by omega) hg0 hg1, by rw [vz_step _ _ _ _ hj1, HJ.out, ← HV.out], conts_snoc HC.out (by unfold goesOn; rw [HJ.out]; exact ⟨hg0, hg1⟩)⟩
        case measure => simp [intOf]; omega
      · have hno : ¬ goesOn s (pos + j) := by unfold goesOn; rw [HJ.out]; exact hgo
        have HN : Hid (¬ goesOn s (pos + j)) := hno
        clear hno
        have hgo' : bj < 128 ∨ 192 ≤ bj := by omega
        clear hgo
        rcases hgo' with hg | hg
        all_goals
          go_wp2_with (first | (refine wpList_index_byte rfl 9 (.tmp 56) (.tmp 59) rfl s (pos + j) _ bj rfl rfl (by omega) hpj Tryd.underlying9 HJ.out ?_) | go_in)
          go_ret2
          exact ⟨ret_two (a := (0, 0)) (by rw [← HF.out, fin_cont hj1 hlt HN.out]), rfl⟩
    · obtain rfl : j = 3 := by omega
      have hv : vz s pos (b0 - 224) (3 - 1) = x := HV.out.symm
      by_cases hlow : x < 2048
      · go_wp2
        go_ret2
        exact ⟨ret_two (a := (0, 0)) (by rw [← HF.out, fin_low (by omega)]), rfl⟩
      have HV' : Hid (vz s pos (b0 - 224) (3 - 1) = x) := hv
      clear hv
      by_cases hch : charB x = true
      · go_wp2_with (first | (go_at_call 21; refine (specChar_any _ _).mono ?_; rintro e w' ⟨rfl, rfl⟩))
        go_ret2
        exact ⟨ret_two (a := (x, 3)) (by rw [← HF.out, fin_good (by omega) HC.out (by rw [HV'.out]; omega) (by rw [HV'.out]; exact hch), HV'.out]), rfl⟩
      · have hch' : charB x = false := by simpa using hch
        clear hch
        go_wp2_with (first | (go_at_call 21; refine (specChar_any _ _).mono ?_; rintro e w' ⟨rfl, rfl⟩))
        go_ret2
        exact ⟨ret_two (a := (0, 0)) (by rw [← HF.out, fin_char (by rw [HV'.out]; exact hch')]), rfl⟩

set_option maxHeartbeats 1000000 in
theorem rune_4 (s : ByteArray) (pos : Nat) (b0 : Int) (w : World) (hp : pos < s.size) (hs : s.size ≤ 1048576) (hb : byteAt s pos = b0) (h0 : 240 ≤ b0) (h1 : b0 < 248) :
    Calls Tryd.prog 51 #[.string s, .int .i64 pos] w fun e w' => e = .returned (.tuple #[.int .i64 (fin s pos (b0 - 240) 4 65536).1, .int .i64 ((fin s pos (b0 - 240) 4 65536).2 : Int)]) ∧ w' = w := by
  have HB : Hid (byteAt s pos = b0) := hb
  clear hb
  by_cases hn : s.size < pos + 4
  · go_enter Tryd.func51, Tryd.ntmps51
    go_wp2_with (first | (refine wpList_index_byte rfl 9 (.tmp 11) (.tmp 12) rfl s pos _ b0 rfl rfl rfl hp Tryd.underlying9 HB.out ?_) | go_in)
    go_ret2
    exact ⟨ret_two (a := (0, 0)) (fin_short hn).symm, rfl⟩
  generalize hf : fin s pos (b0 - 240) 4 65536 = f
  have HF : Hid (fin s pos (b0 - 240) 4 65536 = f) := hf
  clear hf
  go_enter Tryd.func51, Tryd.ntmps51
  go_wp2_with (first | (refine wpList_index_byte rfl 9 (.tmp 11) (.tmp 12) rfl s pos _ b0 rfl rfl rfl hp Tryd.underlying9 HB.out ?_) | go_in)
  go_loop [6, 9] (fun c i => ∃ (j : Nat) (x : Int), 1 ≤ j ∧ j ≤ 4 ∧ i = .int .i64 j ∧ c = .int .i64 x ∧ Bd j x ∧ x = vz s pos (b0 - 240) (j - 1) ∧ conts s pos j) (fun _ i => 4 - (intOf i).toNat)
  case atStart => exact ⟨1, _, by omega, by omega, rfl, rfl, by unfold Bd; omega, rfl, conts_one _ _⟩
  case round =>
    obtain ⟨j, x, hj1, hj2, rfl, rfl, hx, hv, hc⟩ := hrel
    have HX : Hid (Bd j x) := hx
    have HV : Hid (x = vz s pos (b0 - 240) (j - 1)) := hv
    have HC : Hid (conts s pos j) := hc
    have hx0 : 0 ≤ x := hx.1
    have hx1 : x ≤ 33554431 := hx.2.2.2.2
    clear hx hv hc
    by_cases hlt : j < 4
    · obtain ⟨bj, hbj⟩ : ∃ b, byteAt s (pos + j) = b := ⟨_, rfl⟩
      have hbd := byteAt_bd s (pos + j)
      rw [hbj] at hbd
      obtain ⟨hbd0, hbd1⟩ := hbd
      have HJ : Hid (byteAt s (pos + j) = bj) := hbj
      clear hbj
      have hpj : pos + j < s.size := by omega
      by_cases hgo : 128 ≤ bj ∧ bj < 192
      · obtain ⟨hg0, hg1⟩ := hgo
        go_wp2_with (first | (refine wpList_index_byte rfl 9 (.tmp 56) (.tmp 59) rfl s (pos + j) _ bj rfl rfl (by omega) hpj Tryd.underlying9 HJ.out ?_) | go_in)
        go_round
        case rel => exact ⟨j + 1, 64 * x + bj - 128, by omega, by omega, by go_num, rfl, Bd_step HX.out hj1 (by omega) hg0 hg1, by rw [vz_step _ _ _ _ hj1, HJ.out, ← HV.out], conts_snoc HC.out (by unfold goesOn; rw [HJ.out]; exact ⟨hg0, hg1⟩)⟩
        case measure => simp [intOf]; omega
      · have hno : ¬ goesOn s (pos + j) := by unfold goesOn; rw [HJ.out]; exact hgo
        have HN : Hid (¬ goesOn s (pos + j)) := hno
        clear hno
        have hgo' : bj < 128 ∨ 192 ≤ bj := by omega
        clear hgo
        rcases hgo' with hg | hg
        all_goals
          go_wp2_with (first | (refine wpList_index_byte rfl 9 (.tmp 56) (.tmp 59) rfl s (pos + j) _ bj rfl rfl (by omega) hpj Tryd.underlying9 HJ.out ?_) | go_in)
          go_ret2
          exact ⟨ret_two (a := (0, 0)) (by rw [← HF.out, fin_cont hj1 hlt HN.out]), rfl⟩
    · obtain rfl : j = 4 := by omega
      have hv : vz s pos (b0 - 240) (4 - 1) = x := HV.out.symm
      by_cases hlow : x < 65536
      · go_wp2
        go_ret2
        exact ⟨ret_two (a := (0, 0)) (by rw [← HF.out, fin_low (by omega)]), rfl⟩
      have HV' : Hid (vz s pos (b0 - 240) (4 - 1) = x) := hv
      clear hv
      by_cases hch : charB x = true
      · go_wp2_with (first | (go_at_call 21; refine (specChar_any _ _).mono ?_; rintro e w' ⟨rfl, rfl⟩))
        go_ret2
        exact ⟨ret_two (a := (x, 4)) (by rw [← HF.out, fin_good (by omega) HC.out (by rw [HV'.out]; omega) (by rw [HV'.out]; exact hch), HV'.out]), rfl⟩
      · have hch' : charB x = false := by simpa using hch
        clear hch
        go_wp2_with (first | (go_at_call 21; refine (specChar_any _ _).mono ?_; rintro e w' ⟨rfl, rfl⟩))
        go_ret2
        exact ⟨ret_two (a := (0, 0)) (by rw [← HF.out, fin_char (by rw [HV'.out]; exact hch')]), rfl⟩

set_option maxHeartbeats 1000000 in
theorem rune_none (s : ByteArray) (pos : Nat) (b0 : Int) (w : World) (hp : pos < s.size) (hb : byteAt s pos = b0) (hb1 : b0 ≤ 255) (h : (128 ≤ b0 ∧ b0 < 192) ∨ 248 ≤ b0) :
    Calls Tryd.prog 51 #[.string s, .int .i64 pos] w fun e w' => e = .returned (.tuple #[.int .i64 0, .int .i64 0]) ∧ w' = w := by
  have HB : Hid (byteAt s pos = b0) := hb
  clear hb
  rcases h with ⟨h0, h1⟩ | h0
  all_goals
    go_enter Tryd.func51, Tryd.ntmps51
    go_wp2_with (first | (refine wpList_index_byte rfl 9 (.tmp 11) (.tmp 12) rfl s pos _ b0 rfl rfl rfl hp Tryd.underlying9 HB.out ?_) | go_in)
    go_ret2
    exact ⟨rfl, rfl⟩

theorem rune_any (s : ByteArray) (pos : Nat) (w : World) (hp : pos < s.size) (hs : s.size ≤ 1048576) :
    Calls Tryd.prog 51 #[.string s, .int .i64 pos] w fun e w' => e = .returned (.tuple #[.int .i64 (runeZ s pos).1, .int .i64 ((runeZ s pos).2 : Int)]) ∧ w' = w := by
  have hbd := byteAt_bd s pos
  unfold runeZ
  by_cases c1 : byteAt s pos < 128
  · rw [if_pos c1]; exact rune_1 s pos _ w hp hs rfl hbd.1 c1
  rw [if_neg c1]
  by_cases c2 : 192 ≤ byteAt s pos ∧ byteAt s pos < 224
  · rw [if_pos c2]; exact rune_2 s pos _ w hp hs rfl c2.1 c2.2
  rw [if_neg c2]
  by_cases c3 : 224 ≤ byteAt s pos ∧ byteAt s pos < 240
  · rw [if_pos c3]; exact rune_3 s pos _ w hp hs rfl c3.1 c3.2
  rw [if_neg c3]
  by_cases c4 : 240 ≤ byteAt s pos ∧ byteAt s pos < 248
  · rw [if_pos c4]; exact rune_4 s pos _ w hp hs rfl c4.1 c4.2
  rw [if_neg c4]
  exact rune_none s pos _ w hp rfl hbd.2 (by omega)
end Go.Proofs.YtpkhdfddbcpciaaDoor
