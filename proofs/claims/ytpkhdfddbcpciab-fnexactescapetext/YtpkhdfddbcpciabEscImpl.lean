/- The contract of the program's escapes: a table of signs by a function, a text byte by byte. -/
import Derived.Test.YtpkhdfddbcpciabEscModel2
namespace Go.Proofs.Ytpkhdfddbcpciab
open Go.RowKit Plain1 Strs Plain7 Bytes Lists PlainE Go.Lib

theorem implText_any (b : Int) : ∀ (w : World),
    Calls Try.prog 11 #[.int .u8 b] w fun e w' => e = .returned (.string (signS false b)) ∧ Below w.heap.size w w' := by
  refine sign7 (p := fun b => ∀ (w : World), Calls Try.prog 11 #[.int .u8 b] w fun e w' => e = .returned (.string (signS false b)) ∧ Below w.heap.size w w') b ?_ ?_ ?_ ?_ ?_ ?_ ?_ ?_
  case refine_8 =>
    intro h1 h2 h3 h4 h5 h6 h7 w
    rw [sign_no h1 h2 h3 h4 h5 h6 h7]
    go_enter Try.func11, Try.ntmps11
    go_wp2
    go_ret
    exact ⟨rfl, Below.refl _ _⟩
  all_goals
    intro w
    go_enter Try.func11, Try.ntmps11
    go_wp2
    go_ret
    exact ⟨rfl, Below.refl _ _⟩

theorem implValue_any (b : Int) : ∀ (w : World),
    Calls Try.prog 12 #[.int .u8 b] w fun e w' => e = .returned (.string (signS true b)) ∧ Below w.heap.size w w' := by
  refine sign7 (p := fun b => ∀ (w : World), Calls Try.prog 12 #[.int .u8 b] w fun e w' => e = .returned (.string (signS true b)) ∧ Below w.heap.size w w') b ?_ ?_ ?_ ?_ ?_ ?_ ?_ ?_
  case refine_8 =>
    intro h1 h2 h3 h4 h5 h6 h7 w
    rw [sign_no h1 h2 h3 h4 h5 h6 h7]
    go_enter Try.func12, Try.ntmps12
    go_wp2
    go_ret
    exact ⟨rfl, Below.refl _ _⟩
  all_goals
    intro w
    go_enter Try.func12, Try.ntmps12
    go_wp2
    go_ret
    exact ⟨rfl, Below.refl _ _⟩

set_option maxHeartbeats 1000000 in
theorem escapedText_any (s : ByteArray) (w : World) (h4 : s.size ≤ 4000) :
    Calls Try.prog 10 #[.string s, .func (.func 11) #[] #[]] w fun e w' => e = .returned (.string ⟨(escE false s.data.toList).toArray⟩) ∧ Below w.heap.size w w' := by
  obtain ⟨i0, hi, hz0, hz1, hz2⟩ := info_parts info8x
  have hsl : s.data.toList.length = s.size := by simp
  obtain ⟨R, hR⟩ : ∃ R, escE false s.data.toList = R := ⟨_, rfl⟩
  rw [hR]
  have HR := mkHidE hR
  have HSL := mkHidE hsl
  clear hR hsl
  go_enter Try.func10, Try.ntmps10
  go_wp2
  go_loopw [5, 10] (fun x i wr => ∃ (k : Nat) (acc : List UInt8), k ≤ s.size ∧ i = .int .i64 k ∧ acc.length ≤ 6 * k ∧ escE false (s.data.toList.take k) = acc ∧ wr.ownsRow w.heap.size 5 1 x acc.length ((numsOf acc).map (Value.int .u8)) ∧ Below w.heap.size w wr) (fun _ i _ => s.size - (RowKit.intOf i).toNat)
  case atStart => exact ⟨0, [], Nat.zero_le _, rfl, Nat.le_refl _, by simp [escE], World.ownsRow_nil _ _ _ _, Below.refl _ _⟩
  case round =>
    obtain ⟨k, acc, hk, rfl, hal, hacc, hown, hb⟩ := hrel
    have hsz := hb.size
    have HACC := mkHidE hacc
    clear hacc
    by_cases hlt : k < s.size
    · obtain ⟨b0, hb0⟩ : ∃ b, byteAt s k = b := ⟨_, rfl⟩
      have hix : ∀ wx, (Instr.index 9 (.string s) (.int .i64 (k : Int))).run Try.prog wx = .ok (.int .u8 b0) wx := fun wx => by rw [run_index_byte wx 9 s k hlt Try.underlying9, hb0]
      have hlti : (k : Int) < (s.size : Int) := by omega
      have hst := esc_take false s k hlt
      rw [HACC.out] at hst
      obtain ⟨c, hc⟩ : ∃ c, s.data.toList.getD k 0 = c := ⟨_, rfl⟩
      have hcb : (c.toNat : Int) = b0 := by rw [← hc]; exact hb0
      rw [hc] at hst
      have hpl := piece_len false c
      obtain ⟨S, hS⟩ : ∃ S, signS false b0 = S := ⟨_, rfl⟩
      have hSl := sign_len false b0
      rw [hS] at hSl
      have hcall := fun wx => implText_any b0 wx
      rw [hS] at hcall
      by_cases h0 : S.size = 0
      · have hp : pieceE false c = [c] := by unfold pieceE; rw [hcb, hS, if_pos h0]
        rw [hp] at hst
        have hSe : S = ⟨#[]⟩ := by
          have : S.data = #[] := Array.eq_empty_of_size_eq_zero h0
          cases S; simp_all
        subst hSe
        have HST := mkHidE hst
        have HCB := mkHidE hcb
        have HB := mkHidE hb
        clear hst hp hc hcb hb hS hb0 hSl h0 hpl
        go_wp2_with (first | (go_at_call 11; refine (hcall _).mono ?_; rintro e w1 ⟨rfl, hb1⟩; replace hb1 := mkHidE hb1; have hown1 := own_below hown hb1.out; have HB1 := mkHidE (below_tr HB.out hb1.out); have hsz1 := HB1.out.size; clear hown) | (at_builtin; refine wpList_append_own _ rfl _ _ 27 rfl w.heap.size 5 i0 (.int .u8 0) 1 1 Try.underlying27 hi hz0 hz1 hz2 rfl (by decide) _ _ _ rfl (hown1.alloc _) ⟨_, 0, none⟩ 1 1 [.int .u8 (b0)] rfl rfl (cell_one_new _ _ _) (by intro u hu; simp at hu; subst hu; rfl) (by unfold maxLen; omega) (by omega) (by simp; omega) ?_; intro v' w2 hown' hgrow _; have hb2 := mkHidE (below_app2 HB1.out hown1 hgrow); clear hgrow hown1))
        go_roundw
        case rel => exact ⟨k + 1, acc ++ [c], by omega, by go_num, by simp; omega, HST.out, by rw [numsOf_snoc, HCB.out]; simpa using hown', hb2.out⟩
        case measure => simp [RowKit.intOf]; omega
      · have hp : pieceE false c = S.data.toList := by unfold pieceE; rw [hcb, hS, if_neg h0]
        rw [hp] at hst
        have hne : (S.toList == ([] : List UInt8)) = false := by
          cases hl : S.data.toList with
          | nil => exact absurd (by rw [← Array.length_toList, hl]; rfl : S.data.size = 0) h0
          | cons a l => rw [ByteArray.toList_eq, hl]; rfl
        have hne2 : (S.toList == (⟨#[]⟩ : ByteArray).toList) = false := by rw [ByteArray.toList_eq ⟨#[]⟩]; exact hne
        have HST := mkHidE hst
        have HB := mkHidE hb
        have hSz : S.data.toList.length = S.size := Array.length_toList
        have HSZ := mkHidE hSz
        clear hst hp hc hcb hb hS hb0 h0 hpl hSz
        go_wp2_with (first | (go_at_call 11; refine (hcall _).mono ?_; rintro e w1 ⟨rfl, hb1⟩; replace hb1 := mkHidE hb1; have hown1 := own_below hown hb1.out; have HB1 := mkHidE (below_tr HB.out hb1.out); have hsz1 := HB1.out.size; clear hown) | (at_builtin; refine wpList_append_own_string _ rfl _ _ 27 9 rfl w.heap.size 5 i0 Try.underlying27 Try.underlying9 hi hz0 hz1 hz2 _ _ _ rfl hown1 S rfl (by unfold maxLen; omega) (by omega) (by omega) ?_; intro v' w2 hown' hgrow _; have hb2 := mkHidE (below_app3 HB1.out hown1 hgrow); clear hgrow hown1))
        go_roundw
        case rel => exact ⟨k + 1, acc ++ S.data.toList, by omega, by go_num, by simp only [List.length_append]; have := HSZ.out; omega, HST.out, by rw [List.length_append, HSZ.out, nums_app, List.map_append, ← cells_nums]; exact hown', hb2.out⟩
        case measure => simp [RowKit.intOf]; omega
    · have hkn : s.size ≤ k := by omega
      have hd : s.data.toList.take k = s.data.toList := List.take_of_length_le (by rw [HSL.out]; exact hkn)
      have hacc' : R = acc := by rw [← HR.out, ← HACC.out, hd]
      subst hacc'
      have hconv := conv_own (P := Try.prog) (src := 27) (dst := 9) Try.underlying27 Try.underlying5 Try.underlying9 hown
      rw [strOf_nums] at hconv
      clear hown hd
      go_wp2
      go_ret
      exact ⟨rfl, hb⟩
theorem implEscapeText_any (s : ByteArray) (w : World) :
    Calls Try.prog 6 #[.string s] w fun e w' => e = .returned (.string ⟨(escOf false s).toArray⟩) ∧ Below w.heap.size w w' := by
  by_cases hbig : 4000 < s.size
  · have e : escOf false s = [] := by unfold escOf; rw [if_pos hbig]
    rw [e]
    go_enter Try.func6, Try.ntmps6
    go_wp2
    go_ret
    exact ⟨rfl, Below.refl _ _⟩
  have e : escOf false s = escE false s.data.toList := by unfold escOf; rw [if_neg hbig]
  rw [e]
  have hc := escapedText_any s w (by omega)
  go_enter Try.func6, Try.ntmps6
  go_wp2_with fail
  refine hc.mono ?_
  rintro e w1 ⟨rfl, hb1⟩
  go_wp2
  go_ret
  exact ⟨rfl, hb1⟩

set_option maxHeartbeats 1000000 in
theorem escapedValue_any (s : ByteArray) (w : World) (h4 : s.size ≤ 4000) :
    Calls Try.prog 10 #[.string s, .func (.func 12) #[] #[]] w fun e w' => e = .returned (.string ⟨(escE true s.data.toList).toArray⟩) ∧ Below w.heap.size w w' := by
  obtain ⟨i0, hi, hz0, hz1, hz2⟩ := info_parts info8x
  have hsl : s.data.toList.length = s.size := by simp
  obtain ⟨R, hR⟩ : ∃ R, escE true s.data.toList = R := ⟨_, rfl⟩
  rw [hR]
  have HR := mkHidE hR
  have HSL := mkHidE hsl
  clear hR hsl
  go_enter Try.func10, Try.ntmps10
  go_wp2
  go_loopw [5, 10] (fun x i wr => ∃ (k : Nat) (acc : List UInt8), k ≤ s.size ∧ i = .int .i64 k ∧ acc.length ≤ 6 * k ∧ escE true (s.data.toList.take k) = acc ∧ wr.ownsRow w.heap.size 5 1 x acc.length ((numsOf acc).map (Value.int .u8)) ∧ Below w.heap.size w wr) (fun _ i _ => s.size - (RowKit.intOf i).toNat)
  case atStart => exact ⟨0, [], Nat.zero_le _, rfl, Nat.le_refl _, by simp [escE], World.ownsRow_nil _ _ _ _, Below.refl _ _⟩
  case round =>
    obtain ⟨k, acc, hk, rfl, hal, hacc, hown, hb⟩ := hrel
    have hsz := hb.size
    have HACC := mkHidE hacc
    clear hacc
    by_cases hlt : k < s.size
    · obtain ⟨b0, hb0⟩ : ∃ b, byteAt s k = b := ⟨_, rfl⟩
      have hix : ∀ wx, (Instr.index 9 (.string s) (.int .i64 (k : Int))).run Try.prog wx = .ok (.int .u8 b0) wx := fun wx => by rw [run_index_byte wx 9 s k hlt Try.underlying9, hb0]
      have hlti : (k : Int) < (s.size : Int) := by omega
      have hst := esc_take true s k hlt
      rw [HACC.out] at hst
      obtain ⟨c, hc⟩ : ∃ c, s.data.toList.getD k 0 = c := ⟨_, rfl⟩
      have hcb : (c.toNat : Int) = b0 := by rw [← hc]; exact hb0
      rw [hc] at hst
      have hpl := piece_len true c
      obtain ⟨S, hS⟩ : ∃ S, signS true b0 = S := ⟨_, rfl⟩
      have hSl := sign_len true b0
      rw [hS] at hSl
      have hcall := fun wx => implValue_any b0 wx
      rw [hS] at hcall
      by_cases h0 : S.size = 0
      · have hp : pieceE true c = [c] := by unfold pieceE; rw [hcb, hS, if_pos h0]
        rw [hp] at hst
        have hSe : S = ⟨#[]⟩ := by
          have : S.data = #[] := Array.eq_empty_of_size_eq_zero h0
          cases S; simp_all
        subst hSe
        have HST := mkHidE hst
        have HCB := mkHidE hcb
        have HB := mkHidE hb
        clear hst hp hc hcb hb hS hb0 hSl h0 hpl
        go_wp2_with (first | (go_at_call 12; refine (hcall _).mono ?_; rintro e w1 ⟨rfl, hb1⟩; replace hb1 := mkHidE hb1; have hown1 := own_below hown hb1.out; have HB1 := mkHidE (below_tr HB.out hb1.out); have hsz1 := HB1.out.size; clear hown) | (at_builtin; refine wpList_append_own _ rfl _ _ 27 rfl w.heap.size 5 i0 (.int .u8 0) 1 1 Try.underlying27 hi hz0 hz1 hz2 rfl (by decide) _ _ _ rfl (hown1.alloc _) ⟨_, 0, none⟩ 1 1 [.int .u8 (b0)] rfl rfl (cell_one_new _ _ _) (by intro u hu; simp at hu; subst hu; rfl) (by unfold maxLen; omega) (by omega) (by simp; omega) ?_; intro v' w2 hown' hgrow _; have hb2 := mkHidE (below_app2 HB1.out hown1 hgrow); clear hgrow hown1))
        go_roundw
        case rel => exact ⟨k + 1, acc ++ [c], by omega, by go_num, by simp; omega, HST.out, by rw [numsOf_snoc, HCB.out]; simpa using hown', hb2.out⟩
        case measure => simp [RowKit.intOf]; omega
      · have hp : pieceE true c = S.data.toList := by unfold pieceE; rw [hcb, hS, if_neg h0]
        rw [hp] at hst
        have hne : (S.toList == ([] : List UInt8)) = false := by
          cases hl : S.data.toList with
          | nil => exact absurd (by rw [← Array.length_toList, hl]; rfl : S.data.size = 0) h0
          | cons a l => rw [ByteArray.toList_eq, hl]; rfl
        have hne2 : (S.toList == (⟨#[]⟩ : ByteArray).toList) = false := by rw [ByteArray.toList_eq ⟨#[]⟩]; exact hne
        have HST := mkHidE hst
        have HB := mkHidE hb
        have hSz : S.data.toList.length = S.size := Array.length_toList
        have HSZ := mkHidE hSz
        clear hst hp hc hcb hb hS hb0 h0 hpl hSz
        go_wp2_with (first | (go_at_call 12; refine (hcall _).mono ?_; rintro e w1 ⟨rfl, hb1⟩; replace hb1 := mkHidE hb1; have hown1 := own_below hown hb1.out; have HB1 := mkHidE (below_tr HB.out hb1.out); have hsz1 := HB1.out.size; clear hown) | (at_builtin; refine wpList_append_own_string _ rfl _ _ 27 9 rfl w.heap.size 5 i0 Try.underlying27 Try.underlying9 hi hz0 hz1 hz2 _ _ _ rfl hown1 S rfl (by unfold maxLen; omega) (by omega) (by omega) ?_; intro v' w2 hown' hgrow _; have hb2 := mkHidE (below_app3 HB1.out hown1 hgrow); clear hgrow hown1))
        go_roundw
        case rel => exact ⟨k + 1, acc ++ S.data.toList, by omega, by go_num, by simp only [List.length_append]; have := HSZ.out; omega, HST.out, by rw [List.length_append, HSZ.out, nums_app, List.map_append, ← cells_nums]; exact hown', hb2.out⟩
        case measure => simp [RowKit.intOf]; omega
    · have hkn : s.size ≤ k := by omega
      have hd : s.data.toList.take k = s.data.toList := List.take_of_length_le (by rw [HSL.out]; exact hkn)
      have hacc' : R = acc := by rw [← HR.out, ← HACC.out, hd]
      subst hacc'
      have hconv := conv_own (P := Try.prog) (src := 27) (dst := 9) Try.underlying27 Try.underlying5 Try.underlying9 hown
      rw [strOf_nums] at hconv
      clear hown hd
      go_wp2
      go_ret
      exact ⟨rfl, hb⟩
theorem implEscapeValue_any (s : ByteArray) (w : World) :
    Calls Try.prog 8 #[.string s] w fun e w' => e = .returned (.string ⟨(escOf true s).toArray⟩) ∧ Below w.heap.size w w' := by
  by_cases hbig : 4000 < s.size
  · have e : escOf true s = [] := by unfold escOf; rw [if_pos hbig]
    rw [e]
    go_enter Try.func8, Try.ntmps8
    go_wp2
    go_ret
    exact ⟨rfl, Below.refl _ _⟩
  have e : escOf true s = escE true s.data.toList := by unfold escOf; rw [if_neg hbig]
  rw [e]
  have hc := escapedValue_any s w (by omega)
  go_enter Try.func8, Try.ntmps8
  go_wp2_with fail
  refine hc.mono ?_
  rintro e w1 ⟨rfl, hb1⟩
  go_wp2
  go_ret
  exact ⟨rfl, hb1⟩
end Go.Proofs.Ytpkhdfddbcpciab
