/- The contracts of the model's draws of texts: DrawRunes, DrawEnds. -/
import Derived.Test.YtpkhdfddbcpciaaDoorDrawC
import Derived.Test.YtpkhdfddbcpciaaDoorDrawB
import Derived.Test.YtpkhdfddbcpciaaDoorUtfModel
namespace Go.Proofs.YtpkhdfddbcpciaaDoor
open Go.RowKit Plain1 Lists Strs Bytes

theorem utfZ_len (l : List Int) : (utfZ l).length ≤ 4 * l.length := by
  unfold utfZ
  split
  · exact encAll_len l
  · simp
set_option maxHeartbeats 1000000 in
theorem drawRunes_any (a : Option Addr) (n cap : Nat) (w : World) (hS : Fed w a n) :
    Calls Tryd.prog 14 #[.slice a n cap] w fun e w' => ∃ t : ByteArray, e = .returned (.string t) ∧ t.size ≤ 40 ∧ Below w.heap.size w w' := by
  have hcall := source_any a n cap w hS
  go_enter Tryd.func14, Tryd.ntmps14
  go_wp2_with fail
  refine hcall.mono ?_
  rintro e w1 ⟨rfl, hd1⟩
  clear hcall
  have hgl := hd1.lt
  go_wp2_with fail
  refine (some_any hS hd1).mono ?_
  rintro e w2 ⟨v, l, rfl, hl, ho, hd2, hg2⟩
  obtain ⟨a2, c2, rfl, hA2⟩ := ints_of_owns ho
  clear hd1 hg2 ho
  have hu := specUtf_any a2 l.length c2 l w2 rfl (by omega) hA2
  obtain ⟨s, hs⟩ : ∃ s, strOfNums (utfZ l) = s := ⟨_, rfl⟩
  have hss : s.size ≤ 28 := by rw [← hs, strOfNums_size]; have := utfZ_len l; omega
  rw [hs] at hu
  clear hs hA2
  go_wp2_with fail
  refine hu.mono ?_
  rintro e w3 ⟨rfl, hb3⟩
  have hd3 := hd2.on hb3
  clear hd2 hu hb3
  go_wp2_with fail
  refine (draw_any hS hd3 4 (by omega)).mono ?_
  rintro e w4 ⟨r, rfl, h0, h1, -, hd4, hg4⟩
  have h1' := h1 (by omega)
  clear hd3 hg4 h1
  have HD := mkHidD hd4
  clear hd4
  have hr : r = 0 ∨ r = 1 ∨ r = 2 ∨ r = 3 := by omega
  rcases hr with rfl | rfl | rfl | rfl
  · go_wp2_with fail
    refine (spoil_any hS HD.out s (by omega)).mono ?_
    rintro e w5 ⟨t, rfl, hts, hd5, -⟩
    have hb5 := hd5.below
    clear hd5
    go_wp2
    go_ret
    exact ⟨t, rfl, by omega, hb5⟩
  · go_wp2_with fail
    refine (draw_any hS HD.out ((s.size : Int) + 1) (by omega)).mono ?_
    rintro e w5 ⟨r, rfl, h0', h1, h2, hd5, -⟩
    have hr : r ≤ s.size := by
      by_cases h : 1 < (s.size : Int) + 1
      · have := h1 h; omega
      · have := h2 (by omega); omega
    obtain ⟨k, rfl⟩ : ∃ k : Nat, r = k := ⟨r.toNat, by omega⟩
    have hb5 := hd5.below
    clear hd5 h1 h2
    go_wp2
    go_ret
    refine ⟨_, rfl, ?_, hb5⟩
    simp [ByteArray.size_extract]
    omega
  · go_wp2_with fail
    refine (pick_any hS (HD.out.alloc _) _ 7 7 4 (texts_lit (S := 4) (by simp [isShort])) (by have := HD.out.lt; omega) (by omega) (by omega)).mono ?_
    rintro e w5 ⟨t, rfl, hts, hd5, -⟩
    have hb5 := hd5.below
    clear hd5
    go_wp2
    go_ret
    refine ⟨_, rfl, ?_, hb5⟩
    simp [ByteArray.size_append]
    omega
  · go_wp2_with fail
    go_ret
    exact ⟨s, rfl, by omega, HD.out.below⟩

set_option maxHeartbeats 1000000 in
theorem drawEnds_any (a : Option Addr) (n cap : Nat) (w : World) (hS : Fed w a n) :
    Calls Tryd.prog 16 #[.slice a n cap] w fun e w' => ∃ t : ByteArray, e = .returned (.string t) ∧ t.size ≤ 21 ∧ Below w.heap.size w w' := by
  have hcall := source_any a n cap w hS
  go_enter Tryd.func16, Tryd.ntmps16
  go_wp2_with fail
  refine hcall.mono ?_
  rintro e w1 ⟨rfl, hd1⟩
  clear hcall
  go_wp2_with fail
  refine (draw_any hS hd1 8 (by omega)).mono ?_
  rintro e w2 ⟨r, rfl, h0, h1, -, hd2, hg2⟩
  have h1' := h1 (by omega)
  obtain ⟨k0, rfl⟩ : ∃ k : Nat, r = k := ⟨r.toNat, by omega⟩
  clear hd1 hg2 h1
  go_wp2_with fail
  go_loopw [4, 5] (fun v i wr => ∃ (k : Nat) (t : ByteArray), i = .int .i64 k ∧ v = .string t ∧ k ≤ 7 ∧ t.size + 3 * k ≤ 21 ∧ Dr w wr w.heap.size a n cap) (fun _ i _ => (intOf i).toNat)
  case atStart => exact ⟨k0, ⟨#[]⟩, rfl, rfl, by omega, by simp [ByteArray.size]; omega, hd2⟩
  case round =>
    obtain ⟨k, t, rfl, rfl, hk, hts, hd⟩ := hrel
    clear hd2
    have HD := mkHidD hd
    clear hd
    by_cases hlt : 0 < k
    · have hk1 : (k : Int) - 1 = ((k - 1 : Nat) : Int) := by omega
      have HK := mkHidD hk1
      clear hk1
      go_wp2_with fail
      refine (pick_any hS (HD.out.alloc _) _ 5 5 3 (texts_lit (S := 3) (by simp [isShort])) (by have := HD.out.lt; omega) (by omega) (by omega)).mono ?_
      rintro e w5 ⟨u, rfl, hus, hd5, -⟩
      have HD5 := mkHidD hd5
      clear hd5
      go_wp2
      go_roundw
      case rel => exact ⟨k - 1, _, by rw [HK.out], rfl, by omega, by simp [ByteArray.size_append]; omega, HD5.out⟩
      case measure => simp [intOf]; omega
    · go_wp2
      go_ret
      exact ⟨t, rfl, by omega, HD.out.below⟩
end Go.Proofs.YtpkhdfddbcpciaaDoor
