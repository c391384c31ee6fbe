/- The contracts of the model's draws of heads: a text of few bytes. -/
import Derived.Test.YteebdfcegndaoaaGreatDoorDrA
namespace Go.Proofs.YteebdfcegndaoaaGreatDoor
open Go.RowKit Plain1 Lists Strs Bytes

theorem szH (l : Array UInt8) : (ByteArray.mk l).size = l.size := rfl
set_option maxRecDepth 100000 in
set_option maxHeartbeats 16000000 in
theorem l03Head_any {W0 w : World} {g : Nat} {a : Option Addr} {n cap : Nat} (hS : Fed W0 a n) (hd : Dr W0 w g a n cap) :
    Calls Tryz.prog 35 #[.pointer (some ⟨g, 0, none⟩)] w fun e w' => ∃ t : ByteArray, e = .returned (.string t) ∧ t.size ≤ 180 ∧ Dr W0 w' g a n cap ∧ w.grownBy w' (some g) := by
  have HS := mkHidD hS
  have HD0 := mkHidD hd
  clear hS hd
  go_enter Tryz.func35, Tryz.ntmps35
  go_wp2_with fail
  refine (draw_any HS.out HD0.out 5 (by omega)).mono ?_
  rintro e w1 ⟨r, rfl, h0, h1, -, hd, hg⟩
  have h1' := h1 (by omega)
  obtain ⟨k0, rfl⟩ : ∃ k : Nat, r = k := ⟨r.toNat, by omega⟩
  have HD1 := mkHidD hd
  have HG1 := mkHidD hg
  clear hd hg HD0 h1
  go_wp2_with fail
  go_loopw [3, 4] (fun v i wr => ∃ (k : Nat) (t : ByteArray), i = .int .i64 k ∧ v = .string t ∧ k ≤ 4 ∧ t.size + 45 * k ≤ 180 ∧ Dr W0 wr g a n cap ∧ w.grownBy wr (some g)) (fun _ i _ => (intOf i).toNat)
  case atStart => exact ⟨k0, ⟨#[]⟩, rfl, rfl, by omega, by simp only [szH]; simp; omega, HD1.out, HG1.out⟩
  case round =>
    obtain ⟨k, t, rfl, rfl, hk, hts, hd, hg⟩ := hrel
    have HD2 := mkHidD hd
    have HG2 := mkHidD hg
    clear hd hg HD1 HG1
    by_cases hlt : 0 < k
    · have hk1 : (k : Int) - 1 = ((k - 1 : Nat) : Int) := by omega
      have HK := mkHidD hk1
      clear hk1
      go_wp2_with fail
      refine (draw_any HS.out HD2.out 6 (by omega)).mono ?_
      rintro e w3 ⟨r, rfl, h0', h1, -, hd, hg⟩
      have h1'' := h1 (by omega)
      have HD3 := mkHidD hd
      have HG3 := mkHidD (grown_trans' HG2.out hg)
      clear hd hg HD2 HG2 h1
      have hr : r = 0 ∨ r = 1 ∨ r = 2 ∨ r = 3 ∨ r = 4 ∨ r = 5 := by omega
      clear h0' h1''
      rcases hr with rfl | rfl | rfl | rfl | rfl | rfl
      · skip
        go_wp2_with fail
        refine (pick_any HS.out (HD3.out.alloc _) _ 2 2 1 (texts_lit (S := 1) (by simp [isShort])) (by have := HD3.out.lt; omega) (by omega) (by omega)).mono ?_
        rintro e w4 ⟨t4, rfl, ht4, hd, hg⟩
        have HD4 := mkHidD hd
        have HG4 := mkHidD (grown_trans' HG3.out (grown_of_alloc hg))
        clear hd hg HD3 HG3
        go_wp2_with fail
        refine (pick_any HS.out (HD4.out.alloc _) _ 5 5 33 (texts_lit (S := 33) (by simp [isShort])) (by have := HD4.out.lt; omega) (by omega) (by omega)).mono ?_
        rintro e w5 ⟨t5, rfl, ht5, hd, hg⟩
        have HD5 := mkHidD hd
        have HG5 := mkHidD (grown_trans' HG4.out (grown_of_alloc hg))
        clear hd hg HD4 HG4
        go_wp2
        go_roundw
        case rel => exact ⟨k - 1, _, by rw [HK.out], rfl, by omega, by simp [ByteArray.size_append, szH]; omega, HD5.out, HG5.out⟩
        case measure => simp [intOf]; omega
      · skip
        go_wp2
        go_roundw
        case rel => exact ⟨k - 1, _, by rw [HK.out], rfl, by omega, by simp [ByteArray.size_append, szH]; omega, HD3.out, HG3.out⟩
        case measure => simp [intOf]; omega
      · skip
        go_wp2_with fail
        refine (pick_any HS.out (HD3.out.alloc _) _ 3 3 10 (texts_lit (S := 10) (by simp [isShort])) (by have := HD3.out.lt; omega) (by omega) (by omega)).mono ?_
        rintro e w4 ⟨t4, rfl, ht4, hd, hg⟩
        have HD4 := mkHidD hd
        have HG4 := mkHidD (grown_trans' HG3.out (grown_of_alloc hg))
        clear hd hg HD3 HG3
        go_wp2
        go_roundw
        case rel => exact ⟨k - 1, _, by rw [HK.out], rfl, by omega, by simp [ByteArray.size_append]; omega, HD4.out, HG4.out⟩
        case measure => simp [intOf]; omega
      · skip
        go_wp2_with fail
        refine (pick_any HS.out (HD3.out.alloc _) _ 4 4 1 (texts_lit (S := 1) (by simp [isShort])) (by have := HD3.out.lt; omega) (by omega) (by omega)).mono ?_
        rintro e w4 ⟨t4, rfl, ht4, hd, hg⟩
        have HD4 := mkHidD hd
        have HG4 := mkHidD (grown_trans' HG3.out (grown_of_alloc hg))
        clear hd hg HD3 HG3
        go_wp2_with fail
        refine (pick_any HS.out (HD4.out.alloc _) _ 10 10 14 (texts_lit (S := 14) (by simp [isShort])) (by have := HD4.out.lt; omega) (by omega) (by omega)).mono ?_
        rintro e w5 ⟨t5, rfl, ht5, hd, hg⟩
        have HD5 := mkHidD hd
        have HG5 := mkHidD (grown_trans' HG4.out (grown_of_alloc hg))
        clear hd hg HD4 HG4
        go_wp2
        go_roundw
        case rel => exact ⟨k - 1, _, by rw [HK.out], rfl, by omega, by simp [ByteArray.size_append, szH]; omega, HD5.out, HG5.out⟩
        case measure => simp [intOf]; omega
      · skip
        go_wp2_with fail
        refine (pick_any HS.out (HD3.out.alloc _) _ 4 4 1 (texts_lit (S := 1) (by simp [isShort])) (by have := HD3.out.lt; omega) (by omega) (by omega)).mono ?_
        rintro e w4 ⟨t4, rfl, ht4, hd, hg⟩
        have HD4 := mkHidD hd
        have HG4 := mkHidD (grown_trans' HG3.out (grown_of_alloc hg))
        clear hd hg HD3 HG3
        go_wp2_with fail
        refine (pick_any HS.out (HD4.out.alloc _) _ 10 10 14 (texts_lit (S := 14) (by simp [isShort])) (by have := HD4.out.lt; omega) (by omega) (by omega)).mono ?_
        rintro e w5 ⟨t5, rfl, ht5, hd, hg⟩
        have HD5 := mkHidD hd
        have HG5 := mkHidD (grown_trans' HG4.out (grown_of_alloc hg))
        clear hd hg HD4 HG4
        go_wp2
        go_roundw
        case rel => exact ⟨k - 1, _, by rw [HK.out], rfl, by omega, by simp [ByteArray.size_append, szH]; omega, HD5.out, HG5.out⟩
        case measure => simp [intOf]; omega
      · skip
        go_wp2_with fail
        refine (pick_any HS.out (HD3.out.alloc _) _ 4 4 1 (texts_lit (S := 1) (by simp [isShort])) (by have := HD3.out.lt; omega) (by omega) (by omega)).mono ?_
        rintro e w4 ⟨t4, rfl, ht4, hd, hg⟩
        have HD4 := mkHidD hd
        have HG4 := mkHidD (grown_trans' HG3.out (grown_of_alloc hg))
        clear hd hg HD3 HG3
        go_wp2_with fail
        refine (pick_any HS.out (HD4.out.alloc _) _ 10 10 14 (texts_lit (S := 14) (by simp [isShort])) (by have := HD4.out.lt; omega) (by omega) (by omega)).mono ?_
        rintro e w5 ⟨t5, rfl, ht5, hd, hg⟩
        have HD5 := mkHidD hd
        have HG5 := mkHidD (grown_trans' HG4.out (grown_of_alloc hg))
        clear hd hg HD4 HG4
        go_wp2
        go_roundw
        case rel => exact ⟨k - 1, _, by rw [HK.out], rfl, by omega, by simp [ByteArray.size_append, szH]; omega, HD5.out, HG5.out⟩
        case measure => simp [intOf]; omega
    · obtain rfl : k = 0 := by omega
      go_wp2
      go_ret
      exact ⟨_, rfl, by omega, HD2.out, HG2.out⟩

set_option maxRecDepth 100000 in
set_option maxHeartbeats 16000000 in
theorem drawDtd_any (a : Option Addr) (n cap : Nat) (w : World) (hS : Fed w a n) :
    Calls Tryz.prog 10 #[.slice a n cap] w fun e w' => ∃ t : ByteArray, e = .returned (.string t) ∧ t.size ≤ 205 ∧ Below w.heap.size w w' := by
  have HS := mkHidD hS
  have HC := mkHidD (source_any a n cap w hS)
  clear hS
  go_enter Tryz.func10, Tryz.ntmps10
  go_wp2_with fail
  refine HC.out.mono ?_
  rintro e w1 ⟨rfl, hd⟩
  have HD1 := mkHidD hd
  clear hd HC
  go_wp2_with fail
  refine (l03Head_any HS.out HD1.out).mono ?_
  rintro e w2 ⟨t, rfl, hts, hd, -⟩
  have HD2 := mkHidD hd
  clear hd HD1
  go_wp2_with fail
  refine (draw_any HS.out HD2.out 4 (by omega)).mono ?_
  rintro e w3 ⟨r, rfl, h0', h1, -, hd, -⟩
  have h1'' := h1 (by omega)
  have HD5 := mkHidD hd
  clear hd HD2 h1
  have hr : r = 0 ∨ r = 1 ∨ r = 2 ∨ r = 3 := by omega
  clear h0' h1''
  rcases hr with rfl | rfl | rfl | rfl
  · go_wp2_with fail
    refine (spoil_any HS.out HD5.out t (by omega)).mono ?_
    rintro e w6 ⟨t', rfl, hts2, hd, -⟩
    have HD6 := mkHidD hd
    clear hd HD5
    go_wp2_with fail
    refine (one_any HS.out HD6.out 10 (by omega)).mono ?_
    rintro e w7 ⟨b, rfl, hd, -⟩
    have HD7 := mkHidD hd
    clear hd HD6
    cases b with
    | true =>
      go_wp2_with fail
      refine (pick_any HS.out (HD7.out.alloc _) _ 9 9 24 (texts_lit (S := 24) (by simp [isShort])) (by have := HD7.out.lt; omega) (by omega) (by omega)).mono ?_
      rintro e w8 ⟨t8, rfl, ht8, hd, -⟩
      have HB := mkHidD hd.below
      clear hd HD7
      go_wp2
      go_ret
      exact ⟨_, rfl, by simp [ByteArray.size_append]; omega, HB.out⟩
    | false =>
      have HB := mkHidD HD7.out.below
      go_wp2
      go_ret
      exact ⟨_, rfl, by omega, HB.out⟩
  · go_wp2_with fail
    refine (draw_any HS.out HD5.out ((t.size : Int) + 1) (by omega)).mono ?_
    rintro e w6 ⟨r, rfl, h0', h1, h2, hd, -⟩
    have hr : r ≤ t.size := by
      by_cases h : 1 < (t.size : Int) + 1
      · have := h1 h; omega
      · have := h2 (by omega); omega
    obtain ⟨j, rfl⟩ : ∃ k : Nat, r = k := ⟨r.toNat, by omega⟩
    have HD6 := mkHidD hd
    have hj : j ≤ t.size := by omega
    clear hd HD5 h1 h2 hr h0'
    go_wp2_with fail
    refine (one_any HS.out HD6.out 10 (by omega)).mono ?_
    rintro e w7 ⟨b, rfl, hd, -⟩
    have HD7 := mkHidD hd
    clear hd HD6
    cases b with
    | true =>
      go_wp2_with fail
      refine (pick_any HS.out (HD7.out.alloc _) _ 9 9 24 (texts_lit (S := 24) (by simp [isShort])) (by have := HD7.out.lt; omega) (by omega) (by omega)).mono ?_
      rintro e w8 ⟨t8, rfl, ht8, hd, -⟩
      have HB := mkHidD hd.below
      clear hd HD7
      go_wp2
      go_ret
      exact ⟨_, rfl, by simp [ByteArray.size_append, ByteArray.size_extract]; omega, HB.out⟩
    | false =>
      have HB := mkHidD HD7.out.below
      go_wp2
      go_ret
      exact ⟨_, rfl, by simp [ByteArray.size_extract]; omega, HB.out⟩
  · have HD6 := HD5
    clear HD5
    go_wp2_with fail
    refine (one_any HS.out HD6.out 10 (by omega)).mono ?_
    rintro e w7 ⟨b, rfl, hd, -⟩
    have HD7 := mkHidD hd
    clear hd HD6
    cases b with
    | true =>
      go_wp2_with fail
      refine (pick_any HS.out (HD7.out.alloc _) _ 9 9 24 (texts_lit (S := 24) (by simp [isShort])) (by have := HD7.out.lt; omega) (by omega) (by omega)).mono ?_
      rintro e w8 ⟨t8, rfl, ht8, hd, -⟩
      have HB := mkHidD hd.below
      clear hd HD7
      go_wp2
      go_ret
      exact ⟨_, rfl, by simp [ByteArray.size_append]; omega, HB.out⟩
    | false =>
      have HB := mkHidD HD7.out.below
      go_wp2
      go_ret
      exact ⟨_, rfl, by omega, HB.out⟩
  · have HD6 := HD5
    clear HD5
    go_wp2_with fail
    refine (one_any HS.out HD6.out 10 (by omega)).mono ?_
    rintro e w7 ⟨b, rfl, hd, -⟩
    have HD7 := mkHidD hd
    clear hd HD6
    cases b with
    | true =>
      go_wp2_with fail
      refine (pick_any HS.out (HD7.out.alloc _) _ 9 9 24 (texts_lit (S := 24) (by simp [isShort])) (by have := HD7.out.lt; omega) (by omega) (by omega)).mono ?_
      rintro e w8 ⟨t8, rfl, ht8, hd, -⟩
      have HB := mkHidD hd.below
      clear hd HD7
      go_wp2
      go_ret
      exact ⟨_, rfl, by simp [ByteArray.size_append]; omega, HB.out⟩
    | false =>
      have HB := mkHidD HD7.out.below
      go_wp2
      go_ret
      exact ⟨_, rfl, by omega, HB.out⟩
end Go.Proofs.YteebdfcegndaoaaGreatDoor
