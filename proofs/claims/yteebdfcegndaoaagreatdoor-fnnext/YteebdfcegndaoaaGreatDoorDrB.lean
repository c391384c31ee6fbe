/- The contracts of the model's draws of a mark: l02Name, l02Value, l02Attrs, l02Piece: a text, and how long it is at most. -/
/- The contract of the model's draw of a mark or text. -/
/- The contract of the model's draw for Next: a text of few bytes, a place, closed or not. -/
import Derived.Test.YteebdfcegndaoaaGreatDoorDrA
namespace Go.Proofs.YteebdfcegndaoaaGreatDoor
open Go.RowKit Plain1 Lists Strs Bytes

theorem sz0 (l : Array UInt8) : (ByteArray.mk l).size = l.size := rfl
set_option maxRecDepth 100000 in
set_option maxHeartbeats 4000000 in
theorem l02Name_any {W0 w : World} {g : Nat} {a : Option Addr} {n cap : Nat} (hS : Fed W0 a n) (hd : Dr W0 w g a n cap) :
    Calls Tryz.prog 43 #[.pointer (some ⟨g, 0, none⟩)] w fun e w' => ∃ t : ByteArray, e = .returned (.string t) ∧ t.size ≤ 3 ∧ Dr W0 w' g a n cap ∧ w.grownBy w' (some g) := by
  have HS := mkHidD hS
  have HD0 := mkHidD hd
  have HG0 := mkHidD (grown_drewN w 0 (some g))
  clear hS hd
  go_enter Tryz.func43, Tryz.ntmps43
  go_wp2_with fail
  refine (pick_any HS.out (HD0.out.alloc _) _ 5 5 3 (texts_lit (S := 3) (by simp [isShort])) (by have := HD0.out.lt; omega) (by omega) (by omega)).mono ?_
  rintro e w1 ⟨t1, rfl, ht1, hd, hg⟩
  have HD1 := mkHidD hd
  have HG1 := mkHidD (grown_trans' HG0.out (grown_of_alloc hg))
  clear hd hg HD0 HG0
  go_wp2
  go_ret
  refine ⟨_, rfl, ?_, HD1.out, HG1.out⟩
  omega
set_option maxRecDepth 100000 in
set_option maxHeartbeats 4000000 in
theorem l02Value_any {W0 w : World} {g : Nat} {a : Option Addr} {n cap : Nat} (hS : Fed W0 a n) (hd : Dr W0 w g a n cap) :
    Calls Tryz.prog 69 #[.pointer (some ⟨g, 0, none⟩)] w fun e w' => ∃ t : ByteArray, e = .returned (.string t) ∧ t.size ≤ 7 ∧ Dr W0 w' g a n cap ∧ w.grownBy w' (some g) := by
  have HS := mkHidD hS
  have HD0 := mkHidD hd
  have HG0 := mkHidD (grown_drewN w 0 (some g))
  clear hS hd
  go_enter Tryz.func69, Tryz.ntmps69
  go_wp2_with fail
  refine (pick_any HS.out (HD0.out.alloc _) _ 2 2 1 (texts_lit (S := 1) (by simp [isShort])) (by have := HD0.out.lt; omega) (by omega) (by omega)).mono ?_
  rintro e w1 ⟨t1, rfl, ht1, hd, hg⟩
  have HD1 := mkHidD hd
  have HG1 := mkHidD (grown_trans' HG0.out (grown_of_alloc hg))
  clear hd hg HD0 HG0
  go_wp2_with fail
  refine (pick_any HS.out (HD1.out.alloc _) _ 8 8 5 (texts_lit (S := 5) (by simp [isShort])) (by have := HD1.out.lt; omega) (by omega) (by omega)).mono ?_
  rintro e w2 ⟨t2, rfl, ht2, hd, hg⟩
  have HD2 := mkHidD hd
  have HG2 := mkHidD (grown_trans' HG1.out (grown_of_alloc hg))
  clear hd hg HD1 HG1
  go_wp2
  go_ret
  refine ⟨_, rfl, ?_, HD2.out, HG2.out⟩
  first | (simp [ByteArray.size_append]; omega) | (simp [ByteArray.size_append, sz0]; omega)
set_option maxRecDepth 100000 in
set_option maxHeartbeats 4000000 in
theorem l02Attrs_any {W0 w : World} {g : Nat} {a : Option Addr} {n cap : Nat} (hS : Fed W0 a n) (hd : Dr W0 w g a n cap) :
    Calls Tryz.prog 44 #[.pointer (some ⟨g, 0, none⟩)] w fun e w' => ∃ t : ByteArray, e = .returned (.string t) ∧ t.size ≤ 38 ∧ Dr W0 w' g a n cap ∧ w.grownBy w' (some g) := by
  have HS := mkHidD hS
  have HD0 := mkHidD hd
  have HG0 := mkHidD (grown_drewN w 0 (some g))
  clear hS hd
  go_enter Tryz.func44, Tryz.ntmps44
  go_wp2_with fail
  refine (draw_any HS.out HD0.out 3 (by omega)).mono ?_
  rintro e w0 ⟨r, rfl, h0, h1, -, hd, hg⟩
  have h1' := h1 (by omega)
  obtain ⟨k0, rfl⟩ : ∃ k : Nat, r = k := ⟨r.toNat, by omega⟩
  have HDa := mkHidD hd
  have HGa := mkHidD (grown_trans' HG0.out hg)
  clear hd hg h1 HD0 HG0
  go_wp2_with fail
  go_loopw [3, 4] (fun v i wr => ∃ (k : Nat) (t : ByteArray), i = .int .i64 k ∧ v = .string t ∧ k ≤ 2 ∧ t.size + 19 * k ≤ 38 ∧ Dr W0 wr g a n cap ∧ w.grownBy wr (some g)) (fun _ i _ => (intOf i).toNat)
  case atStart => exact ⟨k0, ⟨#[]⟩, rfl, rfl, by omega, by rw [sz0]; simp; omega, HDa.out, HGa.out⟩
  case round =>
    obtain ⟨k, t, rfl, rfl, hk, hts, hd, hg⟩ := hrel
    have HD0 := mkHidD hd
    have HG0 := mkHidD hg
    clear hd hg HDa HGa
    by_cases hlt : 0 < k
    · have hk1 : (k : Int) - 1 = ((k - 1 : Nat) : Int) := by omega
      have HK := mkHidD hk1
      clear hk1
      go_wp2_with fail
      refine (pick_any HS.out (HD0.out.alloc _) _ 3 3 2 (texts_lit (S := 2) (by simp [isShort])) (by have := HD0.out.lt; omega) (by omega) (by omega)).mono ?_
      rintro e w1 ⟨t1, rfl, ht1, hd, hg⟩
      have HD1 := mkHidD hd
      have HG1 := mkHidD (grown_trans' HG0.out (grown_of_alloc hg))
      clear hd hg HD0 HG0
      go_wp2_with fail
      refine (pick_any HS.out (HD1.out.alloc _) _ 6 6 7 (texts_lit (S := 7) (by simp [isShort])) (by have := HD1.out.lt; omega) (by omega) (by omega)).mono ?_
      rintro e w2 ⟨t2, rfl, ht2, hd, hg⟩
      have HD2 := mkHidD hd
      have HG2 := mkHidD (grown_trans' HG1.out (grown_of_alloc hg))
      clear hd hg HD1 HG1
      go_wp2_with fail
      refine (pick_any HS.out (HD2.out.alloc _) _ 2 2 3 (texts_lit (S := 3) (by simp [isShort])) (by have := HD2.out.lt; omega) (by omega) (by omega)).mono ?_
      rintro e w3 ⟨t3, rfl, ht3, hd, hg⟩
      have HD3 := mkHidD hd
      have HG3 := mkHidD (grown_trans' HG2.out (grown_of_alloc hg))
      clear hd hg HD2 HG2
      go_wp2_with fail
      refine (l02Value_any HS.out HD3.out).mono ?_
      rintro e w4 ⟨t4, rfl, ht4, hd, hg⟩
      have HD4 := mkHidD hd
      have HG4 := mkHidD (grown_trans' HG3.out hg)
      clear hd hg HD3 HG3
      go_wp2
      go_roundw
      case rel => exact ⟨k - 1, _, by rw [HK.out], rfl, by omega, by simp [ByteArray.size_append]; omega, HD4.out, HG4.out⟩
      case measure => simp [intOf]; omega
    · go_wp2
      go_ret
      exact ⟨t, rfl, by omega, HD0.out, HG0.out⟩
end Go.Proofs.YteebdfcegndaoaaGreatDoor

namespace Go.Proofs.YteebdfcegndaoaaGreatDoor
open Go.RowKit Plain1 Lists Strs Bytes

set_option maxRecDepth 100000 in
set_option maxHeartbeats 16000000 in
theorem l02Piece_any {W0 w : World} {g : Nat} {a : Option Addr} {n cap : Nat} (hS : Fed W0 a n) (hd : Dr W0 w g a n cap) :
    Calls Tryz.prog 24 #[.pointer (some ⟨g, 0, none⟩)] w fun e w' => ∃ t : ByteArray, e = .returned (.string t) ∧ t.size ≤ 60 ∧ Dr W0 w' g a n cap ∧ w.grownBy w' (some g) := by
  have HS := mkHidD hS
  have HD0 := mkHidD hd
  have HG0 := mkHidD (grown_drewN w 0 (some g))
  clear hS hd
  go_enter Tryz.func24, Tryz.ntmps24
  go_wp2_with fail
  refine (draw_any HS.out HD0.out 9 (by omega)).mono ?_
  rintro e wa ⟨r, rfl, h0, h1, -, hd, hg⟩
  have h1' := h1 (by omega)
  have HDx := mkHidD hd
  have HGx := mkHidD (grown_trans' HG0.out hg)
  clear hd hg h1 HD0 HG0
  have hr : r = 0 ∨ r = 1 ∨ r = 2 ∨ r = 3 ∨ r = 4 ∨ r = 5 ∨ r = 6 ∨ r = 7 ∨ r = 8 := by omega
  clear h0 h1'
  rcases hr with rfl | rfl | rfl | rfl | rfl | rfl | rfl | rfl | rfl
  · have HD0 := HDx
    have HG0 := HGx
    clear HDx HGx
    go_wp2_with fail
    refine (l02Name_any HS.out HD0.out).mono ?_
    rintro e w1 ⟨t1, rfl, ht1, hd, hg⟩
    have HD1 := mkHidD hd
    have HG1 := mkHidD (grown_trans' HG0.out hg)
    clear hd hg HD0 HG0
    go_wp2_with fail
    refine (l02Attrs_any HS.out HD1.out).mono ?_
    rintro e w2 ⟨t2, rfl, ht2, hd, hg⟩
    have HD2 := mkHidD hd
    have HG2 := mkHidD (grown_trans' HG1.out hg)
    clear hd hg HD1 HG1
    go_wp2_with fail
    refine (pick_any HS.out (HD2.out.alloc _) _ 2 2 2 (texts_lit (S := 2) (by simp [isShort])) (by have := HD2.out.lt; omega) (by omega) (by omega)).mono ?_
    rintro e w3 ⟨t3, rfl, ht3, hd, hg⟩
    have HD3 := mkHidD hd
    have HG3 := mkHidD (grown_trans' HG2.out (grown_of_alloc hg))
    clear hd hg HD2 HG2
    go_wp2
    go_ret
    refine ⟨_, rfl, ?_, HD3.out, HG3.out⟩
    first | (simp [ByteArray.size_append]; omega) | (simp [ByteArray.size_append, sz0]; omega)
  · have HD0 := HDx
    have HG0 := HGx
    clear HDx HGx
    go_wp2_with fail
    refine (l02Name_any HS.out HD0.out).mono ?_
    rintro e w1 ⟨t1, rfl, ht1, hd, hg⟩
    have HD1 := mkHidD hd
    have HG1 := mkHidD (grown_trans' HG0.out hg)
    clear hd hg HD0 HG0
    go_wp2_with fail
    refine (l02Attrs_any HS.out HD1.out).mono ?_
    rintro e w2 ⟨t2, rfl, ht2, hd, hg⟩
    have HD2 := mkHidD hd
    have HG2 := mkHidD (grown_trans' HG1.out hg)
    clear hd hg HD1 HG1
    go_wp2
    go_ret
    refine ⟨_, rfl, ?_, HD2.out, HG2.out⟩
    first | (simp [ByteArray.size_append]; omega) | (simp [ByteArray.size_append, sz0]; omega)
  · have HD0 := HDx
    have HG0 := HGx
    clear HDx HGx
    go_wp2_with fail
    refine (l02Name_any HS.out HD0.out).mono ?_
    rintro e w1 ⟨t1, rfl, ht1, hd, hg⟩
    have HD1 := mkHidD hd
    have HG1 := mkHidD (grown_trans' HG0.out hg)
    clear hd hg HD0 HG0
    go_wp2_with fail
    refine (pick_any HS.out (HD1.out.alloc _) _ 2 2 2 (texts_lit (S := 2) (by simp [isShort])) (by have := HD1.out.lt; omega) (by omega) (by omega)).mono ?_
    rintro e w2 ⟨t2, rfl, ht2, hd, hg⟩
    have HD2 := mkHidD hd
    have HG2 := mkHidD (grown_trans' HG1.out (grown_of_alloc hg))
    clear hd hg HD1 HG1
    go_wp2
    go_ret
    refine ⟨_, rfl, ?_, HD2.out, HG2.out⟩
    first | (simp [ByteArray.size_append]; omega) | (simp [ByteArray.size_append, sz0]; omega)
  · have HD0 := HDx
    have HG0 := HGx
    clear HDx HGx
    go_wp2_with fail
    refine (pick_any HS.out (HD0.out.alloc _) _ 4 4 5 (texts_lit (S := 5) (by simp [isShort])) (by have := HD0.out.lt; omega) (by omega) (by omega)).mono ?_
    rintro e w1 ⟨t1, rfl, ht1, hd, hg⟩
    have HD1 := mkHidD hd
    have HG1 := mkHidD (grown_trans' HG0.out (grown_of_alloc hg))
    clear hd hg HD0 HG0
    go_wp2
    go_ret
    refine ⟨_, rfl, ?_, HD1.out, HG1.out⟩
    first | (simp [ByteArray.size_append]; omega) | (simp [ByteArray.size_append, sz0]; omega)
  · have HD0 := HDx
    have HG0 := HGx
    clear HDx HGx
    go_wp2_with fail
    refine (pick_any HS.out (HD0.out.alloc _) _ 4 4 3 (texts_lit (S := 3) (by simp [isShort])) (by have := HD0.out.lt; omega) (by omega) (by omega)).mono ?_
    rintro e w1 ⟨t1, rfl, ht1, hd, hg⟩
    have HD1 := mkHidD hd
    have HG1 := mkHidD (grown_trans' HG0.out (grown_of_alloc hg))
    clear hd hg HD0 HG0
    go_wp2
    go_ret
    refine ⟨_, rfl, ?_, HD1.out, HG1.out⟩
    first | (simp [ByteArray.size_append]; omega) | (simp [ByteArray.size_append, sz0]; omega)
  · have HD0 := HDx
    have HG0 := HGx
    clear HDx HGx
    go_wp2_with fail
    refine (pick_any HS.out (HD0.out.alloc _) _ 3 3 4 (texts_lit (S := 4) (by simp [isShort])) (by have := HD0.out.lt; omega) (by omega) (by omega)).mono ?_
    rintro e w1 ⟨t1, rfl, ht1, hd, hg⟩
    have HD1 := mkHidD hd
    have HG1 := mkHidD (grown_trans' HG0.out (grown_of_alloc hg))
    clear hd hg HD0 HG0
    go_wp2_with fail
    refine (pick_any HS.out (HD1.out.alloc _) _ 3 3 4 (texts_lit (S := 4) (by simp [isShort])) (by have := HD1.out.lt; omega) (by omega) (by omega)).mono ?_
    rintro e w2 ⟨t2, rfl, ht2, hd, hg⟩
    have HD2 := mkHidD hd
    have HG2 := mkHidD (grown_trans' HG1.out (grown_of_alloc hg))
    clear hd hg HD1 HG1
    go_wp2
    go_ret
    refine ⟨_, rfl, ?_, HD2.out, HG2.out⟩
    first | (simp [ByteArray.size_append]; omega) | (simp [ByteArray.size_append, sz0]; omega)
  · have HD0 := HDx
    have HG0 := HGx
    clear HDx HGx
    go_wp2_with fail
    refine (pick_any HS.out (HD0.out.alloc _) _ 4 4 40 (texts_lit (S := 40) (by simp [isShort])) (by have := HD0.out.lt; omega) (by omega) (by omega)).mono ?_
    rintro e w1 ⟨t1, rfl, ht1, hd, hg⟩
    have HD1 := mkHidD hd
    have HG1 := mkHidD (grown_trans' HG0.out (grown_of_alloc hg))
    clear hd hg HD0 HG0
    go_wp2
    go_ret
    refine ⟨_, rfl, ?_, HD1.out, HG1.out⟩
    first | (simp [ByteArray.size_append]; omega) | (simp [ByteArray.size_append, sz0]; omega)
  · have HD0 := HDx
    have HG0 := HGx
    clear HDx HGx
    go_wp2_with fail
    refine (pick_any HS.out (HD0.out.alloc _) _ 6 6 8 (texts_lit (S := 8) (by simp [isShort])) (by have := HD0.out.lt; omega) (by omega) (by omega)).mono ?_
    rintro e w1 ⟨t1, rfl, ht1, hd, hg⟩
    have HD1 := mkHidD hd
    have HG1 := mkHidD (grown_trans' HG0.out (grown_of_alloc hg))
    clear hd hg HD0 HG0
    go_wp2
    go_ret
    refine ⟨_, rfl, ?_, HD1.out, HG1.out⟩
    omega
  · have HD0 := HDx
    have HG0 := HGx
    clear HDx HGx
    go_wp2_with fail
    refine (pick_any HS.out (HD0.out.alloc _) _ 6 6 8 (texts_lit (S := 8) (by simp [isShort])) (by have := HD0.out.lt; omega) (by omega) (by omega)).mono ?_
    rintro e w1 ⟨t1, rfl, ht1, hd, hg⟩
    have HD1 := mkHidD hd
    have HG1 := mkHidD (grown_trans' HG0.out (grown_of_alloc hg))
    clear hd hg HD0 HG0
    go_wp2
    go_ret
    refine ⟨_, rfl, ?_, HD1.out, HG1.out⟩
    omega
end Go.Proofs.YteebdfcegndaoaaGreatDoor

namespace Go.Proofs.YteebdfcegndaoaaGreatDoor
open Go.RowKit Plain1 Lists Strs Bytes

set_option maxRecDepth 100000 in
set_option maxHeartbeats 16000000 in
theorem drawNext_any (a : Option Addr) (n cap : Nat) (w : World) (hS : Fed w a n) :
    Calls Tryz.prog 5 #[.slice a n cap] w fun e w' => ∃ (t : ByteArray) (z : Int) (c : Bool), e = .returned (.tuple #[.string t, .int .i64 z, .bool c]) ∧ t.size ≤ 300 ∧ Below w.heap.size w w' := by
  have HS := mkHidD hS
  have HC := mkHidD (source_any a n cap w hS)
  clear hS
  go_enter Tryz.func5, Tryz.ntmps5
  go_wp2_with fail
  refine HC.out.mono ?_
  rintro e w1 ⟨rfl, hd⟩
  have HD1 := mkHidD hd
  clear hd HC
  go_wp2_with fail
  refine (pick_any HS.out (HD1.out.alloc _) _ 3 3 3 (texts_lit (S := 3) (by simp [isShort])) (by have := HD1.out.lt; omega) (by omega) (by omega)).mono ?_
  rintro e w2 ⟨t0, rfl, ht0, hd, -⟩
  have HD2 := mkHidD hd
  clear hd HD1
  go_wp2_with fail
  refine (draw_any HS.out HD2.out 3 (by omega)).mono ?_
  rintro e w3 ⟨r, rfl, h0, h1, -, hd, -⟩
  have h1' := h1 (by omega)
  obtain ⟨k0, rfl⟩ : ∃ k : Nat, r = k := ⟨r.toNat, by omega⟩
  have HD3 := mkHidD hd
  have hk0 : (1 : Int) + (k0 : Int) = ((1 + k0 : Nat) : Int) := by omega
  have HK0 := mkHidD hk0
  clear hd HD2 h1 hk0
  go_wp2_with fail
  go_loopw [6, 8] (fun v i wr => ∃ (k : Nat) (t : ByteArray), i = .int .i64 k ∧ v = .string t ∧ k ≤ 3 ∧ t.size + 60 * k ≤ 183 ∧ Dr w wr w.heap.size a n cap) (fun _ i _ => (intOf i).toNat)
  case atStart => exact ⟨1 + k0, t0, by rw [HK0.out], rfl, by omega, by omega, HD3.out⟩
  case round =>
    obtain ⟨k, t, rfl, rfl, hk, hts, hd⟩ := hrel
    have HD4 := mkHidD hd
    clear hd HD3 HK0
    by_cases hlt : 0 < k
    · have hk1 : (k : Int) - 1 = ((k - 1 : Nat) : Int) := by omega
      have HK := mkHidD hk1
      clear hk1
      go_wp2_with fail
      refine (l02Piece_any HS.out HD4.out).mono ?_
      rintro e w5 ⟨u, rfl, hus, hd, -⟩
      have HD5 := mkHidD hd
      clear hd HD4
      go_wp2
      go_roundw
      case rel => exact ⟨k - 1, _, by rw [HK.out], rfl, by omega, by simp [ByteArray.size_append]; omega, HD5.out⟩
      case measure => simp [intOf]; omega
    · have hts' : t.size ≤ 183 := by omega
      obtain rfl : k = 0 := by omega
      clear hts hk hlt
      go_wp2_with fail
      refine (draw_any HS.out HD4.out 5 (by omega)).mono ?_
      rintro e w5 ⟨r, rfl, h0', h1, -, hd, -⟩
      have h1'' := h1 (by omega)
      have HD5 := mkHidD hd
      clear hd HD4 h1
      have hr : r = 0 ∨ r = 1 ∨ r = 2 ∨ r = 3 ∨ r = 4 := by omega
      clear h0' h1''
      rcases hr with rfl | rfl | rfl | rfl | rfl
      · go_wp2_with fail
        refine (spoil_any HS.out HD5.out t (by omega)).mono ?_
        rintro e w6 ⟨t', rfl, hts2, hd, -⟩
        have HD6 := mkHidD hd
        clear hd HD5
        go_wp2_with fail
        refine (one_any HS.out HD6.out 10 (by omega)).mono ?_
        rintro e w7 ⟨b, rfl, hd, -⟩
        have HD7 := mkHidD hd
        clear hd HD6
        cases b with
        | true =>
          go_wp2_with fail
          refine (draw_any HS.out HD7.out 12 (by omega)).mono ?_
          rintro e w8 ⟨z, rfl, hz0, hz1, -, hd, -⟩
          have hz2 := hz1 (by omega)
          have HD8 := mkHidD hd
          clear hd HD7 hz1
          go_wp2_with fail
          refine (one_any HS.out HD8.out 2 (by omega)).mono ?_
          rintro e w9 ⟨c, rfl, hd, -⟩
          have HB := mkHidD hd.below
          clear hd HD8
          go_wp2
          refine bodyPost_ret (v := .tuple #[.string _, .int .i64 _, .bool c]) (by simp [results, Tryz.results5, go_sem]; exact ⟨rfl, rfl⟩) rfl ?_
          exact ⟨_, _, _, rfl, by omega, HB.out⟩
        | false =>
          go_wp2_with fail
          refine (one_any HS.out HD7.out 2 (by omega)).mono ?_
          rintro e w9 ⟨c, rfl, hd, -⟩
          have HB := mkHidD hd.below
          clear hd HD7
          go_wp2
          refine bodyPost_ret (v := .tuple #[.string _, .int .i64 _, .bool c]) (by simp [results, Tryz.results5, go_sem]; exact ⟨rfl, rfl⟩) rfl ?_
          exact ⟨_, _, _, rfl, by omega, HB.out⟩
      · go_wp2_with fail
        refine (draw_any HS.out HD5.out ((t.size : Int) + 1) (by omega)).mono ?_
        rintro e w6 ⟨r, rfl, h0', h1, h2, hd, -⟩
        have hr : r ≤ t.size := by
          by_cases h : 1 < (t.size : Int) + 1
          · have := h1 h; omega
          · have := h2 (by omega); omega
        obtain ⟨j, rfl⟩ : ∃ k : Nat, r = k := ⟨r.toNat, by omega⟩
        have HD6 := mkHidD hd
        have hj : j ≤ t.size := by omega
        clear hd HD5 h1 h2 hr h0'
        go_wp2_with fail
        refine (one_any HS.out HD6.out 10 (by omega)).mono ?_
        rintro e w7 ⟨b, rfl, hd, -⟩
        have HD7 := mkHidD hd
        clear hd HD6
        cases b with
        | true =>
          go_wp2_with fail
          refine (draw_any HS.out HD7.out 12 (by omega)).mono ?_
          rintro e w8 ⟨z, rfl, hz0, hz1, -, hd, -⟩
          have hz2 := hz1 (by omega)
          have HD8 := mkHidD hd
          clear hd HD7 hz1
          go_wp2_with fail
          refine (one_any HS.out HD8.out 2 (by omega)).mono ?_
          rintro e w9 ⟨c, rfl, hd, -⟩
          have HB := mkHidD hd.below
          clear hd HD8
          go_wp2
          refine bodyPost_ret (v := .tuple #[.string _, .int .i64 _, .bool c]) (by simp [results, Tryz.results5, go_sem]; exact ⟨rfl, rfl⟩) rfl ?_
          exact ⟨_, _, _, rfl, by simp [ByteArray.size_extract]; omega, HB.out⟩
        | false =>
          go_wp2_with fail
          refine (one_any HS.out HD7.out 2 (by omega)).mono ?_
          rintro e w9 ⟨c, rfl, hd, -⟩
          have HB := mkHidD hd.below
          clear hd HD7
          go_wp2
          refine bodyPost_ret (v := .tuple #[.string _, .int .i64 _, .bool c]) (by simp [results, Tryz.results5, go_sem]; exact ⟨rfl, rfl⟩) rfl ?_
          exact ⟨_, _, _, rfl, by simp [ByteArray.size_extract]; omega, HB.out⟩
      · go_wp2_with fail
        refine (pick_any HS.out (HD5.out.alloc _) _ 19 19 30 (texts_lit (S := 30) (by simp [isShort])) (by have := HD5.out.lt; omega) (by omega) (by omega)).mono ?_
        rintro e w6 ⟨t', rfl, hts2, hd, -⟩
        have HD6 := mkHidD hd
        clear hd HD5
        go_wp2_with fail
        refine (one_any HS.out HD6.out 10 (by omega)).mono ?_
        rintro e w7 ⟨b, rfl, hd, -⟩
        have HD7 := mkHidD hd
        clear hd HD6
        cases b with
        | true =>
          go_wp2_with fail
          refine (draw_any HS.out HD7.out 12 (by omega)).mono ?_
          rintro e w8 ⟨z, rfl, hz0, hz1, -, hd, -⟩
          have hz2 := hz1 (by omega)
          have HD8 := mkHidD hd
          clear hd HD7 hz1
          go_wp2_with fail
          refine (one_any HS.out HD8.out 2 (by omega)).mono ?_
          rintro e w9 ⟨c, rfl, hd, -⟩
          have HB := mkHidD hd.below
          clear hd HD8
          go_wp2
          refine bodyPost_ret (v := .tuple #[.string _, .int .i64 _, .bool c]) (by simp [results, Tryz.results5, go_sem]; exact ⟨rfl, rfl⟩) rfl ?_
          exact ⟨_, _, _, rfl, by omega, HB.out⟩
        | false =>
          go_wp2_with fail
          refine (one_any HS.out HD7.out 2 (by omega)).mono ?_
          rintro e w9 ⟨c, rfl, hd, -⟩
          have HB := mkHidD hd.below
          clear hd HD7
          go_wp2
          refine bodyPost_ret (v := .tuple #[.string _, .int .i64 _, .bool c]) (by simp [results, Tryz.results5, go_sem]; exact ⟨rfl, rfl⟩) rfl ?_
          exact ⟨_, _, _, rfl, by omega, HB.out⟩
      · have HD6 := HD5
        clear HD5
        go_wp2_with fail
        refine (one_any HS.out HD6.out 10 (by omega)).mono ?_
        rintro e w7 ⟨b, rfl, hd, -⟩
        have HD7 := mkHidD hd
        clear hd HD6
        cases b with
        | true =>
          go_wp2_with fail
          refine (draw_any HS.out HD7.out 12 (by omega)).mono ?_
          rintro e w8 ⟨z, rfl, hz0, hz1, -, hd, -⟩
          have hz2 := hz1 (by omega)
          have HD8 := mkHidD hd
          clear hd HD7 hz1
          go_wp2_with fail
          refine (one_any HS.out HD8.out 2 (by omega)).mono ?_
          rintro e w9 ⟨c, rfl, hd, -⟩
          have HB := mkHidD hd.below
          clear hd HD8
          go_wp2
          refine bodyPost_ret (v := .tuple #[.string _, .int .i64 _, .bool c]) (by simp [results, Tryz.results5, go_sem]; exact ⟨rfl, rfl⟩) rfl ?_
          exact ⟨_, _, _, rfl, by omega, HB.out⟩
        | false =>
          go_wp2_with fail
          refine (one_any HS.out HD7.out 2 (by omega)).mono ?_
          rintro e w9 ⟨c, rfl, hd, -⟩
          have HB := mkHidD hd.below
          clear hd HD7
          go_wp2
          refine bodyPost_ret (v := .tuple #[.string _, .int .i64 _, .bool c]) (by simp [results, Tryz.results5, go_sem]; exact ⟨rfl, rfl⟩) rfl ?_
          exact ⟨_, _, _, rfl, by omega, HB.out⟩
      · have HD6 := HD5
        clear HD5
        go_wp2_with fail
        refine (one_any HS.out HD6.out 10 (by omega)).mono ?_
        rintro e w7 ⟨b, rfl, hd, -⟩
        have HD7 := mkHidD hd
        clear hd HD6
        cases b with
        | true =>
          go_wp2_with fail
          refine (draw_any HS.out HD7.out 12 (by omega)).mono ?_
          rintro e w8 ⟨z, rfl, hz0, hz1, -, hd, -⟩
          have hz2 := hz1 (by omega)
          have HD8 := mkHidD hd
          clear hd HD7 hz1
          go_wp2_with fail
          refine (one_any HS.out HD8.out 2 (by omega)).mono ?_
          rintro e w9 ⟨c, rfl, hd, -⟩
          have HB := mkHidD hd.below
          clear hd HD8
          go_wp2
          refine bodyPost_ret (v := .tuple #[.string _, .int .i64 _, .bool c]) (by simp [results, Tryz.results5, go_sem]; exact ⟨rfl, rfl⟩) rfl ?_
          exact ⟨_, _, _, rfl, by omega, HB.out⟩
        | false =>
          go_wp2_with fail
          refine (one_any HS.out HD7.out 2 (by omega)).mono ?_
          rintro e w9 ⟨c, rfl, hd, -⟩
          have HB := mkHidD hd.below
          clear hd HD7
          go_wp2
          refine bodyPost_ret (v := .tuple #[.string _, .int .i64 _, .bool c]) (by simp [results, Tryz.results5, go_sem]; exact ⟨rfl, rfl⟩) rfl ?_
          exact ⟨_, _, _, rfl, by omega, HB.out⟩
end Go.Proofs.YteebdfcegndaoaaGreatDoor
