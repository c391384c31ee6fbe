import Derived.Test.YtocnfoeaikiecaaGreatDoorDrA
set_option maxRecDepth 100000
set_option maxHeartbeats 16000000
namespace Go.Proofs.YtocnfoeaikiecaaGreatDoor
open Go.RowKit Tryz
theorem sz0 (l : Array UInt8) : (ByteArray.mk l).size = l.size := rfl
theorem bJm {W0 w : World} {g : Nat} {a : Option Addr} {n cap : Nat} (hS : Fed W0 a n) (hd : Dr W0 w g a n cap) :
 Calls prog 46 #[.pointer (some ⟨g, 0, none⟩)] w fun e w' => ∃ t : ByteArray, e = .returned (.string t) ∧ t.size ≤ 3 ∧ Dr W0 w' g a n cap ∧ w.grownBy w' (some g) := by
 have HS := aQd hS
 have HD0 := aQd hd
 have HG0 := aQd (aVh w 0 (some g))
 clear hS hd
 go_enter func46, ntmps46
 go_wp2_with fail
 refine (aX7 HS.out (HD0.out.alloc _) _ 5 5 3 (aQy (S := 3) (by simp [aXf])) (by have := HD0.out.lt; omega) (by omega) (by omega)).mono ?_
 rintro e w1 ⟨t1, rfl, ht1, hd, hg⟩
 have HD1 := aQd hd
 have HG1 := aQd (aQ7 HG0.out (aQe hg))
 clear hd hg HD0 HG0
 go_wp2
 go_ret
 refine ⟨_, rfl, ?_, HD1.out, HG1.out⟩
 omega
theorem bYl {W0 w : World} {g : Nat} {a : Option Addr} {n cap : Nat} (hS : Fed W0 a n) (hd : Dr W0 w g a n cap) :
 Calls prog 71 #[.pointer (some ⟨g, 0, none⟩)] w fun e w' => ∃ t : ByteArray, e = .returned (.string t) ∧ t.size ≤ 7 ∧ Dr W0 w' g a n cap ∧ w.grownBy w' (some g) := by
 have HS := aQd hS
 have HD0 := aQd hd
 have HG0 := aQd (aVh w 0 (some g))
 clear hS hd
 go_enter func71, ntmps71
 go_wp2_with fail
 refine (aX7 HS.out (HD0.out.alloc _) _ 2 2 1 (aQy (S := 1) (by simp [aXf])) (by have := HD0.out.lt; omega) (by omega) (by omega)).mono ?_
 rintro e w1 ⟨t1, rfl, ht1, hd, hg⟩
 have HD1 := aQd hd
 have HG1 := aQd (aQ7 HG0.out (aQe hg))
 clear hd hg HD0 HG0
 go_wp2_with fail
 refine (aX7 HS.out (HD1.out.alloc _) _ 8 8 5 (aQy (S := 5) (by simp [aXf])) (by have := HD1.out.lt; omega) (by omega) (by omega)).mono ?_
 rintro e w2 ⟨t2, rfl, ht2, hd, hg⟩
 have HD2 := aQd hd
 have HG2 := aQd (aQ7 HG1.out (aQe hg))
 clear hd hg HD1 HG1
 go_wp2
 go_ret
 refine ⟨_, rfl, ?_, HD2.out, HG2.out⟩
 first | (simp [ByteArray.size_append]; omega) | (simp [ByteArray.size_append, sz0]; omega)
theorem bXw {W0 w : World} {g : Nat} {a : Option Addr} {n cap : Nat} (hS : Fed W0 a n) (hd : Dr W0 w g a n cap) :
 Calls prog 47 #[.pointer (some ⟨g, 0, none⟩)] w fun e w' => ∃ t : ByteArray, e = .returned (.string t) ∧ t.size ≤ 38 ∧ Dr W0 w' g a n cap ∧ w.grownBy w' (some g) := by
 have HS := aQd hS
 have HD0 := aQd hd
 have HG0 := aQd (aVh w 0 (some g))
 clear hS hd
 go_enter func47, ntmps47
 go_wp2_with fail
 refine (aJh HS.out HD0.out 3 (by omega)).mono ?_
 rintro e w0 ⟨r, rfl, h0, h1, -, hd, hg⟩
 have h1' := h1 (by omega)
 obtain ⟨k0, rfl⟩ : ∃ k : Nat, r = k := ⟨r.toNat, by omega⟩
 have HDa := aQd hd
 have HGa := aQd (aQ7 HG0.out hg)
 clear hd hg h1 HD0 HG0
 go_wp2_with fail
 go_loopw [3, 4] (fun v i wr => ∃ (k : Nat) (t : ByteArray), i = .int .i64 k ∧ v = .string t ∧ k ≤ 2 ∧ t.size + 19 * k ≤ 38 ∧ Dr W0 wr g a n cap ∧ w.grownBy wr (some g)) (fun _ i _ => (intOf i).toNat)
 case atStart => exact ⟨k0, ⟨#[]⟩, rfl, rfl, by omega, by rw [sz0]; simp; omega, HDa.out, HGa.out⟩
 case round =>
  obtain ⟨k, t, rfl, rfl, hk, hts, hd, hg⟩ := hrel
  have HD0 := aQd hd
  have HG0 := aQd hg
  clear hd hg HDa HGa
  by_cases hlt : 0 < k
  · have hk1 : (k : Int) - 1 = ((k - 1 : Nat) : Int) := by omega
    have HK := aQd hk1
    clear hk1
    go_wp2_with fail
    refine (aX7 HS.out (HD0.out.alloc _) _ 3 3 2 (aQy (S := 2) (by simp [aXf])) (by have := HD0.out.lt; omega) (by omega) (by omega)).mono ?_
    rintro e w1 ⟨t1, rfl, ht1, hd, hg⟩
    have HD1 := aQd hd
    have HG1 := aQd (aQ7 HG0.out (aQe hg))
    clear hd hg HD0 HG0
    go_wp2_with fail
    refine (aX7 HS.out (HD1.out.alloc _) _ 6 6 7 (aQy (S := 7) (by simp [aXf])) (by have := HD1.out.lt; omega) (by omega) (by omega)).mono ?_
    rintro e w2 ⟨t2, rfl, ht2, hd, hg⟩
    have HD2 := aQd hd
    have HG2 := aQd (aQ7 HG1.out (aQe hg))
    clear hd hg HD1 HG1
    go_wp2_with fail
    refine (aX7 HS.out (HD2.out.alloc _) _ 2 2 3 (aQy (S := 3) (by simp [aXf])) (by have := HD2.out.lt; omega) (by omega) (by omega)).mono ?_
    rintro e w3 ⟨t3, rfl, ht3, hd, hg⟩
    have HD3 := aQd hd
    have HG3 := aQd (aQ7 HG2.out (aQe hg))
    clear hd hg HD2 HG2
    go_wp2_with fail
    refine (bYl HS.out HD3.out).mono ?_
    rintro e w4 ⟨t4, rfl, ht4, hd, hg⟩
    have HD4 := aQd hd
    have HG4 := aQd (aQ7 HG3.out hg)
    clear hd hg HD3 HG3
    go_wp2
    go_roundw
    case rel => exact ⟨k - 1, _, by rw [HK.out], rfl, by omega, by simp [ByteArray.size_append]; omega, HD4.out, HG4.out⟩
    case measure => simp [intOf]; omega
  · go_wp2
    go_ret
    exact ⟨t, rfl, by omega, HD0.out, HG0.out⟩
open Go.RowKit
theorem szH (l : Array UInt8) : (ByteArray.mk l).size = l.size := rfl
theorem cXg {W0 w : World} {g : Nat} {a : Option Addr} {n cap : Nat} (hS : Fed W0 a n) (hd : Dr W0 w g a n cap) :
 Calls prog 29 #[.pointer (some ⟨g, 0, none⟩)] w fun e w' => ∃ t : ByteArray, e = .returned (.string t) ∧ t.size ≤ 180 ∧ Dr W0 w' g a n cap ∧ w.grownBy w' (some g) := by
 have HS := aQd hS
 have HD0 := aQd hd
 clear hS hd
 go_enter func29, ntmps29
 go_wp2_with fail
 refine (aJh HS.out HD0.out 5 (by omega)).mono ?_
 rintro e w1 ⟨r, rfl, h0, h1, -, hd, hg⟩
 have h1' := h1 (by omega)
 obtain ⟨k0, rfl⟩ : ∃ k : Nat, r = k := ⟨r.toNat, by omega⟩
 have HD1 := aQd hd
 have HG1 := aQd hg
 clear hd hg HD0 h1
 go_wp2_with fail
 go_loopw [3, 4] (fun v i wr => ∃ (k : Nat) (t : ByteArray), i = .int .i64 k ∧ v = .string t ∧ k ≤ 4 ∧ t.size + 45 * k ≤ 180 ∧ Dr W0 wr g a n cap ∧ w.grownBy wr (some g)) (fun _ i _ => (intOf i).toNat)
 case atStart => exact ⟨k0, ⟨#[]⟩, rfl, rfl, by omega, by simp only [szH]; simp; omega, HD1.out, HG1.out⟩
 case round =>
  obtain ⟨k, t, rfl, rfl, hk, hts, hd, hg⟩ := hrel
  have HD2 := aQd hd
  have HG2 := aQd hg
  clear hd hg HD1 HG1
  by_cases hlt : 0 < k
  · have hk1 : (k : Int) - 1 = ((k - 1 : Nat) : Int) := by omega
    have HK := aQd hk1
    clear hk1
    go_wp2_with fail
    refine (aJh HS.out HD2.out 6 (by omega)).mono ?_
    rintro e w3 ⟨r, rfl, h0', h1, -, hd, hg⟩
    have h1'' := h1 (by omega)
    have HD3 := aQd hd
    have HG3 := aQd (aQ7 HG2.out hg)
    clear hd hg HD2 HG2 h1
    have hr : r = 0 ∨ r = 1 ∨ r = 2 ∨ r = 3 ∨ r = 4 ∨ r = 5 := by omega
    clear h0' h1''
    rcases hr with rfl | rfl | rfl | rfl | rfl | rfl
    · skip
      go_wp2_with fail
      refine (aX7 HS.out (HD3.out.alloc _) _ 2 2 1 (aQy (S := 1) (by simp [aXf])) (by have := HD3.out.lt; omega) (by omega) (by omega)).mono ?_
      rintro e w4 ⟨t4, rfl, ht4, hd, hg⟩
      have HD4 := aQd hd
      have HG4 := aQd (aQ7 HG3.out (aQe hg))
      clear hd hg HD3 HG3
      go_wp2_with fail
      refine (aX7 HS.out (HD4.out.alloc _) _ 5 5 33 (aQy (S := 33) (by simp [aXf])) (by have := HD4.out.lt; omega) (by omega) (by omega)).mono ?_
      rintro e w5 ⟨t5, rfl, ht5, hd, hg⟩
      have HD5 := aQd hd
      have HG5 := aQd (aQ7 HG4.out (aQe hg))
      clear hd hg HD4 HG4
      go_wp2
      go_roundw
      case rel => exact ⟨k - 1, _, by rw [HK.out], rfl, by omega, by simp [ByteArray.size_append, szH]; omega, HD5.out, HG5.out⟩
      case measure => simp [intOf]; omega
    · skip
      go_wp2
      go_roundw
      case rel => exact ⟨k - 1, _, by rw [HK.out], rfl, by omega, by simp [ByteArray.size_append, szH]; omega, HD3.out, HG3.out⟩
      case measure => simp [intOf]; omega
    · skip
      go_wp2_with fail
      refine (aX7 HS.out (HD3.out.alloc _) _ 3 3 10 (aQy (S := 10) (by simp [aXf])) (by have := HD3.out.lt; omega) (by omega) (by omega)).mono ?_
      rintro e w4 ⟨t4, rfl, ht4, hd, hg⟩
      have HD4 := aQd hd
      have HG4 := aQd (aQ7 HG3.out (aQe hg))
      clear hd hg HD3 HG3
      go_wp2
      go_roundw
      case rel => exact ⟨k - 1, _, by rw [HK.out], rfl, by omega, by simp [ByteArray.size_append]; omega, HD4.out, HG4.out⟩
      case measure => simp [intOf]; omega
    · skip
      go_wp2_with fail
      refine (aX7 HS.out (HD3.out.alloc _) _ 4 4 1 (aQy (S := 1) (by simp [aXf])) (by have := HD3.out.lt; omega) (by omega) (by omega)).mono ?_
      rintro e w4 ⟨t4, rfl, ht4, hd, hg⟩
      have HD4 := aQd hd
      have HG4 := aQd (aQ7 HG3.out (aQe hg))
      clear hd hg HD3 HG3
      go_wp2_with fail
      refine (aX7 HS.out (HD4.out.alloc _) _ 10 10 14 (aQy (S := 14) (by simp [aXf])) (by have := HD4.out.lt; omega) (by omega) (by omega)).mono ?_
      rintro e w5 ⟨t5, rfl, ht5, hd, hg⟩
      have HD5 := aQd hd
      have HG5 := aQd (aQ7 HG4.out (aQe hg))
      clear hd hg HD4 HG4
      go_wp2
      go_roundw
      case rel => exact ⟨k - 1, _, by rw [HK.out], rfl, by omega, by simp [ByteArray.size_append, szH]; omega, HD5.out, HG5.out⟩
      case measure => simp [intOf]; omega
    · skip
      go_wp2_with fail
      refine (aX7 HS.out (HD3.out.alloc _) _ 4 4 1 (aQy (S := 1) (by simp [aXf])) (by have := HD3.out.lt; omega) (by omega) (by omega)).mono ?_
      rintro e w4 ⟨t4, rfl, ht4, hd, hg⟩
      have HD4 := aQd hd
      have HG4 := aQd (aQ7 HG3.out (aQe hg))
      clear hd hg HD3 HG3
      go_wp2_with fail
      refine (aX7 HS.out (HD4.out.alloc _) _ 10 10 14 (aQy (S := 14) (by simp [aXf])) (by have := HD4.out.lt; omega) (by omega) (by omega)).mono ?_
      rintro e w5 ⟨t5, rfl, ht5, hd, hg⟩
      have HD5 := aQd hd
      have HG5 := aQd (aQ7 HG4.out (aQe hg))
      clear hd hg HD4 HG4
      go_wp2
      go_roundw
      case rel => exact ⟨k - 1, _, by rw [HK.out], rfl, by omega, by simp [ByteArray.size_append, szH]; omega, HD5.out, HG5.out⟩
      case measure => simp [intOf]; omega
    · skip
      go_wp2_with fail
      refine (aX7 HS.out (HD3.out.alloc _) _ 4 4 1 (aQy (S := 1) (by simp [aXf])) (by have := HD3.out.lt; omega) (by omega) (by omega)).mono ?_
      rintro e w4 ⟨t4, rfl, ht4, hd, hg⟩
      have HD4 := aQd hd
      have HG4 := aQd (aQ7 HG3.out (aQe hg))
      clear hd hg HD3 HG3
      go_wp2_with fail
      refine (aX7 HS.out (HD4.out.alloc _) _ 10 10 14 (aQy (S := 14) (by simp [aXf])) (by have := HD4.out.lt; omega) (by omega) (by omega)).mono ?_
      rintro e w5 ⟨t5, rfl, ht5, hd, hg⟩
      have HD5 := aQd hd
      have HG5 := aQd (aQ7 HG4.out (aQe hg))
      clear hd hg HD4 HG4
      go_wp2
      go_roundw
      case rel => exact ⟨k - 1, _, by rw [HK.out], rfl, by omega, by simp [ByteArray.size_append, szH]; omega, HD5.out, HG5.out⟩
      case measure => simp [intOf]; omega
  · obtain rfl : k = 0 := by omega
    go_wp2
    go_ret
    exact ⟨_, rfl, by omega, HD2.out, HG2.out⟩
end Go.Proofs.YtocnfoeaikiecaaGreatDoor
