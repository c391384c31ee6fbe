/- The contracts of the model's draws of a mark: l02Name, l02Value, l02Attrs, l02Piece: a text, and how long it is at most. -/
import Derived.Test.YtefahocflhlgiaaGreatDoorDrawC
namespace Go.Proofs.YtefahocflhlgiaaGreatDoor
open Go.RowKit Plain1 Lists Strs Bytes

theorem sz0 (l : Array UInt8) : (ByteArray.mk l).size = l.size := rfl
set_option maxRecDepth 100000 in
set_option maxHeartbeats 4000000 in
theorem l02Name_any {W0 w : World} {g : Nat} {a : Option Addr} {n cap : Nat} (hS : Fed W0 a n) (hd : Dr W0 w g a n cap) :
    Calls Tryz.prog 43 #[.pointer (some ⟨g, 0, none⟩)] w fun e w' => ∃ t : ByteArray, e = .returned (.string t) ∧ t.size ≤ 3 ∧ Dr W0 w' g a n cap ∧ w.grownBy w' (some g) := by
  have HS := mkHidD hS
  have HD0 := mkHidD hd
  have HG0 := mkHidD (grown_drewN w 0 (some g))
  clear hS hd
  go_enter Tryz.func43, Tryz.ntmps43
  go_wp2_with fail
  refine (pick_any HS.out (HD0.out.alloc _) _ 5 5 3 (texts_lit (S := 3) (by simp [isShort])) (by have := HD0.out.lt; omega) (by omega) (by omega)).mono ?_
  rintro e w1 ⟨t1, rfl, ht1, hd, hg⟩
  have HD1 := mkHidD hd
  have HG1 := mkHidD (grown_trans' HG0.out (grown_of_alloc hg))
  clear hd hg HD0 HG0
  go_wp2
  go_ret
  refine ⟨_, rfl, ?_, HD1.out, HG1.out⟩
  omega
set_option maxRecDepth 100000 in
set_option maxHeartbeats 4000000 in
theorem l02Value_any {W0 w : World} {g : Nat} {a : Option Addr} {n cap : Nat} (hS : Fed W0 a n) (hd : Dr W0 w g a n cap) :
    Calls Tryz.prog 69 #[.pointer (some ⟨g, 0, none⟩)] w fun e w' => ∃ t : ByteArray, e = .returned (.string t) ∧ t.size ≤ 7 ∧ Dr W0 w' g a n cap ∧ w.grownBy w' (some g) := by
  have HS := mkHidD hS
  have HD0 := mkHidD hd
  have HG0 := mkHidD (grown_drewN w 0 (some g))
  clear hS hd
  go_enter Tryz.func69, Tryz.ntmps69
  go_wp2_with fail
  refine (pick_any HS.out (HD0.out.alloc _) _ 2 2 1 (texts_lit (S := 1) (by simp [isShort])) (by have := HD0.out.lt; omega) (by omega) (by omega)).mono ?_
  rintro e w1 ⟨t1, rfl, ht1, hd, hg⟩
  have HD1 := mkHidD hd
  have HG1 := mkHidD (grown_trans' HG0.out (grown_of_alloc hg))
  clear hd hg HD0 HG0
  go_wp2_with fail
  refine (pick_any HS.out (HD1.out.alloc _) _ 8 8 5 (texts_lit (S := 5) (by simp [isShort])) (by have := HD1.out.lt; omega) (by omega) (by omega)).mono ?_
  rintro e w2 ⟨t2, rfl, ht2, hd, hg⟩
  have HD2 := mkHidD hd
  have HG2 := mkHidD (grown_trans' HG1.out (grown_of_alloc hg))
  clear hd hg HD1 HG1
  go_wp2
  go_ret
  refine ⟨_, rfl, ?_, HD2.out, HG2.out⟩
  first | (simp [ByteArray.size_append]; omega) | (simp [ByteArray.size_append, sz0]; omega)
set_option maxRecDepth 100000 in
set_option maxHeartbeats 4000000 in
theorem l02Attrs_any {W0 w : World} {g : Nat} {a : Option Addr} {n cap : Nat} (hS : Fed W0 a n) (hd : Dr W0 w g a n cap) :
    Calls Tryz.prog 44 #[.pointer (some ⟨g, 0, none⟩)] w fun e w' => ∃ t : ByteArray, e = .returned (.string t) ∧ t.size ≤ 38 ∧ Dr W0 w' g a n cap ∧ w.grownBy w' (some g) := by
  have HS := mkHidD hS
  have HD0 := mkHidD hd
  have HG0 := mkHidD (grown_drewN w 0 (some g))
  clear hS hd
  go_enter Tryz.func44, Tryz.ntmps44
  go_wp2_with fail
  refine (draw_any HS.out HD0.out 3 (by omega)).mono ?_
  rintro e w0 ⟨r, rfl, h0, h1, -, hd, hg⟩
  have h1' := h1 (by omega)
  obtain ⟨k0, rfl⟩ : ∃ k : Nat, r = k := ⟨r.toNat, by omega⟩
  have HDa := mkHidD hd
  have HGa := mkHidD (grown_trans' HG0.out hg)
  clear hd hg h1 HD0 HG0
  go_wp2_with fail
  go_loopw [3, 4] (fun v i wr => ∃ (k : Nat) (t : ByteArray), i = .int .i64 k ∧ v = .string t ∧ k ≤ 2 ∧ t.size + 19 * k ≤ 38 ∧ Dr W0 wr g a n cap ∧ w.grownBy wr (some g)) (fun _ i _ => (intOf i).toNat)
  case atStart => exact ⟨k0, ⟨#[]⟩, rfl, rfl, by omega, by rw [sz0]; simp; omega, HDa.out, HGa.out⟩
  case round =>
    obtain ⟨k, t, rfl, rfl, hk, hts, hd, hg⟩ := hrel
    have HD0 := mkHidD hd
    have HG0 := mkHidD hg
    clear hd hg HDa HGa
    by_cases hlt : 0 < k
    · have hk1 : (k : Int) - 1 = ((k - 1 : Nat) : Int) := by omega
      have HK := mkHidD hk1
      clear hk1
      go_wp2_with fail
      refine (pick_any HS.out (HD0.out.alloc _) _ 3 3 2 (texts_lit (S := 2) (by simp [isShort])) (by have := HD0.out.lt; omega) (by omega) (by omega)).mono ?_
      rintro e w1 ⟨t1, rfl, ht1, hd, hg⟩
      have HD1 := mkHidD hd
      have HG1 := mkHidD (grown_trans' HG0.out (grown_of_alloc hg))
      clear hd hg HD0 HG0
      go_wp2_with fail
      refine (pick_any HS.out (HD1.out.alloc _) _ 6 6 7 (texts_lit (S := 7) (by simp [isShort])) (by have := HD1.out.lt; omega) (by omega) (by omega)).mono ?_
      rintro e w2 ⟨t2, rfl, ht2, hd, hg⟩
      have HD2 := mkHidD hd
      have HG2 := mkHidD (grown_trans' HG1.out (grown_of_alloc hg))
      clear hd hg HD1 HG1
      go_wp2_with fail
      refine (pick_any HS.out (HD2.out.alloc _) _ 2 2 3 (texts_lit (S := 3) (by simp [isShort])) (by have := HD2.out.lt; omega) (by omega) (by omega)).mono ?_
      rintro e w3 ⟨t3, rfl, ht3, hd, hg⟩
      have HD3 := mkHidD hd
      have HG3 := mkHidD (grown_trans' HG2.out (grown_of_alloc hg))
      clear hd hg HD2 HG2
      go_wp2_with fail
      refine (l02Value_any HS.out HD3.out).mono ?_
      rintro e w4 ⟨t4, rfl, ht4, hd, hg⟩
      have HD4 := mkHidD hd
      have HG4 := mkHidD (grown_trans' HG3.out hg)
      clear hd hg HD3 HG3
      go_wp2
      go_roundw
      case rel => exact ⟨k - 1, _, by rw [HK.out], rfl, by omega, by simp [ByteArray.size_append]; omega, HD4.out, HG4.out⟩
      case measure => simp [intOf]; omega
    · go_wp2
      go_ret
      exact ⟨t, rfl, by omega, HD0.out, HG0.out⟩
end Go.Proofs.YtefahocflhlgiaaGreatDoor
