/- The contract of the model's draw of a mark or text. -/
import Derived.Test.YtefahocflhlgiaaGreatDoorDrawP
namespace Go.Proofs.YtefahocflhlgiaaGreatDoor
open Go.RowKit Plain1 Lists Strs Bytes

set_option maxRecDepth 100000 in
set_option maxHeartbeats 16000000 in
theorem l02Piece_any {W0 w : World} {g : Nat} {a : Option Addr} {n cap : Nat} (hS : Fed W0 a n) (hd : Dr W0 w g a n cap) :
    Calls Tryz.prog 24 #[.pointer (some ⟨g, 0, none⟩)] w fun e w' => ∃ t : ByteArray, e = .returned (.string t) ∧ t.size ≤ 60 ∧ Dr W0 w' g a n cap ∧ w.grownBy w' (some g) := by
  have HS := mkHidD hS
  have HD0 := mkHidD hd
  have HG0 := mkHidD (grown_drewN w 0 (some g))
  clear hS hd
  go_enter Tryz.func24, Tryz.ntmps24
  go_wp2_with fail
  refine (draw_any HS.out HD0.out 9 (by omega)).mono ?_
  rintro e wa ⟨r, rfl, h0, h1, -, hd, hg⟩
  have h1' := h1 (by omega)
  have HDx := mkHidD hd
  have HGx := mkHidD (grown_trans' HG0.out hg)
  clear hd hg h1 HD0 HG0
  have hr : r = 0 ∨ r = 1 ∨ r = 2 ∨ r = 3 ∨ r = 4 ∨ r = 5 ∨ r = 6 ∨ r = 7 ∨ r = 8 := by omega
  clear h0 h1'
  rcases hr with rfl | rfl | rfl | rfl | rfl | rfl | rfl | rfl | rfl
  · have HD0 := HDx
    have HG0 := HGx
    clear HDx HGx
    go_wp2_with fail
    refine (l02Name_any HS.out HD0.out).mono ?_
    rintro e w1 ⟨t1, rfl, ht1, hd, hg⟩
    have HD1 := mkHidD hd
    have HG1 := mkHidD (grown_trans' HG0.out hg)
    clear hd hg HD0 HG0
    go_wp2_with fail
    refine (l02Attrs_any HS.out HD1.out).mono ?_
    rintro e w2 ⟨t2, rfl, ht2, hd, hg⟩
    have HD2 := mkHidD hd
    have HG2 := mkHidD (grown_trans' HG1.out hg)
    clear hd hg HD1 HG1
    go_wp2_with fail
    refine (pick_any HS.out (HD2.out.alloc _) _ 2 2 2 (texts_lit (S := 2) (by simp [isShort])) (by have := HD2.out.lt; omega) (by omega) (by omega)).mono ?_
    rintro e w3 ⟨t3, rfl, ht3, hd, hg⟩
    have HD3 := mkHidD hd
    have HG3 := mkHidD (grown_trans' HG2.out (grown_of_alloc hg))
    clear hd hg HD2 HG2
    go_wp2
    go_ret
    refine ⟨_, rfl, ?_, HD3.out, HG3.out⟩
    first | (simp [ByteArray.size_append]; omega) | (simp [ByteArray.size_append, sz0]; omega)
  · have HD0 := HDx
    have HG0 := HGx
    clear HDx HGx
    go_wp2_with fail
    refine (l02Name_any HS.out HD0.out).mono ?_
    rintro e w1 ⟨t1, rfl, ht1, hd, hg⟩
    have HD1 := mkHidD hd
    have HG1 := mkHidD (grown_trans' HG0.out hg)
    clear hd hg HD0 HG0
    go_wp2_with fail
    refine (l02Attrs_any HS.out HD1.out).mono ?_
    rintro e w2 ⟨t2, rfl, ht2, hd, hg⟩
    have HD2 := mkHidD hd
    have HG2 := mkHidD (grown_trans' HG1.out hg)
    clear hd hg HD1 HG1
    go_wp2
    go_ret
    refine ⟨_, rfl, ?_, HD2.out, HG2.out⟩
    first | (simp [ByteArray.size_append]; omega) | (simp [ByteArray.size_append, sz0]; omega)
  · have HD0 := HDx
    have HG0 := HGx
    clear HDx HGx
    go_wp2_with fail
    refine (l02Name_any HS.out HD0.out).mono ?_
    rintro e w1 ⟨t1, rfl, ht1, hd, hg⟩
    have HD1 := mkHidD hd
    have HG1 := mkHidD (grown_trans' HG0.out hg)
    clear hd hg HD0 HG0
    go_wp2_with fail
    refine (pick_any HS.out (HD1.out.alloc _) _ 2 2 2 (texts_lit (S := 2) (by simp [isShort])) (by have := HD1.out.lt; omega) (by omega) (by omega)).mono ?_
    rintro e w2 ⟨t2, rfl, ht2, hd, hg⟩
    have HD2 := mkHidD hd
    have HG2 := mkHidD (grown_trans' HG1.out (grown_of_alloc hg))
    clear hd hg HD1 HG1
    go_wp2
    go_ret
    refine ⟨_, rfl, ?_, HD2.out, HG2.out⟩
    first | (simp [ByteArray.size_append]; omega) | (simp [ByteArray.size_append, sz0]; omega)
  · have HD0 := HDx
    have HG0 := HGx
    clear HDx HGx
    go_wp2_with fail
    refine (pick_any HS.out (HD0.out.alloc _) _ 4 4 5 (texts_lit (S := 5) (by simp [isShort])) (by have := HD0.out.lt; omega) (by omega) (by omega)).mono ?_
    rintro e w1 ⟨t1, rfl, ht1, hd, hg⟩
    have HD1 := mkHidD hd
    have HG1 := mkHidD (grown_trans' HG0.out (grown_of_alloc hg))
    clear hd hg HD0 HG0
    go_wp2
    go_ret
    refine ⟨_, rfl, ?_, HD1.out, HG1.out⟩
    first | (simp [ByteArray.size_append]; omega) | (simp [ByteArray.size_append, sz0]; omega)
  · have HD0 := HDx
    have HG0 := HGx
    clear HDx HGx
    go_wp2_with fail
    refine (pick_any HS.out (HD0.out.alloc _) _ 4 4 3 (texts_lit (S := 3) (by simp [isShort])) (by have := HD0.out.lt; omega) (by omega) (by omega)).mono ?_
    rintro e w1 ⟨t1, rfl, ht1, hd, hg⟩
    have HD1 := mkHidD hd
    have HG1 := mkHidD (grown_trans' HG0.out (grown_of_alloc hg))
    clear hd hg HD0 HG0
    go_wp2
    go_ret
    refine ⟨_, rfl, ?_, HD1.out, HG1.out⟩
    first | (simp [ByteArray.size_append]; omega) | (simp [ByteArray.size_append, sz0]; omega)
  · have HD0 := HDx
    have HG0 := HGx
    clear HDx HGx
    go_wp2_with fail
    refine (pick_any HS.out (HD0.out.alloc _) _ 3 3 4 (texts_lit (S := 4) (by simp [isShort])) (by have := HD0.out.lt; omega) (by omega) (by omega)).mono ?_
    rintro e w1 ⟨t1, rfl, ht1, hd, hg⟩
    have HD1 := mkHidD hd
    have HG1 := mkHidD (grown_trans' HG0.out (grown_of_alloc hg))
    clear hd hg HD0 HG0
    go_wp2_with fail
    refine (pick_any HS.out (HD1.out.alloc _) _ 3 3 4 (texts_lit (S := 4) (by simp [isShort])) (by have := HD1.out.lt; omega) (by omega) (by omega)).mono ?_
    rintro e w2 ⟨t2, rfl, ht2, hd, hg⟩
    have HD2 := mkHidD hd
    have HG2 := mkHidD (grown_trans' HG1.out (grown_of_alloc hg))
    clear hd hg HD1 HG1
    go_wp2
    go_ret
    refine ⟨_, rfl, ?_, HD2.out, HG2.out⟩
    first | (simp [ByteArray.size_append]; omega) | (simp [ByteArray.size_append, sz0]; omega)
  · have HD0 := HDx
    have HG0 := HGx
    clear HDx HGx
    go_wp2_with fail
    refine (pick_any HS.out (HD0.out.alloc _) _ 4 4 40 (texts_lit (S := 40) (by simp [isShort])) (by have := HD0.out.lt; omega) (by omega) (by omega)).mono ?_
    rintro e w1 ⟨t1, rfl, ht1, hd, hg⟩
    have HD1 := mkHidD hd
    have HG1 := mkHidD (grown_trans' HG0.out (grown_of_alloc hg))
    clear hd hg HD0 HG0
    go_wp2
    go_ret
    refine ⟨_, rfl, ?_, HD1.out, HG1.out⟩
    first | (simp [ByteArray.size_append]; omega) | (simp [ByteArray.size_append, sz0]; omega)
  · have HD0 := HDx
    have HG0 := HGx
    clear HDx HGx
    go_wp2_with fail
    refine (pick_any HS.out (HD0.out.alloc _) _ 6 6 8 (texts_lit (S := 8) (by simp [isShort])) (by have := HD0.out.lt; omega) (by omega) (by omega)).mono ?_
    rintro e w1 ⟨t1, rfl, ht1, hd, hg⟩
    have HD1 := mkHidD hd
    have HG1 := mkHidD (grown_trans' HG0.out (grown_of_alloc hg))
    clear hd hg HD0 HG0
    go_wp2
    go_ret
    refine ⟨_, rfl, ?_, HD1.out, HG1.out⟩
    omega
  · have HD0 := HDx
    have HG0 := HGx
    clear HDx HGx
    go_wp2_with fail
    refine (pick_any HS.out (HD0.out.alloc _) _ 6 6 8 (texts_lit (S := 8) (by simp [isShort])) (by have := HD0.out.lt; omega) (by omega) (by omega)).mono ?_
    rintro e w1 ⟨t1, rfl, ht1, hd, hg⟩
    have HD1 := mkHidD hd
    have HG1 := mkHidD (grown_trans' HG0.out (grown_of_alloc hg))
    clear hd hg HD0 HG0
    go_wp2
    go_ret
    refine ⟨_, rfl, ?_, HD1.out, HG1.out⟩
    omega
end Go.Proofs.YtefahocflhlgiaaGreatDoor
