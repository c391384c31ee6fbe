import Derived.Test.YtocnfoeaikiecaaGreatDoorDrB
set_option maxRecDepth 100000
set_option maxHeartbeats 16000000
set_option linter.unusedVariables false
namespace Go.Proofs.YtocnfoeaikiecaaGreatDoor
open Go.RowKit Tryz
def szC : Nat → Nat
 | 0 => 150
 | d + 1 => 3 * (50 + szC d)
theorem dZy : ∀ d, d ≤ 4 → szC d ≤ 30000 := fun d h => by
 have : d = 0 ∨ d = 1 ∨ d = 2 ∨ d = 3 ∨ d = 4 := by omega
 rcases this with rfl | rfl | rfl | rfl | rfl <;> decide
theorem cQ4 : ∀ (d : Nat), d ≤ 4 → ∀ {W0 w : World} {g : Nat} {a : Option Addr} {n cap : Nat} (hS : Fed W0 a n) (hd : Dr W0 w g a n cap),
 Calls prog 30 #[.pointer (some ⟨g, 0, none⟩), .int .i64 (d : Int)] w fun e w' => ∃ t : ByteArray, e = .returned (.string t) ∧ t.size ≤ szC d ∧ Dr W0 w' g a n cap ∧ w.grownBy w' (some g) := by
 intro d
 induction d with
 | zero =>
  intro hd4 W0 w g a n cap hS hd
  have HS := aQd hS
  have HD0 := aQd hd
  clear hS hd
  go_enter func30, ntmps30
  go_wp2_with fail
  refine (aJh HS.out HD0.out 4 (by omega)).mono ?_
  rintro e w1 ⟨r, rfl, h0, h1, -, hd, hg⟩
  have h1' := h1 (by omega)
  obtain ⟨k0, rfl⟩ : ∃ k : Nat, r = k := ⟨r.toNat, by omega⟩
  have HD1 := aQd hd
  have HG1 := aQd hg
  clear hd hg HD0 h1
  go_wp2_with fail
  go_loopw [5, 6] (fun v i wr => ∃ (k : Nat) (t : ByteArray), i = .int .i64 k ∧ v = .string t ∧ k ≤ 3 ∧ t.size + 50 * k ≤ 150 ∧ Dr W0 wr g a n cap ∧ w.grownBy wr (some g)) (fun _ i _ => (intOf i).toNat)
  case atStart => exact ⟨k0, ⟨#[]⟩, rfl, rfl, by omega, by simp only [szH]; simp; omega, HD1.out, HG1.out⟩
  case round =>
   obtain ⟨k, t, rfl, rfl, hk, hts, hd, hg⟩ := hrel
   have HD2 := aQd hd
   have HG2 := aQd hg
   clear hd hg HD1 HG1
   by_cases hlt : 0 < k
   · have hk1 : (k : Int) - 1 = ((k - 1 : Nat) : Int) := by omega
     have HK := aQd hk1
     clear hk1
     go_wp2_with fail
     refine (aJh HS.out HD2.out 8 (by omega)).mono ?_
     rintro e w3 ⟨r, rfl, h0', h1, -, hd, hg⟩
     have h1'' := h1 (by omega)
     have HD3 := aQd hd
     have HG3 := aQd (aQ7 HG2.out hg)
     clear hd hg HD2 HG2 h1
     have hr : r = 0 ∨ r = 1 ∨ r = 2 ∨ r = 3 ∨ r = 4 ∨ r = 5 ∨ r = 6 ∨ r = 7 := by omega
     clear h0' h1''
     rcases hr with rfl | rfl | rfl | rfl | rfl | rfl | rfl | rfl
     · go_wp2
       go_roundw
       case rel => exact ⟨k - 1, t, by rw [HK.out], rfl, by omega, by omega, HD3.out, HG3.out⟩
       case measure => simp [intOf]; omega
     · go_wp2
       go_roundw
       case rel => exact ⟨k - 1, t, by rw [HK.out], rfl, by omega, by omega, HD3.out, HG3.out⟩
       case measure => simp [intOf]; omega
     · go_wp2_with fail
       refine (aX7 HS.out (HD3.out.alloc _) _ 7 7 6 (aQy (S := 6) (by simp [aXf])) (by have := HD3.out.lt; omega) (by omega) (by omega)).mono ?_
       rintro e w4 ⟨t4, rfl, ht4, hd, hg⟩
       have HD4 := aQd hd
       have HG4 := aQd (aQ7 HG3.out (aQe hg))
       clear hd hg HD3 HG3
       go_wp2
       go_roundw
       case rel => exact ⟨k - 1, _, by rw [HK.out], rfl, by omega, by simp [ByteArray.size_append]; omega, HD4.out, HG4.out⟩
       case measure => simp [intOf]; omega
     · skip
       go_wp2
       go_roundw
       case rel => exact ⟨k - 1, _, by rw [HK.out], rfl, by omega, by simp [ByteArray.size_append, szH]; omega, HD3.out, HG3.out⟩
       case measure => simp [intOf]; omega
     · skip
       go_wp2
       go_roundw
       case rel => exact ⟨k - 1, _, by rw [HK.out], rfl, by omega, by simp [ByteArray.size_append, szH]; omega, HD3.out, HG3.out⟩
       case measure => simp [intOf]; omega
     · skip
       go_wp2
       go_roundw
       case rel => exact ⟨k - 1, _, by rw [HK.out], rfl, by omega, by simp [ByteArray.size_append, szH]; omega, HD3.out, HG3.out⟩
       case measure => simp [intOf]; omega
     · go_wp2_with fail
       refine (aX7 HS.out (HD3.out.alloc _) _ 5 5 4 (aQy (S := 4) (by simp [aXf])) (by have := HD3.out.lt; omega) (by omega) (by omega)).mono ?_
       rintro e w4 ⟨t4, rfl, ht4, hd, hg⟩
       have HD4 := aQd hd
       have HG4 := aQd (aQ7 HG3.out (aQe hg))
       clear hd hg HD3 HG3
       go_wp2
       go_roundw
       case rel => exact ⟨k - 1, _, by rw [HK.out], rfl, by omega, by simp [ByteArray.size_append]; omega, HD4.out, HG4.out⟩
       case measure => simp [intOf]; omega
     · go_wp2_with fail
       refine (aX7 HS.out (HD3.out.alloc _) _ 5 5 4 (aQy (S := 4) (by simp [aXf])) (by have := HD3.out.lt; omega) (by omega) (by omega)).mono ?_
       rintro e w4 ⟨t4, rfl, ht4, hd, hg⟩
       have HD4 := aQd hd
       have HG4 := aQd (aQ7 HG3.out (aQe hg))
       clear hd hg HD3 HG3
       go_wp2
       go_roundw
       case rel => exact ⟨k - 1, _, by rw [HK.out], rfl, by omega, by simp [ByteArray.size_append]; omega, HD4.out, HG4.out⟩
       case measure => simp [intOf]; omega
   · obtain rfl : k = 0 := by omega
     go_wp2
     go_ret
     exact ⟨_, rfl, by show t.size ≤ 150; omega, HD2.out, HG2.out⟩
 | succ d IH =>
  intro hd4 W0 w g a n cap hS hd
  have HS := aQd hS
  have HD0 := aQd hd
  have hsz := dZy d (by omega)
  have hIH := fun {w : World} (h : Dr W0 w g a n cap) => IH (by omega) hS h
  have HIH : Hid (∀ w : World, Dr W0 w g a n cap → Calls prog 30 #[.pointer (some ⟨g, 0, none⟩), .int .i64 (d : Int)] w fun e w' => ∃ t : ByteArray, e = .returned (.string t) ∧ t.size ≤ szC d ∧ Dr W0 w' g a n cap ∧ w.grownBy w' (some g)) := aQd (fun w h => hIH h)
  obtain ⟨M, hM⟩ := nmE (szC d)
  have HM : Hid (szC (d + 1) = 3 * (50 + M)) := aQd (by rw [← hM]; rfl)
  rw [hM] at hsz HIH
  have hpos : (d : Int) + 1 > 0 := by omega
  have hm1 : IntKind.i64.wrap (d : Int) = (d : Int) := Strs2.aXt (by omega) (by omega)
  clear hS hd hIH IH hM
  go_enter func30, ntmps30
  go_wp2_with fail
  refine (aJh HS.out HD0.out 4 (by omega)).mono ?_
  rintro e w1 ⟨r, rfl, h0, h1, -, hd, hg⟩
  have h1' := h1 (by omega)
  obtain ⟨k0, rfl⟩ : ∃ k : Nat, r = k := ⟨r.toNat, by omega⟩
  have HD1 := aQd hd
  have HG1 := aQd hg
  clear hd hg HD0 h1
  go_wp2_with fail
  go_loopw [5, 6] (fun v i wr => ∃ (k : Nat) (t : ByteArray), i = .int .i64 k ∧ v = .string t ∧ k ≤ 3 ∧ t.size + (50 + M) * k ≤ 3 * (50 + M) ∧ t.size ≤ 100000 ∧ Dr W0 wr g a n cap ∧ w.grownBy wr (some g)) (fun _ i _ => (intOf i).toNat)
  case atStart =>
   have hkm : (50 + M) * k0 ≤ 3 * (50 + M) := by rw [Nat.mul_comm 3]; exact Nat.mul_le_mul_left _ (by omega)
   exact ⟨k0, ⟨#[]⟩, rfl, rfl, by omega, by simp only [szH]; simpa using hkm, by simp [szH], HD1.out, HG1.out⟩
  case round =>
   obtain ⟨k, t, rfl, rfl, hk, hts, ht5, hd, hg⟩ := hrel
   have HD2 := aQd hd
   have HG2 := aQd hg
   clear hd hg HD1 HG1
   by_cases hlt : 0 < k
   · have hk1 : (k : Int) - 1 = ((k - 1 : Nat) : Int) := by omega
     have HK := aQd hk1
     have hts2 : ∀ x : Nat, x ≤ 50 + M → (t.size + x) + (50 + M) * (k - 1) ≤ 3 * (50 + M) ∧ t.size + x ≤ 100000 := fun x hx => by
      obtain ⟨j, rfl⟩ : ∃ j, k = j + 1 := ⟨k - 1, by omega⟩
      rw [Nat.mul_add] at hts
      rw [Nat.add_sub_cancel]
      have h5 : 0 ≤ (50 + M) * j := Nat.zero_le _
      omega
     have HTS := aQd hts2
     clear hk1 hts hts2
     go_wp2_with fail
     refine (aJh HS.out HD2.out 8 (by omega)).mono ?_
     rintro e w3 ⟨r, rfl, h0', h1, -, hd, hg⟩
     have h1'' := h1 (by omega)
     have HD3 := aQd hd
     have HG3 := aQd (aQ7 HG2.out hg)
     clear hd hg HD2 HG2 h1
     have hr : r = 0 ∨ r = 1 ∨ r = 2 ∨ r = 3 ∨ r = 4 ∨ r = 5 ∨ r = 6 ∨ r = 7 := by omega
     clear h0' h1''
     rcases hr with rfl | rfl | rfl | rfl | rfl | rfl | rfl | rfl
     · go_wp2_with fail
       refine (bJm HS.out HD3.out).mono ?_
       rintro e w4 ⟨t4, rfl, ht4, hd, hg⟩
       have HD4 := aQd hd
       have HG4 := aQd (aQ7 HG3.out hg)
       clear hd hg HD3 HG3
       go_wp2_with fail
       refine (bXw HS.out HD4.out).mono ?_
       rintro e w5 ⟨t5, rfl, ht5', hd, hg⟩
       have HD5 := aQd hd
       have HG5 := aQd (aQ7 HG4.out hg)
       clear hd hg HD4 HG4
       go_wp2_with fail
       refine (HIH.out _ HD5.out).mono ?_
       rintro e w6 ⟨t6, rfl, ht6, hd, hg⟩
       have HD6 := aQd hd
       have HG6 := aQd (aQ7 HG5.out hg)
       clear hd hg HD5 HG5
       go_wp2
       go_roundw
       case rel =>
        have hx := HTS.out (t4.size + t5.size + t6.size + t4.size + 5) (by omega)
        exact ⟨k - 1, _, by rw [HK.out], rfl, by omega, by simp only [ByteArray.size_append, szH]; simp; omega, by simp only [ByteArray.size_append, szH]; simp; omega, HD6.out, HG6.out⟩
       case measure => simp [intOf]; omega
     · go_wp2_with fail
       refine (bJm HS.out HD3.out).mono ?_
       rintro e w4 ⟨t4, rfl, ht4, hd, hg⟩
       have HD4 := aQd hd
       have HG4 := aQd (aQ7 HG3.out hg)
       clear hd hg HD3 HG3
       go_wp2_with fail
       refine (bXw HS.out HD4.out).mono ?_
       rintro e w5 ⟨t5, rfl, ht5', hd, hg⟩
       have HD5 := aQd hd
       have HG5 := aQd (aQ7 HG4.out hg)
       clear hd hg HD4 HG4
       go_wp2_with fail
       refine (HIH.out _ HD5.out).mono ?_
       rintro e w6 ⟨t6, rfl, ht6, hd, hg⟩
       have HD6 := aQd hd
       have HG6 := aQd (aQ7 HG5.out hg)
       clear hd hg HD5 HG5
       go_wp2
       go_roundw
       case rel =>
        have hx := HTS.out (t4.size + t5.size + t6.size + t4.size + 5) (by omega)
        exact ⟨k - 1, _, by rw [HK.out], rfl, by omega, by simp only [ByteArray.size_append, szH]; simp; omega, by simp only [ByteArray.size_append, szH]; simp; omega, HD6.out, HG6.out⟩
       case measure => simp [intOf]; omega
     · go_wp2_with fail
       refine (aX7 HS.out (HD3.out.alloc _) _ 7 7 6 (aQy (S := 6) (by simp [aXf])) (by have := HD3.out.lt; omega) (by omega) (by omega)).mono ?_
       rintro e w4 ⟨t4, rfl, ht4, hd, hg⟩
       have HD4 := aQd hd
       have HG4 := aQd (aQ7 HG3.out (aQe hg))
       clear hd hg HD3 HG3
       go_wp2
       go_roundw
       case rel => exact ⟨k - 1, _, by rw [HK.out], rfl, by omega, by rw [ByteArray.size_append]; exact (HTS.out _ (by omega)).1, by rw [ByteArray.size_append]; exact (HTS.out _ (by omega)).2, HD4.out, HG4.out⟩
       case measure => simp [intOf]; omega
     · skip
       go_wp2
       go_roundw
       case rel => exact ⟨k - 1, _, by rw [HK.out], rfl, by omega, by rw [ByteArray.size_append]; exact (HTS.out _ (by simp only [szH]; simp; omega)).1, by rw [ByteArray.size_append]; exact (HTS.out _ (by simp only [szH]; simp; omega)).2, HD3.out, HG3.out⟩
       case measure => simp [intOf]; omega
     · skip
       go_wp2
       go_roundw
       case rel => exact ⟨k - 1, _, by rw [HK.out], rfl, by omega, by rw [ByteArray.size_append]; exact (HTS.out _ (by simp only [szH]; simp; omega)).1, by rw [ByteArray.size_append]; exact (HTS.out _ (by simp only [szH]; simp; omega)).2, HD3.out, HG3.out⟩
       case measure => simp [intOf]; omega
     · skip
       go_wp2
       go_roundw
       case rel => exact ⟨k - 1, _, by rw [HK.out], rfl, by omega, by rw [ByteArray.size_append]; exact (HTS.out _ (by simp only [szH]; simp; omega)).1, by rw [ByteArray.size_append]; exact (HTS.out _ (by simp only [szH]; simp; omega)).2, HD3.out, HG3.out⟩
       case measure => simp [intOf]; omega
     · go_wp2_with fail
       refine (aX7 HS.out (HD3.out.alloc _) _ 5 5 4 (aQy (S := 4) (by simp [aXf])) (by have := HD3.out.lt; omega) (by omega) (by omega)).mono ?_
       rintro e w4 ⟨t4, rfl, ht4, hd, hg⟩
       have HD4 := aQd hd
       have HG4 := aQd (aQ7 HG3.out (aQe hg))
       clear hd hg HD3 HG3
       go_wp2
       go_roundw
       case rel => exact ⟨k - 1, _, by rw [HK.out], rfl, by omega, by rw [ByteArray.size_append]; exact (HTS.out _ (by omega)).1, by rw [ByteArray.size_append]; exact (HTS.out _ (by omega)).2, HD4.out, HG4.out⟩
       case measure => simp [intOf]; omega
     · go_wp2_with fail
       refine (aX7 HS.out (HD3.out.alloc _) _ 5 5 4 (aQy (S := 4) (by simp [aXf])) (by have := HD3.out.lt; omega) (by omega) (by omega)).mono ?_
       rintro e w4 ⟨t4, rfl, ht4, hd, hg⟩
       have HD4 := aQd hd
       have HG4 := aQd (aQ7 HG3.out (aQe hg))
       clear hd hg HD3 HG3
       go_wp2
       go_roundw
       case rel => exact ⟨k - 1, _, by rw [HK.out], rfl, by omega, by rw [ByteArray.size_append]; exact (HTS.out _ (by omega)).1, by rw [ByteArray.size_append]; exact (HTS.out _ (by omega)).2, HD4.out, HG4.out⟩
       case measure => simp [intOf]; omega
   · obtain rfl : k = 0 := by omega
     go_wp2
     go_ret
     rw [HM.out]
     exact ⟨_, rfl, by omega, HD2.out, HG2.out⟩
end Go.Proofs.YtocnfoeaikiecaaGreatDoor
