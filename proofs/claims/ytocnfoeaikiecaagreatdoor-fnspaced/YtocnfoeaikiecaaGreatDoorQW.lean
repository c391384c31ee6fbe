import Derived.Test.YtocnfoeaikiecaaGreatDoorQqV
import Derived.Test.YtocnfoeaikiecaaGreatDoorQU
set_option maxRecDepth 100000
set_option maxHeartbeats 16000000
set_option linter.unusedVariables false
namespace Go.Proofs.YtocnfoeaikiecaaGreatDoor
open Go.RowKit Lists Tryz
theorem dZj {W0 w : World} {g : Nat} {a : Option Addr} {n cap : Nat} (hS : Fed W0 a n) (hd : Dr W0 w g a n cap) :
 Calls prog 13 #[.pointer (some ⟨g, 0, none⟩)] w fun e w' => ∃ t : ByteArray, e = .returned (.string t) ∧ t.size ≤ 40000 ∧ Dr W0 w' g a n cap ∧ w.grownBy w' (some g) := by
 have HS := aQ0 hS
 have HD0 := aQ0 hd
 have HCO : Hid (∀ (z : Int), 2 ≤ z → z ≤ 4 → ∀ wx, Dr W0 wx g a n cap → Calls prog 30 #[.pointer (some ⟨g, 0, none⟩), .int .i64 z] wx fun e w' => ∃ t : ByteArray, e = .returned (.string t) ∧ t.size ≤ 30000 ∧ Dr W0 w' g a n cap ∧ wx.grownBy w' (some g)) := aQ0 (fun z h2 h4 wx h => by
  have hc := cQ4 z.toNat (by omega) hS h
  have e : ((z.toNat : Nat) : Int) = z := by omega
  rw [e] at hc
  refine hc.mono ?_
  rintro e w' ⟨t, he, ht, hd, hg⟩
  exact ⟨t, he, Nat.le_trans ht (dZy _ (by omega)), hd, hg⟩)
 have hentP := fun a w => bQt (P := prog) func16 (by kernel_rfl) rfl a w
 have hentC := fun a w => bQt (P := prog) func30 (by kernel_rfl) rfl a w
 clear hS hd
 go_enter func13, ntmps13
 go_wp2_with fail
 refine (aX7 HS.out (HD0.out.alloc _) _ 5 5 39 (aQy (S := 39) (by simp [aXf])) (by have := HD0.out.lt; omega) (by omega) (by omega)).mono ?_
 rintro e w1 ⟨t1, rfl, ht1, hd, hg⟩
 have HD1 := aQ0 hd
 have HG1 := aQ0 (aQe hg)
 clear hd hg HD0
 go_wp2_with fail
 refine (cWi HS.out HD1.out 2 (by omega)).mono ?_
 rintro e wx ⟨b, rfl, hd, hg⟩
 have HDx := aQ0 hd
 have HGx := aQ0 (aQ7 HG1.out hg)
 clear hd hg HD1 HG1
 cases b with
 | true =>
  have HDy := HDx
  have HGy := HGx
  clear HDx HGx
  go_wp2_with fail
  refine (cXg HS.out HDy.out).mono ?_
  rintro e wx ⟨t3, rfl, ht3, hd, hg⟩
  have HDx := aQ0 hd
  have HGx := aQ0 (aQ7 HGy.out hg)
  clear hd hg HDy HGy
  obtain ⟨p0, m0, z0, _, _, _, ⟨hz0, hz1⟩, hbx⟩ := HDx.out.box
  obtain ⟨zn, rfl⟩ : ∃ zn : Nat, z0 = zn := ⟨z0.toNat, by omega⟩
  have c3 := (bKf hbx).2.2.2.1
  have hgl := HDx.out.lt
  have c3o : ∀ o, (wx.alloc o).cell? ⟨g, 3, none⟩ = some (.int .i64 (zn : Int)) := fun o => (World.cell?_of_block (a := ⟨g, 3, none⟩) (heap_alloc_old _ _ hgl)).trans c3
  have hw1 : IntKind.i64.wrap ((zn : Int) / 5) = (zn : Int) / 5 := Strs2.aXt (by omega) (by omega)
  have hw2 : IntKind.i64.wrap (2 + (zn : Int) / 5) = 2 + (zn : Int) / 5 := Strs2.aXt (by omega) (by omega)
  have hzn : zn ≤ 12 := by omega
  clear hbx hz0 hz1
  go_wp2_with fail
  generalize hX : (t1 ++ (⟨#[60, 33, 68, 79, 67, 84, 89, 80, 69, 32, 97, 32, 91]⟩ : ByteArray) ++ t3 ++ (⟨#[93, 62]⟩ : ByteArray)) = X
  have hXs : X.size ≤ 300 := by rw [← hX]; simp [ByteArray.size_append, szH]; omega
  clear hX
  have g1 : ¬ 9223372036854775807 < X.size + 15 := by omega
  go_region_law (first | (refine aJe rfl 16 #[.tmp 17, .tmp 18] #[43, 52] rfl #[.pointer (some ⟨g, 0, none⟩), .slice (some ⟨wx.heap.size, 0, none⟩) 4 4] (by simp [Act.eval, Act.put]) hentP (aX7 HS.out ((HDx.out.on (Below.refl _ _).drew).alloc _) wx.drew.heap.size 4 4 21 (aQy (w := wx.drew) (S := 21) (by simp [aXf])) (by have := HDx.out.lt; simp only [World.drew]; omega) (by omega) (by omega)) ?_ (fun ch w' hP => by (obtain ⟨_, he, _⟩ := hP; cases he)) (fun w' hP => by (obtain ⟨_, he, _⟩ := hP; cases he)); intro v' w5 hP; obtain ⟨t5, hve, ht5, hd5, hg5⟩ := hP; cases hve; have HD5 := aQ0 hd5; have HG5 := aQ0 (aQ7 (aQ7 HGx.out (qD wx (some g))) (aQe hg5)); obtain ⟨p5, m5, z5, _, _, _, ⟨hz50, hz51⟩, hbx5⟩ := HD5.out.box; obtain ⟨zn5, rfl⟩ : ∃ zn : Nat, z5 = zn := ⟨z5.toNat, by omega⟩; have c35 := (bKf hbx5).2.2.2.1; have hw15 : IntKind.i64.wrap ((zn5 : Int) / 5) = (zn5 : Int) / 5 := Strs2.aXt (by omega) (by omega); have hw25 : IntKind.i64.wrap (2 + (zn5 : Int) / 5) = 2 + (zn5 : Int) / 5 := Strs2.aXt (by omega) (by omega); have hzn5 : zn5 ≤ 12 := (by omega); have g2 : ¬ 9223372036854775807 < X.size + 15 + t5.size := (by omega); have g3 : ¬ 9223372036854775807 < X.size + 15 + t5.size + 1 := (by omega); clear hd5 hg5 hbx5 hz50 hz51) | (refine aJe rfl 30 #[.tmp 22, .tmp 28] #[43, 2] rfl #[.pointer (some ⟨g, 0, none⟩), .int .i64 _] (by (simp [Act.eval, Act.put]; rfl)) hentC (HCO.out _ (by omega) (by omega) _ HD5.out) ?_ (fun ch w' hP => by (obtain ⟨_, he, _⟩ := hP; cases he)) (fun w' hP => by (obtain ⟨_, he, _⟩ := hP; cases he)); intro v' w6 hP; obtain ⟨t6, hve, ht6, hd6, hg6⟩ := hP; cases hve; have HD6 := aQ0 hd6; have HG6 := aQ0 (aQ7 HG5.out hg6); have g4 : ¬ 9223372036854775807 < X.size + 15 + t5.size + 1 + t6.size := (by omega); have g5 : ¬ 9223372036854775807 < X.size + 15 + t5.size + 1 + t6.size + 4 := (by omega); clear hd6 hg6))
  all_goals
   go_wp2_with fail
   refine (aX7 HS.out (HD6.out.alloc _) _ 4 4 13 (aQy (S := 13) (by simp [aXf])) (by have := HD6.out.lt; omega) (by omega) (by omega)).mono ?_
   rintro e w7 ⟨t7, rfl, ht7, hd, hg⟩
   have HD7 := aQ0 hd
   have HG7 := aQ0 (aQ7 HG6.out (aQe hg))
   clear hd hg
   go_wp2
   go_ret
   refine ⟨_, rfl, ?_, HD7.out, HG7.out⟩
   first | (simp [ByteArray.size_append]; omega) | (simp [ByteArray.size_append, szH]; omega)
 | false =>
  obtain ⟨p0, m0, z0, _, _, _, ⟨hz0, hz1⟩, hbx⟩ := HDx.out.box
  obtain ⟨zn, rfl⟩ : ∃ zn : Nat, z0 = zn := ⟨z0.toNat, by omega⟩
  have c3 := (bKf hbx).2.2.2.1
  have hgl := HDx.out.lt
  have c3o : ∀ o, (wx.alloc o).cell? ⟨g, 3, none⟩ = some (.int .i64 (zn : Int)) := fun o => (World.cell?_of_block (a := ⟨g, 3, none⟩) (heap_alloc_old _ _ hgl)).trans c3
  have hw1 : IntKind.i64.wrap ((zn : Int) / 5) = (zn : Int) / 5 := Strs2.aXt (by omega) (by omega)
  have hw2 : IntKind.i64.wrap (2 + (zn : Int) / 5) = 2 + (zn : Int) / 5 := Strs2.aXt (by omega) (by omega)
  have hzn : zn ≤ 12 := by omega
  clear hbx hz0 hz1
  go_wp2_with fail
  have hXs : t1.size ≤ 300 := by omega
  have g1 : ¬ 9223372036854775807 < t1.size + 15 := by omega
  go_region_law (first | (refine aJe rfl 16 #[.tmp 17, .tmp 18] #[43, 52] rfl #[.pointer (some ⟨g, 0, none⟩), .slice (some ⟨wx.heap.size, 0, none⟩) 4 4] (by simp [Act.eval, Act.put]) hentP (aX7 HS.out ((HDx.out.on (Below.refl _ _).drew).alloc _) wx.drew.heap.size 4 4 21 (aQy (w := wx.drew) (S := 21) (by simp [aXf])) (by have := HDx.out.lt; simp only [World.drew]; omega) (by omega) (by omega)) ?_ (fun ch w' hP => by (obtain ⟨_, he, _⟩ := hP; cases he)) (fun w' hP => by (obtain ⟨_, he, _⟩ := hP; cases he)); intro v' w5 hP; obtain ⟨t5, hve, ht5, hd5, hg5⟩ := hP; cases hve; have HD5 := aQ0 hd5; have HG5 := aQ0 (aQ7 (aQ7 HGx.out (qD wx (some g))) (aQe hg5)); obtain ⟨p5, m5, z5, _, _, _, ⟨hz50, hz51⟩, hbx5⟩ := HD5.out.box; obtain ⟨zn5, rfl⟩ : ∃ zn : Nat, z5 = zn := ⟨z5.toNat, by omega⟩; have c35 := (bKf hbx5).2.2.2.1; have hw15 : IntKind.i64.wrap ((zn5 : Int) / 5) = (zn5 : Int) / 5 := Strs2.aXt (by omega) (by omega); have hw25 : IntKind.i64.wrap (2 + (zn5 : Int) / 5) = 2 + (zn5 : Int) / 5 := Strs2.aXt (by omega) (by omega); have hzn5 : zn5 ≤ 12 := (by omega); have g2 : ¬ 9223372036854775807 < t1.size + 15 + t5.size := (by omega); have g3 : ¬ 9223372036854775807 < t1.size + 15 + t5.size + 1 := (by omega); clear hd5 hg5 hbx5 hz50 hz51) | (refine aJe rfl 30 #[.tmp 22, .tmp 28] #[43, 2] rfl #[.pointer (some ⟨g, 0, none⟩), .int .i64 _] (by (simp [Act.eval, Act.put]; rfl)) hentC (HCO.out _ (by omega) (by omega) _ HD5.out) ?_ (fun ch w' hP => by (obtain ⟨_, he, _⟩ := hP; cases he)) (fun w' hP => by (obtain ⟨_, he, _⟩ := hP; cases he)); intro v' w6 hP; obtain ⟨t6, hve, ht6, hd6, hg6⟩ := hP; cases hve; have HD6 := aQ0 hd6; have HG6 := aQ0 (aQ7 HG5.out hg6); have g4 : ¬ 9223372036854775807 < t1.size + 15 + t5.size + 1 + t6.size := (by omega); have g5 : ¬ 9223372036854775807 < t1.size + 15 + t5.size + 1 + t6.size + 4 := (by omega); clear hd6 hg6))
  all_goals
   go_wp2_with fail
   refine (aX7 HS.out (HD6.out.alloc _) _ 4 4 13 (aQy (S := 13) (by simp [aXf])) (by have := HD6.out.lt; omega) (by omega) (by omega)).mono ?_
   rintro e w7 ⟨t7, rfl, ht7, hd, hg⟩
   have HD7 := aQ0 hd
   have HG7 := aQ0 (aQ7 HG6.out (aQe hg))
   clear hd hg
   go_wp2
   go_ret
   refine ⟨_, rfl, ?_, HD7.out, HG7.out⟩
   first | (simp [ByteArray.size_append]; omega) | (simp [ByteArray.size_append, szH]; omega)
theorem bW9 {w : World} {a : Option Addr} {n cap : Nat} (hS : Fed w a n) :
 Calls prog 8 #[.slice a n cap] w fun e w' => ∃ t : ByteArray, e = .returned (.string t) ∧ t.size ≤ 20 ∧ Below w.heap.size w w' := by
 have HS := aQ0 hS
 have hsrc := bVw a n cap w hS
 clear hS
 go_enter func8, ntmps8
 go_wp2_with fail
 refine hsrc.mono ?_
 rintro e w1 ⟨rfl, hd⟩
 have HD1 := aQ0 hd
 clear hsrc hd
 go_wp2_with fail
 refine (aX7 HS.out (HD1.out.alloc _) _ 10 10 7 (aQy (S := 7) (by simp [aXf])) (by have := HD1.out.lt; omega) (by omega) (by omega)).mono ?_
 rintro e w2 ⟨t2, rfl, ht2, hd, hg⟩
 have HD2 := aQ0 hd
 clear hd hg HD1
 go_wp2_with fail
 refine (aX7 HS.out (HD2.out.alloc _) _ 2 2 1 (aQy (S := 1) (by simp [aXf])) (by have := HD2.out.lt; omega) (by omega) (by omega)).mono ?_
 rintro e w3 ⟨t3, rfl, ht3, hd, hg⟩
 have HD3 := aQ0 hd
 clear hd hg HD2
 go_wp2
 go_ret
 exact ⟨_, rfl, by simp [ByteArray.size_append]; omega, HD3.out.below⟩
end Go.Proofs.YtocnfoeaikiecaaGreatDoor
