import Derived.Test.YtdblemolaojebaaGreatDoorImB
import Derived.Test.YtdblemolaojebaaGreatDoorPlE
set_option maxHeartbeats 16000000
set_option maxRecDepth 100000
namespace Go.Proofs.YtdblemolaojebaaGreatDoor
open Go.RowKit Strs Strs2 Plain9 Plain10 Plain23 Plain27
theorem imValueP_any [Inhabited Hold] {w : World} {g : Nat} {s : ByteArray} {p : Nat} (h : aQi w g s p) (hs : s.size ≤ 1048576) (hp : p ≤ s.size) :
 Calls Tryz.prog 100 #[.pointer (some ⟨g, 0, none⟩), .int .u8 37] w fun e w' => bXv w g s (vbF s 37 p) (vbT s 37 p) (vbP s 37 p) e w' := by
 have HB := aQ1 h
 obtain ⟨c0, c1, f1⟩ := aQz h
 clear h
 by_cases he : s.size ≤ p
 · have hF : vbF s 37 p = 1 := by unfold vbF; rw [if_pos he]
   have hpe : p = s.size := by omega
   rw [hF]
   generalize vbT s 37 p = T
   generalize vbP s 37 p = Q
   subst hpe
   clear hF he
   go_enter Tryz.func100, Tryz.ntmps100
   go_wp2_with fail
   go_quiet (fail)
   go_wp2
   go_ret2
   exact aJu (by omega) HB.out (Nat.le_refl _) (aQb w nq _)
 have hlt : p < s.size := by omega
 have hne : ¬ (p : Int) = (s.size : Int) := by omega
 obtain ⟨c, hc⟩ : ∃ c, aQ2 s p = c := ⟨_, rfl⟩
 have hix : ∀ wx, (Instr.index 9 (.string s) (.int .i64 (p : Int))).run Tryz.prog wx = .ok (.int .u8 c) wx := fun wx => by rw [aXl wx 9 s p (by omega) Tryz.underlying9, hc]
 by_cases hq : aKe c = true
 · have hF : vbF s 37 p = (vbGo s 37 c (s.size + 1) (p + 1)).1 := by unfold vbF; rw [if_neg he, hc, if_pos hq]
   have hTT : vbT s 37 p = s.extract (p + 1) (vbGo s 37 c (s.size + 1) (p + 1)).2 := by unfold vbT vbE; rw [hc]
   have hPP : vbP s 37 p = (vbGo s 37 c (s.size + 1) (p + 1)).2 + 1 := by unfold vbP vbE; rw [hc]
   rw [hF, hTT, hPP]
   obtain ⟨R, hR⟩ : ∃ R, vbGo s 37 c (s.size + 1) (p + 1) = R := ⟨_, rfl⟩
   rw [hR]
   have HR := aQ1 hR
   clear hF hTT hPP hR hc
   have hq' := of_decide_eq_true hq
   have hw1 : IntKind.i64.wrap ((p : Int) + 1) = ((p + 1 : Nat) : Int) := by rw [aZ2 (by omega) (by omega)]; omega
   have hqq : (c = 34 ∧ ¬ c = 39) ∨ (¬ c = 34 ∧ c = 39) := by omega
   clear hq hq'
   go_enter Tryz.func100, Tryz.ntmps100
   go_wp2_with fail
   go_quiet (fail)
   have HB1 : Hid (aQi (w.drewN nq) g s p) := HB
   have HG1 := aQ1 (aQb w nq (some g))
   generalize w.drewN nq = w1 at HB1 HG1 ⊢
   clear c0 c1 f1
   obtain ⟨c0, c1, f1⟩ := aQz HB1.out
   go_wp2_with fail
   go_quiet (fail)
   have HB2 : Hid (aQi (w1.drewN nq) g s p) := HB1
   have HG2 := aQ1 (aQ3 HG1.out (aQb w1 nq (some g)))
   generalize w1.drewN nq = w2 at HB2 HG2 ⊢
   clear c0 c1 f1 HB1 HG1 hix
   obtain ⟨c0, c1, f1⟩ := aQz HB2.out
   have hgo : Hid (∃ f k : Nat, (p + 1 : Nat) = k ∧ p + 1 ≤ k ∧ k ≤ s.size ∧ vbGo s 37 c f k = R ∧ s.size + 1 ≤ k + f) := aQ1 ⟨s.size + 1, p + 1, rfl, Nat.le_refl _, by omega, HR.out, by omega⟩
   rcases hqq with ⟨hq1, hq2⟩ | ⟨hq1, hq2⟩
   all_goals
    go_wp2
    go_loop [7] (fun i => ∃ f k : Nat, i = .int .i64 k ∧ p + 1 ≤ k ∧ k ≤ s.size ∧ vbGo s 37 c f k = R ∧ s.size + 1 ≤ k + f) (fun i => s.size - (intOf i).toNat)
    case atStart =>
     obtain ⟨f, k, rfl, h1, h2, h3, h4⟩ := hgo.out
     exact ⟨f, _, by simp, h1, h2, h3, h4⟩
    case round =>
     obtain ⟨f, k, rfl, hk1, hk2, hval, hfu⟩ := hrel
     have HV := aQ1 hval
     clear hval
     by_cases hkl : k < s.size
     · obtain ⟨f', rfl⟩ : ∃ f', f = f' + 1 := ⟨f - 1, by omega⟩
       obtain ⟨d, hd⟩ : ∃ d, aQ2 s k = d := ⟨_, rfl⟩
       have hix : ∀ wx, (Instr.index 9 (.string s) (.int .i64 (k : Int))).run Tryz.prog wx = .ok (.int .u8 d) wx := fun wx => by rw [aXl wx 9 s k (by omega) Tryz.underlying9, hd]
       have HD := aQ1 hd
       clear hd
       by_cases h60 : d = 37
       · have hR2 : R = (2, k) := by rw [← HV.out]; exact vb_bad hkl (by rw [HD.out]; exact h60)
         subst hR2
         subst h60
         go_wp2
         go_ret2
         exact aJu (by simp) HB2.out hp HG2.out
       · by_cases hdc : d = c
         · have hR2 : R = (0, k) := by rw [← HV.out]; exact vb_hit hkl (by rw [HD.out]; exact h60) (by rw [HD.out]; exact hdc)
           subst hR2
           have hsl : ∀ wx, (Instr.slice 9 (.string s) (some (.int .i64 ((p : Int) + 1))) (some (.int .i64 (k : Int))) none).run Tryz.prog wx = .ok (.string (s.extract (p + 1) k)) wx := fun wx => aYd wx _ s (p + 1) k _ _ (by omega) rfl hk1 hk2 Tryz.underlying9
           have hsl2 : ∀ wx, (Instr.slice 9 (.string s) (some (.int .i64 ((p + 1 : Nat) : Int))) (some (.int .i64 (k : Int))) none).run Tryz.prog wx = .ok (.string (s.extract (p + 1) k)) wx := fun wx => aYd wx _ s (p + 1) k _ _ rfl rfl hk1 hk2 Tryz.underlying9
           have hfr := fun wx => aVl (s.extract (p + 1) k) wx (by rw [aX7 hk2]; omega)
           have hw2 : IntKind.i64.wrap ((k : Int) + 1) = (k : Int) + 1 := aZ2 (by omega) (by omega)
           clear HD HV hgo
           subst hdc
           go_wp2_with fail
           go_region_held3 (fun W => W.cell? ⟨g, 0, none⟩ = some (.string s) ∧ W.cell? ⟨g, 1, none⟩ = some (.int .i64 (p : Int))) (go_keep)
            (first | (go_at_call 94; refine (hfr _).mono ?_; rintro e w' ⟨rfl, hg'⟩; obtain ⟨c0, c1, f1⟩ := aQz (aJd (w := w2.drew) HB2.out hg')))
           have HB3 := aQ1 (aJd (w := w2.drew) HB2.out hg')
           have HG3 : Hid (w.grownBy w' (some g)) := aQ1 (aQ3 HG2.out (aQ3 (aQb w2 1 _) (bJf (a := w2.drew) hg')))
           clear hg'
           go_wp2
           go_ret2
           exact ⟨_, k + 1, rfl, aW7 HB3.out (k + 1) (by omega), by omega, fun _ => ⟨rfl, rfl⟩, aQ3 HG3.out (aQa _)⟩
         · have hR2 : vbGo s 37 c f' (k + 1) = R := by rw [← HV.out]; exact (vb_on hkl (by rw [HD.out]; exact h60) (by rw [HD.out]; exact hdc)).symm
           have HV2 := aQ1 hR2
           clear hR2
           go_wp2
           go_round
           case rel => exact ⟨f', k + 1, by go_num, by omega, by omega, HV2.out, by omega⟩
           case measure => simp [intOf]; omega
     · have hR2 : R = (1, k) := by rw [← HV.out]; exact vb_end (by omega)
       subst hR2
       go_wp2
       go_ret2
       exact aJu (by simp) HB2.out hp HG2.out
 · have hF : vbF s 37 p = 2 := by unfold vbF; rw [if_neg he, hc, if_neg hq]
   rw [hF]
   generalize vbT s 37 p = T
   generalize vbP s 37 p = Q
   have hq1 : ¬ c = 34 := fun h => hq (by subst h; rfl)
   have hq2 : ¬ c = 39 := fun h => hq (by subst h; rfl)
   have hb1 : (c != 34) = true := by simpa using hq1
   have hb2 : (c != 39) = true := by simpa using hq2
   clear hF hc hq hq1 hq2
   go_enter Tryz.func100, Tryz.ntmps100
   go_wp2_with fail
   go_quiet (fail)
   have HB1 : Hid (aQi (w.drewN nq) g s p) := HB
   have HG1 := aQ1 (aQb w nq (some g))
   generalize w.drewN nq = w1 at HB1 HG1 ⊢
   clear c0 c1 f1
   obtain ⟨c0, c1, f1⟩ := aQz HB1.out
   go_wp2_with fail
   go_quiet (fail)
   go_wp2
   go_ret2
   exact aJu (by omega) HB1.out hp (aQ3 HG1.out (aQb w1 nq _))
open Go.RowKit Strs Plain23 Plain28
theorem low_small {c : Int} (h0 : 97 ≤ c) (h1 : c ≤ 102) : bits .or .u8 c 32 = c := by
 have : c = 97 ∨ c = 98 ∨ c = 99 ∨ c = 100 ∨ c = 101 ∨ c = 102 := by omega
 rcases this with rfl | rfl | rfl | rfl | rfl | rfl <;> decide
theorem low_great {c : Int} (h0 : 65 ≤ c) (h1 : c ≤ 70) : bits .or .u8 c 32 = c + 32 := by
 have : c = 65 ∨ c = 66 ∨ c = 67 ∨ c = 68 ∨ c = 69 ∨ c = 70 := by omega
 rcases this with rfl | rfl | rfl | rfl | rfl | rfl <;> decide
theorem lower_any (c d : Int) (hd : bits .or .u8 c 32 = d) (w : World) : Calls Tryz.prog 151 #[.int .u8 c] w fun e w' => e = .returned (.int .u8 d) ∧ w' = w := by
 go_enter Tryz.func151, Tryz.ntmps151
 go_wp2
 go_ret
 exact ⟨by rw [← hd]; rfl, rfl⟩
theorem bZa {c : UInt8} {base : Nat} (hb : base = 10 ∨ base = 16) (h : digV c < base) :
 (48 ≤ c.toNat ∧ c.toNat ≤ 57 ∧ (digV c : Int) = (c.toNat : Int) - 48) ∨ (base = 16 ∧ 97 ≤ c.toNat ∧ c.toNat ≤ 102 ∧ (digV c : Int) = (c.toNat : Int) - 87) ∨ (base = 16 ∧ 65 ≤ c.toNat ∧ c.toNat ≤ 70 ∧ (digV c : Int) = (c.toNat : Int) - 55) := by
 unfold digV at h ⊢
 split
 · left; omega
 · rename_i h1
   rw [if_neg h1] at h
   split
   · rename_i h2
     rw [if_pos h2] at h
     right; left; omega
   · rename_i h2
     rw [if_neg h2] at h
     split
     · rename_i h3
       rw [if_pos h3] at h
       right; right; omega
     · rename_i h3
       rw [if_neg h3] at h
       omega
theorem aYj {base : Nat} {l : List UInt8} (hb : base = 10 ∨ base = 16) (h : ∀ k, k < l.length → digV (l.getD k 0) < base) {j : Nat} (hj : j ≤ l.length) (h9 : j ≤ 8) : digX base (l.take j) < 4294967296 := by
 have hall : ∀ m, m ≤ l.length → m ≤ (digs base l).length := by
  intro m
  induction m with
  | zero => intro _; omega
  | succ m ih => intro hm; exact digs_on base l m (ih (by omega)) (by omega) (h m (by omega))
 have h1 := digX_lt (base := base) (by omega) j l (hall j hj)
 have h2 : base ^ j ≤ 16 ^ j := Nat.pow_le_pow_left (by omega) j
 have h3 : (16 : Nat) ^ j ≤ 16 ^ 8 := Nat.pow_le_pow_right (by omega) h9
 have : (16 : Nat) ^ 8 = 4294967296 := by decide
 omega
theorem bZz (t : ByteArray) (h1 : 1 ≤ t.size) (h8 : t.size ≤ 8) (hd : ∀ k, k < t.data.toList.length → digV (t.data.toList.getD k 0) < 10) (w : World) :
 Calls Tryz.prog 146 #[.string t, .int .i64 10, .int .i64 64] w fun e w' => e = .returned (.tuple #[.int .u64 (digX 10 t.data.toList : Nat), .nilIface]) ∧ w' = Lib.bytesWorld w 5 t := by
 have hemp : t.toList.isEmpty = false := by
  rw [← decide_eq_emptyBytes]
  exact decide_eq_false (fun h => by rw [h] at h1; exact absurd h1 (by decide))
 have hcv := Lib.run_convert_string_bytes (P := Tryz.prog) w 9 22 5 t (u := .string) Tryz.underlying9 Tryz.underlying22 Tryz.underlying5
 have hB : ∀ j, j < t.size → (Lib.bytesWorld w 5 t).cell? ⟨w.heap.size, j, none⟩ = some (.int .u8 (t.data.toList.getD j 0).toNat) := fun j hj => Lib.bytesWorld_cell w 5 t j hj
 obtain ⟨W1, hW1⟩ : ∃ W1, W1 = Lib.bytesWorld w 5 t := ⟨_, rfl⟩
 rw [← hW1] at hcv hB ⊢
 clear hW1
 obtain ⟨bs, hL⟩ : ∃ bs, bs = t.data.toList := ⟨_, rfl⟩
 have hLn : bs.length = t.size := by rw [hL, Lib.size_eq]
 rw [← hL] at hB hd ⊢
 clear hL
 have hmv : IntKind.u64.wrap (IntKind.u64.wrap 18446744073709551616 - 1) = 18446744073709551615 := by
  rw [IntKind.wrap_u64, IntKind.wrap_u64]
  decide
 have HB := aQ1 hB
 have HD := aQ1 hd
 clear hB hd
 go_enter Tryz.func146, Tryz.ntmps146
 go_wp2
 go_loop [12, 13, 101] (fun vu vn vi => ∃ (k : Nat) (a : Int), vu = .bool false ∧ vn = .int .u64 a ∧ vi = .int .i64 k ∧ k ≤ t.size ∧ Hid (a = (digX 10 (bs.take k) : Nat)) ∧ 0 ≤ a ∧ a < 4294967296)
  (fun _ _ vi => t.size - (intOf vi).toNat)
 case atStart => exact ⟨0, 0, rfl, rfl, rfl, by omega, aQ1 rfl, by omega, by omega⟩
 case round =>
  obtain ⟨k, a, rfl, rfl, rfl, hk, hh, a0, a1⟩ := hrel
  by_cases hkn : k < t.size
  · have hc := HB.out k hkn
    have hdv := HD.out k (by omega)
    have hnx := bJs (base := 10) (j := k) (l := bs) (by omega)
    have hsm := aYj (base := 10) (by omega) HD.out (j := k + 1) (by omega) (by omega)
    generalize bs.getD k 0 = c at hc hdv hnx
    have hc256 : c.toNat < 256 := c.toNat_lt
    rcases bZa (by omega) hdv with ⟨k0, k1, k2⟩ | ⟨k3, k0, k1, k2⟩ | ⟨k3, k0, k1, k2⟩
    · have hnew : a * 10 + ((c.toNat : Int) - 48) = (digX 10 (bs.take (k + 1)) : Nat) := by have := hh.out; rw [hnx]; push_cast; omega
      have HN : Hid (a * 10 + ((c.toNat : Int) - 48) = (digX 10 (bs.take (k + 1)) : Nat)) := aQ1 hnew
      have hup : a * 10 + ((c.toNat : Int) - 48) < 4294967296 := by rw [hnew]; omega
      have k4 : 0 ≤ (c.toNat : Int) - 48 := by omega
      have k5 : (c.toNat : Int) - 48 < 10 := by omega
      clear hnew hh hnx hsm k2 hdv
      go_wp2
      refine ⟨⟨k + 1, a * 10 + ((c.toNat : Int) - 48), rfl, (by first | rfl | (congr 1; omega)), (by first | rfl | (congr 1; omega)), by omega, HN, by omega, hup⟩, by simp [intOf]; omega⟩
    · omega
    · omega
  · have hkk : k = t.size := by omega
    subst hkk
    have ha := hh.out
    rw [List.take_of_length_le (by omega)] at ha
    subst ha
    clear hh a0 a1
    go_wp2
    go_ret2
    exact ⟨rfl, rfl⟩
theorem bZy (t : ByteArray) (h1 : 1 ≤ t.size) (h8 : t.size ≤ 8) (hd : ∀ k, k < t.data.toList.length → digV (t.data.toList.getD k 0) < 16) (w : World) :
 Calls Tryz.prog 146 #[.string t, .int .i64 16, .int .i64 64] w fun e w' => e = .returned (.tuple #[.int .u64 (digX 16 t.data.toList : Nat), .nilIface]) ∧ w' = Lib.bytesWorld w 5 t := by
 have hemp : t.toList.isEmpty = false := by
  rw [← decide_eq_emptyBytes]
  exact decide_eq_false (fun h => by rw [h] at h1; exact absurd h1 (by decide))
 have hcv := Lib.run_convert_string_bytes (P := Tryz.prog) w 9 22 5 t (u := .string) Tryz.underlying9 Tryz.underlying22 Tryz.underlying5
 have hB : ∀ j, j < t.size → (Lib.bytesWorld w 5 t).cell? ⟨w.heap.size, j, none⟩ = some (.int .u8 (t.data.toList.getD j 0).toNat) := fun j hj => Lib.bytesWorld_cell w 5 t j hj
 obtain ⟨W1, hW1⟩ : ∃ W1, W1 = Lib.bytesWorld w 5 t := ⟨_, rfl⟩
 rw [← hW1] at hcv hB ⊢
 clear hW1
 obtain ⟨bs, hL⟩ : ∃ bs, bs = t.data.toList := ⟨_, rfl⟩
 have hLn : bs.length = t.size := by rw [hL, Lib.size_eq]
 rw [← hL] at hB hd ⊢
 clear hL
 have hmv : IntKind.u64.wrap (IntKind.u64.wrap 18446744073709551616 - 1) = 18446744073709551615 := by
  rw [IntKind.wrap_u64, IntKind.wrap_u64]
  decide
 have HB := aQ1 hB
 have HD := aQ1 hd
 clear hB hd
 go_enter Tryz.func146, Tryz.ntmps146
 go_wp2
 go_loop [12, 13, 101] (fun vu vn vi => ∃ (k : Nat) (a : Int), vu = .bool false ∧ vn = .int .u64 a ∧ vi = .int .i64 k ∧ k ≤ t.size ∧ Hid (a = (digX 16 (bs.take k) : Nat)) ∧ 0 ≤ a ∧ a < 4294967296)
  (fun _ _ vi => t.size - (intOf vi).toNat)
 case atStart => exact ⟨0, 0, rfl, rfl, rfl, by omega, aQ1 rfl, by omega, by omega⟩
 case round =>
  obtain ⟨k, a, rfl, rfl, rfl, hk, hh, a0, a1⟩ := hrel
  by_cases hkn : k < t.size
  · have hc := HB.out k hkn
    have hdv := HD.out k (by omega)
    have hnx := bJs (base := 16) (j := k) (l := bs) (by omega)
    have hsm := aYj (base := 16) (by omega) HD.out (j := k + 1) (by omega) (by omega)
    generalize bs.getD k 0 = c at hc hdv hnx
    have hc256 : c.toNat < 256 := c.toNat_lt
    rcases bZa (by omega) hdv with ⟨k0, k1, k2⟩ | ⟨k3, k0, k1, k2⟩ | ⟨k3, k0, k1, k2⟩
    · have hnew : a * 16 + ((c.toNat : Int) - 48) = (digX 16 (bs.take (k + 1)) : Nat) := by have := hh.out; rw [hnx]; push_cast; omega
      have HN : Hid (a * 16 + ((c.toNat : Int) - 48) = (digX 16 (bs.take (k + 1)) : Nat)) := aQ1 hnew
      have hup : a * 16 + ((c.toNat : Int) - 48) < 4294967296 := by rw [hnew]; omega
      have k4 : 0 ≤ (c.toNat : Int) - 48 := by omega
      have k5 : (c.toNat : Int) - 48 < 16 := by omega
      clear hnew hh hnx hsm k2 hdv
      go_wp2
      refine ⟨⟨k + 1, a * 16 + ((c.toNat : Int) - 48), rfl, (by first | rfl | (congr 1; omega)), (by first | rfl | (congr 1; omega)), by omega, HN, by omega, hup⟩, by simp [intOf]; omega⟩
    · have hnew : a * 16 + ((c.toNat : Int) - 87) = (digX 16 (bs.take (k + 1)) : Nat) := by have := hh.out; rw [hnx]; push_cast; omega
      have HN : Hid (a * 16 + ((c.toNat : Int) - 87) = (digX 16 (bs.take (k + 1)) : Nat)) := aQ1 hnew
      have hup : a * 16 + ((c.toNat : Int) - 87) < 4294967296 := by rw [hnew]; omega
      have k4 : 0 ≤ (c.toNat : Int) - 87 := by omega
      have k5 : (c.toNat : Int) - 87 < 16 := by omega
      have hlo := low_small (c := (c.toNat : Int)) (by omega) (by omega)
      have hlw := fun wx => lower_any (c.toNat : Int) _ hlo wx
      clear hnew hh hnx hsm k2 hdv
      go_wp2_with (go_at_call 151; refine (hlw _).mono ?_; rintro e w9 ⟨rfl, hw9⟩; subst hw9)
      refine ⟨⟨k + 1, a * 16 + ((c.toNat : Int) - 87), rfl, (by first | rfl | (congr 1; omega)), (by first | rfl | (congr 1; omega)), by omega, HN, by omega, hup⟩, by simp [intOf]; omega⟩
    · have hnew : a * 16 + ((c.toNat : Int) - 55) = (digX 16 (bs.take (k + 1)) : Nat) := by have := hh.out; rw [hnx]; push_cast; omega
      have HN : Hid (a * 16 + ((c.toNat : Int) - 55) = (digX 16 (bs.take (k + 1)) : Nat)) := aQ1 hnew
      have hup : a * 16 + ((c.toNat : Int) - 55) < 4294967296 := by rw [hnew]; omega
      have k4 : 0 ≤ (c.toNat : Int) - 55 := by omega
      have k5 : (c.toNat : Int) - 55 < 16 := by omega
      have hlo := low_great (c := (c.toNat : Int)) (by omega) (by omega)
      have hlw := fun wx => lower_any (c.toNat : Int) _ hlo wx
      clear hnew hh hnx hsm k2 hdv
      go_wp2_with (go_at_call 151; refine (hlw _).mono ?_; rintro e w9 ⟨rfl, hw9⟩; subst hw9)
      refine ⟨⟨k + 1, a * 16 + ((c.toNat : Int) - 55), rfl, (by first | rfl | (congr 1; omega)), (by first | rfl | (congr 1; omega)), by omega, HN, by omega, hup⟩, by simp [intOf]; omega⟩
  · have hkk : k = t.size := by omega
    subst hkk
    have ha := hh.out
    rw [List.take_of_length_le (by omega)] at ha
    subst ha
    clear hh a0 a1
    go_wp2
    go_ret2
    exact ⟨rfl, rfl⟩
theorem bJu (w : World) (e : TypeId) (t : ByteArray) : Below w.heap.size w (Lib.bytesWorld w e t) := by
 exact Lib.bytesWorld_below w e t
theorem bJ1 (t : ByteArray) (h1 : 1 ≤ t.size) (h8 : t.size ≤ 8) (hd : ∀ k, k < t.data.toList.length → digV (t.data.toList.getD k 0) < 10) (w : World) :
 Calls Tryz.prog 144 #[.string t, .int .i64 10, .int .i64 64] w fun e w' => e = .returned (.tuple #[.int .i64 (digX 10 t.data.toList : Nat), .nilIface]) ∧ Below w.heap.size w w' := by
 have hemp : t.toList.isEmpty = false := by
  rw [← decide_eq_emptyBytes]
  exact decide_eq_false (fun h => by rw [h] at h1; exact absurd h1 (by decide))
 have hu := bZz t h1 h8 hd w
 have hlen : t.data.toList.length = t.size := by rw [Lib.size_eq]
 have hx := aYj (base := 10) (by omega) hd (j := t.data.toList.length) (Nat.le_refl _) (by omega)
 rw [List.take_length] at hx
 obtain ⟨X, hX⟩ : ∃ X : Int, ((digX 10 t.data.toList : Nat) : Int) = X := ⟨_, rfl⟩
 have hX0 : 0 ≤ X := by omega
 have hX1 : X < 4294967296 := by omega
 rw [hX] at hu ⊢
 have hk := bZa (base := 10) (by omega) (hd 0 (by omega))
 obtain ⟨c, hc⟩ : ∃ c, aQ2 t 0 = c := ⟨_, rfl⟩
 have hc2 : ((t.data.toList.getD 0 0).toNat : Int) = c := hc
 have hc0 : ¬ c = 43 := by omega
 have hc1 : ¬ c = 45 := by omega
 have hix : ∀ wx, (Instr.index 9 (.string t) (.int .i64 0)).run Tryz.prog wx = .ok (.int .u8 c) wx := fun wx => by
  have := aXl (P := Tryz.prog) wx 9 t 0 (by omega) Tryz.underlying9
  rw [hc] at this
  exact this
 clear hX hx hk hc hc2 hd
 go_enter Tryz.func144, Tryz.ntmps144
 go_wp2_with fail
 refine hu.mono ?_
 rintro e w1 ⟨rfl, hw1⟩
 have hb1 : Hid (Below w.heap.size w w1) := by rw [hw1]; exact aQ1 (bJu w _ t)
 clear hu hw1 hix
 go_wp2
 go_ret2
 exact ⟨rfl, hb1.out⟩
theorem bV2 (t : ByteArray) (h1 : 1 ≤ t.size) (h8 : t.size ≤ 8) (hd : ∀ k, k < t.data.toList.length → digV (t.data.toList.getD k 0) < 10) (w : World) :
 Calls Tryz.prog 141 #[.string t, .int .i64 10, .int .i64 64] w fun e w' => e = .returned (.tuple #[.int .i64 (digX 10 t.data.toList : Nat), .nilIface]) ∧ Below w.heap.size w w' := by
 have hu := bJ1 t h1 h8 hd w
 obtain ⟨X, hX⟩ : ∃ X : Int, ((digX 10 t.data.toList : Nat) : Int) = X := ⟨_, rfl⟩
 rw [hX] at hu ⊢
 clear hX hd
 go_enter Tryz.func141, Tryz.ntmps141
 go_wp2_with fail
 refine hu.mono ?_
 rintro e w1 ⟨rfl, hb1⟩
 have HB1 := aQ1 hb1
 clear hu hb1
 go_wp2
 go_ret2
 exact ⟨rfl, HB1.out⟩
theorem bJ0 (t : ByteArray) (h1 : 1 ≤ t.size) (h8 : t.size ≤ 8) (hd : ∀ k, k < t.data.toList.length → digV (t.data.toList.getD k 0) < 16) (w : World) :
 Calls Tryz.prog 144 #[.string t, .int .i64 16, .int .i64 64] w fun e w' => e = .returned (.tuple #[.int .i64 (digX 16 t.data.toList : Nat), .nilIface]) ∧ Below w.heap.size w w' := by
 have hemp : t.toList.isEmpty = false := by
  rw [← decide_eq_emptyBytes]
  exact decide_eq_false (fun h => by rw [h] at h1; exact absurd h1 (by decide))
 have hu := bZy t h1 h8 hd w
 have hlen : t.data.toList.length = t.size := by rw [Lib.size_eq]
 have hx := aYj (base := 16) (by omega) hd (j := t.data.toList.length) (Nat.le_refl _) (by omega)
 rw [List.take_length] at hx
 obtain ⟨X, hX⟩ : ∃ X : Int, ((digX 16 t.data.toList : Nat) : Int) = X := ⟨_, rfl⟩
 have hX0 : 0 ≤ X := by omega
 have hX1 : X < 4294967296 := by omega
 rw [hX] at hu ⊢
 have hk := bZa (base := 16) (by omega) (hd 0 (by omega))
 obtain ⟨c, hc⟩ : ∃ c, aQ2 t 0 = c := ⟨_, rfl⟩
 have hc2 : ((t.data.toList.getD 0 0).toNat : Int) = c := hc
 have hc0 : ¬ c = 43 := by omega
 have hc1 : ¬ c = 45 := by omega
 have hix : ∀ wx, (Instr.index 9 (.string t) (.int .i64 0)).run Tryz.prog wx = .ok (.int .u8 c) wx := fun wx => by
  have := aXl (P := Tryz.prog) wx 9 t 0 (by omega) Tryz.underlying9
  rw [hc] at this
  exact this
 clear hX hx hk hc hc2 hd
 go_enter Tryz.func144, Tryz.ntmps144
 go_wp2_with fail
 refine hu.mono ?_
 rintro e w1 ⟨rfl, hw1⟩
 have hb1 : Hid (Below w.heap.size w w1) := by rw [hw1]; exact aQ1 (bJu w _ t)
 clear hu hw1 hix
 go_wp2
 go_ret2
 exact ⟨rfl, hb1.out⟩
theorem bV1 (t : ByteArray) (h1 : 1 ≤ t.size) (h8 : t.size ≤ 8) (hd : ∀ k, k < t.data.toList.length → digV (t.data.toList.getD k 0) < 16) (w : World) :
 Calls Tryz.prog 141 #[.string t, .int .i64 16, .int .i64 64] w fun e w' => e = .returned (.tuple #[.int .i64 (digX 16 t.data.toList : Nat), .nilIface]) ∧ Below w.heap.size w w' := by
 have hu := bJ0 t h1 h8 hd w
 obtain ⟨X, hX⟩ : ∃ X : Int, ((digX 16 t.data.toList : Nat) : Int) = X := ⟨_, rfl⟩
 rw [hX] at hu ⊢
 clear hX hd
 go_enter Tryz.func141, Tryz.ntmps141
 go_wp2_with fail
 refine hu.mono ?_
 rintro e w1 ⟨rfl, hb1⟩
 have HB1 := aQ1 hb1
 clear hu hb1
 go_wp2
 go_ret2
 exact ⟨rfl, HB1.out⟩
def SynCell (w : World) : Prop := ∃ ev, w.cell? ⟨9, 0, none⟩ = some ev ∧ (ev = .nilIface ∨ ∃ te pe, ev = .iface te pe)
theorem bQk (base : Int) (w : World) (hS : SynCell w) :
 Calls Tryz.prog 141 #[.string ⟨#[]⟩, .int .i64 base, .int .i64 64] w fun e w' => (∃ te pe, e = .returned (.tuple #[.int .i64 0, .iface te pe])) ∧ Below w.heap.size w w' := by
 obtain ⟨ev, hv, hev⟩ := hS
 have hu := Tryz.internal_strconv_ParseInt_empty base 64 w
 have ht := Tryz.strconv_toError_synt ⟨#[80, 97, 114, 115, 101, 73, 110, 116]⟩ ⟨#[]⟩ base 64 ev w (by decide) hv hev
 go_enter Tryz.func141, Tryz.ntmps141
 go_wp2_with fail
 refine hu.mono ?_
 rintro e w1 ⟨rfl, hww⟩
 obtain rfl := hww
 go_wp2_with fail
 refine ht.mono ?_
 rintro e w2 ⟨N, rfl, _, _, hb2⟩
 have HB2 := aQ1 hb2
 clear ht hb2 hu
 go_wp2
 go_ret2
 exact ⟨⟨_, _, rfl⟩, HB2.out⟩
end Go.Proofs.YtdblemolaojebaaGreatDoor
