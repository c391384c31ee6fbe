import Derived.Test.YtdblemolaojebaaGreatDoorImX
set_option maxRecDepth 100000
set_option maxHeartbeats 8000000
namespace Go.Proofs.YtdblemolaojebaaGreatDoor
open Go.RowKit Strs Plain10
def ShF (n : ByteArray) (k : Nat) (a : Act) : Prop := ∃ u : Nat → Value, a = ⟨#[.string n, .string ⟨#[120, 109, 108]⟩, u 2, u 3, u 4, .int .i64 (k : Int), u 6, u 7, u 8, u 9, u 10, u 11, u 12, u 13, u 14, u 15, u 16, u 17, u 18, u 19, u 20, u 21, u 22, u 23, u 24, u 25, u 26, u 27, u 28, u 29, u 30, u 31, u 32, u 33, u 34, u 35, u 36, u 37, u 38, u 39, u 40, u 41, u 42, u 43, u 44, u 45, u 46, u 47, u 48, u 49, u 50, u 51, u 52, u 53, u 54, u 55, u 56, u 57, u 58, u 59, u 60, u 61, u 62, u 63, u 64, u 65, u 66, u 67, u 68, u 69, u 70, u 71, u 72, u 73, u 74, u 75, u 76, u 77, u 78, u 79, u 80, u 81, u 82, u 83, u 84, u 85, u 86, u 87, u 88, u 89, u 90, u 91, u 92, u 93, u 94, u 95, u 96, u 97, u 98, u 99, u 100, u 101, u 102, u 103, u 104, u 105, u 106, u 107, u 108, u 109, u 110, u 111, u 112, u 113, u 114, u 115, u 116, u 117, u 118, u 119, u 120, u 121, u 122], []⟩
theorem expand123 (t : Array Value) (h : t.size = 123) : t = ((List.range 123).map fun i => t.getD i undef).toArray := by
 apply Array.ext
 · simp [h]
 · intro i h1 h2
   simp [Array.getD, h1]
theorem lit123 (u : Nat → Value) : ((List.range 123).map u).toArray = #[u 0, u 1, u 2, u 3, u 4, u 5, u 6, u 7, u 8, u 9, u 10, u 11, u 12, u 13, u 14, u 15, u 16, u 17, u 18, u 19, u 20, u 21, u 22, u 23, u 24, u 25, u 26, u 27, u 28, u 29, u 30, u 31, u 32, u 33, u 34, u 35, u 36, u 37, u 38, u 39, u 40, u 41, u 42, u 43, u 44, u 45, u 46, u 47, u 48, u 49, u 50, u 51, u 52, u 53, u 54, u 55, u 56, u 57, u 58, u 59, u 60, u 61, u 62, u 63, u 64, u 65, u 66, u 67, u 68, u 69, u 70, u 71, u 72, u 73, u 74, u 75, u 76, u 77, u 78, u 79, u 80, u 81, u 82, u 83, u 84, u 85, u 86, u 87, u 88, u 89, u 90, u 91, u 92, u 93, u 94, u 95, u 96, u 97, u 98, u 99, u 100, u 101, u 102, u 103, u 104, u 105, u 106, u 107, u 108, u 109, u 110, u 111, u 112, u 113, u 114, u 115, u 116, u 117, u 118, u 119, u 120, u 121, u 122] := rfl
theorem shF_of {n : ByteArray} {k : Nat} (t : Array Value) (hs : t.size = 123) (h0 : t.getD 0 undef = .string n) (h1 : t.getD 1 undef = .string ⟨#[120, 109, 108]⟩) (h5 : t.getD 5 undef = .int .i64 (k : Int)) : ShF n k ⟨t, []⟩ := by
 refine ⟨fun i => t.getD i undef, ?_⟩
 rw [← h0, ← h1, ← h5]
 exact congrArg (fun x => Act.mk x []) ((expand123 t hs).trans (lit123 fun i => t.getD i undef))
def fdL : List Int := [120, 109, 108]
def okF (n : ByteArray) (j : Nat) : Prop := aQ2 n j = fdL.getD j 0 ∨ aQ2 n j = fdL.getD j 0 - 32
theorem decode_big {s : ByteArray} {pos : Nat} (hp : pos < s.size) (hb : 128 ≤ aQ2 s pos) : 128 ≤ (Utf8.decode s pos).1 := by
 have hb0 : 128 ≤ (s.get! (pos + 0)).toNat := by
  rw [Nat.add_zero]
  have := aK6 s pos hp
  omega
 unfold Utf8.decode
 simp only []
 rw [if_neg (by omega)]
 split
 · split
   · rename_i h; simpa using h
   · simp [Utf8.runeError]
 · split
   · split
     · rename_i h
       simp only [Bool.and_eq_true, decide_eq_true_eq] at h
       simp only; omega
     · simp [Utf8.runeError]
   · split
     · split
       · rename_i h
         simp only [Bool.and_eq_true, decide_eq_true_eq] at h
         simp only; omega
       · simp [Utf8.runeError]
     · simp [Utf8.runeError]
theorem xml_no {n : ByteArray} {j : Nat} (hj : j < 3) (h : ¬ okF n j) : xmlB n = false := by
 unfold okF fdL at h
 unfold xmlB
 match j, hj with
 | 0, _ => simp at h; simp; intro _ h1; omega
 | 1, _ => simp at h; simp; intro _ _ h1; omega
 | 2, _ => simp at h; simp; intro _ _ _ ; omega
theorem xml_end {n : ByteArray} {k : Nat} (hk : ∀ j, j < k → okF n j) (hM : k = n.size ∨ k = 3) (h3 : k ≤ 3) (hn : k ≤ n.size) : xmlB n = decide (n.size = 3) := by
 unfold xmlB
 by_cases h : n.size = 3
 · have hk3 : k = 3 := by omega
   subst hk3
   have a0 := hk 0 (by omega)
   have a1 := hk 1 (by omega)
   have a2 := hk 2 (by omega)
   unfold okF fdL at a0 a1 a2
   simp at a0 a1 a2
   simp [h]
   omega
 · simp [h]
theorem dec_x (w : World) : Calls Tryz.prog 55 #[.string ⟨#[120, 109, 108]⟩] w fun e w' => e = .returned (.tuple #[.int .i32 120, .int .i64 1]) ∧ w' = w := by
 go_enter Tryz.func55, Tryz.ntmps55
 go_wp2
 go_ret2
 exact ⟨rfl, rfl⟩
theorem dec_m (w : World) : Calls Tryz.prog 55 #[.string ⟨#[109, 108]⟩] w fun e w' => e = .returned (.tuple #[.int .i32 109, .int .i64 1]) ∧ w' = w := by
 go_enter Tryz.func55, Tryz.ntmps55
 go_wp2
 go_ret2
 exact ⟨rfl, rfl⟩
theorem dec_l (w : World) : Calls Tryz.prog 55 #[.string ⟨#[108]⟩] w fun e w' => e = .returned (.tuple #[.int .i32 108, .int .i64 1]) ∧ w' = w := by
 go_enter Tryz.func55, Tryz.ntmps55
 go_wp2
 go_ret2
 exact ⟨rfl, rfl⟩
theorem fold_at (i : Nat) (z : Int) (w : World) (hi : i < 128) (hz0 : 0 ≤ z) (hz : z < 128) (h : w.cell? ⟨4, i, none⟩ = some (.int .u16 z)) :
 Calls Tryz.prog 126 #[.int .i32 (i : Int)] w fun e w' => e = .returned (.int .i32 z) ∧ w' = w := by
 go_enter Tryz.func126, Tryz.ntmps126
 go_wp2
 go_ret
 exact ⟨rfl, rfl⟩
open Go.RowKit Strs Strs2 Lists Plain9 Plain10 Plain11
theorem byte_rng (s : ByteArray) (p : Nat) : 0 ≤ aQ2 s p ∧ aQ2 s p < 256 := by
 rw [aXz]
 have := (s.data.toList.getD p 0).toNat_lt
 omega
theorem or_big {b d : Int} (h0 : 128 ≤ b) (h1 : b < 256) (d0 : 0 ≤ d) (d1 : d < 256) : 128 ≤ bits .or .u8 b d := by
 obtain ⟨x, rfl⟩ : ∃ x : Nat, b = x := ⟨b.toNat, by omega⟩
 obtain ⟨y, rfl⟩ : ∃ y : Nat, d = y := ⟨d.toNat, by omega⟩
 rw [u8_or_nat x y (by omega) (by omega)]
 have : x ≤ x ||| y := Nat.left_le_or
 omega
theorem or_small {b d : Int} (h0 : 0 ≤ b) (h1 : b < 128) (d0 : 0 ≤ d) (d1 : d < 128) : ¬ 128 ≤ bits .or .u8 b d := by
 obtain ⟨x, rfl⟩ : ∃ x : Nat, b = x := ⟨b.toNat, by omega⟩
 obtain ⟨y, rfl⟩ : ∃ y : Nat, d = y := ⟨d.toNat, by omega⟩
 rw [u8_or_nat x y (by omega) (by omega)]
 have := Nat.or_lt_two_pow (n := 7) (x := x) (y := y) (by omega) (by omega)
 omega
theorem fold_any (n : ByteArray) (w : World) (hn : n.size ≤ 1048576) (hfo : ∀ i z, (i, z) ∈ bZ0 → w.cell? ⟨4, i, none⟩ = some (.int .u16 z)) :
 Calls Tryz.prog 99 #[.string n, .string ⟨#[120, 109, 108]⟩] w fun e w' => e = .returned (.bool (xmlB n)) ∧ w.grownBy w' none := by
 obtain ⟨R, hR⟩ : ∃ R, xmlB n = R := ⟨_, rfl⟩
 rw [hR]
 have HR := aQ1 hR
 have HFO := aQ1 hfo
 clear hR hfo
 obtain ⟨M, hM⟩ : ∃ M : Nat, min (n.size : Int) 3 = (M : Int) := ⟨min n.size 3, by omega⟩
 have hMs : M ≤ n.size := by omega
 have hM3 : M ≤ 3 := by omega
 have hMe : M = n.size ∨ M = 3 := by omega
 go_enter Tryz.func99, Tryz.ntmps99
 go_wp2
 refine bXo (fun l a W => l = 0 ∧ W = w ∧ R = false ∧ ∃ k, ShF n k a ∧ k < 3 ∧ k < n.size ∧ 128 ≤ aQ2 n k) (fun _ _ _ => 0) ?_ ?_
 · go_wp2
   go_loop [5] (fun i => ∃ k : Nat, k ≤ M ∧ i = .int .i64 k ∧ ∀ j, j < k → okF n j) (fun i => M - (intOf i).toNat)
   case atStart => exact ⟨0, Nat.zero_le _, rfl, fun j hj => absurd hj (by omega)⟩
   case round =>
    obtain ⟨k, hk, rfl, hok⟩ := hrel
    have HOK := aQ1 hok
    clear hok hM
    by_cases hlt : k < M
    · have hlti : (k : Int) < (M : Int) := by omega
      obtain ⟨b, hb⟩ : ∃ b, aQ2 n k = b := ⟨_, rfl⟩
      have hix : ∀ wx, (Instr.index 9 (.string n) (.int .i64 (k : Int))).run Tryz.prog wx = .ok (.int .u8 b) wx := fun wx => by rw [aXl wx 9 n k (by omega) Tryz.underlying9, hb]
      obtain ⟨hb0, hb1⟩ := byte_rng n k
      rw [hb] at hb0 hb1
      obtain ⟨d, hd, hd0, hd1, hdl⟩ : ∃ d, fdL.getD k 0 = d ∧ 0 ≤ d ∧ d ≤ 122 ∧ 108 ≤ d := by
       match k, (show k < 3 by omega) with
       | 0, _ => exact ⟨120, rfl, by omega, by omega, by omega⟩
       | 1, _ => exact ⟨109, rfl, by omega, by omega, by omega⟩
       | 2, _ => exact ⟨108, rfl, by omega, by omega, by omega⟩
      have hixd : ∀ wx, (Instr.index 9 (.string ⟨#[120, 109, 108]⟩) (.int .i64 (k : Int))).run Tryz.prog wx = .ok (.int .u8 d) wx := fun wx => by
       rw [aXl wx 9 ⟨#[120, 109, 108]⟩ k (by show k < 3; omega) Tryz.underlying9]
       have : aQ2 ⟨#[120, 109, 108]⟩ k = d := by
        rw [← hd]
        match k, (show k < 3 by omega) with
        | 0, _ => rfl
        | 1, _ => rfl
        | 2, _ => rfl
       rw [this]
      have hokk : okF n k ↔ (b = d ∨ b = d - 32) := by unfold okF; rw [hb, hd]
      have HOKK := aQ1 hokk
      have HB := aQ1 hb
      clear hokk hb hd
      by_cases hbig : 128 ≤ b
      · have hor := or_big hbig hb1 hd0 (by omega : d < 256)
        have hR0 : R = false := by rw [← HR.out]; exact xml_no (j := k) (by omega) (fun h => by have := HOKK.out.1 h; omega)
        go_wp2
        go_step3
        exact ⟨rfl, rfl, hR0, k, shF_of _ rfl rfl rfl rfl, by omega, by omega, by rw [HB.out]; exact hbig⟩
      · have hor := or_small hb0 (by omega : b < 128) hd0 (by omega : d < 128)
        by_cases heq : b = d
        · have hok2 : Hid (∀ j, j < k + 1 → okF n j) := aQ1 fun j hj => by
           by_cases hjk : j = k
           · subst hjk; exact HOKK.out.2 (.inl heq)
           · exact HOK.out j (by omega)
          subst heq
          go_wp2
          go_round
          case rel => exact ⟨k + 1, by omega, by go_num, hok2.out⟩
          case measure => simp [intOf]; omega
        · by_cases hup : b = d - 32
          · have hok2 : Hid (∀ j, j < k + 1 → okF n j) := aQ1 fun j hj => by
             by_cases hjk : j = k
             · subst hjk; exact HOKK.out.2 (.inr hup)
             · exact HOK.out j (by omega)
            have hw1 : IntKind.u8.wrap (b + 97) = b + 97 := by rw [IntKind.wrap_u8]; omega
            have hw2 : IntKind.u8.wrap (b + 97 - 65) = d := by rw [IntKind.wrap_u8]; omega
            have e1 : (d == b) = false := beq_eq_false_iff_ne.2 (by omega)
            have e2 : ¬ d < b := by omega
            have e3 : 65 ≤ b := by omega
            have e4 : b ≤ 90 := by omega
            clear hup heq
            go_wp2
            go_round
            case rel => exact ⟨k + 1, by omega, by go_num, hok2.out⟩
            case measure => simp [intOf]; omega
          · have hR0 : R = false := by rw [← HR.out]; exact xml_no (j := k) (by omega) (fun h => by have := HOKK.out.1 h; omega)
            subst hR0
            have e1 : (d == b) = false := beq_eq_false_iff_ne.2 (by omega)
            by_cases hsw : d < b
            · have e3 : ¬ d ≤ 90 := by omega
              go_wp2
              simp only [aY4]
              go_ret
              exact ⟨rfl, ⟨rfl, rfl, rfl, Nat.le_refl _, fun _ _ _ => rfl⟩⟩
            · by_cases h65 : 65 ≤ b ∧ b ≤ 90
              · have hw1 : IntKind.u8.wrap (b + 97) = b + 97 := by rw [IntKind.wrap_u8]; omega
                have hw2 : IntKind.u8.wrap (b + 97 - 65) = b + 32 := by rw [IntKind.wrap_u8]; omega
                have e5 : (d == b + 32) = false := beq_eq_false_iff_ne.2 (by omega)
                obtain ⟨e3, e4⟩ := h65
                go_wp2
                simp only [aY4]
                go_ret
                exact ⟨rfl, ⟨rfl, rfl, rfl, Nat.le_refl _, fun _ _ _ => rfl⟩⟩
              · by_cases e3 : 65 ≤ b
                · have e4 : ¬ b ≤ 90 := by omega
                  clear h65
                  go_wp2
                  simp only [aY4]
                  go_ret
                  exact ⟨rfl, ⟨rfl, rfl, rfl, Nat.le_refl _, fun _ _ _ => rfl⟩⟩
                · clear h65
                  go_wp2
                  simp only [aY4]
                  go_ret
                  exact ⟨rfl, ⟨rfl, rfl, rfl, Nat.le_refl _, fun _ _ _ => rfl⟩⟩
    · have hRe : R = decide (n.size = 3) := by rw [← HR.out]; exact xml_end HOK.out (by omega) (by omega) (by omega)
      have hlti : ¬ (k : Int) < (M : Int) := by omega
      subst hRe
      go_wp2
      simp only [aY4]
      go_ret
      refine ⟨?_, ⟨rfl, rfl, rfl, Nat.le_refl _, fun _ _ _ => rfl⟩⟩
      show Ending.returned (.bool ((n.size : Int) == 3)) = _
      by_cases h3 : n.size = 3
      · rw [decide_eq_true h3, h3]; rfl
      · rw [decide_eq_false h3, beq_eq_false_iff_ne.2 (show ¬ (n.size : Int) = 3 by omega)]
 · rintro l a' W ⟨rfl, hWw, hR0, k, ⟨u, rfl⟩, hk3, hkn, hbig⟩
   obtain rfl := hWw.symm
   refine ⟨_, rfl, ?_⟩
   subst hR0
   obtain ⟨X, hX⟩ : ∃ X, n.extract k n.size = X := ⟨_, rfl⟩
   have hsl : ∀ wx, (Instr.slice 9 (.string n) (some (.int .i64 (k : Int))) none none).run Tryz.prog wx = .ok (.string X) wx := fun wx => by rw [← hX]; exact aZh wx _ n k _ rfl (by omega) Tryz.underlying9
   have hXs : 0 < X.size := by rw [← hX, aWx]; omega
   have hXb : 128 ≤ aQ2 X 0 := by rw [← hX, aK8 (by omega), Nat.add_zero]; exact hbig
   obtain ⟨c, z, hd⟩ : ∃ c z, Utf8.decode X 0 = (c, z) := ⟨_, _, rfl⟩
   have hc : 128 ≤ c := by have := decode_big hXs hXb; rw [hd] at this; exact this
   obtain ⟨d, T, T', htl, hTs, hdec, htl2, hd0, hd1, g1, g2⟩ : ∃ (d : Nat) (T T' : ByteArray), (∀ wx, (Instr.slice 9 (.string ⟨#[120, 109, 108]⟩) (some (.int .i64 (k : Int))) none none).run Tryz.prog wx = .ok (.string T) wx) ∧ 0 < T.size ∧
    (∀ wx, Calls Tryz.prog 55 #[.string T] wx fun e w' => e = .returned (.tuple #[.int .i32 (d : Int), .int .i64 1]) ∧ w' = wx) ∧ (∀ wx, (Instr.slice 9 (.string T) (some (.int .i64 1)) none none).run Tryz.prog wx = .ok (.string T') wx) ∧
    40 < d ∧ d < 128 ∧ w.cell? ⟨4, d, none⟩ = some (.int .u16 ((d : Int) - 32)) ∧ w.cell? ⟨4, d - 32, none⟩ = some (.int .u16 (d : Int)) := by
    match k, hk3 with
    | 0, _ => exact ⟨120, ⟨#[120, 109, 108]⟩, ⟨#[109, 108]⟩, fun wx => aZh wx _ _ 0 _ rfl (by decide) Tryz.underlying9, by decide, dec_x, fun wx => aZh wx _ _ 1 _ rfl (by decide) Tryz.underlying9, by omega, by omega, HFO.out 120 88 (by simp [bZ0]), HFO.out 88 120 (by simp [bZ0])⟩
    | 1, _ => exact ⟨109, ⟨#[109, 108]⟩, ⟨#[108]⟩, fun wx => aZh wx _ _ 1 _ rfl (by decide) Tryz.underlying9, by decide, dec_m, fun wx => aZh wx _ _ 1 _ rfl (by decide) Tryz.underlying9, by omega, by omega, HFO.out 109 77 (by simp [bZ0]), HFO.out 77 109 (by simp [bZ0])⟩
    | 2, _ => exact ⟨108, ⟨#[108]⟩, ⟨#[]⟩, fun wx => aZh wx _ _ 2 _ rfl (by decide) Tryz.underlying9, by decide, dec_l, fun wx => aZh wx _ _ 1 _ rfl (by decide) Tryz.underlying9, by omega, by omega, HFO.out 108 76 (by simp [bZ0]), HFO.out 76 108 (by simp [bZ0])⟩
   have HG1 := aQ1 g1
   have HG2 := aQ1 g2
   clear g1 g2 HFO hX hXb hbig hk3 hkn
   go_wp2
   go_loopw [1] (fun v wr => v = .string T ∧ wr.heap[w.heap.size]? = some (.stringIter X 0) ∧ Below w.heap.size w wr ∧ w.heap.size < wr.heap.size) (fun _ _ => 0)
   case atStart =>
    obtain ⟨h1, h2, h3⟩ := bVs w X
    exact ⟨rfl, h1, h2, by omega⟩
   case round =>
    obtain ⟨rfl, hit, hb, hsz⟩ := hrel
    have hnx : ∀ ty, (Instr.next (.pointer (some ⟨w.heap.size, 0, none⟩)) true ty).run Tryz.prog wr = _ := fun ty => Lib.run_next_any_at wr w.heap.size X 0 ty hit hXs
    rw [hd] at hnx
    simp only [Nat.zero_add] at hnx
    obtain ⟨W2, hW2⟩ : ∃ W2, wr.iterAt w.heap.size X z = W2 := ⟨_, rfl⟩
    have hb2 := Lib.below_iterAt hb (k := w.heap.size) (by omega) X z
    rw [hW2] at hnx hb2
    have HB2 := aQ1 hb2
    have f1 := fun (h : _) => fold_at d ((d : Int) - 32) W2 hd1 (by omega) (by omega) h
    have f2 := fun (h : _) => fold_at (d - 32) (d : Int) W2 (by omega) (by omega) (by omega) h
    have c1 := f1 ((hb2.cell (p := ⟨4, d, none⟩) (aQf HG1.out)).trans HG1.out)
    have c2 := f2 ((hb2.cell (p := ⟨4, d - 32, none⟩) (aQf HG2.out)).trans HG2.out)
    rw [show ((d - 32 : Nat) : Int) = (d : Int) - 32 by omega] at c2
    clear hW2 hit hb hb2 f1 f2
    have e1 : ((T.size : Int) == 0) = false := beq_eq_false_iff_ne.2 (by omega)
    have e2 : ((d : Int) == (c : Int)) = false := beq_eq_false_iff_ne.2 (by omega)
    have e3 : (d : Int) < (c : Int) := by omega
    have e4 : ¬ (c : Int) < 128 := by omega
    go_wp2_with fail
    refine (hdec _).mono ?_
    rintro e w3 ⟨rfl, hww⟩
    obtain rfl := hww.symm
    go_wp2_with fail
    refine c1.mono ?_
    rintro e w3 ⟨rfl, hww⟩
    obtain rfl := hww.symm
    go_wp2
    go_loopw [13] (fun r wr => wr = W2 ∧ (r = .int .i32 ((d : Int) - 32) ∨ r = .int .i32 (d : Int))) (fun r _ => if intOf r = (d : Int) then 0 else 1)
    case atStart => exact ⟨rfl, .inl rfl⟩
    case round =>
     obtain ⟨hww, hr⟩ := hrel
     obtain rfl := hww
     rcases hr with rfl | rfl
     · have e5 : ((d : Int) - 32 != (d : Int)) = true := by simp; omega
       have e6 : (d : Int) - 32 < (c : Int) := by omega
       go_wp2_with fail
       refine c2.mono ?_
       rintro e w4 ⟨rfl, hww⟩
       obtain rfl := hww.symm
       go_wp2
       go_roundw
       case rel => exact ⟨by first | rfl | trivial, .inr rfl⟩
       case measure => rw [if_pos (show intOf (.int .i32 (d : Int)) = (d : Int) from rfl), if_neg (show ¬ intOf (.int .i32 ((d : Int) - 32)) = (d : Int) by show ¬ (d : Int) - 32 = (d : Int); omega)]; omega
     · have e5 : ((d : Int) != (d : Int)) = false := by simp
       go_wp2
       simp only [aY4]
       go_ret
       exact ⟨rfl, bJf (r := none) ⟨HB2.out.os, HB2.out.tape, HB2.out.output, HB2.out.size, fun k hk _ => HB2.out.block k hk⟩⟩
open Go.RowKit Plain9 Plain10 Plain11
theorem imPi_any [Inhabited Hold] {w : World} {g : Nat} {s : ByteArray} {p : Nat} {m : Int} (h : aQi w g s p) (he : Env w m) (hF : Far g) (hv : VB s p) (hs : s.size ≤ 1048576) (hp : p ≤ s.size) :
 Calls Tryz.prog 64 #[.pointer (some ⟨g, 0, none⟩)] w fun e w' => aKw w g s (piZ s p) e w' := by
 have F0 := aQ1 (Ir.start h he hF)
 have hc := aV9 F0.out.sc F0.out.env.tabs hv hs hp
 obtain ⟨Z, hZ⟩ : ∃ Z, piZ s p = Z := ⟨_, rfl⟩
 rw [hZ]
 have HZ := aQ1 hZ
 clear h he hF hZ
 go_enter Tryz.func64, Tryz.ntmps64
 go_wp2_with fail
 refine hc.mono ?_
 rintro e w1 ⟨t, q, rfl, hb1, hq, hT, hg1⟩
 have F1 := aQ1 (F0.out.step hb1 hg1)
 clear hc F0 hb1 hg1
 by_cases hf : nmF s p = 0
 · obtain ⟨ht, hq'⟩ := hT hf
   have hns := aJg hf
   have hts : t.size ≤ 1048576 := by rw [ht]; unfold nmT; rw [aX7 (by omega)]; omega
   have hfo := fold_any t w1 hts F1.out.env.fo
   have hZ0 : Z = if xmlB t = true then aQy 2 else if q < whiteZ s q then (if upF s (whiteZ s q) [63, 62] = 0 then ⟨0, 7, t, upT s (whiteZ s q) [63, 62], [], upP s (whiteZ s q) [63, 62]⟩ else aQy (upF s (whiteZ s q) [63, 62]))
    else if aQm s (whiteZ s q) [63, 62] = 0 then ⟨0, 7, t, ByteArray.empty, [], whiteZ s q + 2⟩ else aQy (aQm s (whiteZ s q) [63, 62]) := by
    rw [← HZ.out]; unfold piZ; rw [if_neg (by omega)]; rw [ht, hq']
   have HZ0 := aQ1 hZ0
   simp only [hf, aXq]
   clear hT ht hq' hf hns hZ0 HZ hts
   cases hxm : xmlB t with
   | true =>
    rw [hxm] at hfo
    have hZ1 := HZ0.out
    rw [hxm, if_pos rfl] at hZ1
    have HZ1 := aQ1 hZ1
    clear hZ1 HZ0 hxm
    go_wp2_with fail
    refine hfo.mono ?_
    rintro e w2 ⟨rfl, hg2⟩
    have F2 := aQ1 (F1.out.step (aJd F1.out.sc hg2) (bJf hg2))
    clear hfo F1 hg2
    obtain ⟨r0, r1, r2, r3, s0, s1, s2, s3⟩ := aQ6 F2.out.res
    go_wp2
    refine bodyPost_ret (v := .tuple #[.agg #[.int .i64 0, .string ⟨#[]⟩, .string ⟨#[]⟩, .slice none 0 0], errV 2]) (by simp [results, Tryz.results64, go_sem, r0, r1, r2, r3, aZp]) rfl ?_
    rw [HZ1.out]
    exact F2.out.fails (by omega) hq 0 ByteArray.empty ByteArray.empty (.slice none 0 0)
   | false =>
    rw [hxm] at hfo
    have hZ1 := HZ0.out
    rw [hxm, if_neg (by simp)] at hZ1
    clear HZ0 hxm
    go_wp2_with fail
    refine hfo.mono ?_
    rintro e w2 ⟨rfl, hg2⟩
    have F2 := aQ1 (F1.out.step (aJd F1.out.sc hg2) (bJf hg2))
    have hwh := aXi F2.out.sc hs hq
    have hr := aQq (s := s) hq
    obtain ⟨r, hrd⟩ : ∃ r, whiteZ s q = r := ⟨_, rfl⟩
    rw [hrd] at hwh hr hZ1
    clear hfo F1 hg2 hrd
    by_cases hw : q < r
    · rw [decide_eq_true hw] at hwh
      rw [if_pos hw] at hZ1
      have HZ1 := aQ1 hZ1
      clear hZ1
      go_wp2_with fail
      refine hwh.mono ?_
      rintro e w3 ⟨rfl, hb3, hg3⟩
      have F3 := aQ1 (F2.out.step hb3 hg3)
      have hu := aKr (sg := ⟨#[63, 62]⟩) F3.out.sc F3.out.env.mx hs hr
      clear hwh F2 hb3 hg3
      go_wp2_with fail
      refine hu.mono ?_
      rintro e w4 ⟨x, q4, rfl, hb4, hq4, hT4, hg4⟩
      have F4 := aQ1 (F3.out.step hb4 hg4)
      clear hu F3 hb4 hg4
      obtain ⟨r0, r1, r2, r3, s0, s1, s2, s3⟩ := aQ6 F4.out.res
      go_wp2
      refine bodyPost_ret (v := .tuple #[.agg #[.int .i64 7, .string t, .string x, .slice none 0 0], errV (upF s r [63, 62])]) (by simp [results, Tryz.results64, go_sem, r0, r1, r2, r3]) rfl ?_
      rw [HZ1.out]
      by_cases hf4 : upF s r [63, 62] = 0
      · obtain ⟨hx, hq4'⟩ := hT4 hf4
        rw [if_pos hf4, hf4]
        have hx' : x = upT s r [63, 62] := hx
        have hq5 : q4 = upP s r [63, 62] := hq4'
        rw [← hx', ← hq5]
        exact F4.out.tells hq4 7 t x
      · rw [if_neg hf4]
        exact F4.out.fails hf4 hq4 7 t x (.slice none 0 0)
    · rw [decide_eq_false hw] at hwh
      rw [if_neg hw] at hZ1
      have HZ1 := aQ1 hZ1
      clear hZ1
      go_wp2_with fail
      refine hwh.mono ?_
      rintro e w3 ⟨rfl, hb3, hg3⟩
      have F3 := aQ1 (F2.out.step hb3 hg3)
      have hm := aZ8 (sg := ⟨#[63, 62]⟩) F3.out.sc hs hr
      clear hwh F2 hb3 hg3
      go_wp2_with fail
      refine hm.mono ?_
      rintro e w4 ⟨rfl, hb4, hg4⟩
      have F4 := aQ1 (F3.out.step hb4 hg4)
      clear hm F3 hb4 hg4
      obtain ⟨r0, r1, r2, r3, s0, s1, s2, s3⟩ := aQ6 F4.out.res
      go_wp2
      refine bodyPost_ret (v := .tuple #[.agg #[.int .i64 7, .string t, .string ⟨#[]⟩, .slice none 0 0], errV (aQm s r [63, 62])]) (by simp [results, Tryz.results64, go_sem, r0, r1, r2, r3]) rfl ?_
      rw [HZ1.out]
      exact Ir.must (T := ⟨0, 7, t, ByteArray.empty, [], r + 2⟩) F4.out hr (fun h0 => by have := aQ9 (aX8.1 h0) hr; simpa using this) ⟨rfl, rfl⟩
 · have hZ1 : Z = aQy (nmF s p) := by rw [← HZ.out]; unfold piZ; rw [if_pos hf]
   obtain ⟨r0, r1, r2, r3, s0, s1, s2, s3⟩ := aQ6 F1.out.res
   rcases aWl s p with h0 | h0 | h0
   · exact absurd h0 hf
   all_goals
    rw [h0] at hZ1
    have HZ1 := aQ1 hZ1
    simp only [h0, aZ1, aZp]
    clear hT hZ1 hf HZ h0
    go_wp2
    refine bodyPost_ret (v := .tuple #[.agg #[.int .i64 0, .string ⟨#[]⟩, .string ⟨#[]⟩, .slice none 0 0], _]) (by simp [results, Tryz.results64, go_sem, r0, r1, r2, r3]; rfl) rfl ?_
    rw [HZ1.out]
    exact F1.out.fails (by omega) hq 0 ByteArray.empty ByteArray.empty (.slice none 0 0)
open Go.RowKit Plain9 Plain10 Plain11
theorem strs_new3 (W : World) (t t' t'' : ByteArray) : StrsAt (W.alloc (.cells #[.string t, .string t', .string t''] 9)) (some ⟨W.heap.size, 0, none⟩) [t, t', t''] := by
 refine ⟨W.heap.size, fun _ => rfl, fun i hi => ?_⟩
 unfold World.cell?
 rw [heap_alloc_new]
 match i, hi with
 | 0, _ => rfl
 | 1, _ => rfl
 | 2, _ => rfl
theorem lack_three (s : ByteArray) (p : Nat) : aKy s p [⟨#[60, 33, 45, 45]⟩, ⟨#[60, 33, 91, 67, 68, 65, 84, 65, 91]⟩, ⟨#[60, 33, 68, 79, 67, 84, 89, 80, 69]⟩] =
 if (rest s p).isPrefixOf [60, 33, 45, 45] = true ∨ (rest s p).isPrefixOf [60, 33, 91, 67, 68, 65, 84, 65, 91] = true ∨ (rest s p).isPrefixOf [60, 33, 68, 79, 67, 84, 89, 80, 69] = true then 1 else 2 := by
 unfold aKy
 cases h1 : (rest s p).isPrefixOf [60, 33, 45, 45] <;> cases h2 : (rest s p).isPrefixOf [60, 33, 91, 67, 68, 65, 84, 65, 91] <;> cases h3 : (rest s p).isPrefixOf [60, 33, 68, 79, 67, 84, 89, 80, 69] <;> simp [h1, h2, h3]
theorem Ir.pass [Inhabited Hold] {w W w' : World} {g : Nat} {s : ByteArray} {p : Nat} {m : Int} (h : Ir w W g s p m) {kd : Int} {nm tx : ByteArray} {ao : Option Addr} {an ac : Nat} {q : Nat} {T : Tk} (hb : aQi w' g s q) (hq : q ≤ s.size)
 (hT : T.fl = 0 → kd = T.kind ∧ nm = T.name ∧ tx = T.text ∧ q = T.pos ∧ w'.ownsRow W.heap.size 148 2 (.slice ao an ac) T.attrs.length (aQ8 T.attrs)) (hg : W.grownBy w' (some g)) :
 aKw w g s T (.returned (.tuple #[.agg #[.int .i64 kd, .string nm, .string tx, .slice ao an ac], errV T.fl])) ((((w'.setCell ⟨w.heap.size, 0, none⟩ (.int .i64 kd)).setCell ⟨w.heap.size, 1, none⟩ (.string nm)).setCell ⟨w.heap.size, 2, none⟩ (.string tx)).setCell ⟨w.heap.size, 3, none⟩ (.slice ao an ac)) := by
 have h' := h.step hb hg
 have hF := bW0 h'.sc h'.grown h'.lt (.int .i64 kd) (.string nm) (.string tx) (.slice ao an ac)
 have ha := bX4 h.res
 refine ⟨kd, nm, tx, ao, an, ac, q, rfl, hF.1, hq, fun h0 => ?_, hF.2⟩
 obtain ⟨e1, e2, e3, e4, hr0⟩ := hT h0
 have hs : ∀ {W0 : World} (j : Nat) (u : Value), W0.ownsRow W.heap.size 148 2 (.slice ao an ac) T.attrs.length (aQ8 T.attrs) → (W0.setCell ⟨w.heap.size, j, none⟩ u).ownsRow W.heap.size 148 2 (.slice ao an ac) T.attrs.length (aQ8 T.attrs) :=
  fun j u h0 => h0.kept (gset5 (g := w.heap.size) (j := j) u) (.inr fun e => by have := h0.lt _ e; omega)
 have hr := hs 3 (.slice ao an ac) (hs 2 (.string tx) (hs 1 (.string nm) (hs 0 (.int .i64 kd) hr0)))
 refine ⟨e1, e2, e3, e4, ?_⟩
 rcases hr with ⟨h1, h2⟩
 refine ⟨h1, ?_⟩
 rcases h2 with h2 | ⟨b, cap, cur, h3, h4, h5⟩
 · exact .inl h2
 · exact .inr ⟨b, cap, cur, h3, by omega, h5⟩
theorem bJb [Inhabited Hold] {w : World} {g : Nat} {s : ByteArray} {p : Nat} {m : Int} (closed : Bool) (h : aQi w g s p) (he : Env w m) (hF : Far g) (hv0 : VB s 0) (hs : s.size ≤ 1048576) (hp : p ≤ s.size) :
 Calls Tryz.prog 32 #[.pointer (some ⟨g, 0, none⟩), .bool closed] w fun e w' => aKw w g s (if aQ5 s p [60] = true then aJa s p else aWe s p closed) e w' := by
 have F0 := aQ1 (Ir.start h he hF)
 obtain ⟨W0, hW0⟩ : ∃ W0, w.alloc zTok = W0 := ⟨_, rfl⟩
 rw [hW0] at F0
 have HW0 : Hid (w.alloc (.cells #[.int .i64 0, .string ⟨#[]⟩, .string ⟨#[]⟩, .slice none 0 0] 73) = W0) := aQ1 hW0
 clear hW0 h he hF
 by_cases h60 : aQ5 s p [60] = true
 · rw [if_pos h60]
   obtain ⟨Z, hZ⟩ : ∃ Z, aJa s p = Z := ⟨_, rfl⟩
   rw [hZ]
   have HZ := aQ1 hZ
   clear hZ
   have ha := aJc (sg := ⟨#[60]⟩) F0.out.sc hp W0 rfl
   rw [show aQ5 s p (⟨#[60]⟩ : ByteArray).data.toList = true from h60] at ha
   go_enter Tryz.func32, Tryz.ntmps32
   go_wp2_with fail
   rw [HW0.out]
   refine ha.mono ?_
   rintro e T0_w ⟨rfl, n, hww⟩
   have T0 : Hid (Ir w T0_w g s p m) := aQ1 (F0.out.step (W' := T0_w) (by rw [hww]; exact F0.out.sc) (by rw [hww]; exact aQb _ n _))
   clear ha hww F0
   by_cases h0 : aQ5 s p [60, 33, 45, 45] = true
   · have hr : p + 4 ≤ s.size := by have := aQ9 h0 hp; simpa using this
     have ht := aQc (sg := ⟨#[60, 33, 45, 45]⟩) T0.out.sc hs hp
     rw [show aQ5 s p (⟨#[60, 33, 45, 45]⟩ : ByteArray).data.toList = true from h0, if_pos rfl] at ht
     go_wp2_with fail
     refine ht.mono ?_
     rintro e TA_w ⟨rfl, hbt, hgt⟩
     have TA : Hid (Ir w TA_w g s (p + 4) m) := aQ1 (T0.out.step hbt hgt)
     clear ht hbt hgt T0
     have hZ1 : aXa s (p + 4) = Z := by rw [← HZ.out]; unfold aJa; rw [if_pos h0]
     have hc := bQr TA.out.sc TA.out.env TA.out.far hs hr
     rw [hZ1] at hc
     clear HZ hZ1
     go_wp2_with fail
     refine hc.mono ?_
     rintro e w9 ⟨kd, nm, tx, ao, an, ac, q9, rfl, hb9, hq9, hT9, hg9⟩
     have F9 := aQ1 (TA.out.step hb9 hg9)
     obtain ⟨r0, r1, r2, r3, s0, s1, s2, s3⟩ := aQ6 F9.out.res
     have HP := aQ1 (TA.out.pass hb9 hq9 hT9 hg9)
     clear hc TA F9 hb9 hT9 hg9
     go_wp2
     refine bodyPost_ret (v := .tuple #[.agg #[.int .i64 kd, .string nm, .string tx, .slice ao an ac], errV Z.fl]) (by simp [results, Tryz.results32, go_sem, r0, r1, r2, r3]) rfl ?_
     exact HP.out
   have h0' : aQ5 s p [60, 33, 45, 45] = false := eq_false_of_ne_true h0
   have ht := aQc (sg := ⟨#[60, 33, 45, 45]⟩) T0.out.sc hs hp
   rw [show aQ5 s p (⟨#[60, 33, 45, 45]⟩ : ByteArray).data.toList = false from h0', if_neg (by simp)] at ht
   go_wp2_with fail
   refine ht.mono ?_
   rintro e T1_w ⟨rfl, hbt, hgt⟩
   have T1 := aQ1 (T0.out.step hbt hgt)
   clear ht hbt hgt T0
   by_cases h1 : aQ5 s p [60, 33, 91, 67, 68, 65, 84, 65, 91] = true
   · have hr : p + 9 ≤ s.size := by have := aQ9 h1 hp; simpa using this
     have ht := aQc (sg := ⟨#[60, 33, 91, 67, 68, 65, 84, 65, 91]⟩) T1.out.sc hs hp
     rw [show aQ5 s p (⟨#[60, 33, 91, 67, 68, 65, 84, 65, 91]⟩ : ByteArray).data.toList = true from h1, if_pos rfl] at ht
     go_wp2_with fail
     refine ht.mono ?_
     rintro e TA_w ⟨rfl, hbt, hgt⟩
     have TA : Hid (Ir w TA_w g s (p + 9) m) := aQ1 (T1.out.step hbt hgt)
     clear ht hbt hgt T1
     have hZ1 : bQy s (p + 9) = Z := by rw [← HZ.out]; unfold aJa; rw [if_neg (by rw [h0']; simp), if_pos h1]
     have HZ1 := aQ1 hZ1
     clear hZ1
     have hu := aKr (sg := ⟨#[93, 93, 62]⟩) TA.out.sc TA.out.env.mx hs hr
     go_wp2_with fail
     refine hu.mono ?_
     rintro e w4 ⟨x, q4, rfl, hb4, hq4, hT4, hg4⟩
     have F4 := aQ1 (TA.out.step hb4 hg4)
     clear hu TA hb4 hg4
     obtain ⟨r0, r1, r2, r3, s0, s1, s2, s3⟩ := aQ6 F4.out.res
     go_wp2
     refine bodyPost_ret (v := .tuple #[.agg #[.int .i64 5, .string ⟨#[]⟩, .string x, .slice none 0 0], errV (upF s (p + 9) [93, 93, 62])]) (by simp [results, Tryz.results32, go_sem, r0, r1, r2, r3]) rfl ?_
     rw [← HZ1.out]
     unfold bQy
     by_cases hf4 : upF s (p + 9) [93, 93, 62] = 0
     · obtain ⟨hx, hq4'⟩ := hT4 hf4
       rw [if_pos hf4, hf4]
       have hx' : x = upT s (p + 9) [93, 93, 62] := hx
       have hq5 : q4 = upP s (p + 9) [93, 93, 62] := hq4'
       rw [← hx', ← hq5]
       exact F4.out.tells hq4 5 ByteArray.empty x
     · rw [if_neg hf4]
       exact F4.out.fails hf4 hq4 5 ByteArray.empty x (.slice none 0 0)
   have h1' : aQ5 s p [60, 33, 91, 67, 68, 65, 84, 65, 91] = false := eq_false_of_ne_true h1
   have ht := aQc (sg := ⟨#[60, 33, 91, 67, 68, 65, 84, 65, 91]⟩) T1.out.sc hs hp
   rw [show aQ5 s p (⟨#[60, 33, 91, 67, 68, 65, 84, 65, 91]⟩ : ByteArray).data.toList = false from h1', if_neg (by simp)] at ht
   go_wp2_with fail
   refine ht.mono ?_
   rintro e T2_w ⟨rfl, hbt, hgt⟩
   have T2 := aQ1 (T1.out.step hbt hgt)
   clear ht hbt hgt T1
   by_cases h2 : aQ5 s p [60, 33, 68, 79, 67, 84, 89, 80, 69] = true
   · have hr : p + 9 ≤ s.size := by have := aQ9 h2 hp; simpa using this
     have ht := aQc (sg := ⟨#[60, 33, 68, 79, 67, 84, 89, 80, 69]⟩) T2.out.sc hs hp
     rw [show aQ5 s p (⟨#[60, 33, 68, 79, 67, 84, 89, 80, 69]⟩ : ByteArray).data.toList = true from h2, if_pos rfl] at ht
     go_wp2_with fail
     refine ht.mono ?_
     rintro e TA_w ⟨rfl, hbt, hgt⟩
     have TA : Hid (Ir w TA_w g s (p + 9) m) := aQ1 (T2.out.step hbt hgt)
     clear ht hbt hgt T2
     have hZ1 : aJm s (p + 9) = Z := by rw [← HZ.out]; unfold aJa; rw [if_neg (by rw [h0']; simp), if_neg (by rw [h1']; simp), if_pos h2]
     have hvr : VB s (p + 9) := by have := aXh hv0 h2 hp (by simp) (by decide); simpa using this
     have hc := bW1 TA.out.sc TA.out.env TA.out.far hv0 hvr hs hr
     rw [hZ1] at hc
     clear HZ hZ1
     go_wp2_with fail
     refine hc.mono ?_
     rintro e w9 ⟨kd, nm, tx, ao, an, ac, q9, rfl, hb9, hq9, hT9, hg9⟩
     have F9 := aQ1 (TA.out.step hb9 hg9)
     obtain ⟨r0, r1, r2, r3, s0, s1, s2, s3⟩ := aQ6 F9.out.res
     have HP := aQ1 (TA.out.pass hb9 hq9 hT9 hg9)
     clear hc TA F9 hb9 hT9 hg9
     go_wp2
     refine bodyPost_ret (v := .tuple #[.agg #[.int .i64 kd, .string nm, .string tx, .slice ao an ac], errV Z.fl]) (by simp [results, Tryz.results32, go_sem, r0, r1, r2, r3]) rfl ?_
     exact HP.out
   have h2' : aQ5 s p [60, 33, 68, 79, 67, 84, 89, 80, 69] = false := eq_false_of_ne_true h2
   have ht := aQc (sg := ⟨#[60, 33, 68, 79, 67, 84, 89, 80, 69]⟩) T2.out.sc hs hp
   rw [show aQ5 s p (⟨#[60, 33, 68, 79, 67, 84, 89, 80, 69]⟩ : ByteArray).data.toList = false from h2', if_neg (by simp)] at ht
   go_wp2_with fail
   refine ht.mono ?_
   rintro e T3_w ⟨rfl, hbt, hgt⟩
   have T3 := aQ1 (T2.out.step hbt hgt)
   clear ht hbt hgt T2
   by_cases h3 : aQ5 s p [60, 63] = true
   · have hr : p + 2 ≤ s.size := by have := aQ9 h3 hp; simpa using this
     have ht := aQc (sg := ⟨#[60, 63]⟩) T3.out.sc hs hp
     rw [show aQ5 s p (⟨#[60, 63]⟩ : ByteArray).data.toList = true from h3, if_pos rfl] at ht
     go_wp2_with fail
     refine ht.mono ?_
     rintro e TA_w ⟨rfl, hbt, hgt⟩
     have TA : Hid (Ir w TA_w g s (p + 2) m) := aQ1 (T3.out.step hbt hgt)
     clear ht hbt hgt T3
     have hZ1 : piZ s (p + 2) = Z := by rw [← HZ.out]; unfold aJa; rw [if_neg (by rw [h0']; simp), if_neg (by rw [h1']; simp), if_neg (by rw [h2']; simp), if_pos h3]
     have hvr : VB s (p + 2) := by have := aXh hv0 h3 hp (by simp) (by decide); simpa using this
     have hc := imPi_any TA.out.sc TA.out.env TA.out.far hvr hs hr
     rw [hZ1] at hc
     clear HZ hZ1
     go_wp2_with fail
     refine hc.mono ?_
     rintro e w9 ⟨kd, nm, tx, ao, an, ac, q9, rfl, hb9, hq9, hT9, hg9⟩
     have F9 := aQ1 (TA.out.step hb9 hg9)
     obtain ⟨r0, r1, r2, r3, s0, s1, s2, s3⟩ := aQ6 F9.out.res
     have HP := aQ1 (TA.out.pass hb9 hq9 hT9 hg9)
     clear hc TA F9 hb9 hT9 hg9
     go_wp2
     refine bodyPost_ret (v := .tuple #[.agg #[.int .i64 kd, .string nm, .string tx, .slice ao an ac], errV Z.fl]) (by simp [results, Tryz.results32, go_sem, r0, r1, r2, r3]) rfl ?_
     exact HP.out
   have h3' : aQ5 s p [60, 63] = false := eq_false_of_ne_true h3
   have ht := aQc (sg := ⟨#[60, 63]⟩) T3.out.sc hs hp
   rw [show aQ5 s p (⟨#[60, 63]⟩ : ByteArray).data.toList = false from h3', if_neg (by simp)] at ht
   go_wp2_with fail
   refine ht.mono ?_
   rintro e T4_w ⟨rfl, hbt, hgt⟩
   have T4 := aQ1 (T3.out.step hbt hgt)
   clear ht hbt hgt T3
   by_cases h4 : aQ5 s p [60, 47] = true
   · have hr : p + 2 ≤ s.size := by have := aQ9 h4 hp; simpa using this
     have ht := aQc (sg := ⟨#[60, 47]⟩) T4.out.sc hs hp
     rw [show aQ5 s p (⟨#[60, 47]⟩ : ByteArray).data.toList = true from h4, if_pos rfl] at ht
     go_wp2_with fail
     refine ht.mono ?_
     rintro e TA_w ⟨rfl, hbt, hgt⟩
     have TA : Hid (Ir w TA_w g s (p + 2) m) := aQ1 (T4.out.step hbt hgt)
     clear ht hbt hgt T4
     have hZ1 : endZ s (p + 2) = Z := by rw [← HZ.out]; unfold aJa; rw [if_neg (by rw [h0']; simp), if_neg (by rw [h1']; simp), if_neg (by rw [h2']; simp), if_neg (by rw [h3']; simp), if_pos h4]
     have hvr : VB s (p + 2) := by have := aXh hv0 h4 hp (by simp) (by decide); simpa using this
     have hc := imEnd_any TA.out.sc TA.out.env TA.out.far hvr hs hr
     rw [hZ1] at hc
     clear HZ hZ1
     go_wp2_with fail
     refine hc.mono ?_
     rintro e w9 ⟨kd, nm, tx, ao, an, ac, q9, rfl, hb9, hq9, hT9, hg9⟩
     have F9 := aQ1 (TA.out.step hb9 hg9)
     obtain ⟨r0, r1, r2, r3, s0, s1, s2, s3⟩ := aQ6 F9.out.res
     have HP := aQ1 (TA.out.pass hb9 hq9 hT9 hg9)
     clear hc TA F9 hb9 hT9 hg9
     go_wp2
     refine bodyPost_ret (v := .tuple #[.agg #[.int .i64 kd, .string nm, .string tx, .slice ao an ac], errV Z.fl]) (by simp [results, Tryz.results32, go_sem, r0, r1, r2, r3]) rfl ?_
     exact HP.out
   have h4' : aQ5 s p [60, 47] = false := eq_false_of_ne_true h4
   have ht := aQc (sg := ⟨#[60, 47]⟩) T4.out.sc hs hp
   rw [show aQ5 s p (⟨#[60, 47]⟩ : ByteArray).data.toList = false from h4', if_neg (by simp)] at ht
   go_wp2_with fail
   refine ht.mono ?_
   rintro e T5_w ⟨rfl, hbt, hgt⟩
   have T5 := aQ1 (T4.out.step hbt hgt)
   clear ht hbt hgt T4
   have ha := aJc (sg := ⟨#[60, 33]⟩) T5.out.sc hp T5_w rfl
   by_cases h6 : aQ5 s p [60, 33] = true
   · rw [show aQ5 s p (⟨#[60, 33]⟩ : ByteArray).data.toList = true from h6] at ha
     have hZ1 : aQy (aKy s p [⟨#[60, 33, 45, 45]⟩, ⟨#[60, 33, 91, 67, 68, 65, 84, 65, 91]⟩, ⟨#[60, 33, 68, 79, 67, 84, 89, 80, 69]⟩]) = Z := by
      have hM : aJa s p = aQy (if (rest s p).isPrefixOf [60, 33, 45, 45] = true ∨ (rest s p).isPrefixOf [60, 33, 91, 67, 68, 65, 84, 65, 91] = true ∨ (rest s p).isPrefixOf [60, 33, 68, 79, 67, 84, 89, 80, 69] = true then 1 else 2) := by
       unfold aJa; rw [if_neg (by rw [h0']; simp), if_neg (by rw [h1']; simp), if_neg (by rw [h2']; simp), if_neg (by rw [h3']; simp), if_neg (by rw [h4']; simp), if_pos h6]
      rw [← HZ.out, hM, lack_three]
     have hne0 : aKy s p [⟨#[60, 33, 45, 45]⟩, ⟨#[60, 33, 91, 67, 68, 65, 84, 65, 91]⟩, ⟨#[60, 33, 68, 79, 67, 84, 89, 80, 69]⟩] ≠ 0 := by unfold aKy; split <;> simp
     have HZ1 := aQ1 hZ1
     clear hZ1
     go_wp2_with fail
     refine ha.mono ?_
     rintro e w7 ⟨rfl, n, hww⟩
     have F7 := aQ1 (T5.out.step (W' := w7) (by rw [hww]; exact T5.out.sc) (by rw [hww]; exact aQb _ n _))
     have F8 := aQ1 (F7.out.step (aZu F7.out.sc (.cells #[.string ⟨#[60, 33, 45, 45]⟩, .string ⟨#[60, 33, 91, 67, 68, 65, 84, 65, 91]⟩, .string ⟨#[60, 33, 68, 79, 67, 84, 89, 80, 69]⟩] 9)) (aZg _ _ _))
     have hlk := aY3 F8.out.sc hp [⟨#[60, 33, 45, 45]⟩, ⟨#[60, 33, 91, 67, 68, 65, 84, 65, 91]⟩, ⟨#[60, 33, 68, 79, 67, 84, 89, 80, 69]⟩] _ 3 3 rfl (by simp) (strs_new3 w7 _ _ _)
     clear ha hww T5 F7
     go_wp2_with fail
     refine hlk.mono ?_
     rintro e w8 ⟨rfl, n, hww⟩
     have F9 := aQ1 (F8.out.step (W' := w8) (by rw [hww]; exact F8.out.sc) (by rw [hww]; exact aQb _ n _))
     clear hlk hww F8
     obtain ⟨r0, r1, r2, r3, s0, s1, s2, s3⟩ := aQ6 F9.out.res
     go_wp2
     refine bodyPost_ret (v := .tuple #[.agg #[.int .i64 0, .string ⟨#[]⟩, .string ⟨#[]⟩, .slice none 0 0], errV (aKy s p [⟨#[60, 33, 45, 45]⟩, ⟨#[60, 33, 91, 67, 68, 65, 84, 65, 91]⟩, ⟨#[60, 33, 68, 79, 67, 84, 89, 80, 69]⟩])]) (by simp [results, Tryz.results32, go_sem, r0, r1, r2, r3]) rfl ?_
     rw [← HZ1.out]
     exact F9.out.fails hne0 hp 0 ByteArray.empty ByteArray.empty (.slice none 0 0)
   have h6' : aQ5 s p [60, 33] = false := eq_false_of_ne_true h6
   rw [show aQ5 s p (⟨#[60, 33]⟩ : ByteArray).data.toList = false from h6'] at ha
   have hZ1 : tagZ s (p + 1) = Z := by rw [← HZ.out]; unfold aJa; rw [if_neg (by rw [h0']; simp), if_neg (by rw [h1']; simp), if_neg (by rw [h2']; simp), if_neg (by rw [h3']; simp), if_neg (by rw [h4']; simp), if_neg h6]
   have hr : p + 1 ≤ s.size := by have := aQ9 h60 hp; simpa using this
   have hvr : VB s (p + 1) := by have := aXh hv0 h60 hp (by simp) (by decide); simpa using this
   go_wp2_with fail
   refine ha.mono ?_
   rintro e w7 ⟨rfl, n, hww⟩
   have T6 := aQ1 (T5.out.step (W' := w7) (by rw [hww]; exact T5.out.sc) (by rw [hww]; exact aQb _ n _))
   clear ha hww T5
   have ht := aQc (sg := ⟨#[60]⟩) T6.out.sc hs hp
   rw [show aQ5 s p (⟨#[60]⟩ : ByteArray).data.toList = true from h60, if_pos rfl] at ht
   go_wp2_with fail
   refine ht.mono ?_
   rintro e TA_w ⟨rfl, hbt, hgt⟩
   have TA : Hid (Ir w TA_w g s (p + 1) m) := aQ1 (T6.out.step hbt hgt)
   clear ht hbt hgt T6
   have hc := imStart_any TA.out.sc TA.out.env TA.out.far hv0 hvr hs hr
   rw [hZ1] at hc
   clear HZ hZ1
   go_wp2_with fail
   refine hc.mono ?_
   rintro e w9 ⟨kd, nm, tx, ao, an, ac, q9, rfl, hb9, hq9, hT9, hg9⟩
   have F9 := aQ1 (TA.out.step hb9 hg9)
   obtain ⟨r0, r1, r2, r3, s0, s1, s2, s3⟩ := aQ6 F9.out.res
   have HP := aQ1 (TA.out.pass hb9 hq9 hT9 hg9)
   clear hc TA F9 hb9 hT9 hg9
   go_wp2
   refine bodyPost_ret (v := .tuple #[.agg #[.int .i64 kd, .string nm, .string tx, .slice ao an ac], errV Z.fl]) (by simp [results, Tryz.results32, go_sem, r0, r1, r2, r3]) rfl ?_
   exact HP.out
 · rw [if_neg h60]
   have h60' : aQ5 s p [60] = false := eq_false_of_ne_true h60
   have ha := aJc (sg := ⟨#[60]⟩) F0.out.sc hp W0 rfl
   rw [show aQ5 s p (⟨#[60]⟩ : ByteArray).data.toList = false from h60'] at ha
   obtain ⟨Z, hZ⟩ : ∃ Z, aWe s p closed = Z := ⟨_, rfl⟩
   rw [hZ]
   go_enter Tryz.func32, Tryz.ntmps32
   go_wp2_with fail
   rw [HW0.out]
   refine ha.mono ?_
   rintro e T0_w ⟨rfl, n, hww⟩
   have T0 : Hid (Ir w T0_w g s p m) := aQ1 (F0.out.step (W' := T0_w) (by rw [hww]; exact F0.out.sc) (by rw [hww]; exact aQb _ n _))
   have hc := imPlain_any closed T0.out.sc T0.out.env T0.out.far hs hp
   rw [hZ] at hc
   clear ha hww F0 hZ
   go_wp2_with fail
   refine hc.mono ?_
   rintro e w9 ⟨kd, nm, tx, ao, an, ac, q9, rfl, hb9, hq9, hT9, hg9⟩
   have F9 := aQ1 (T0.out.step hb9 hg9)
   obtain ⟨r0, r1, r2, r3, s0, s1, s2, s3⟩ := aQ6 F9.out.res
   have HP := aQ1 (T0.out.pass hb9 hq9 hT9 hg9)
   clear hc T0 F9 hb9 hT9 hg9
   go_wp2
   refine bodyPost_ret (v := .tuple #[.agg #[.int .i64 kd, .string nm, .string tx, .slice ao an ac], errV Z.fl]) (by simp [results, Tryz.results32, go_sem, r0, r1, r2, r3]) rfl ?_
   exact HP.out
end Go.Proofs.YtdblemolaojebaaGreatDoor
