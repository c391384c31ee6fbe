/- The library's EqualFold at a name and 'xml', walked. -/
import Derived.Test.YtefahocflhlgiaaGreatDoorImF
namespace Go.Proofs.YtefahocflhlgiaaGreatDoor
open Go.RowKit Plain1 Plain2 Strs Strs2 Lists Plain3 Plain5 Plain6 Plain9 Plain10 Plain11 Plain12 Plain13 Plain14

theorem byte_rng (s : ByteArray) (p : Nat) : 0 ≤ byteAt s p ∧ byteAt s p < 256 := by
  rw [byteAt_head]
  have := (s.data.toList.getD p 0).toNat_lt
  omega
theorem or_big {b d : Int} (h0 : 128 ≤ b) (h1 : b < 256) (d0 : 0 ≤ d) (d1 : d < 256) : 128 ≤ bits .or .u8 b d := by
  obtain ⟨x, rfl⟩ : ∃ x : Nat, b = x := ⟨b.toNat, by omega⟩
  obtain ⟨y, rfl⟩ : ∃ y : Nat, d = y := ⟨d.toNat, by omega⟩
  rw [u8_or_nat x y (by omega) (by omega)]
  have : x ≤ x ||| y := Nat.left_le_or
  omega
theorem or_small {b d : Int} (h0 : 0 ≤ b) (h1 : b < 128) (d0 : 0 ≤ d) (d1 : d < 128) : ¬ 128 ≤ bits .or .u8 b d := by
  obtain ⟨x, rfl⟩ : ∃ x : Nat, b = x := ⟨b.toNat, by omega⟩
  obtain ⟨y, rfl⟩ : ∃ y : Nat, d = y := ⟨d.toNat, by omega⟩
  rw [u8_or_nat x y (by omega) (by omega)]
  have := Nat.or_lt_two_pow (n := 7) (x := x) (y := y) (by omega) (by omega)
  omega

set_option maxRecDepth 100000 in
set_option maxHeartbeats 4000000 in
theorem fold_any (n : ByteArray) (w : World) (hn : n.size ≤ 1048576) (hfo : ∀ i z, (i, z) ∈ foldL → w.cell? ⟨2, i, none⟩ = some (.int .u16 z)) :
    Calls Tryz.prog 79 #[.string n, .string ⟨#[120, 109, 108]⟩] w fun e w' => e = .returned (.bool (xmlB n)) ∧ w.grownBy w' none := by
  obtain ⟨R, hR⟩ : ∃ R, xmlB n = R := ⟨_, rfl⟩
  rw [hR]
  have HR := mkHidI1 hR
  have HFO := mkHidI1 hfo
  clear hR hfo
  obtain ⟨M, hM⟩ : ∃ M : Nat, min (n.size : Int) 3 = (M : Int) := ⟨min n.size 3, by omega⟩
  have hMs : M ≤ n.size := by omega
  have hM3 : M ≤ 3 := by omega
  have hMe : M = n.size ∨ M = 3 := by omega
  go_enter Tryz.func79, Tryz.ntmps79
  go_wp2
  refine scope_labels (fun l a W => l = 0 ∧ W = w ∧ R = false ∧ ∃ k, ShF n k a ∧ k < 3 ∧ k < n.size ∧ 128 ≤ byteAt n k) (fun _ _ _ => 0) ?_ ?_
  · go_wp2
    go_loop [5] (fun i => ∃ k : Nat, k ≤ M ∧ i = .int .i64 k ∧ ∀ j, j < k → okF n j) (fun i => M - (intOf i).toNat)
    case atStart => exact ⟨0, Nat.zero_le _, rfl, fun j hj => absurd hj (by omega)⟩
    case round =>
      obtain ⟨k, hk, rfl, hok⟩ := hrel
      have HOK := mkHidI1 hok
      clear hok hM
      by_cases hlt : k < M
      · have hlti : (k : Int) < (M : Int) := by omega
        obtain ⟨b, hb⟩ : ∃ b, byteAt n k = b := ⟨_, rfl⟩
        have hix : ∀ wx, (Instr.index 9 (.string n) (.int .i64 (k : Int))).run Tryz.prog wx = .ok (.int .u8 b) wx := fun wx => by rw [run_index_byte wx 9 n k (by omega) Tryz.underlying9, hb]
        obtain ⟨hb0, hb1⟩ := byte_rng n k
        rw [hb] at hb0 hb1
        obtain ⟨d, hd, hd0, hd1, hdl⟩ : ∃ d, fdL.getD k 0 = d ∧ 0 ≤ d ∧ d ≤ 122 ∧ 108 ≤ d := by
          match k, (show k < 3 by omega) with
          | 0, _ => exact ⟨120, rfl, by omega, by omega, by omega⟩
          | 1, _ => exact ⟨109, rfl, by omega, by omega, by omega⟩
          | 2, _ => exact ⟨108, rfl, by omega, by omega, by omega⟩
        have hixd : ∀ wx, (Instr.index 9 (.string ⟨#[120, 109, 108]⟩) (.int .i64 (k : Int))).run Tryz.prog wx = .ok (.int .u8 d) wx := fun wx => by
          rw [run_index_byte wx 9 ⟨#[120, 109, 108]⟩ k (by show k < 3; omega) Tryz.underlying9]
          have : byteAt ⟨#[120, 109, 108]⟩ k = d := by
            rw [← hd]
            match k, (show k < 3 by omega) with
            | 0, _ => rfl
            | 1, _ => rfl
            | 2, _ => rfl
          rw [this]
        have hokk : okF n k ↔ (b = d ∨ b = d - 32) := by unfold okF; rw [hb, hd]
        have HOKK := mkHidI1 hokk
        have HB := mkHidI1 hb
        clear hokk hb hd
        by_cases hbig : 128 ≤ b
        · have hor := or_big hbig hb1 hd0 (by omega : d < 256)
          have hR0 : R = false := by rw [← HR.out]; exact xml_no (j := k) (by omega) (fun h => by have := HOKK.out.1 h; omega)
          go_wp2
          go_step3
          exact ⟨rfl, rfl, hR0, k, shF_of _ rfl rfl rfl rfl, by omega, by omega, by rw [HB.out]; exact hbig⟩
        · have hor := or_small hb0 (by omega : b < 128) hd0 (by omega : d < 128)
          by_cases heq : b = d
          · have hok2 : Hid (∀ j, j < k + 1 → okF n j) := mkHidI1 fun j hj => by
              by_cases hjk : j = k
              · subst hjk; exact HOKK.out.2 (.inl heq)
              · exact HOK.out j (by omega)
            subst heq
            go_wp2
            go_round
            case rel => exact ⟨k + 1, by omega, by go_num, hok2.out⟩
            case measure => simp [intOf]; omega
          · by_cases hup : b = d - 32
            · have hok2 : Hid (∀ j, j < k + 1 → okF n j) := mkHidI1 fun j hj => by
                by_cases hjk : j = k
                · subst hjk; exact HOKK.out.2 (.inr hup)
                · exact HOK.out j (by omega)
              have hw1 : IntKind.u8.wrap (b + 97) = b + 97 := by rw [IntKind.wrap_u8]; omega
              have hw2 : IntKind.u8.wrap (b + 97 - 65) = d := by rw [IntKind.wrap_u8]; omega
              have e1 : (d == b) = false := beq_eq_false_iff_ne.2 (by omega)
              have e2 : ¬ d < b := by omega
              have e3 : 65 ≤ b := by omega
              have e4 : b ≤ 90 := by omega
              clear hup heq
              go_wp2
              go_round
              case rel => exact ⟨k + 1, by omega, by go_num, hok2.out⟩
              case measure => simp [intOf]; omega
            · have hR0 : R = false := by rw [← HR.out]; exact xml_no (j := k) (by omega) (fun h => by have := HOKK.out.1 h; omega)
              subst hR0
              have e1 : (d == b) = false := beq_eq_false_iff_ne.2 (by omega)
              by_cases hsw : d < b
              · have e3 : ¬ d ≤ 90 := by omega
                go_wp2
                simp only [jumpsTo]
                go_ret
                exact ⟨rfl, ⟨rfl, rfl, rfl, Nat.le_refl _, fun _ _ _ => rfl⟩⟩
              · by_cases h65 : 65 ≤ b ∧ b ≤ 90
                · have hw1 : IntKind.u8.wrap (b + 97) = b + 97 := by rw [IntKind.wrap_u8]; omega
                  have hw2 : IntKind.u8.wrap (b + 97 - 65) = b + 32 := by rw [IntKind.wrap_u8]; omega
                  have e5 : (d == b + 32) = false := beq_eq_false_iff_ne.2 (by omega)
                  obtain ⟨e3, e4⟩ := h65
                  go_wp2
                  simp only [jumpsTo]
                  go_ret
                  exact ⟨rfl, ⟨rfl, rfl, rfl, Nat.le_refl _, fun _ _ _ => rfl⟩⟩
                · by_cases e3 : 65 ≤ b
                  · have e4 : ¬ b ≤ 90 := by omega
                    clear h65
                    go_wp2
                    simp only [jumpsTo]
                    go_ret
                    exact ⟨rfl, ⟨rfl, rfl, rfl, Nat.le_refl _, fun _ _ _ => rfl⟩⟩
                  · clear h65
                    go_wp2
                    simp only [jumpsTo]
                    go_ret
                    exact ⟨rfl, ⟨rfl, rfl, rfl, Nat.le_refl _, fun _ _ _ => rfl⟩⟩
      · have hRe : R = decide (n.size = 3) := by rw [← HR.out]; exact xml_end HOK.out (by omega) (by omega) (by omega)
        have hlti : ¬ (k : Int) < (M : Int) := by omega
        subst hRe
        go_wp2
        simp only [jumpsTo]
        go_ret
        refine ⟨?_, ⟨rfl, rfl, rfl, Nat.le_refl _, fun _ _ _ => rfl⟩⟩
        show Ending.returned (.bool ((n.size : Int) == 3)) = _
        by_cases h3 : n.size = 3
        · rw [decide_eq_true h3, h3]; rfl
        · rw [decide_eq_false h3, beq_eq_false_iff_ne.2 (show ¬ (n.size : Int) = 3 by omega)]
  · rintro l a' W ⟨rfl, hWw, hR0, k, ⟨u, rfl⟩, hk3, hkn, hbig⟩
    obtain rfl := hWw.symm
    refine ⟨_, rfl, ?_⟩
    subst hR0
    obtain ⟨X, hX⟩ : ∃ X, n.extract k n.size = X := ⟨_, rfl⟩
    have hsl : ∀ wx, (Instr.slice 9 (.string n) (some (.int .i64 (k : Int))) none none).run Tryz.prog wx = .ok (.string X) wx := fun wx => by rw [← hX]; exact sub_from wx _ n k _ rfl (by omega) Tryz.underlying9
    have hXs : 0 < X.size := by rw [← hX, ext_sz]; omega
    have hXb : 128 ≤ byteAt X 0 := by rw [← hX, byteAt_ext (by omega), Nat.add_zero]; exact hbig
    obtain ⟨c, z, hd⟩ : ∃ c z, Utf8.decode X 0 = (c, z) := ⟨_, _, rfl⟩
    have hc : 128 ≤ c := by have := decode_big hXs hXb; rw [hd] at this; exact this
    obtain ⟨d, T, T', htl, hTs, hdec, htl2, hd0, hd1, g1, g2⟩ : ∃ (d : Nat) (T T' : ByteArray), (∀ wx, (Instr.slice 9 (.string ⟨#[120, 109, 108]⟩) (some (.int .i64 (k : Int))) none none).run Tryz.prog wx = .ok (.string T) wx) ∧ 0 < T.size ∧
        (∀ wx, Calls Tryz.prog 111 #[.string T] wx fun e w' => e = .returned (.tuple #[.int .i32 (d : Int), .int .i64 1]) ∧ w' = wx) ∧ (∀ wx, (Instr.slice 9 (.string T) (some (.int .i64 1)) none none).run Tryz.prog wx = .ok (.string T') wx) ∧
        40 < d ∧ d < 128 ∧ w.cell? ⟨2, d, none⟩ = some (.int .u16 ((d : Int) - 32)) ∧ w.cell? ⟨2, d - 32, none⟩ = some (.int .u16 (d : Int)) := by
      match k, hk3 with
      | 0, _ => exact ⟨120, ⟨#[120, 109, 108]⟩, ⟨#[109, 108]⟩, fun wx => sub_from wx _ _ 0 _ rfl (by decide) Tryz.underlying9, by decide, dec_x, fun wx => sub_from wx _ _ 1 _ rfl (by decide) Tryz.underlying9, by omega, by omega, HFO.out 120 88 (by simp [foldL]), HFO.out 88 120 (by simp [foldL])⟩
      | 1, _ => exact ⟨109, ⟨#[109, 108]⟩, ⟨#[108]⟩, fun wx => sub_from wx _ _ 1 _ rfl (by decide) Tryz.underlying9, by decide, dec_m, fun wx => sub_from wx _ _ 1 _ rfl (by decide) Tryz.underlying9, by omega, by omega, HFO.out 109 77 (by simp [foldL]), HFO.out 77 109 (by simp [foldL])⟩
      | 2, _ => exact ⟨108, ⟨#[108]⟩, ⟨#[]⟩, fun wx => sub_from wx _ _ 2 _ rfl (by decide) Tryz.underlying9, by decide, dec_l, fun wx => sub_from wx _ _ 1 _ rfl (by decide) Tryz.underlying9, by omega, by omega, HFO.out 108 76 (by simp [foldL]), HFO.out 76 108 (by simp [foldL])⟩
    have HG1 := mkHidI1 g1
    have HG2 := mkHidI1 g2
    clear g1 g2 HFO hX hXb hbig hk3 hkn
    go_wp2
    go_loopw [1] (fun v wr => v = .string T ∧ wr.heap[w.heap.size]? = some (.stringIter X 0) ∧ Below w.heap.size w wr ∧ w.heap.size < wr.heap.size) (fun _ _ => 0)
    case atStart =>
      obtain ⟨h1, h2, h3⟩ := iter_start w X
      exact ⟨rfl, h1, h2, by omega⟩
    case round =>
      obtain ⟨rfl, hit, hb, hsz⟩ := hrel
      have hnx : ∀ ty, (Instr.next (.pointer (some ⟨w.heap.size, 0, none⟩)) true ty).run Tryz.prog wr = _ := fun ty => Lib.run_next_any_at wr w.heap.size X 0 ty hit hXs
      rw [hd] at hnx
      simp only [Nat.zero_add] at hnx
      obtain ⟨W2, hW2⟩ : ∃ W2, wr.iterAt w.heap.size X z = W2 := ⟨_, rfl⟩
      have hb2 := Lib.below_iterAt hb (k := w.heap.size) (by omega) X z
      rw [hW2] at hnx hb2
      have HB2 := mkHidI1 hb2
      have f1 := fun (h : _) => fold_at d ((d : Int) - 32) W2 hd1 (by omega) (by omega) h
      have f2 := fun (h : _) => fold_at (d - 32) (d : Int) W2 (by omega) (by omega) (by omega) h
      have c1 := f1 ((hb2.cell (p := ⟨2, d, none⟩) (block_lt HG1.out)).trans HG1.out)
      have c2 := f2 ((hb2.cell (p := ⟨2, d - 32, none⟩) (block_lt HG2.out)).trans HG2.out)
      rw [show ((d - 32 : Nat) : Int) = (d : Int) - 32 by omega] at c2
      clear hW2 hit hb hb2 f1 f2
      have e1 : ((T.size : Int) == 0) = false := beq_eq_false_iff_ne.2 (by omega)
      have e2 : ((d : Int) == (c : Int)) = false := beq_eq_false_iff_ne.2 (by omega)
      have e3 : (d : Int) < (c : Int) := by omega
      have e4 : ¬ (c : Int) < 128 := by omega
      go_wp2_with fail
      refine (hdec _).mono ?_
      rintro e w3 ⟨rfl, hww⟩
      obtain rfl := hww.symm
      go_wp2_with fail
      refine c1.mono ?_
      rintro e w3 ⟨rfl, hww⟩
      obtain rfl := hww.symm
      go_wp2
      go_loopw [13] (fun r wr => wr = W2 ∧ (r = .int .i32 ((d : Int) - 32) ∨ r = .int .i32 (d : Int))) (fun r _ => if intOf r = (d : Int) then 0 else 1)
      case atStart => exact ⟨rfl, .inl rfl⟩
      case round =>
        obtain ⟨hww, hr⟩ := hrel
        obtain rfl := hww
        rcases hr with rfl | rfl
        · have e5 : ((d : Int) - 32 != (d : Int)) = true := by simp; omega
          have e6 : (d : Int) - 32 < (c : Int) := by omega
          go_wp2_with fail
          refine c2.mono ?_
          rintro e w4 ⟨rfl, hww⟩
          obtain rfl := hww.symm
          go_wp2
          go_roundw
          case rel => exact ⟨by first | rfl | trivial, .inr rfl⟩
          case measure => rw [if_pos (show intOf (.int .i32 (d : Int)) = (d : Int) from rfl), if_neg (show ¬ intOf (.int .i32 ((d : Int) - 32)) = (d : Int) by show ¬ (d : Int) - 32 = (d : Int); omega)]; omega
        · have e5 : ((d : Int) != (d : Int)) = false := by simp
          go_wp2
          simp only [jumpsTo]
          go_ret
          exact ⟨rfl, gnone (r := none) ⟨HB2.out.os, HB2.out.tape, HB2.out.output, HB2.out.size, fun k hk _ => HB2.out.block k hk⟩⟩
end Go.Proofs.YtefahocflhlgiaaGreatDoor
