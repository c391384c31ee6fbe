/- The program's nameSize: how many bytes of the rest of a text are a name. -/
import Derived.Test.YtefahocflhlgiaaGreatDoorIm4
import Derived.Test.YtefahocflhlgiaaGreatDoorPlain14
import Derived.Test.YtefahocflhlgiaaGreatDoorStarts
import Derived.Test.YtefahocflhlgiaaGreatDoorParts
import Derived.Test.YtefahocflhlgiaaGreatDoorRunesImpl
import Derived.WalkSmall
namespace Go.Proofs.YtefahocflhlgiaaGreatDoor
open Go.RowKit Plain1 Plain2 Strs Strs2 Lists Plain3 Plain5 Plain6 Plain9 Plain10 Plain11 Plain12 Plain13 Plain14

/-- The tables of names' characters. -/
structure Tabs (w : World) : Prop where
  st : ∃ t fr, w.heap[5]? = some (.cells startCells t fr)
  pt : ∃ t fr, w.heap[6]? = some (.cells partCells t fr)
theorem Tabs.keep {w w' : World} (h : Tabs w) (hk : ∀ k, k < w.heap.size → w'.heap[k]? = w.heap[k]?) : Tabs w' := by
  obtain ⟨⟨t, fr, h1⟩, ⟨t', fr', h2⟩⟩ := h
  exact ⟨⟨t, fr, (hk _ (Array.getElem?_eq_some_iff.1 h1).1).trans h1⟩, ⟨t', fr', (hk _ (Array.getElem?_eq_some_iff.1 h2).1).trans h2⟩⟩
theorem Tabs.below {w w' : World} (h : Tabs w) (hb : Below w.heap.size w w') : Tabs w' := h.keep hb.block
theorem start_call {w : World} (h : Tabs w) (n : Int) : Calls Tryz.prog 135 #[.int .i64 n] w fun e w' => e = .returned (.bool (startB n)) ∧ Below w.heap.size w w' := by
  obtain ⟨t, fr, h1⟩ := h.st
  exact implStart_any n w t fr h1
theorem part_call {w : World} (h : Tabs w) (n : Int) : Calls Tryz.prog 136 #[.int .i64 n] w fun e w' => e = .returned (.bool (partB n)) ∧ Below w.heap.size w w' := by
  obtain ⟨t, fr, h1⟩ := h.st
  obtain ⟨t', fr', h2⟩ := h.pt
  exact implPart_any n w t' fr' h2 t fr h1
theorem iter_start (w : World) (s : ByteArray) : (w.iter s 0).heap[w.heap.size]? = some (.stringIter s 0) ∧ Below w.heap.size w (w.iter s 0) ∧ w.heap.size + 1 ≤ (w.iter s 0).heap.size := by
  refine ⟨World.iter_heap w s 0, ?_, ?_⟩
  · unfold World.iter; exact (Below.refl _ _).alloc (Nat.le_refl _) _
  · unfold World.iter; simp

set_option maxHeartbeats 2000000 in
theorem nameSize_any (s : ByteArray) (p : Nat) (w : World) (hp : p ≤ s.size) (hv : VB s p) (hT : Tabs w) :
    Calls Tryz.prog 110 #[.string (s.extract p s.size)] w fun e w' => e = .returned (.int .i64 (nameZ s p)) ∧ Below w.heap.size w w' := by
  obtain ⟨X, hX⟩ : ∃ X, s.extract p s.size = X := ⟨_, rfl⟩
  have hXs : X.size = s.size - p := by rw [← hX]; exact ext_sz s p
  have HX := mkHidI1 hX
  obtain ⟨R, hR⟩ : ∃ R, nameZ s p = R := ⟨_, rfl⟩
  rw [hX, hR]
  have HR := mkHidI1 hR
  have HV := mkHidI1 hv
  have HT := mkHidI1 hT
  clear hX hR hv hT
  go_enter Tryz.func110, Tryz.ntmps110
  go_wp2
  go_loopw [] (fun wr => ∃ (f i : Nat), i ≤ X.size ∧ wr.heap[w.heap.size]? = some (.stringIter X i) ∧ VB s (p + i) ∧ nameGo s p f i = R ∧ s.size < p + i + f ∧ Below w.heap.size w wr ∧ w.heap.size + 1 ≤ wr.heap.size) (fun wr => X.size - wr.iterPos w.heap.size)
  case atStart =>
    obtain ⟨h1, h2, h3⟩ := iter_start w X
    exact ⟨s.size + 1, 0, Nat.zero_le _, h1, HV.out, HR.out, by omega, h2, h3⟩
  case round =>
    obtain ⟨f, i, hi, hit, hvb, hgo, hf, hb, hsz⟩ := hrel
    have HGO := mkHidI1 hgo
    have HVB := mkHidI1 hvb
    clear hgo hvb
    by_cases hlt : i < X.size
    · obtain ⟨f', rfl⟩ : ∃ f', f = f' + 1 := ⟨f - 1, by omega⟩
      obtain ⟨c, n, hd⟩ : ∃ c n, Utf8.decode X i = (c, n) := ⟨_, _, rfl⟩
      have hps : p + i < s.size := by omega
      obtain ⟨hr0, hvb2⟩ := VB_step HVB.out hps
      have hrx : runeZ X i = runeZ s (p + i) := by rw [← HX.out]; exact rune_ext hps
      have hrX : (runeZ X i).2 ≠ 0 := by rw [hrx]; exact hr0
      obtain ⟨_, hch, hrz⟩ := test_good hlt hd hrX
      rw [hrz] at hrx
      rw [← hrx] at hr0 hvb2
      simp only at hr0 hvb2
      have hle := decode_le X i
      have hnx : ∀ ty, (Instr.next (.pointer (some ⟨w.heap.size, 0, none⟩)) true ty).run Tryz.prog wr = _ := fun ty => Lib.run_next_any_at wr w.heap.size X i ty hit hlt
      rw [hd] at hnx hle
      simp only at hnx hle
      obtain ⟨W2, hW2⟩ : ∃ W2, wr.iterAt w.heap.size X (i + n) = W2 := ⟨_, rfl⟩
      have hit2 := Lib.iterAt_heap wr w.heap.size X i (i + n) hit
      have hb2 := Lib.below_iterAt hb (k := w.heap.size) (by omega) X (i + n)
      have hsz2 := Lib.iterAt_size wr w.heap.size X (i + n)
      rw [hW2] at hnx hit2 hb2 hsz2
      rw [← hsz2] at hsz
      have hrl := rune_le (s := X) (pos := i) hrX
      rw [hrz] at hrl
      simp only at hrl
      have HIT := mkHidI1 hit
      have HI := mkHidI1 hit2
      have HRX := mkHidI1 hrx
      have HV2 := mkHidI1 hvb2
      have HB2 := mkHidI1 hb2
      have HT2 := mkHidI1 (HT.out.below hb2)
      have hcb := (charB_iff (c : Int)).1 hch
      have hc0 : (0 : Int) ≤ (c : Int) := by omega
      have hc1 : (c : Int) ≤ 1114111 := by omega
      clear hW2 hsz2 hit hb hd hrX hrz hch hrx hvb2 hit2 hb2 hcb
      by_cases hi0 : i = 0
      · have HI0 := mkHidI1 hi0
        have hst := start_call HT2.out (c : Int)
        cases hsb : startB (c : Int) with
        | false =>
          have hR2 : R = i := by rw [← HGO.out]; exact name_stop hps HRX.out.symm (.inl ⟨hi0, hsb⟩)
          subst hR2
          rw [hsb] at hst
          go_wp2_with fail
          refine hst.mono ?_
          rintro e w3 ⟨rfl, hb3⟩
          have HB3 := mkHidI1 (HB2.out.trans (hb3.mono (by omega)))
          clear hst hb3
          go_wp2
          go_ret
          exact ⟨by show Ending.returned (.int .i64 0) = _; rw [HI0.out]; rfl, HB3.out⟩
        | true =>
          rw [hsb] at hst
          go_wp2_with fail
          refine hst.mono ?_
          rintro e w3 ⟨rfl, hb3⟩
          have HB3 := mkHidI1 (HB2.out.trans (hb3.mono (by omega)))
          have H3 : Hid (w3.heap[w.heap.size]? = some (.stringIter X (i + n))) := mkHidI1 ((hb3.block _ (by omega)).trans HI.out)
          have hsz3 : w.heap.size + 1 ≤ w3.heap.size := by have := hb3.size; omega
          have hpt := part_call (HT2.out.below hb3) (c : Int)
          have HSB := mkHidI1 hsb
          clear hst hb3 hsb
          cases hpb : partB (c : Int) with
          | false =>
            have hR2 : R = i := by rw [← HGO.out]; exact name_stop hps HRX.out.symm (.inr hpb)
            subst hR2
            rw [hpb] at hpt
            go_wp2_with fail
            refine hpt.mono ?_
            rintro e w4 ⟨rfl, hb4⟩
            have HB4 := mkHidI1 (HB3.out.trans (hb4.mono (by omega)))
            clear hpt hb4
            go_wp2
            go_ret
            exact ⟨by show Ending.returned (.int .i64 0) = _; rw [HI0.out]; rfl, HB4.out⟩
          | true =>
            have hgo2 : nameGo s p f' (i + n) = R := by rw [← HGO.out]; exact (name_on hps HRX.out.symm hr0 (fun _ => HSB.out) hpb).symm
            have HG2 := mkHidI1 hgo2
            rw [hpb] at hpt
            clear hgo2
            go_wp2_with fail
            refine hpt.mono ?_
            rintro e w4 ⟨rfl, hb4⟩
            have HB4 := mkHidI1 (HB3.out.trans (hb4.mono (by omega)))
            have H4 : Hid (w4.heap[w.heap.size]? = some (.stringIter X (i + n))) := mkHidI1 ((hb4.block _ (by omega)).trans H3.out)
            have hsz4 : w.heap.size + 1 ≤ w4.heap.size := by have := hb4.size; omega
            clear hpt hb4 hnx
            go_wp2
            go_roundw
            case rel => exact ⟨f', i + n, by omega, H4.out, by rw [← Nat.add_assoc]; exact HV2.out, HG2.out, by omega, HB4.out, hsz4⟩
            case measure => rw [iterPos_of H4.out, iterPos_of HIT.out]; omega
      · have hpt := part_call HT2.out (c : Int)
        cases hpb : partB (c : Int) with
        | false =>
          have hR2 : R = i := by rw [← HGO.out]; exact name_stop hps HRX.out.symm (.inr hpb)
          subst hR2
          rw [hpb] at hpt
          go_wp2_with fail
          refine hpt.mono ?_
          rintro e w4 ⟨rfl, hb4⟩
          have HB4 := mkHidI1 (HB2.out.trans (hb4.mono (by omega)))
          clear hpt hb4
          go_wp2
          go_ret
          exact ⟨rfl, HB4.out⟩
        | true =>
          have hgo2 : nameGo s p f' (i + n) = R := by rw [← HGO.out]; exact (name_on hps HRX.out.symm hr0 (fun h => absurd h hi0) hpb).symm
          have HG2 := mkHidI1 hgo2
          rw [hpb] at hpt
          clear hgo2
          go_wp2_with fail
          refine hpt.mono ?_
          rintro e w4 ⟨rfl, hb4⟩
          have HB4 := mkHidI1 (HB2.out.trans (hb4.mono (by omega)))
          have H4 : Hid (w4.heap[w.heap.size]? = some (.stringIter X (i + n))) := mkHidI1 ((hb4.block _ (by omega)).trans HI.out)
          have hsz4 : w.heap.size + 1 ≤ w4.heap.size := by have := hb4.size; omega
          clear hpt hb4 hnx
          go_wp2
          go_roundw
          case rel => exact ⟨f', i + n, by omega, H4.out, by rw [← Nat.add_assoc]; exact HV2.out, HG2.out, by omega, HB4.out, hsz4⟩
          case measure => rw [iterPos_of H4.out, iterPos_of HIT.out]; omega
    · have hnx : ∀ ty, (Instr.next (.pointer (some ⟨w.heap.size, 0, none⟩)) true ty).run Tryz.prog wr = _ := fun ty => Lib.run_next_end_at wr w.heap.size X i ty hit hlt
      have hR2 : R = X.size := by
        rw [← HGO.out, nameGo_end (by omega)]; omega
      subst hR2
      clear hit
      go_wp2
      go_ret
      exact ⟨by show Ending.returned (.int .i64 ((s.size - p : Nat) : Int)) = _; rw [hXs], hb⟩
end Go.Proofs.YtefahocflhlgiaaGreatDoor
