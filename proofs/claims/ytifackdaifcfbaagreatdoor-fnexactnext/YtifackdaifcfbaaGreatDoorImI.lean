/- The contract of the program's Runes: the characters of a text, by a range over it. -/
/- The program's marksRight and beginsCharacter. -/
/- The program's Next. -/
import Derived.Test.YtifackdaifcfbaaGreatDoorImB
import Derived.Test.YtifackdaifcfbaaGreatDoorImH
import Derived.Test.YtifackdaifcfbaaGreatDoorShelfN
import Derived.Test.YtifackdaifcfbaaGreatDoorMdF
namespace Go.Proofs.YtifackdaifcfbaaGreatDoor
open Go.RowKit Plain1 Strs Plain3 Plain4 Plain5 Lists

theorem owns_sliceR {w : World} {B : Nat} {e : TypeId} {size : Nat} {v : Value} {n : Nat} {xs : List Value} (h : w.ownsRow B e size v n xs) : ∃ ao cv, v = .slice ao n cv := by
  rcases owns_forms h with ⟨rfl, rfl⟩ | ⟨g, cap, rfl⟩
  · exact ⟨_, _, rfl⟩
  · exact ⟨_, _, rfl⟩
theorem owns_leR {w : World} {base base' size n : Nat} {e : TypeId} {v : Value} {xs : List Value} (h : w.ownsRow base e size v n xs) (hb : base' ≤ base) : w.ownsRow base' e size v n xs := by
  obtain ⟨h1, h2⟩ := h
  refine ⟨h1, ?_⟩
  rcases h2 with h2 | ⟨g, cap, cur, a, b, c⟩
  · exact .inl h2
  · exact .inr ⟨g, cap, cur, a, Nat.le_trans hb b, c⟩

/-- The three cells of a box, out of its block. -/
theorem block3 {w : World} {g : Nat} {a b c : Value} {t : TypeId} (h : w.heap[g]? = some (.cells #[a, b, c] t)) :
    w.cell? ⟨g, 0, none⟩ = some a ∧ w.cell? ⟨g, 1, none⟩ = some b ∧ w.cell? ⟨g, 2, none⟩ = some c ∧ w.frozen? ⟨g, 0, none⟩ = false ∧ w.frozen? ⟨g, 1, none⟩ = false ∧ w.frozen? ⟨g, 2, none⟩ = false := by
  simp [World.cell?, World.frozen?, h]

theorem grow_old {W W3 : World} {base k : Nat} {e : TypeId} {size : Nat} {v : Value} {n : Nat} {xs : List Value} {o : Obj} (hown : W.ownsRow base e size v n xs) (hg : (W.alloc o).grownBy W3 v.ownBlock) (hk : k < base) (hkW : k < W.heap.size) : W3.heap[k]? = W.heap[k]? := by
  rw [hg.block k (by simp; omega) (fun h => by have := (hown.lt k h.symm).1; omega)]
  exact Below.heap_alloc W o k hkW

theorem start_heap (w : World) (s : ByteArray) (o : Obj) : ((w.alloc o).iter s 0).heap[w.heap.size + 1]? = some (.stringIter s 0) ∧ ((w.alloc o).iter s 0).heap[w.heap.size]? = some o ∧ Below w.heap.size w ((w.alloc o).iter s 0) ∧ w.heap.size + 2 ≤ ((w.alloc o).iter s 0).heap.size := by
  have hz : (w.alloc o).heap.size = w.heap.size + 1 := by simp
  refine ⟨?_, ?_, ?_, ?_⟩
  · have := World.iter_heap (w.alloc o) s 0
    rw [hz] at this
    exact this
  · unfold World.iter
    rw [Below.heap_alloc _ _ _ (by omega)]
    exact heap_alloc_new w o
  · exact ((Below.refl _ _).alloc (Nat.le_refl _) o).alloc (by omega) _
  · unfold World.iter
    simp

set_option maxRecDepth 100000 in
set_option maxHeartbeats 2000000 in
theorem implRunes_scan (s : ByteArray) (w : World) (hs : s.size ≤ 4000) :
    Calls Tryz.prog 22 #[.string s] w fun e w' => ∃ v, e = .returned (.agg #[v, .int .i64 (if 0 ≤ (scanAll s).2 then (scanAll s).2 else 0), .int .i64 (if 0 ≤ (scanAll s).2 then 3 else 0)]) ∧ w'.ownsRow w.heap.size 2 1 v (scanAll s).1.length ((scanAll s).1.map (Value.int .i64)) ∧ Below w.heap.size w w' := by
  obtain ⟨i0, hi, hz0, hz1, hz2⟩ := info_parts info64r
  obtain ⟨R, hR⟩ : ∃ R, scanAll s = R := ⟨_, rfl⟩
  rw [hR]
  have HR : Hid (scanAll s = R) := hR
  clear hR
  obtain ⟨at3, hat⟩ : ∃ x, (if 0 ≤ R.2 then R.2 else 0) = x := ⟨_, rfl⟩
  obtain ⟨co3, hco⟩ : ∃ x : Int, (if 0 ≤ R.2 then 3 else 0) = x := ⟨_, rfl⟩
  rw [hat, hco]
  have HAT : Hid ((if 0 ≤ R.2 then R.2 else 0) = at3) := hat
  have HCO : Hid ((if 0 ≤ R.2 then (3 : Int) else 0) = co3) := hco
  clear hat hco
  go_enter Tryz.func22, Tryz.ntmps22
  go_wp2
  go_loopw [3] (fun v wr => ∃ (f pos : Nat) (acc : List Int), pos ≤ s.size ∧ wr.heap[w.heap.size + 1]? = some (.stringIter s pos) ∧ wr.heap[w.heap.size]? = some (.cells #[.slice none 0 0, .int .i64 0, .int .i64 0] 54) ∧ scan s f pos acc = R ∧ s.size < pos + f ∧ acc.length ≤ pos ∧ wr.ownsRow (w.heap.size + 2) 2 1 v acc.length (acc.map (Value.int .i64)) ∧ Below w.heap.size w wr ∧ w.heap.size + 2 ≤ wr.heap.size) (fun _ wr => s.size - wr.iterPos (w.heap.size + 1))
  case atStart =>
    refine ⟨s.size + 1, 0, [], Nat.zero_le _, ?_, ?_, HR.out, by omega, Nat.le_refl _, World.ownsRow_nil _ _ _ _, ?_, ?_⟩
    · exact (start_heap w s _).1
    · exact (start_heap w s _).2.1
    · exact (start_heap w s _).2.2.1
    · exact (start_heap w s _).2.2.2
  case round =>
    obtain ⟨f, pos, acc, hpos, hit, hbox, hsc, hf, hal, hown, hb, hsz⟩ := hrel
    have HS : Hid (scan s f pos acc = R) := hsc
    clear hsc
    by_cases hlt : pos < s.size
    · obtain ⟨f', rfl⟩ : ∃ f', f = f' + 1 := ⟨f - 1, by omega⟩
      obtain ⟨c, n, hd⟩ : ∃ c n, Utf8.decode s pos = (c, n) := ⟨_, _, rfl⟩
      have hle := decode_le s pos
      have hnx : ∀ ty, (Instr.next (.pointer (some ⟨w.heap.size + 1, 0, none⟩)) true ty).run Tryz.prog wr = _ := fun ty => Lib.run_next_any_at wr (w.heap.size + 1) s pos ty hit hlt
      rw [hd] at hnx hle
      simp only at hnx hle
      obtain ⟨W2, hW2⟩ : ∃ W2, wr.iterAt (w.heap.size + 1) s (pos + n) = W2 := ⟨_, rfl⟩
      have hit2 := Lib.iterAt_heap wr (w.heap.size + 1) s pos (pos + n) hit
      have hb2 := Lib.below_iterAt hb (k := w.heap.size + 1) (by omega) s (pos + n)
      have hown2 := ownsRow_iterAt hown (k := w.heap.size + 1) (by omega) s (pos + n)
      have hbox2 := (Lib.iterAt_other wr (w.heap.size + 1) w.heap.size s (pos + n) (by omega)).trans hbox
      have hsz2 := Lib.iterAt_size wr (w.heap.size + 1) s (pos + n)
      rw [hW2] at hnx hit2 hb2 hown2 hbox2 hsz2
      rw [← hsz2] at hsz
      have HIT : Hid (wr.heap[w.heap.size + 1]? = some (.stringIter s pos)) := hit
      clear hW2 hsz2 hown hb hbox hit
      have hbr := broken_any (s.extract pos s.size) c W2
      by_cases hz : (runeZ s pos).2 = 0
      · rcases test_bad hlt hd hz with ht | ⟨ht, hch⟩
        · rw [ht] at hbr
          have hbad := scan_bad (f := f') (acc := acc) hlt hz
          rw [HS.out] at hbad
          subst hbad
          have hat := HAT.out
          have hco := HCO.out
          rw [if_pos (by simp only []; omega)] at hat hco
          simp only at hat
          subst hat hco
          obtain ⟨k0, k1, k2, f0, f1, f2⟩ := block3 hbox2
          clear ht hbox2 hown2 hit2 hd hz HS HR HAT HCO hf hal
          go_wp2_with (go_at_call 50; refine hbr.mono ?_; rintro e w' ⟨rfl, rfl⟩)
          refine bodyPost_ret (v := .agg #[.slice none 0 0, .int .i64 pos, .int .i64 3]) (by simp [results, Tryz.results22, go_sem, k0, k1, k2]) rfl ⟨_, rfl, World.ownsRow_nil _ _ _ _, ?_⟩
          exact ((hb2.setCell (Nat.le_refl _) _).setCell (Nat.le_refl _) _).setCell (Nat.le_refl _) _
        · rw [ht] at hbr
          have hbad := scan_bad (f := f') (acc := acc) hlt hz
          rw [HS.out] at hbad
          subst hbad
          have hat := HAT.out
          have hco := HCO.out
          rw [if_pos (by simp only []; omega)] at hat hco
          simp only at hat
          subst hat hco
          obtain ⟨k0, k1, k2, f0, f1, f2⟩ := block3 hbox2
          clear ht hbox2 hown2 hit2 hd hz HS HR HAT HCO hf hal
          go_wp2_with (first | (go_at_call 50; refine hbr.mono ?_; rintro e w' ⟨rfl, rfl⟩) | (go_at_call 51; refine (implChar_any _ _).mono ?_; rintro e w' ⟨rfl, rfl⟩))
          refine bodyPost_ret (v := .agg #[.slice none 0 0, .int .i64 pos, .int .i64 3]) (by simp [results, Tryz.results22, go_sem, k0, k1, k2]) rfl ⟨_, rfl, World.ownsRow_nil _ _ _ _, ?_⟩
          exact ((hb2.setCell (Nat.le_refl _) _).setCell (Nat.le_refl _) _).setCell (Nat.le_refl _) _
      · obtain ⟨ht, hch, hr⟩ := test_good hlt hd hz
        rw [ht] at hbr
        have hgood := scan_good (f := f') (acc := acc) hlt hz
        have hrl := rune_le (s := s) (pos := pos) hz
        rw [HS.out, hr] at hgood
        rw [hr] at hrl hz
        simp only at hgood hrl hz
        have HG : Hid (R = scan s f' (pos + n) (acc ++ [(c : Int)])) := hgood
        have HI : Hid (W2.heap[w.heap.size + 1]? = some (.stringIter s (pos + n))) := hit2
        have HBx : Hid (W2.heap[w.heap.size]? = some (.cells #[.slice none 0 0, .int .i64 0, .int .i64 0] 54)) := hbox2
        clear ht hd hr hgood HS hit2 hbox2
        go_wp2_with (first | (go_at_call 50; refine hbr.mono ?_; rintro e w' ⟨rfl, rfl⟩) | (go_at_call 51; refine (implChar_any _ _).mono ?_; rintro e w' ⟨rfl, rfl⟩) | (at_builtin; refine wpList_append_own _ rfl _ _ 31 rfl (w.heap.size + 2) 2 i0 (.int .i64 0) 1 8 Tryz.underlying31 hi hz0 hz1 hz2 rfl (by decide) _ _ _ rfl (hown2.alloc _) ⟨_, 0, none⟩ 1 1 [.int .i64 (c : Int)] rfl rfl ?c1 ?c2 ?c3 ?c4 ?c5 ?_))
        case c1 => exact cell_one_new _ _ _
        case c2 => intro u hu; simp at hu; subst hu; rfl
        case c3 => unfold maxLen; omega
        case c4 => omega
        case c5 => simp; omega
        intro v' w3 hown' hgrow _
        have hb3 : Below w.heap.size w w3 := (hb2.alloc (by omega) _).grown hgrow (by simp; omega) (fun k hk => by have := (hown2.lt k hk).1; omega)
        have hit3 : w3.heap[w.heap.size + 1]? = some (.stringIter s (pos + n)) := (grow_old hown2 hgrow (by omega) (by omega)).trans HI.out
        have hbox3 : w3.heap[w.heap.size]? = some (.cells #[.slice none 0 0, .int .i64 0, .int .i64 0] 54) := (grow_old hown2 hgrow (by omega) (by omega)).trans HBx.out
        have hsz3 : w.heap.size + 2 ≤ w3.heap.size := by have := hgrow.size; simp at this; omega
        have H3 : Hid (w3.heap[w.heap.size + 1]? = some (.stringIter s (pos + n))) := hit3
        have HX3 : Hid (w3.heap[w.heap.size]? = some (.cells #[.slice none 0 0, .int .i64 0, .int .i64 0] 54)) := hbox3
        clear hgrow hown2 hb2 hit3 hbox3 hnx hbr
        go_wp2
        go_roundw
        case rel =>
          refine ⟨f', pos + n, acc ++ [(c : Int)], by omega, H3.out, HX3.out, HG.out.symm, by omega, by simp; omega, ?_, hb3, hsz3⟩
          simpa using hown'
        case measure => rw [iterPos_of H3.out, iterPos_of HIT.out]; omega
    · have hnx : ∀ ty, (Instr.next (.pointer (some ⟨w.heap.size + 1, 0, none⟩)) true ty).run Tryz.prog wr = _ := fun ty => Lib.run_next_end_at wr (w.heap.size + 1) s pos ty hit hlt
      have he := scan_end (f := f) (acc := acc) (show s.size ≤ pos by omega)
      rw [HS.out] at he
      subst he
      have hat := HAT.out
      have hco := HCO.out
      rw [if_neg (by simp only []; omega)] at hat hco
      subst hat hco
      obtain ⟨k0, k1, k2, f0, f1, f2⟩ := block3 hbox
      obtain ⟨ao, cv, hv⟩ := owns_sliceR hown
      subst hv
      clear hbox hit HS HR HAT HCO hf hal
      go_wp2
      refine bodyPost_ret (v := .agg #[.slice ao acc.length cv, .int .i64 0, .int .i64 0]) (by simp [results, Tryz.results22, go_sem, k0, k1, k2]) rfl ⟨_, rfl, ?_, ?_⟩
      · have hq : w.heap.size < w.heap.size + 2 := by omega
        exact owns_leR (ownsRow_setCell_below (ownsRow_setCell_below (ownsRow_setCell_below hown hq _) hq _) hq _) (by omega)
      · exact ((hb.setCell (Nat.le_refl _) _).setCell (Nat.le_refl _) _).setCell (Nat.le_refl _) _

set_option maxHeartbeats 1000000 in
theorem implRunes_any (s : ByteArray) (w : World) :
    Calls Tryz.prog 22 #[.string s] w fun e w' => ∃ v, e = .returned (.agg #[v, .int .i64 (rAt s), .int .i64 (rCode s)]) ∧ w'.ownsRow w.heap.size 2 1 v (rList s).length ((rList s).map (Value.int .i64)) ∧ Below w.heap.size w w' := by
  by_cases hbig : 4000 < s.size
  · have e1 : rList s = [] := by unfold rList; rw [if_pos hbig]
    have e2 : rAt s = 0 := by unfold rAt; rw [if_pos hbig]
    have e3 : rCode s = 2 := by unfold rCode; rw [if_pos hbig]
    rw [e1, e2, e3]
    clear e1 e2 e3
    go_enter Tryz.func22, Tryz.ntmps22
    go_wp2
    refine bodyPost_ret (v := .agg #[.slice none 0 0, .int .i64 0, .int .i64 2]) (by simp [results, Tryz.results22, go_sem]) rfl ⟨_, rfl, World.ownsRow_nil _ _ _ _, ?_⟩
    exact (Below.refl _ _).alloc (Nat.le_refl _) _
  · have := implRunes_scan s w (by omega)
    unfold rList rAt rCode
    rw [if_neg hbig, if_neg hbig, if_neg hbig]
    exact this
end Go.Proofs.YtifackdaifcfbaaGreatDoor

namespace Go.Proofs.YtifackdaifcfbaaGreatDoor
open Go.RowKit Plain1 Plain2 Strs Strs2 Lists Plain3 Plain5 Plain6 Plain9 Plain10 Plain11 Plain12 Plain13 Plain14

theorem fld2 (ao : Option Addr) (an ac : Nat) (a b : Int) (w : World) : (Instr.field 54 (.agg #[.slice ao an ac, .int .i64 a, .int .i64 b]) 2).run Tryz.prog w = .ok (.int .i64 b) w := by kernel_rfl
theorem has13 (s : ByteArray) : Lib.contains s.data.toList [13] = decide (fz s 0 [13] ≠ -1) := by
  have h := fz_index s 0 [13]
  have hr : rest s 0 = s.data.toList := by simp [rest]
  rw [hr] at h
  have hg := Lib.index_ge s.data.toList [13]
  unfold Lib.contains
  by_cases h0 : fz s 0 [13] = -1
  · have := h.1 h0; simp [h0, this]
  · have : ¬ Lib.index s.data.toList [13] = -1 := fun e => h0 (h.2 e)
    simp [h0]; omega

set_option maxRecDepth 100000 in
set_option maxHeartbeats 4000000 in
theorem marksRight_any (s : ByteArray) (w : World) (m : Int) (h4 : s.size ≤ 4000) (hm : w.cell? ⟨1, 0, none⟩ = some (.int .i64 m)) :
    Calls Tryz.prog 12 #[.string s] w fun e w' => e = .returned (.bool (decide ((scanAll s).2 < 0 ∧ fz s 0 [13] = -1))) ∧ Below w.heap.size w w' := by
  have HM := mkHidT hm
  have hfd := fld2
  have HR := mkHidT (implRunes_any s w)
  have hcode : rCode s = if 0 ≤ (scanAll s).2 then 3 else 0 := by unfold rCode; rw [if_neg (by omega)]
  obtain ⟨z, hz⟩ : ∃ z, (scanAll s).2 = z := ⟨_, rfl⟩
  rw [hz] at hcode ⊢
  obtain ⟨c, hc⟩ : ∃ c, rCode s = c := ⟨_, rfl⟩
  obtain ⟨a, ha⟩ : ∃ a, rAt s = a := ⟨_, rfl⟩
  rw [hc] at hcode
  rw [hc, ha] at HR
  clear hm hc ha hz
  by_cases h0 : 0 ≤ z
  · rw [if_pos h0] at hcode
    subst hcode
    have hD : decide (z < 0 ∧ fz s 0 [13] = -1) = false := decide_eq_false (by omega)
    rw [hD]
    clear hD
    go_enter Tryz.func12, Tryz.ntmps12
    go_wp2_with fail
    refine HR.out.mono ?_
    rintro e w1 ⟨v, rfl, hr, hb⟩
    obtain ⟨ao, an, ac, rfl⟩ := row_slice hr
    have HB := mkHidT hb
    clear hr hb HR
    go_wp2
    go_ret
    exact ⟨rfl, HB.out⟩
  · rw [if_neg h0] at hcode
    subst hcode
    have hD : decide (z < 0 ∧ fz s 0 [13] = -1) = !decide (fz s 0 [13] ≠ -1) := by
      by_cases hf : fz s 0 [13] = -1
      · simp [hf]; omega
      · simp [hf]
    have hcn := fun w1 hx => Tryz.strings_Contains s ⟨#[13]⟩ m w1 (by omega) hx
    simp only [has13] at hcn
    obtain ⟨B, hB⟩ : ∃ B, decide (fz s 0 [13] ≠ -1) = B := ⟨_, rfl⟩
    rw [hB] at hD
    simp only [hB] at hcn
    rw [hD]
    clear hD hB
    go_enter Tryz.func12, Tryz.ntmps12
    go_wp2_with fail
    refine HR.out.mono ?_
    rintro e w1 ⟨v, rfl, hr, hb⟩
    obtain ⟨ao, an, ac, rfl⟩ := row_slice hr
    have HB := mkHidT hb
    have hc1 := hcn w1 ((hb.cell (p := ⟨1, 0, none⟩) (block_lt HM.out)).trans HM.out)
    clear hr hb HR hcn
    go_wp2_with fail
    refine hc1.mono ?_
    rintro e w2 ⟨rfl, hww⟩
    obtain rfl := hww
    go_wp2
    go_ret
    exact ⟨rfl, HB.out⟩

def begB (s : ByteArray) (at0 : Int) : Bool := decide (0 ≤ at0 ∧ at0 ≤ s.size ∧ (at0 = s.size ∨ ¬ (128 ≤ byteAt s at0.toNat ∧ byteAt s at0.toNat < 192)))
set_option maxRecDepth 100000 in
set_option maxHeartbeats 4000000 in
theorem begins_any (s : ByteArray) (at0 : Int) (w : World) (h4 : s.size ≤ 4000) :
    Calls Tryz.prog 13 #[.string s, .int .i64 at0] w fun e w' => e = .returned (.bool (begB s at0)) ∧ w' = w := by
  by_cases ha : at0 < 0
  · rw [show begB s at0 = false from decide_eq_false (by omega)]
    go_enter Tryz.func13, Tryz.ntmps13
    go_wp2
    go_ret
    exact ⟨rfl, rfl⟩
  by_cases hb : at0 > (s.size : Int)
  · rw [show begB s at0 = false from decide_eq_false (by omega)]
    go_enter Tryz.func13, Tryz.ntmps13
    go_wp2
    go_ret
    exact ⟨rfl, rfl⟩
  by_cases he : at0 = s.size
  · rw [show begB s at0 = true from decide_eq_true (by omega)]
    subst he
    go_enter Tryz.func13, Tryz.ntmps13
    go_wp2
    go_ret
    exact ⟨rfl, rfl⟩
  obtain ⟨p, rfl⟩ : ∃ p : Nat, at0 = p := ⟨at0.toNat, by omega⟩
  have hp : p < s.size := by omega
  obtain ⟨c, hc⟩ : ∃ c : Int, byteAt s p = c := ⟨_, rfl⟩
  have hbd := byteAt_bd s p
  rw [hc] at hbd
  have hix : ∀ wx, (Instr.index 9 (.string s) (.int .i64 (p : Int))).run Tryz.prog wx = .ok (.int .u8 c) wx := fun wx => by rw [run_index_byte wx 9 s p hp Tryz.underlying9, hc]
  have hrs := Tryz.utf8_RuneStart c w hbd.1 (by omega)
  have hB : begB s p = Lib.runeStart c := by
    unfold begB Lib.runeStart
    rw [show ((p : Int)).toNat = p from rfl, hc]
    by_cases h : c / 64 = 2
    · rw [show (c / 64 != 2) = false from by simp [h]]; exact decide_eq_false (by omega)
    · rw [show (c / 64 != 2) = true from by simp [h]]; exact decide_eq_true (by omega)
  rw [hB]
  have hne : ((p : Int) == (s.size : Int)) = false := beq_eq_false_iff_ne.2 he
  clear hB hc
  go_enter Tryz.func13, Tryz.ntmps13
  go_wp2_with fail
  refine hrs.mono ?_
  rintro e w2 ⟨rfl, hww⟩
  obtain rfl := hww
  go_wp2
  go_ret
  exact ⟨rfl, rfl⟩
end Go.Proofs.YtifackdaifcfbaaGreatDoor

namespace Go.Proofs.YtifackdaifcfbaaGreatDoor
open Go.RowKit Plain1 Plain2 Strs Strs2 Lists Plain3 Plain5 Plain6 Plain9 Plain10 Plain11 Plain12 Plain13 Plain14 Plain16

theorem Env.below {w w' : World} {m : Int} (h : Env w m) (hb : Below w.heap.size w w') : Env w' m := by
  obtain ⟨⟨t, fr, h1⟩, ⟨t', fr', h2⟩⟩ := h.tabs
  refine ⟨⟨⟨t, fr, ?_⟩, ⟨t', fr', ?_⟩⟩, ?_, fun i z hz => ?_⟩
  · rw [hb.block _ (Array.getElem?_eq_some_iff.1 h1).1]; exact h1
  · rw [hb.block _ (Array.getElem?_eq_some_iff.1 h2).1]; exact h2
  · exact cell_keepF (hb.block _ (block_lt h.mx)) h.mx
  · exact cell_keepF (hb.block _ (block_lt (h.fo i z hz))) (h.fo i z hz)
theorem Env.far {w : World} {m : Int} (h : Env w m) {g : Nat} (hg : w.heap.size ≤ g) : Far g := by
  obtain ⟨⟨t, fr, h1⟩, ⟨t', fr', h2⟩⟩ := h.tabs
  have a1 := (Array.getElem?_eq_some_iff.1 h1).1
  have a2 := (Array.getElem?_eq_some_iff.1 h2).1
  have a3 := block_lt h.mx
  have a4 := block_lt (h.fo 120 88 (by simp [foldL]))
  exact ⟨by omega, by omega, by omega, by omega⟩
theorem EtCell.below {w w' : World} (h : EtCell w) (hb : Below w.heap.size w w') : EtCell w' := cell_keepF (hb.block _ (block_lt h)) h
theorem has60 {s : ByteArray} {p : Nat} (hp : p < s.size) : hasAt s p [60] = true ↔ byteAt s p = 60 := by
  rw [has_cons hp, has_nil]
  constructor
  · intro h
    refine (u8At_is 60 60 rfl).2 ?_
    simp only [Bool.and_true, beq_iff_eq] at h
    exact h.symm
  · intro h
    rw [(u8At_is 60 60 rfl).1 h]; rfl

set_option maxRecDepth 100000 in
set_option maxHeartbeats 8000000 in
theorem implNext_any (s : ByteArray) (at0 : Int) (closed : Bool) (w : World) (m : Int) (he : Env w m) (het : EtCell w) :
    Calls Tryz.prog 5 #[.string s, .int .i64 at0, .bool closed] w fun e w' => OutSays w (nextZ s at0 closed) e w' := by
  obtain ⟨W0, hW0⟩ : ∃ W0, w.alloc zOut = W0 := ⟨_, rfl⟩
  have HW0 : Hid (w.alloc (.cells #[.int .i64 0, .string ⟨#[]⟩, .string ⟨#[]⟩, .slice none 0 0, .int .i64 0, .int .i64 0] 26) = W0) := mkHidT hW0
  clear hW0
  have HEV := mkHidT he
  have HET := mkHidT het
  clear he het
  have HB0 := mkHidT (show Below w.heap.size w W0 by rw [← HW0.out]; exact (Below.refl _ _).alloc (Nat.le_refl _) _)
  have HSZ := mkHidT (show W0.heap.size = w.heap.size + 1 by rw [← HW0.out]; simp)
  have HZ0 := mkHidT (show W0.heap[w.heap.size]? = some zOut by rw [← HW0.out]; exact Below.heap_new _ _)
  by_cases h4 : 4000 < s.size
  · have hN : nextZ s at0 closed = codeOut 2 := by unfold nextZ; rw [if_pos h4]
    rw [hN]
    clear hN
    have h4' : (s.size : Int) > 4000 := by omega
    go_enter Tryz.func5, Tryz.ntmps5
    go_wp2
    refine bodyPost_ret (v := .agg #[.int .i64 0, .string ⟨#[]⟩, .string ⟨#[]⟩, .slice none 0 0, .int .i64 0, .int .i64 2]) (by simp [results, Tryz.results5, go_sem]) rfl ?_
    exact ⟨_, rfl, World.ownsRow_nil _ _ _ _, (Below.refl _ _).alloc (Nat.le_refl _) _⟩
  have h4' : ¬ (s.size : Int) > 4000 := by omega
  have HR := mkHidT (marksRight_any s W0 m (by omega) (HEV.out.below HB0.out).mx)
  have hb0 := fun w1 => begins_any s at0 w1 (by omega)
  by_cases hM : (scanAll s).2 < 0 ∧ fz s 0 [13] = -1
  · rw [decide_eq_true hM] at HR
    by_cases hb : begB s at0 = true
    · rw [hb] at hb0
      have hbb := of_decide_eq_true hb
      by_cases hE : at0 = s.size
      · have hN : nextZ s at0 closed = codeOut 10 := by unfold nextZ; rw [if_neg h4, if_neg (by omega), if_pos hE]
        rw [hN]
        clear hN hM hb hbb
        subst hE
        go_enter Tryz.func5, Tryz.ntmps5
        go_wp2_with fail
        rw [HW0.out]
        refine HR.out.mono ?_
        rintro e w1 ⟨rfl, hb⟩
        have HB1 := mkHidT (HB0.out.trans (hb.mono (by rw [HSZ.out]; omega)))
        have hz1 : w1.heap[w.heap.size]? = some zOut := by rw [hb.block w.heap.size (by rw [HSZ.out]; omega)]; exact HZ0.out
        have HZ1 := mkHidT hz1
        have HS1 := mkHidT (show w.heap.size + 1 ≤ w1.heap.size by have := hb.size; rw [HSZ.out] at this; exact this)
        obtain ⟨⟨c0, c1, c2, c3, c4, c5⟩, f0, f1, f2, f3, f4, f5⟩ := outcells hz1
        clear hb hz1 HR HB0 HZ0
        have hbg := hb0 w1
        clear hb0
        go_wp2_with fail
        refine hbg.mono ?_
        rintro e w2 ⟨rfl, hww⟩
        obtain rfl := hww.symm
        clear hbg
        go_wp2
        refine bodyPost_ret (v := .agg #[.int .i64 0, .string ⟨#[]⟩, .string ⟨#[]⟩, .slice none 0 0, .int .i64 0, .int .i64 10]) (by simp [results, Tryz.results5, go_sem, c0, c1, c2, c3, c4, c5]) rfl ?_
        exact code_put 10 HB1.out
      · obtain ⟨p, rfl⟩ : ∃ p : Nat, at0 = p := ⟨at0.toNat, by omega⟩
        have hp : p < s.size := by omega
        have hne : ((p : Int) == (s.size : Int)) = false := beq_eq_false_iff_ne.2 hE
        obtain ⟨T, hT⟩ : ∃ T, (if hasAt s p [60] = true then markZ s p else textZ s p closed) = T := ⟨_, rfl⟩
        have hN : nextZ s p closed = outOf T closed := by
          unfold nextZ
          have h3 := hbb.2.2
          rw [show ((p : Int)).toNat = p from rfl] at h3 ⊢
          rw [if_neg h4, if_neg (by omega), if_neg hE, if_neg (by omega), ← hT]
          by_cases h6 : byteAt s p = 60
          · rw [if_pos h6, if_pos ((has60 hp).2 h6)]
          · rw [if_neg h6, if_neg (fun h => h6 ((has60 hp).1 h))]
        have hfl : T.fl ≤ 3 := by rw [← hT]; split; exact markZ_le _ _; exact textZ_le _ _ _
        have hv0 : VB s 0 := VB_all hM.1
        have hs : s.size ≤ 1048576 := by omega
        have HT := mkHidT hT
        have HV := mkHidT hv0
        rw [hN]
        clear hN hb hbb hM hT hv0
        go_enter Tryz.func5, Tryz.ntmps5
        go_wp2_with fail
        rw [HW0.out]
        refine HR.out.mono ?_
        rintro e w1 ⟨rfl, hb⟩
        have HB1 := mkHidT (HB0.out.trans (hb.mono (by rw [HSZ.out]; omega)))
        have hz1 : w1.heap[w.heap.size]? = some zOut := by rw [hb.block w.heap.size (by rw [HSZ.out]; omega)]; exact HZ0.out
        have HZ1 := mkHidT hz1
        have HS1 := mkHidT (show w.heap.size + 1 ≤ w1.heap.size by have := hb.size; rw [HSZ.out] at this; exact this)
        obtain ⟨⟨c0, c1, c2, c3, c4, c5⟩, f0, f1, f2, f3, f4, f5⟩ := outcells hz1
        clear hb hz1 HR HB0 HZ0
        have hbg := hb0 w1
        clear hb0
        go_wp2_with fail
        refine hbg.mono ?_
        rintro e w2 ⟨rfl, hww⟩
        obtain rfl := hww.symm
        clear hbg
        obtain ⟨W2, hW2⟩ : ∃ W2, w1.alloc (.cells #[.string s, .int .i64 (p : Int)] 39) = W2 := ⟨_, rfl⟩
        have HW2 := mkHidT hW2
        have hB2 : Below w1.heap.size w1 W2 := by rw [← hW2]; exact (Below.refl _ _).alloc (Nat.le_refl _) _
        have hBw2 : Below w.heap.size w W2 := HB1.out.trans (hB2.mono (by have := HS1.out; omega))
        have hbx : ImBox W2 w1.heap.size s p := by rw [← hW2]; exact Below.heap_new _ _
        have hs2 : W2.heap.size = w1.heap.size + 1 := by rw [← hW2]; simp
        have htk := imToken_any (w := W2) (g := w1.heap.size) (s := s) (p := p) (m := m) closed hbx (HEV.out.below hBw2) (HEV.out.far (by have := HS1.out; omega)) HV.out hs (by omega)
        rw [HT.out] at htk
        have HTK := mkHidT htk
        have HB2 := mkHidT hBw2
        have HS2 := mkHidT hs2
        have HZ2 := mkHidT (show W2.heap[w.heap.size]? = some zOut by rw [hB2.block w.heap.size (by have := HS1.out; omega)]; exact HZ1.out)
        clear htk hB2 hBw2 hbx hs2 hW2 HT HV c0 c1 c2 c3 c4 c5 f0 f1 f2 f3 f4 f5
        go_wp2_with fail
        rw [HW2.out]
        refine HTK.out.mono ?_
        rintro e w3 ⟨kd, nm, tx, ao, an, ac, q, rfl, hb3, hq, hTT, hg⟩
        have hsz3 : w1.heap.size + 1 ≤ w3.heap.size := by have := hg.size; rw [HS2.out] at this; exact this
        have hB3 : Below w.heap.size w w3 := HB2.out.grown hg (by have := HS1.out; rw [HS2.out]; omega) (fun k hk => by have := Option.some.inj hk; have := HS1.out; omega)
        obtain ⟨W4, hW4⟩ : ∃ W4, w3.alloc (.cells #[.int .i64 kd, .string nm, .string tx, .slice ao an ac] 24) = W4 := ⟨_, rfl⟩
        have hB34 : Below w3.heap.size w3 W4 := by rw [← hW4]; exact (Below.refl _ _).alloc (Nat.le_refl _) _
        have hB4 : Below w.heap.size w W4 := hB3.trans (hB34.mono (by have := HS1.out; omega))
        have hs4 : w1.heap.size + 2 ≤ W4.heap.size := by rw [← hW4]; simp; omega
        have hb4 : ImBox W4 w1.heap.size s q := by rw [← hW4]; exact im_alloc hb3 _
        have hk4 : TkBox W4 w3.heap.size kd nm tx (.slice ao an ac) := by rw [← hW4]; exact tk_new _ _ _ _ _
        have hz4 : W4.heap[w.heap.size]? = some zOut := by rw [hB34.block w.heap.size (by have := HS1.out; omega), hg.block w.heap.size (by have := HS1.out; rw [HS2.out]; omega) (fun e => by have := Option.some.inj e; have := HS1.out; omega)]; exact HZ2.out
        have hE4 : EtCell W4 := HET.out.below hB4
        have hT4 : T.fl = 0 → kd = T.kind ∧ nm = T.name ∧ tx = T.text ∧ q = T.pos ∧ W4.ownsRow (w.heap.size + 1) 85 2 (.slice ao an ac) T.attrs.length (acells T.attrs) := fun h0 => by
          obtain ⟨e1, e2, e3, e4, hr⟩ := hTT h0
          refine ⟨e1, e2, e3, e4, ?_⟩
          rw [← hW4]; exact row_mono (hr.alloc _) (by have := HS1.out; rw [HS2.out]; omega)
        obtain ⟨⟨c0, c1, c2, c3, c4, c5⟩, f0, f1, f2, f3, f4, f5⟩ := outcells hz4
        obtain ⟨k0, k1, k2, k3, kf0, kf1, kf2, kf3⟩ := tkcells hk4
        obtain ⟨b0, b1, bf1⟩ := imcells hb4
        have HB4 := mkHidT hB4
        have HS4 := mkHidT hs4
        have HZ4 := mkHidT hz4
        have HE4 := mkHidT hE4
        have HT4 := mkHidT hT4
        have HW4 := mkHidT hW4
        clear hB3 hB34 hB4 hs4 hb4 hk4 hz4 hE4 hT4 hb3 hTT hg HTK
        have hcase : T.fl = 0 ∨ T.fl = 1 ∨ T.fl = 2 ∨ T.fl = 3 := by omega
        clear hfl
        rcases hcase with hfl | hfl | hfl | hfl
        · obtain ⟨e1, e2, e3, e4, hr⟩ := HT4.out hfl
          have HR := mkHidT hr
          have HO := mkHidT (show outOf T closed = ⟨T, T.pos, 0⟩ by unfold outOf; rw [if_pos hfl])
          have HE := mkHidT e4
          have HE1 := mkHidT e1
          have HE2 := mkHidT e2
          have HE3 := mkHidT e3
          rw [hfl, errV0]
          clear hr HT4 hfl e1 e2 e3 e4
          subst hW4
          go_wp2
          rw [HO.out]
          refine bodyPost_ret (v := .agg #[.int .i64 kd, .string nm, .string tx, .slice ao an ac, .int .i64 (q : Int), .int .i64 0]) (by simp [results, Tryz.results5, go_sem, c0, c1, c2, c3, c4, c5]) rfl ?_
          obtain rfl := HE.out
          obtain rfl := HE1.out
          obtain rfl := HE2.out
          obtain rfl := HE3.out
          exact out_put (O := ⟨T, T.pos, 0⟩) HB4.out HR.out (by omega)
        · have HO := mkHidT (show outOf T closed = codeOut (flCode 1 closed) by unfold outOf; rw [if_neg (by omega), hfl]; rfl)
          have hfc := faultCode_any W4 1 closed (by decide) (by decide) HE4.out
          obtain ⟨cc, hcc⟩ : ∃ cc, flCode 1 closed = cc := ⟨_, rfl⟩
          rw [hcc] at hfc HO
          rw [errV1] at hfc
          rw [hfl, errV1]
          have HFC := mkHidT hfc
          clear HT4 hfl hcc hfc c0 c1 c2 c3 c4 c5 f0 f1 f2 f3 f4 f5
          go_wp2_with fail
          refine HFC.out.mono ?_
          rintro e w5 ⟨rfl, hg5⟩
          have hz5 : w5.heap[w.heap.size]? = some zOut := by rw [hg5.block w.heap.size (by have := HS4.out; have := HS1.out; omega) (fun e => by cases e)]; exact HZ4.out
          have HB5 := mkHidT (HB4.out.grown hg5 (by have := HS4.out; have := HS1.out; omega) (fun k hk => by cases hk))
          obtain ⟨⟨c0, c1, c2, c3, c4, c5⟩, f0, f1, f2, f3, f4, f5⟩ := outcells hz5
          clear hz5 hg5 HFC
          go_wp2
          rw [HO.out]
          refine bodyPost_ret (v := .agg #[.int .i64 0, .string ⟨#[]⟩, .string ⟨#[]⟩, .slice none 0 0, .int .i64 0, .int .i64 cc]) (by simp [results, Tryz.results5, go_sem, c0, c1, c2, c3, c4, c5]) rfl ?_
          exact code_put cc HB5.out
        · have HO := mkHidT (show outOf T closed = codeOut (flCode 2 closed) by unfold outOf; rw [if_neg (by omega), hfl]; rfl)
          have hfc := faultCode_any W4 2 closed (by decide) (by decide) HE4.out
          obtain ⟨cc, hcc⟩ : ∃ cc, flCode 2 closed = cc := ⟨_, rfl⟩
          rw [hcc] at hfc HO
          rw [errV2] at hfc
          rw [hfl, errV2]
          have HFC := mkHidT hfc
          clear HT4 hfl hcc hfc c0 c1 c2 c3 c4 c5 f0 f1 f2 f3 f4 f5
          go_wp2_with fail
          refine HFC.out.mono ?_
          rintro e w5 ⟨rfl, hg5⟩
          have hz5 : w5.heap[w.heap.size]? = some zOut := by rw [hg5.block w.heap.size (by have := HS4.out; have := HS1.out; omega) (fun e => by cases e)]; exact HZ4.out
          have HB5 := mkHidT (HB4.out.grown hg5 (by have := HS4.out; have := HS1.out; omega) (fun k hk => by cases hk))
          obtain ⟨⟨c0, c1, c2, c3, c4, c5⟩, f0, f1, f2, f3, f4, f5⟩ := outcells hz5
          clear hz5 hg5 HFC
          go_wp2
          rw [HO.out]
          refine bodyPost_ret (v := .agg #[.int .i64 0, .string ⟨#[]⟩, .string ⟨#[]⟩, .slice none 0 0, .int .i64 0, .int .i64 cc]) (by simp [results, Tryz.results5, go_sem, c0, c1, c2, c3, c4, c5]) rfl ?_
          exact code_put cc HB5.out
        · have HO := mkHidT (show outOf T closed = codeOut (flCode 3 closed) by unfold outOf; rw [if_neg (by omega), hfl]; rfl)
          have hfc := faultCode_any W4 3 closed (by decide) (by decide) HE4.out
          obtain ⟨cc, hcc⟩ : ∃ cc, flCode 3 closed = cc := ⟨_, rfl⟩
          rw [hcc] at hfc HO
          rw [errV3] at hfc
          rw [hfl, errV3]
          have HFC := mkHidT hfc
          clear HT4 hfl hcc hfc c0 c1 c2 c3 c4 c5 f0 f1 f2 f3 f4 f5
          go_wp2_with fail
          refine HFC.out.mono ?_
          rintro e w5 ⟨rfl, hg5⟩
          have hz5 : w5.heap[w.heap.size]? = some zOut := by rw [hg5.block w.heap.size (by have := HS4.out; have := HS1.out; omega) (fun e => by cases e)]; exact HZ4.out
          have HB5 := mkHidT (HB4.out.grown hg5 (by have := HS4.out; have := HS1.out; omega) (fun k hk => by cases hk))
          obtain ⟨⟨c0, c1, c2, c3, c4, c5⟩, f0, f1, f2, f3, f4, f5⟩ := outcells hz5
          clear hz5 hg5 HFC
          go_wp2
          rw [HO.out]
          refine bodyPost_ret (v := .agg #[.int .i64 0, .string ⟨#[]⟩, .string ⟨#[]⟩, .slice none 0 0, .int .i64 0, .int .i64 cc]) (by simp [results, Tryz.results5, go_sem, c0, c1, c2, c3, c4, c5]) rfl ?_
          exact code_put cc HB5.out
    · have hb' : begB s at0 = false := by simpa using hb
      rw [hb'] at hb0
      have hbb : ¬ _ := of_decide_eq_false hb'
      have hN : nextZ s at0 closed = codeOut 1 := by
        unfold nextZ
        rw [if_neg h4]
        by_cases h1 : 0 ≤ (scanAll s).2 ∨ fz s 0 [13] ≠ -1 ∨ at0 < 0 ∨ (s.size : Int) < at0
        · rw [if_pos h1]
        · rw [if_neg h1, if_neg (by omega), if_pos (by omega)]
      rw [hN]
      clear hN hM hb hb' hbb
      go_enter Tryz.func5, Tryz.ntmps5
      go_wp2_with fail
      rw [HW0.out]
      refine HR.out.mono ?_
      rintro e w1 ⟨rfl, hb⟩
      have HB1 := mkHidT (HB0.out.trans (hb.mono (by rw [HSZ.out]; omega)))
      have hz1 : w1.heap[w.heap.size]? = some zOut := by rw [hb.block w.heap.size (by rw [HSZ.out]; omega)]; exact HZ0.out
      have HZ1 := mkHidT hz1
      have HS1 := mkHidT (show w.heap.size + 1 ≤ w1.heap.size by have := hb.size; rw [HSZ.out] at this; exact this)
      obtain ⟨⟨c0, c1, c2, c3, c4, c5⟩, f0, f1, f2, f3, f4, f5⟩ := outcells hz1
      clear hb hz1 HR HB0 HZ0
      have hbg := hb0 w1
      clear hb0
      go_wp2_with fail
      refine hbg.mono ?_
      rintro e w2 ⟨rfl, hww⟩
      obtain rfl := hww.symm
      clear hbg
      go_wp2
      refine bodyPost_ret (v := .agg #[.int .i64 0, .string ⟨#[]⟩, .string ⟨#[]⟩, .slice none 0 0, .int .i64 0, .int .i64 1]) (by simp [results, Tryz.results5, go_sem, c0, c1, c2, c3, c4, c5]) rfl ?_
      exact code_put 1 HB1.out
  · rw [decide_eq_false hM] at HR
    have hN : nextZ s at0 closed = codeOut 1 := by
      unfold nextZ
      rw [if_neg h4, if_pos (by omega)]
    rw [hN]
    clear hN hM hb0
    go_enter Tryz.func5, Tryz.ntmps5
    go_wp2_with fail
    rw [HW0.out]
    refine HR.out.mono ?_
    rintro e w1 ⟨rfl, hb⟩
    have HB1 := mkHidT (HB0.out.trans (hb.mono (by rw [HSZ.out]; omega)))
    have hz1 : w1.heap[w.heap.size]? = some zOut := by rw [hb.block w.heap.size (by rw [HSZ.out]; omega)]; exact HZ0.out
    have HZ1 := mkHidT hz1
    have HS1 := mkHidT (show w.heap.size + 1 ≤ w1.heap.size by have := hb.size; rw [HSZ.out] at this; exact this)
    obtain ⟨⟨c0, c1, c2, c3, c4, c5⟩, f0, f1, f2, f3, f4, f5⟩ := outcells hz1
    clear hb hz1 HR HB0 HZ0
    go_wp2
    refine bodyPost_ret (v := .agg #[.int .i64 0, .string ⟨#[]⟩, .string ⟨#[]⟩, .slice none 0 0, .int .i64 0, .int .i64 1]) (by simp [results, Tryz.results5, go_sem, c0, c1, c2, c3, c4, c5]) rfl ?_
    exact code_put 1 HB1.out
end Go.Proofs.YtifackdaifcfbaaGreatDoor
