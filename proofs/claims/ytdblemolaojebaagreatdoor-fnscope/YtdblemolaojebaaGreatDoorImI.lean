import Derived.Test.YtdblemolaojebaaGreatDoorImH
set_option maxRecDepth 100000
set_option maxHeartbeats 4000000
namespace Go.Proofs.YtdblemolaojebaaGreatDoor
open Go.RowKit Plain3 Plain5 Lists
theorem bJ2 {w : World} {B : Nat} {e : TypeId} {size : Nat} {v : Value} {n : Nat} {xs : List Value} (h : w.ownsRow B e size v n xs) : ∃ ao cv, v = .slice ao n cv := by
 rcases aZm h with ⟨rfl, rfl⟩ | ⟨g, cap, rfl⟩
 · exact ⟨_, _, rfl⟩
 · exact ⟨_, _, rfl⟩
theorem owns_leR {w : World} {base base' size n : Nat} {e : TypeId} {v : Value} {xs : List Value} (h : w.ownsRow base e size v n xs) (hb : base' ≤ base) : w.ownsRow base' e size v n xs := by
 obtain ⟨h1, h2⟩ := h
 refine ⟨h1, ?_⟩
 rcases h2 with h2 | ⟨g, cap, cur, a, b, c⟩
 · exact .inl h2
 · exact .inr ⟨g, cap, cur, a, Nat.le_trans hb b, c⟩
theorem block3 {w : World} {g : Nat} {a b c : Value} {t : TypeId} (h : w.heap[g]? = some (.cells #[a, b, c] t)) :
 w.cell? ⟨g, 0, none⟩ = some a ∧ w.cell? ⟨g, 1, none⟩ = some b ∧ w.cell? ⟨g, 2, none⟩ = some c ∧ w.frozen? ⟨g, 0, none⟩ = false ∧ w.frozen? ⟨g, 1, none⟩ = false ∧ w.frozen? ⟨g, 2, none⟩ = false := by
 simp [World.cell?, World.frozen?, h]
theorem grow_old {W W3 : World} {base k : Nat} {e : TypeId} {size : Nat} {v : Value} {n : Nat} {xs : List Value} {o : Obj} (hown : W.ownsRow base e size v n xs) (hg : (W.alloc o).grownBy W3 v.ownBlock) (hk : k < base) (hkW : k < W.heap.size) : W3.heap[k]? = W.heap[k]? := by
 rw [hg.block k (by simp; omega) (fun h => by have := (hown.lt k h.symm).1; omega)]
 exact Below.heap_alloc W o k hkW
theorem aYe (w : World) (s : ByteArray) (o : Obj) : ((w.alloc o).iter s 0).heap[w.heap.size + 1]? = some (.stringIter s 0) ∧ ((w.alloc o).iter s 0).heap[w.heap.size]? = some o ∧ Below w.heap.size w ((w.alloc o).iter s 0) ∧ w.heap.size + 2 ≤ ((w.alloc o).iter s 0).heap.size := by
 have hz : (w.alloc o).heap.size = w.heap.size + 1 := by simp
 refine ⟨?_, ?_, ?_, ?_⟩
 · have := World.iter_heap (w.alloc o) s 0
   rw [hz] at this
   exact this
 · unfold World.iter
   rw [Below.heap_alloc _ _ _ (by omega)]
   exact heap_alloc_new w o
 · exact ((Below.refl _ _).alloc (Nat.le_refl _) o).alloc (by omega) _
 · unfold World.iter
   simp
theorem bV6 (s : ByteArray) (w : World) (hs : s.size ≤ 4000) :
 Calls Tryz.prog 8 #[.string s] w fun e w' => ∃ v, e = .returned (.agg #[v, .int .i64 (if 0 ≤ (aQv s).2 then (aQv s).2 else 0), .int .i64 (if 0 ≤ (aQv s).2 then 3 else 0)]) ∧ w'.ownsRow w.heap.size 2 1 v (aQv s).1.length ((aQv s).1.map (Value.int .i64)) ∧ Below w.heap.size w w' := by
 obtain ⟨i0, hi, hz0, hz1, hz2⟩ := info_parts info64r
 obtain ⟨R, hR⟩ : ∃ R, aQv s = R := ⟨_, rfl⟩
 rw [hR]
 have HR : Hid (aQv s = R) := hR
 clear hR
 obtain ⟨at3, hat⟩ : ∃ x, (if 0 ≤ R.2 then R.2 else 0) = x := ⟨_, rfl⟩
 obtain ⟨co3, hco⟩ : ∃ x : Int, (if 0 ≤ R.2 then 3 else 0) = x := ⟨_, rfl⟩
 rw [hat, hco]
 have HAT : Hid ((if 0 ≤ R.2 then R.2 else 0) = at3) := hat
 have HCO : Hid ((if 0 ≤ R.2 then (3 : Int) else 0) = co3) := hco
 clear hat hco
 go_enter Tryz.func8, Tryz.ntmps8
 go_wp2
 go_loopw [3] (fun v wr => ∃ (f pos : Nat) (acc : List Int), pos ≤ s.size ∧ wr.heap[w.heap.size + 1]? = some (.stringIter s pos) ∧ wr.heap[w.heap.size]? = some (.cells #[.slice none 0 0, .int .i64 0, .int .i64 0] 43) ∧ scan s f pos acc = R ∧ s.size < pos + f ∧ acc.length ≤ pos ∧ wr.ownsRow (w.heap.size + 2) 2 1 v acc.length (acc.map (Value.int .i64)) ∧ Below w.heap.size w wr ∧ w.heap.size + 2 ≤ wr.heap.size) (fun _ wr => s.size - wr.iterPos (w.heap.size + 1))
 case atStart =>
  refine ⟨s.size + 1, 0, [], Nat.zero_le _, ?_, ?_, HR.out, by omega, Nat.le_refl _, World.ownsRow_nil _ _ _ _, ?_, ?_⟩
  · exact (aYe w s _).1
  · exact (aYe w s _).2.1
  · exact (aYe w s _).2.2.1
  · exact (aYe w s _).2.2.2
 case round =>
  obtain ⟨f, pos, acc, hpos, hit, hbox, hsc, hf, hal, hown, hb, hsz⟩ := hrel
  have HS : Hid (scan s f pos acc = R) := hsc
  clear hsc
  by_cases hlt : pos < s.size
  · obtain ⟨f', rfl⟩ : ∃ f', f = f' + 1 := ⟨f - 1, by omega⟩
    obtain ⟨c, n, hd⟩ : ∃ c n, Utf8.decode s pos = (c, n) := ⟨_, _, rfl⟩
    have hle := decode_le s pos
    have hnx : ∀ ty, (Instr.next (.pointer (some ⟨w.heap.size + 1, 0, none⟩)) true ty).run Tryz.prog wr = _ := fun ty => Lib.run_next_any_at wr (w.heap.size + 1) s pos ty hit hlt
    rw [hd] at hnx hle
    simp only at hnx hle
    obtain ⟨W2, hW2⟩ : ∃ W2, wr.iterAt (w.heap.size + 1) s (pos + n) = W2 := ⟨_, rfl⟩
    have hit2 := Lib.iterAt_heap wr (w.heap.size + 1) s pos (pos + n) hit
    have hb2 := Lib.below_iterAt hb (k := w.heap.size + 1) (by omega) s (pos + n)
    have hown2 := ownsRow_iterAt hown (k := w.heap.size + 1) (by omega) s (pos + n)
    have hbox2 := (Lib.iterAt_other wr (w.heap.size + 1) w.heap.size s (pos + n) (by omega)).trans hbox
    have hsz2 := Lib.iterAt_size wr (w.heap.size + 1) s (pos + n)
    rw [hW2] at hnx hit2 hb2 hown2 hbox2 hsz2
    rw [← hsz2] at hsz
    have HIT : Hid (wr.heap[w.heap.size + 1]? = some (.stringIter s pos)) := hit
    clear hW2 hsz2 hown hb hbox hit
    have hbr := broken_any (s.extract pos s.size) c W2
    by_cases hz : (aQo s pos).2 = 0
    · rcases test_bad hlt hd hz with ht | ⟨ht, hch⟩
      · rw [ht] at hbr
        have hbad := aKs (f := f') (acc := acc) hlt hz
        rw [HS.out] at hbad
        subst hbad
        have hat := HAT.out
        have hco := HCO.out
        rw [if_pos (by simp only []; omega)] at hat hco
        simp only at hat
        subst hat hco
        obtain ⟨k0, k1, k2, f0, f1, f2⟩ := block3 hbox2
        clear ht hbox2 hown2 hit2 hd hz HS HR HAT HCO hf hal
        go_wp2_with (go_at_call 14; refine hbr.mono ?_; rintro e w' ⟨rfl, rfl⟩)
        refine bodyPost_ret (v := .agg #[.slice none 0 0, .int .i64 pos, .int .i64 3]) (by simp [results, Tryz.results8, go_sem, k0, k1, k2]) rfl ⟨_, rfl, World.ownsRow_nil _ _ _ _, ?_⟩
        exact ((hb2.setCell (Nat.le_refl _) _).setCell (Nat.le_refl _) _).setCell (Nat.le_refl _) _
      · rw [ht] at hbr
        have hbad := aKs (f := f') (acc := acc) hlt hz
        rw [HS.out] at hbad
        subst hbad
        have hat := HAT.out
        have hco := HCO.out
        rw [if_pos (by simp only []; omega)] at hat hco
        simp only at hat
        subst hat hco
        obtain ⟨k0, k1, k2, f0, f1, f2⟩ := block3 hbox2
        clear ht hbox2 hown2 hit2 hd hz HS HR HAT HCO hf hal
        go_wp2_with (first | (go_at_call 14; refine hbr.mono ?_; rintro e w' ⟨rfl, rfl⟩) | (go_at_call 15; refine (aKt _ _).mono ?_; rintro e w' ⟨rfl, rfl⟩))
        refine bodyPost_ret (v := .agg #[.slice none 0 0, .int .i64 pos, .int .i64 3]) (by simp [results, Tryz.results8, go_sem, k0, k1, k2]) rfl ⟨_, rfl, World.ownsRow_nil _ _ _ _, ?_⟩
        exact ((hb2.setCell (Nat.le_refl _) _).setCell (Nat.le_refl _) _).setCell (Nat.le_refl _) _
    · obtain ⟨ht, hch, hr⟩ := test_good hlt hd hz
      rw [ht] at hbr
      have hgood := aVh (f := f') (acc := acc) hlt hz
      have hrl := bXa (s := s) (pos := pos) hz
      rw [HS.out, hr] at hgood
      rw [hr] at hrl hz
      simp only at hgood hrl hz
      have HG : Hid (R = scan s f' (pos + n) (acc ++ [(c : Int)])) := hgood
      have HI : Hid (W2.heap[w.heap.size + 1]? = some (.stringIter s (pos + n))) := hit2
      have HBx : Hid (W2.heap[w.heap.size]? = some (.cells #[.slice none 0 0, .int .i64 0, .int .i64 0] 43)) := hbox2
      clear ht hd hr hgood HS hit2 hbox2
      go_wp2_with (first | (go_at_call 14; refine hbr.mono ?_; rintro e w' ⟨rfl, rfl⟩) | (go_at_call 15; refine (aKt _ _).mono ?_; rintro e w' ⟨rfl, rfl⟩) | (at_builtin; refine wpList_append_own _ rfl _ _ 41 rfl (w.heap.size + 2) 2 i0 (.int .i64 0) 1 8 Tryz.underlying41 hi hz0 hz1 hz2 rfl (by decide) _ _ _ rfl (hown2.alloc _) ⟨_, 0, none⟩ 1 1 [.int .i64 (c : Int)] rfl rfl ?c1 ?c2 ?c3 ?c4 ?c5 ?_))
      case c1 => exact cell_one_new _ _ _
      case c2 => intro u hu; simp at hu; subst hu; rfl
      case c3 => unfold maxLen; omega
      case c4 => omega
      case c5 => simp; omega
      intro v' w3 hown' hgrow _
      have hb3 : Below w.heap.size w w3 := (hb2.alloc (by omega) _).grown hgrow (by simp; omega) (fun k hk => by have := (hown2.lt k hk).1; omega)
      have hit3 : w3.heap[w.heap.size + 1]? = some (.stringIter s (pos + n)) := (grow_old hown2 hgrow (by omega) (by omega)).trans HI.out
      have hbox3 : w3.heap[w.heap.size]? = some (.cells #[.slice none 0 0, .int .i64 0, .int .i64 0] 43) := (grow_old hown2 hgrow (by omega) (by omega)).trans HBx.out
      have hsz3 : w.heap.size + 2 ≤ w3.heap.size := by have := hgrow.size; simp at this; omega
      have H3 : Hid (w3.heap[w.heap.size + 1]? = some (.stringIter s (pos + n))) := hit3
      have HX3 : Hid (w3.heap[w.heap.size]? = some (.cells #[.slice none 0 0, .int .i64 0, .int .i64 0] 43)) := hbox3
      clear hgrow hown2 hb2 hit3 hbox3 hnx hbr
      go_wp2
      go_roundw
      case rel =>
       refine ⟨f', pos + n, acc ++ [(c : Int)], by omega, H3.out, HX3.out, HG.out.symm, by omega, by simp; omega, ?_, hb3, hsz3⟩
       simpa using hown'
      case measure => rw [iterPos_of H3.out, iterPos_of HIT.out]; omega
  · have hnx : ∀ ty, (Instr.next (.pointer (some ⟨w.heap.size + 1, 0, none⟩)) true ty).run Tryz.prog wr = _ := fun ty => Lib.run_next_end_at wr (w.heap.size + 1) s pos ty hit hlt
    have he := aWh (f := f) (acc := acc) (show s.size ≤ pos by omega)
    rw [HS.out] at he
    subst he
    have hat := HAT.out
    have hco := HCO.out
    rw [if_neg (by simp only []; omega)] at hat hco
    subst hat hco
    obtain ⟨k0, k1, k2, f0, f1, f2⟩ := block3 hbox
    obtain ⟨ao, cv, hv⟩ := bJ2 hown
    subst hv
    clear hbox hit HS HR HAT HCO hf hal
    go_wp2
    refine bodyPost_ret (v := .agg #[.slice ao acc.length cv, .int .i64 0, .int .i64 0]) (by simp [results, Tryz.results8, go_sem, k0, k1, k2]) rfl ⟨_, rfl, ?_, ?_⟩
    · have hq : w.heap.size < w.heap.size + 2 := by omega
      exact owns_leR (ownsRow_setCell_below (ownsRow_setCell_below (ownsRow_setCell_below hown hq _) hq _) hq _) (by omega)
    · exact ((hb.setCell (Nat.le_refl _) _).setCell (Nat.le_refl _) _).setCell (Nat.le_refl _) _
theorem aWn (s : ByteArray) (w : World) :
 Calls Tryz.prog 8 #[.string s] w fun e w' => ∃ v, e = .returned (.agg #[v, .int .i64 (rAt s), .int .i64 (bQj s)]) ∧ w'.ownsRow w.heap.size 2 1 v (bV0 s).length ((bV0 s).map (Value.int .i64)) ∧ Below w.heap.size w w' := by
 by_cases hbig : 4000 < s.size
 · have e1 : bV0 s = [] := by unfold bV0; rw [if_pos hbig]
   have e2 : rAt s = 0 := by unfold rAt; rw [if_pos hbig]
   have e3 : bQj s = 2 := by unfold bQj; rw [if_pos hbig]
   rw [e1, e2, e3]
   clear e1 e2 e3
   go_enter Tryz.func8, Tryz.ntmps8
   go_wp2
   refine bodyPost_ret (v := .agg #[.slice none 0 0, .int .i64 0, .int .i64 2]) (by simp [results, Tryz.results8, go_sem]) rfl ⟨_, rfl, World.ownsRow_nil _ _ _ _, ?_⟩
   exact bAl
 · have := bV6 s w (by omega)
   unfold bV0 rAt bQj
   rw [if_neg hbig, if_neg hbig, if_neg hbig]
   exact this
open Go.RowKit Lists Plain5 Plain9
theorem fld2 (ao : Option Addr) (an ac : Nat) (a b : Int) (w : World) : (Instr.field 43 (.agg #[.slice ao an ac, .int .i64 a, .int .i64 b]) 2).run Tryz.prog w = .ok (.int .i64 b) w := by kernel_rfl
theorem has13 (s : ByteArray) : Lib.contains s.data.toList [13] = decide (fz s 0 [13] ≠ -1) := by
 have h := aWo s 0 [13]
 have hr : rest s 0 = s.data.toList := by simp [rest]
 rw [hr] at h
 have hg := Lib.index_ge s.data.toList [13]
 unfold Lib.contains
 by_cases h0 : fz s 0 [13] = -1
 · have := h.1 h0; simp [h0, this]
 · have : ¬ Lib.index s.data.toList [13] = -1 := fun e => h0 (h.2 e)
   simp [h0]; omega
theorem aYq (s : ByteArray) (w : World) (m : Int) (h4 : s.size ≤ 4000) (hm : w.cell? ⟨1, 0, none⟩ = some (.int .i64 m)) :
 Calls Tryz.prog 70 #[.string s] w fun e w' => e = .returned (.bool (decide ((aQv s).2 < 0 ∧ fz s 0 [13] = -1))) ∧ Below w.heap.size w w' := by
 have HM := aQ0 hm
 have hfd := fld2
 have HR := aQ0 (aWn s w)
 have hcode : bQj s = if 0 ≤ (aQv s).2 then 3 else 0 := by unfold bQj; rw [if_neg (by omega)]
 obtain ⟨z, hz⟩ : ∃ z, (aQv s).2 = z := ⟨_, rfl⟩
 rw [hz] at hcode ⊢
 obtain ⟨c, hc⟩ : ∃ c, bQj s = c := ⟨_, rfl⟩
 obtain ⟨a, ha⟩ : ∃ a, rAt s = a := ⟨_, rfl⟩
 rw [hc] at hcode
 rw [hc, ha] at HR
 clear hm hc ha hz
 by_cases h0 : 0 ≤ z
 · rw [if_pos h0] at hcode
   subst hcode
   have hD : decide (z < 0 ∧ fz s 0 [13] = -1) = false := decide_eq_false (by omega)
   rw [hD]
   clear hD
   go_enter Tryz.func70, Tryz.ntmps70
   go_wp2_with fail
   refine HR.out.mono ?_
   rintro e w1 ⟨v, rfl, hr, hb⟩
   obtain ⟨ao, an, ac, rfl⟩ := bQe hr
   have HB := aQ0 hb
   clear hr hb HR
   go_wp2
   go_ret
   exact ⟨rfl, HB.out⟩
 · rw [if_neg h0] at hcode
   subst hcode
   have hD : decide (z < 0 ∧ fz s 0 [13] = -1) = !decide (fz s 0 [13] ≠ -1) := by
    by_cases hf : fz s 0 [13] = -1
    · simp [hf]; omega
    · simp [hf]
   have hcn := fun w1 hx => Tryz.strings_Contains s ⟨#[13]⟩ m w1 (by omega) hx
   simp only [has13] at hcn
   obtain ⟨B, hB⟩ : ∃ B, decide (fz s 0 [13] ≠ -1) = B := ⟨_, rfl⟩
   rw [hB] at hD
   simp only [hB] at hcn
   rw [hD]
   clear hD hB
   go_enter Tryz.func70, Tryz.ntmps70
   go_wp2_with fail
   refine HR.out.mono ?_
   rintro e w1 ⟨v, rfl, hr, hb⟩
   obtain ⟨ao, an, ac, rfl⟩ := bQe hr
   have HB := aQ0 hb
   have hc1 := hcn w1 ((hb.cell (p := ⟨1, 0, none⟩) (aQf HM.out)).trans HM.out)
   clear hr hb HR hcn
   go_wp2_with fail
   refine hc1.mono ?_
   rintro e w2 ⟨rfl, hww⟩
   obtain rfl := hww
   go_wp2
   go_ret
   exact ⟨rfl, HB.out⟩
theorem Env.below {w w' : World} {m : Int} (h : Env w m) (hb : Below w.heap.size w w') : Env w' m := by
 obtain ⟨⟨t, fr, h1⟩, ⟨t', fr', h2⟩⟩ := h.tabs
 refine ⟨⟨⟨t, fr, ?_⟩, ⟨t', fr', ?_⟩⟩, ?_, fun i z hz => ?_⟩
 · rw [hb.block _ (gLt h1)]; exact h1
 · rw [hb.block _ (gLt h2)]; exact h2
 · exact aZ4 (hb.block _ (aQf h.mx)) h.mx
 · exact aZ4 (hb.block _ (aQf (h.fo i z hz))) (h.fo i z hz)
theorem Env.far {w : World} {m : Int} (h : Env w m) {g : Nat} (hg : w.heap.size ≤ g) : Far g := by
 obtain ⟨⟨t, fr, h1⟩, ⟨t', fr', h2⟩⟩ := h.tabs
 have a1 := (gLt h1)
 have a2 := (gLt h2)
 have a3 := aQf h.mx
 have a4 := aQf (h.fo 120 88 (by simp [bZ0]))
 exact ⟨by omega, by omega, by omega, by omega⟩
theorem aV3.below {w w' : World} (h : aV3 w) (hb : Below w.heap.size w w') : aV3 w' := aZ4 (hb.block _ (aQf h)) h
end Go.Proofs.YtdblemolaojebaaGreatDoor
