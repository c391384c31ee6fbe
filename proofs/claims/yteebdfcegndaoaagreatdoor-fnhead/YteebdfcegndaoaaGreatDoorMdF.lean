/- The model's Next behind its limits (l02Next). -/
/- The contracts of the model's l01Runes and Runes: the characters of a text. -/
import Derived.Test.YteebdfcegndaoaaGreatDoorFreN
import Derived.Test.YteebdfcegndaoaaGreatDoorMdE
import Derived.Test.YteebdfcegndaoaaGreatDoorPlB
import Derived.Test.YteebdfcegndaoaaGreatDoorMdA
import Derived.Test.YteebdfcegndaoaaGreatDoorPlA
import Derived.WalkKit
import Derived.WalkSpells
namespace Go.Proofs.YteebdfcegndaoaaGreatDoor
open Go.RowKit Plain1 Strs Strs2 Lists Plain3 Plain5 Plain6 Plain9 Plain10 Plain11 Plain12 Plain16

theorem out_drew {w W : World} {O : Out} {e : Ending} (h : OutSays w O e W) : OutSays w O e W.drew := by
  obtain ⟨v, he, hr, hb⟩ := h
  have hg : ∀ r, W.grownBy W.drew r := fun r => ⟨rfl, rfl, rfl, Nat.le_refl _, fun _ _ _ => rfl⟩
  refine ⟨v, he, ?_, hb.drew⟩
  by_cases hv : v.ownBlock = none
  · exact hr.kept (hg none) (.inl hv)
  · exact hr.kept (hg none) (.inr hv)
set_option maxHeartbeats 4000000 in
theorem l02Next_any (s : ByteArray) (p : Nat) (closed : Bool) (w : World) (hs : s.size ≤ 1048576) (hp : p < s.size) :
    Calls Tryz.prog 34 #[.string s, .int .i64 p, .bool closed] w fun e w' => OutSays w (outOf (if byteAt s p = 60 then markZ s p else textZ s p closed) closed) e w' := by
  obtain ⟨W0, hW0⟩ : ∃ W0, w.alloc zOut = W0 := ⟨_, rfl⟩
  have HW0 : Hid (w.alloc (.cells #[.int .i64 0, .string ⟨#[]⟩, .string ⟨#[]⟩, .slice none 0 0, .int .i64 0, .int .i64 0] 29) = W0) := mkHidT hW0
  clear hW0
  obtain ⟨c, hc⟩ : ∃ c : Int, byteAt s p = c := ⟨_, rfl⟩
  have hix : ∀ wx, (Instr.index 9 (.string s) (.int .i64 (p : Int))).run Tryz.prog wx = .ok (.int .u8 c) wx := fun wx => by rw [run_index_byte wx 9 s p hp Tryz.underlying9, hc]
  have hB0 : Below w.heap.size w W0 := by rw [← HW0.out]; exact (Below.refl _ _).alloc (Nat.le_refl _) _
  have hsz : W0.heap.size = w.heap.size + 1 := by rw [← HW0.out]; simp
  have hZ0 : W0.heap[w.heap.size]? = some zOut := by rw [← HW0.out]; exact Below.heap_new _ _
  have HB0 := mkHidT hB0
  have HSZ := mkHidT hsz
  have HZ0 := mkHidT hZ0
  have h60 := hc
  clear hB0 hsz hZ0 hc
  by_cases hcc : c = 60
  · rw [h60, if_pos hcc]
    subst hcc
    obtain ⟨W1, hW1⟩ : ∃ W1, W0.alloc (.cells #[.string s, .int .i64 (p : Int), .bool false, .bool false, .bool false] 114) = W1 := ⟨_, rfl⟩
    have HW1 := mkHidT hW1
    have hbx : ScBox W1 (w.heap.size + 1) s ⟨p, 0⟩ := by
      rw [← hW1, ← HSZ.out]; exact Below.heap_new _ _
    have hB1 : Below w.heap.size w W1 := by rw [← hW1]; exact HB0.out.alloc (by rw [HSZ.out]; omega) _
    have hs1 : W1.heap.size = w.heap.size + 2 := by rw [← hW1]; simp [HSZ.out]
    have hZ1 : W1.heap[w.heap.size]? = some zOut := by rw [← hW1, heap_alloc_old W0 _ (by rw [HSZ.out]; omega)]; exact HZ0.out
    have HM := mkHidT (mark_ok W1 (w.heap.size + 1) s p hbx hs hp h60)
    have hfl := markZ_le s p
    obtain ⟨T, hT⟩ : ∃ T, markZ s p = T := ⟨_, rfl⟩
    rw [hT] at HM hfl ⊢
    have HB1 := mkHidT hB1
    have HS1 := mkHidT hs1
    have HZ1 := mkHidT hZ1
    clear hT h60 hW1 hbx hB1 hs1 hZ1 HB0 HSZ HZ0
    go_enter Tryz.func34, Tryz.ntmps34
    go_wp2_with fail
    rw [HW0.out, HW1.out]
    refine HM.out.mono ?_
    rintro e w2 ⟨kd, nm, tx, ao, an, ac, q, rfl, hb, hq, hTT, hg⟩
    have hlt2 : w.heap.size + 2 ≤ w2.heap.size := by have := hg.size; rw [HS1.out] at this; exact this
    have hB2 : Below w.heap.size w w2 := HB1.out.grown hg (by rw [HS1.out]; omega) (fun k hk => by have := Option.some.inj hk; omega)
    have hZ2 : w2.heap[w.heap.size]? = some zOut := by rw [hg.block w.heap.size (by rw [HS1.out]; omega) (fun e => by have := Option.some.inj e; omega)]; exact HZ1.out
    obtain ⟨W3, hW3⟩ : ∃ W3, w2.alloc (.cells #[.int .i64 kd, .string nm, .string tx, .slice ao an ac] 27) = W3 := ⟨_, rfl⟩
    have hb3 : ScBox W3 (w.heap.size + 1) s ⟨q, T.fl⟩ := by rw [← hW3]; exact sc_alloc hb _
    have ht3 : TkBox W3 w2.heap.size kd nm tx (.slice ao an ac) := by rw [← hW3]; exact tk_new _ _ _ _ _
    have hz3 : W3.heap[w.heap.size]? = some zOut := by rw [← hW3, heap_alloc_old _ _ (by omega)]; exact hZ2
    have hB3 : Below w.heap.size w W3 := by rw [← hW3]; exact hB2.alloc (by omega) _
    have hT3 : T.fl = 0 → kd = T.kind ∧ nm = T.name ∧ tx = T.text ∧ q = T.pos ∧ W3.ownsRow (w.heap.size + 1) 109 2 (.slice ao an ac) T.attrs.length (acells T.attrs) := fun h0 => by
      obtain ⟨e1, e2, e3, e4, hr⟩ := hTT h0
      refine ⟨e1, e2, e3, e4, ?_⟩
      rw [← hW3]; exact row_mono (hr.alloc _) (by rw [HS1.out]; omega)
    subst hW3
    have HB3 := mkHidT hB3
    have HT3 := mkHidT hT3
    obtain ⟨⟨c0, c1, c2, c3, c4, c5⟩, f0, f1, f2, f3, f4, f5⟩ := outcells hz3
    obtain ⟨k0, k1, k2, k3, kf0, kf1, kf2, kf3⟩ := tkcells ht3
    obtain ⟨b0, b1, b2, b3, b4, bf1, bf2, bf3, bf4⟩ := block5 hb3
    clear hz3 ht3 hb3 hB3 hT3 hb hTT hg hB2 hZ2 HB1 HS1 HZ1 HM
    have hcase : T.fl = 0 ∨ T.fl = 1 ∨ T.fl = 2 ∨ T.fl = 3 := by omega
    clear hfl
    rcases hcase with hfl | hfl | hfl | hfl
    · rw [hfl] at b2 b3 b4
      obtain ⟨e1, e2, e3, e4, hr⟩ := HT3.out hfl
      have HR := mkHidT hr
      have HO := mkHidT (show outOf T closed = ⟨T, T.pos, 0⟩ by unfold outOf; rw [if_pos hfl])
      have HE := mkHidT e4
      have HE1 := mkHidT e1
      have HE2 := mkHidT e2
      have HE3 := mkHidT e3
      clear hr HT3 hfl e1 e2 e3 e4
      go_wp2
      go_region
      go_wp2
      rw [HO.out]
      refine bodyPost_ret (v := .agg #[.int .i64 kd, .string nm, .string tx, .slice ao an ac, .int .i64 (q : Int), .int .i64 0]) (by simp [results, Tryz.results34, go_sem, c0, c1, c2, c3, c4, c5]) rfl ?_
      obtain rfl := HE.out
      obtain rfl := HE1.out
      obtain rfl := HE2.out
      obtain rfl := HE3.out
      exact out_drew (out_put (O := ⟨T, T.pos, 0⟩) HB3.out HR.out (by omega))
    · rw [hfl] at b2 b3 b4
      have HO := mkHidT (show outOf T closed = codeOut (if closed = true then 3 else 4) by unfold outOf; rw [if_neg (by omega), hfl]; cases closed <;> rfl)
      clear HT3 hfl
      cases closed with
      | true =>
        go_wp2
        rw [HO.out]
        refine bodyPost_ret (v := .agg #[.int .i64 0, .string ⟨#[]⟩, .string ⟨#[]⟩, .slice none 0 0, .int .i64 0, .int .i64 3]) (by simp [results, Tryz.results34, go_sem, c0, c1, c2, c3, c4, c5]) rfl ?_
        exact code_put 3 HB3.out
      | false =>
        go_wp2
        rw [HO.out]
        refine bodyPost_ret (v := .agg #[.int .i64 0, .string ⟨#[]⟩, .string ⟨#[]⟩, .slice none 0 0, .int .i64 0, .int .i64 4]) (by simp [results, Tryz.results34, go_sem, c0, c1, c2, c3, c4, c5]) rfl ?_
        exact code_put 4 HB3.out
    · rw [hfl] at b2 b3 b4
      have HO := mkHidT (show outOf T closed = codeOut 3 by unfold outOf; rw [if_neg (by omega), hfl]; cases closed <;> rfl)
      clear HT3 hfl
      go_wp2
      rw [HO.out]
      refine bodyPost_ret (v := .agg #[.int .i64 0, .string ⟨#[]⟩, .string ⟨#[]⟩, .slice none 0 0, .int .i64 0, .int .i64 3]) (by simp [results, Tryz.results34, go_sem, c0, c1, c2, c3, c4, c5]) rfl ?_
      exact code_put 3 HB3.out
    · rw [hfl] at b2 b3 b4
      have HO := mkHidT (show outOf T closed = codeOut 6 by unfold outOf; rw [if_neg (by omega), hfl]; rfl)
      clear HT3 hfl
      go_wp2
      rw [HO.out]
      refine bodyPost_ret (v := .agg #[.int .i64 0, .string ⟨#[]⟩, .string ⟨#[]⟩, .slice none 0 0, .int .i64 0, .int .i64 6]) (by simp [results, Tryz.results34, go_sem, c0, c1, c2, c3, c4, c5]) rfl ?_
      exact code_put 6 HB3.out
  · rw [h60, if_neg hcc]
    have hcn : (c != 60) = true := by simp; omega
    have ht := l02Text_any s p closed W0 hs (by omega)
    obtain ⟨O, hO⟩ : ∃ O, outOf (textZ s p closed) closed = O := ⟨_, rfl⟩
    rw [hO] at ht ⊢
    clear hO h60 hcc
    go_enter Tryz.func34, Tryz.ntmps34
    go_wp2_with fail
    rw [HW0.out]
    refine ht.mono ?_
    rintro e w1 ⟨v, rfl, hr, hb⟩
    clear ht
    obtain ⟨ao, an, ac, rfl⟩ := row_slice hr
    have HR := mkHidT hr
    have HB := mkHidT hb
    have hz : w1.heap[w.heap.size]? = some zOut := by rw [hb.block w.heap.size (by rw [HSZ.out]; omega)]; exact HZ0.out
    obtain ⟨⟨c0, c1, c2, c3, c4, c5⟩, f0, f1, f2, f3, f4, f5⟩ := outcells hz
    clear hr hb hz
    go_wp2
    refine bodyPost_ret (v := .agg #[.int .i64 O.tk.kind, .string O.tk.name, .string O.tk.text, .slice ao an ac, .int .i64 O.at1, .int .i64 O.code]) (by simp [results, Tryz.results34, go_sem, c0, c1, c2, c3, c4, c5]) rfl ?_
    exact out_put (HB0.out.trans (HB.out.mono (by rw [HSZ.out]; omega))) HR.out (by rw [HSZ.out]; omega)
end Go.Proofs.YteebdfcegndaoaaGreatDoor

namespace Go.Proofs.YteebdfcegndaoaaGreatDoor
open Go.RowKit Plain1 Strs Plain3 Plain5 Lists

theorem info64' : (Tryz.prog.info? 2).map (fun i => (i.zero, i.size, i.bytes)) = some (some (.int .i64 0), 1, 8) := by kernel_rfl

set_option maxHeartbeats 1000000 in
theorem l01Runes_any (s : ByteArray) (w : World) (hs : s.size ≤ 1048576) :
    Calls Tryz.prog 32 #[.string s] w fun e w' => ∃ v, e = .returned (.tuple #[v, .int .i64 (scanAll s).2]) ∧ w'.ownsRow w.heap.size 2 1 v (scanAll s).1.length ((scanAll s).1.map (Value.int .i64)) ∧ Below w.heap.size w w' := by
  obtain ⟨i0, hi, hz0, hz1, hz2⟩ := info_parts info64'
  generalize hR : scanAll s = R
  have HR : Hid (scanAll s = R) := hR
  clear hR
  go_enter Tryz.func32, Tryz.ntmps32
  go_wp2
  go_loopw [4, 5] (fun v i wr => ∃ (f pos : Nat) (acc : List Int), pos ≤ s.size ∧ i = .int .i64 pos ∧ scan s f pos acc = R ∧ s.size < pos + f ∧ acc.length ≤ pos ∧ wr.ownsRow w.heap.size 2 1 v acc.length (acc.map (Value.int .i64)) ∧ Below w.heap.size w wr) (fun _ i _ => s.size - (intOf i).toNat)
  case atStart => exact ⟨s.size + 1, 0, [], Nat.zero_le _, rfl, HR.out, by omega, Nat.le_refl _, World.ownsRow_lit w _ 0 (Nat.le_refl _) (by unfold maxLen; omega) (by simp), (Below.refl _ _).alloc (Nat.le_refl _) _⟩
  case round =>
    obtain ⟨f, pos, acc, hpos, rfl, hsc, hf, hal, hown, hb⟩ := hrel
    have HS : Hid (scan s f pos acc = R) := hsc
    clear hsc
    have hsz := hb.size
    by_cases hlt : pos < s.size
    · obtain ⟨f', rfl⟩ : ∃ f', f = f' + 1 := ⟨f - 1, by omega⟩
      obtain ⟨r, hr⟩ : ∃ r, runeZ s pos = r := ⟨_, rfl⟩
      have hcall := rune_any s pos wr hlt hs
      rw [hr] at hcall
      obtain ⟨c, n⟩ := r
      simp only at hcall
      by_cases hn : n = 0
      · subst hn
        have HRr : Hid (runeZ s pos = (c, 0)) := hr
        clear hr
        go_wp2_with (first | (go_at_call 59; refine hcall.mono ?_; rintro e w' ⟨rfl, rfl⟩))
        have hbad := scan_bad (f := f') (acc := acc) hlt (by rw [HRr.out])
        rw [HS.out] at hbad
        subst hbad
        go_ret2
        exact ⟨_, rfl, World.ownsRow_nil _ _ _ _, hb⟩
      · have hgood := scan_good (f := f') (acc := acc) hlt (by rw [hr]; exact hn)
        have hle := rune_le (s := s) (pos := pos) (by rw [hr]; exact hn)
        rw [HS.out, hr] at hgood
        rw [hr] at hle
        simp only at hgood hle
        have HG : Hid (R = scan s f' (pos + n) (acc ++ [c])) := hgood
        have hn' : ((n : Int) == 0) = false := by simp; omega
        clear hgood hr
        go_wp2_with (first | (go_at_call 59; refine hcall.mono ?_; rintro e w' ⟨rfl, rfl⟩) | (at_builtin; refine wpList_append_own _ rfl _ _ 72 rfl w.heap.size 2 i0 (.int .i64 0) 1 8 Tryz.underlying72 hi hz0 hz1 hz2 rfl (by decide) _ _ _ rfl (hown.alloc _) ⟨_, 0, none⟩ 1 1 [.int .i64 c] rfl rfl ?c1 ?c2 ?c3 ?c4 ?c5 ?_))
        case c1 => exact cell_one_new _ _ _
        case c2 => intro u hu; simp at hu; subst hu; rfl
        case c3 => unfold maxLen; omega
        case c4 => omega
        case c5 => simp; omega
        intro v' w2 hown' hgrow _
        have hb2 : Below w.heap.size w w2 := (hb.alloc hsz _).grown hgrow (by simp; omega) (fun k hk => (hown.lt k hk).1)
        clear hgrow hown hb
        go_wp2
        go_roundw
        case rel =>
          refine ⟨f', pos + n, acc ++ [c], by omega, by go_num, HG.out.symm, by omega, by simp; omega, ?_, hb2⟩
          simpa using hown'
        case measure => simp [intOf]; omega
    · have he := scan_end (f := f) (acc := acc) (show s.size ≤ pos by omega)
      rw [HS.out] at he
      subst he
      go_wp2
      go_ret2
      exact ⟨_, rfl, hown, hb⟩

theorem owns_slice' {w : World} {B : Nat} {e : TypeId} {size : Nat} {v : Value} {n : Nat} {xs : List Value} (h : w.ownsRow B e size v n xs) : ∃ ao cv, v = .slice ao n cv := by
  rcases owns_forms h with ⟨rfl, rfl⟩ | ⟨g, cap, rfl⟩
  · exact ⟨_, _, rfl⟩
  · exact ⟨_, _, rfl⟩
theorem owns_le {w : World} {base base' size n : Nat} {e : TypeId} {v : Value} {xs : List Value} (h : w.ownsRow base e size v n xs) (hb : base' ≤ base) : w.ownsRow base' e size v n xs := by
  obtain ⟨h1, h2⟩ := h
  refine ⟨h1, ?_⟩
  rcases h2 with h2 | ⟨g, cap, cur, a, b, c⟩
  · exact .inl h2
  · exact .inr ⟨g, cap, cur, a, Nat.le_trans hb b, c⟩

/-- A box of three cells that the call laid ahead of a callee: its cells behind it; and below it all is as it was. -/
theorem box3 {w w1 : World} {a b c : Value} {t : TypeId} (hb : Below (w.alloc (.cells #[a, b, c] t)).heap.size (w.alloc (.cells #[a, b, c] t)) w1) :
    w1.cell? ⟨w.heap.size, 0, none⟩ = some a ∧ w1.cell? ⟨w.heap.size, 1, none⟩ = some b ∧ w1.cell? ⟨w.heap.size, 2, none⟩ = some c ∧
    w1.frozen? ⟨w.heap.size, 0, none⟩ = false ∧ w1.frozen? ⟨w.heap.size, 1, none⟩ = false ∧ w1.frozen? ⟨w.heap.size, 2, none⟩ = false ∧ w.heap.size < w1.heap.size ∧ Hid (Below w.heap.size w w1) := by
  have hz := hb.size
  simp at hz
  exact ⟨(hb.cell (p := ⟨w.heap.size, 0, none⟩) (by simp)).trans (by simp), (hb.cell (p := ⟨w.heap.size, 1, none⟩) (by simp)).trans (by simp), (hb.cell (p := ⟨w.heap.size, 2, none⟩) (by simp)).trans (by simp),
    (hb.frozen (p := ⟨w.heap.size, 0, none⟩) (by simp)).trans (by simp), (hb.frozen (p := ⟨w.heap.size, 1, none⟩) (by simp)).trans (by simp), (hb.frozen (p := ⟨w.heap.size, 2, none⟩) (by simp)).trans (by simp), by omega,
    ((Below.refl _ _).alloc (Nat.le_refl _) _).trans (hb.mono (by simp))⟩
end Go.Proofs.YteebdfcegndaoaaGreatDoor
