/- The program's scanner: a mark or text. -/
import Derived.Test.YtefahocflhlgiaaGreatDoorIm15
namespace Go.Proofs.YtefahocflhlgiaaGreatDoor
open Go.RowKit Plain1 Plain2 Strs Strs2 Lists Plain3 Plain5 Plain6 Plain9 Plain10 Plain11 Plain12 Plain13 Plain14

theorem strs_new3 (W : World) (t t' t'' : ByteArray) : StrsAt (W.alloc (.cells #[.string t, .string t', .string t''] 9)) (some ⟨W.heap.size, 0, none⟩) [t, t', t''] := by
  refine ⟨W.heap.size, fun _ => rfl, fun i hi => ?_⟩
  unfold World.cell?
  rw [heap_alloc_new]
  match i, hi with
  | 0, _ => rfl
  | 1, _ => rfl
  | 2, _ => rfl
theorem lack_three (s : ByteArray) (p : Nat) : lackF s p [⟨#[60, 33, 45, 45]⟩, ⟨#[60, 33, 91, 67, 68, 65, 84, 65, 91]⟩, ⟨#[60, 33, 68, 79, 67, 84, 89, 80, 69]⟩] =
    if (rest s p).isPrefixOf [60, 33, 45, 45] = true ∨ (rest s p).isPrefixOf [60, 33, 91, 67, 68, 65, 84, 65, 91] = true ∨ (rest s p).isPrefixOf [60, 33, 68, 79, 67, 84, 89, 80, 69] = true then 1 else 2 := by
  unfold lackF
  cases h1 : (rest s p).isPrefixOf [60, 33, 45, 45] <;> cases h2 : (rest s p).isPrefixOf [60, 33, 91, 67, 68, 65, 84, 65, 91] <;> cases h3 : (rest s p).isPrefixOf [60, 33, 68, 79, 67, 84, 89, 80, 69] <;> simp [h1, h2, h3]
/-- A mark that a method of its own has read, handed on. -/
theorem Ir.pass {w W w' : World} {g : Nat} {s : ByteArray} {p : Nat} {m : Int} (h : Ir w W g s p m) {kd : Int} {nm tx : ByteArray} {ao : Option Addr} {an ac : Nat} {q : Nat} {T : Tk} (hb : ImBox w' g s q) (hq : q ≤ s.size)
    (hT : T.fl = 0 → kd = T.kind ∧ nm = T.name ∧ tx = T.text ∧ q = T.pos ∧ w'.ownsRow W.heap.size 109 2 (.slice ao an ac) T.attrs.length (acells T.attrs)) (hg : W.grownBy w' (some g)) :
    TtSays w g s T (.returned (.tuple #[.agg #[.int .i64 kd, .string nm, .string tx, .slice ao an ac], errV T.fl])) ((((w'.setCell ⟨w.heap.size, 0, none⟩ (.int .i64 kd)).setCell ⟨w.heap.size, 1, none⟩ (.string nm)).setCell ⟨w.heap.size, 2, none⟩ (.string tx)).setCell ⟨w.heap.size, 3, none⟩ (.slice ao an ac)) := by
  have h' := h.step hb hg
  have hF := im_fin4 h'.sc h'.grown h'.lt (.int .i64 kd) (.string nm) (.string tx) (.slice ao an ac)
  have ha := tk_lt h.res
  refine ⟨kd, nm, tx, ao, an, ac, q, rfl, hF.1, hq, fun h0 => ?_, hF.2⟩
  obtain ⟨e1, e2, e3, e4, hr0⟩ := hT h0
  have hs : ∀ {W0 : World} (j : Nat) (u : Value), W0.ownsRow W.heap.size 109 2 (.slice ao an ac) T.attrs.length (acells T.attrs) → (W0.setCell ⟨w.heap.size, j, none⟩ u).ownsRow W.heap.size 109 2 (.slice ao an ac) T.attrs.length (acells T.attrs) :=
    fun j u h0 => h0.kept (gset5 (g := w.heap.size) (j := j) u) (.inr fun e => by have := h0.lt _ e; omega)
  have hr := hs 3 (.slice ao an ac) (hs 2 (.string tx) (hs 1 (.string nm) (hs 0 (.int .i64 kd) hr0)))
  refine ⟨e1, e2, e3, e4, ?_⟩
  rcases hr with ⟨h1, h2⟩
  refine ⟨h1, ?_⟩
  rcases h2 with h2 | ⟨b, cap, cur, h3, h4, h5⟩
  · exact .inl h2
  · exact .inr ⟨b, cap, cur, h3, by omega, h5⟩

set_option maxRecDepth 100000 in
set_option maxHeartbeats 8000000 in
theorem imToken_any {w : World} {g : Nat} {s : ByteArray} {p : Nat} {m : Int} (closed : Bool) (h : ImBox w g s p) (he : Env w m) (hF : Far g) (hv0 : VB s 0) (hs : s.size ≤ 1048576) (hp : p ≤ s.size) :
    Calls Tryz.prog 29 #[.pointer (some ⟨g, 0, none⟩), .bool closed] w fun e w' => TtSays w g s (if hasAt s p [60] = true then markZ s p else textZ s p closed) e w' := by
  have F0 := mkHidI1 (Ir.start h he hF)
  obtain ⟨W0, hW0⟩ : ∃ W0, w.alloc zTok = W0 := ⟨_, rfl⟩
  rw [hW0] at F0
  have HW0 : Hid (w.alloc (.cells #[.int .i64 0, .string ⟨#[]⟩, .string ⟨#[]⟩, .slice none 0 0] 27) = W0) := mkHidI1 hW0
  clear hW0 h he hF
  by_cases h60 : hasAt s p [60] = true
  · rw [if_pos h60]
    obtain ⟨Z, hZ⟩ : ∃ Z, markZ s p = Z := ⟨_, rfl⟩
    rw [hZ]
    have HZ := mkHidI1 hZ
    clear hZ
    have ha := ahead_any (sg := ⟨#[60]⟩) F0.out.sc hp W0 rfl
    rw [show hasAt s p (⟨#[60]⟩ : ByteArray).data.toList = true from h60] at ha
    go_enter Tryz.func29, Tryz.ntmps29
    go_wp2_with fail
    rw [HW0.out]
    refine ha.mono ?_
    rintro e T0_w ⟨rfl, n, hww⟩
    have T0 : Hid (Ir w T0_w g s p m) := mkHidI1 (F0.out.step (W' := T0_w) (by rw [hww]; exact F0.out.sc) (by rw [hww]; exact im_gdrew _ n _))
    clear ha hww F0
    by_cases h0 : hasAt s p [60, 33, 45, 45] = true
    · have hr : p + 4 ≤ s.size := by have := has_room h0 hp; simpa using this
      have ht := take_any (sg := ⟨#[60, 33, 45, 45]⟩) T0.out.sc hs hp
      rw [show hasAt s p (⟨#[60, 33, 45, 45]⟩ : ByteArray).data.toList = true from h0, if_pos rfl] at ht
      go_wp2_with fail
      refine ht.mono ?_
      rintro e TA_w ⟨rfl, hbt, hgt⟩
      have TA : Hid (Ir w TA_w g s (p + 4) m) := mkHidI1 (T0.out.step hbt hgt)
      clear ht hbt hgt T0
      have hZ1 : commentZ s (p + 4) = Z := by rw [← HZ.out]; unfold markZ; rw [if_pos h0]
      have hc := imComment_any TA.out.sc TA.out.env TA.out.far hs hr
      rw [hZ1] at hc
      clear HZ hZ1
      go_wp2_with fail
      refine hc.mono ?_
      rintro e w9 ⟨kd, nm, tx, ao, an, ac, q9, rfl, hb9, hq9, hT9, hg9⟩
      have F9 := mkHidI1 (TA.out.step hb9 hg9)
      obtain ⟨r0, r1, r2, r3, s0, s1, s2, s3⟩ := tkcells F9.out.res
      have HP := mkHidI1 (TA.out.pass hb9 hq9 hT9 hg9)
      clear hc TA F9 hb9 hT9 hg9
      go_wp2
      refine bodyPost_ret (v := .tuple #[.agg #[.int .i64 kd, .string nm, .string tx, .slice ao an ac], errV Z.fl]) (by simp [results, Tryz.results29, go_sem, r0, r1, r2, r3]) rfl ?_
      exact HP.out
    have h0' : hasAt s p [60, 33, 45, 45] = false := eq_false_of_ne_true h0
    have ht := take_any (sg := ⟨#[60, 33, 45, 45]⟩) T0.out.sc hs hp
    rw [show hasAt s p (⟨#[60, 33, 45, 45]⟩ : ByteArray).data.toList = false from h0', if_neg (by simp)] at ht
    go_wp2_with fail
    refine ht.mono ?_
    rintro e T1_w ⟨rfl, hbt, hgt⟩
    have T1 := mkHidI1 (T0.out.step hbt hgt)
    clear ht hbt hgt T0
    by_cases h1 : hasAt s p [60, 33, 91, 67, 68, 65, 84, 65, 91] = true
    · have hr : p + 9 ≤ s.size := by have := has_room h1 hp; simpa using this
      have ht := take_any (sg := ⟨#[60, 33, 91, 67, 68, 65, 84, 65, 91]⟩) T1.out.sc hs hp
      rw [show hasAt s p (⟨#[60, 33, 91, 67, 68, 65, 84, 65, 91]⟩ : ByteArray).data.toList = true from h1, if_pos rfl] at ht
      go_wp2_with fail
      refine ht.mono ?_
      rintro e TA_w ⟨rfl, hbt, hgt⟩
      have TA : Hid (Ir w TA_w g s (p + 9) m) := mkHidI1 (T1.out.step hbt hgt)
      clear ht hbt hgt T1
      have hZ1 : cdataZ s (p + 9) = Z := by rw [← HZ.out]; unfold markZ; rw [if_neg (by rw [h0']; simp), if_pos h1]
      have HZ1 := mkHidI1 hZ1
      clear hZ1
      have hu := upTo_any (sg := ⟨#[93, 93, 62]⟩) TA.out.sc TA.out.env.mx hs hr
      go_wp2_with fail
      refine hu.mono ?_
      rintro e w4 ⟨x, q4, rfl, hb4, hq4, hT4, hg4⟩
      have F4 := mkHidI1 (TA.out.step hb4 hg4)
      clear hu TA hb4 hg4
      obtain ⟨r0, r1, r2, r3, s0, s1, s2, s3⟩ := tkcells F4.out.res
      go_wp2
      refine bodyPost_ret (v := .tuple #[.agg #[.int .i64 5, .string ⟨#[]⟩, .string x, .slice none 0 0], errV (upF s (p + 9) [93, 93, 62])]) (by simp [results, Tryz.results29, go_sem, r0, r1, r2, r3]) rfl ?_
      rw [← HZ1.out]
      unfold cdataZ
      by_cases hf4 : upF s (p + 9) [93, 93, 62] = 0
      · obtain ⟨hx, hq4'⟩ := hT4 hf4
        rw [if_pos hf4, hf4]
        have hx' : x = upT s (p + 9) [93, 93, 62] := hx
        have hq5 : q4 = upP s (p + 9) [93, 93, 62] := hq4'
        rw [← hx', ← hq5]
        exact F4.out.tells hq4 5 ByteArray.empty x
      · rw [if_neg hf4]
        exact F4.out.fails hf4 hq4 5 ByteArray.empty x (.slice none 0 0)
    have h1' : hasAt s p [60, 33, 91, 67, 68, 65, 84, 65, 91] = false := eq_false_of_ne_true h1
    have ht := take_any (sg := ⟨#[60, 33, 91, 67, 68, 65, 84, 65, 91]⟩) T1.out.sc hs hp
    rw [show hasAt s p (⟨#[60, 33, 91, 67, 68, 65, 84, 65, 91]⟩ : ByteArray).data.toList = false from h1', if_neg (by simp)] at ht
    go_wp2_with fail
    refine ht.mono ?_
    rintro e T2_w ⟨rfl, hbt, hgt⟩
    have T2 := mkHidI1 (T1.out.step hbt hgt)
    clear ht hbt hgt T1
    by_cases h2 : hasAt s p [60, 33, 68, 79, 67, 84, 89, 80, 69] = true
    · have hr : p + 9 ≤ s.size := by have := has_room h2 hp; simpa using this
      have ht := take_any (sg := ⟨#[60, 33, 68, 79, 67, 84, 89, 80, 69]⟩) T2.out.sc hs hp
      rw [show hasAt s p (⟨#[60, 33, 68, 79, 67, 84, 89, 80, 69]⟩ : ByteArray).data.toList = true from h2, if_pos rfl] at ht
      go_wp2_with fail
      refine ht.mono ?_
      rintro e TA_w ⟨rfl, hbt, hgt⟩
      have TA : Hid (Ir w TA_w g s (p + 9) m) := mkHidI1 (T2.out.step hbt hgt)
      clear ht hbt hgt T2
      have hZ1 : doctypeZ s (p + 9) = Z := by rw [← HZ.out]; unfold markZ; rw [if_neg (by rw [h0']; simp), if_neg (by rw [h1']; simp), if_pos h2]
      have hvr : VB s (p + 9) := by have := VB_sign hv0 h2 hp (by simp) (by decide); simpa using this
      have hc := imDoctype_any TA.out.sc TA.out.env TA.out.far hv0 hvr hs hr
      rw [hZ1] at hc
      clear HZ hZ1
      go_wp2_with fail
      refine hc.mono ?_
      rintro e w9 ⟨kd, nm, tx, ao, an, ac, q9, rfl, hb9, hq9, hT9, hg9⟩
      have F9 := mkHidI1 (TA.out.step hb9 hg9)
      obtain ⟨r0, r1, r2, r3, s0, s1, s2, s3⟩ := tkcells F9.out.res
      have HP := mkHidI1 (TA.out.pass hb9 hq9 hT9 hg9)
      clear hc TA F9 hb9 hT9 hg9
      go_wp2
      refine bodyPost_ret (v := .tuple #[.agg #[.int .i64 kd, .string nm, .string tx, .slice ao an ac], errV Z.fl]) (by simp [results, Tryz.results29, go_sem, r0, r1, r2, r3]) rfl ?_
      exact HP.out
    have h2' : hasAt s p [60, 33, 68, 79, 67, 84, 89, 80, 69] = false := eq_false_of_ne_true h2
    have ht := take_any (sg := ⟨#[60, 33, 68, 79, 67, 84, 89, 80, 69]⟩) T2.out.sc hs hp
    rw [show hasAt s p (⟨#[60, 33, 68, 79, 67, 84, 89, 80, 69]⟩ : ByteArray).data.toList = false from h2', if_neg (by simp)] at ht
    go_wp2_with fail
    refine ht.mono ?_
    rintro e T3_w ⟨rfl, hbt, hgt⟩
    have T3 := mkHidI1 (T2.out.step hbt hgt)
    clear ht hbt hgt T2
    by_cases h3 : hasAt s p [60, 63] = true
    · have hr : p + 2 ≤ s.size := by have := has_room h3 hp; simpa using this
      have ht := take_any (sg := ⟨#[60, 63]⟩) T3.out.sc hs hp
      rw [show hasAt s p (⟨#[60, 63]⟩ : ByteArray).data.toList = true from h3, if_pos rfl] at ht
      go_wp2_with fail
      refine ht.mono ?_
      rintro e TA_w ⟨rfl, hbt, hgt⟩
      have TA : Hid (Ir w TA_w g s (p + 2) m) := mkHidI1 (T3.out.step hbt hgt)
      clear ht hbt hgt T3
      have hZ1 : piZ s (p + 2) = Z := by rw [← HZ.out]; unfold markZ; rw [if_neg (by rw [h0']; simp), if_neg (by rw [h1']; simp), if_neg (by rw [h2']; simp), if_pos h3]
      have hvr : VB s (p + 2) := by have := VB_sign hv0 h3 hp (by simp) (by decide); simpa using this
      have hc := imPi_any TA.out.sc TA.out.env TA.out.far hvr hs hr
      rw [hZ1] at hc
      clear HZ hZ1
      go_wp2_with fail
      refine hc.mono ?_
      rintro e w9 ⟨kd, nm, tx, ao, an, ac, q9, rfl, hb9, hq9, hT9, hg9⟩
      have F9 := mkHidI1 (TA.out.step hb9 hg9)
      obtain ⟨r0, r1, r2, r3, s0, s1, s2, s3⟩ := tkcells F9.out.res
      have HP := mkHidI1 (TA.out.pass hb9 hq9 hT9 hg9)
      clear hc TA F9 hb9 hT9 hg9
      go_wp2
      refine bodyPost_ret (v := .tuple #[.agg #[.int .i64 kd, .string nm, .string tx, .slice ao an ac], errV Z.fl]) (by simp [results, Tryz.results29, go_sem, r0, r1, r2, r3]) rfl ?_
      exact HP.out
    have h3' : hasAt s p [60, 63] = false := eq_false_of_ne_true h3
    have ht := take_any (sg := ⟨#[60, 63]⟩) T3.out.sc hs hp
    rw [show hasAt s p (⟨#[60, 63]⟩ : ByteArray).data.toList = false from h3', if_neg (by simp)] at ht
    go_wp2_with fail
    refine ht.mono ?_
    rintro e T4_w ⟨rfl, hbt, hgt⟩
    have T4 := mkHidI1 (T3.out.step hbt hgt)
    clear ht hbt hgt T3
    by_cases h4 : hasAt s p [60, 47] = true
    · have hr : p + 2 ≤ s.size := by have := has_room h4 hp; simpa using this
      have ht := take_any (sg := ⟨#[60, 47]⟩) T4.out.sc hs hp
      rw [show hasAt s p (⟨#[60, 47]⟩ : ByteArray).data.toList = true from h4, if_pos rfl] at ht
      go_wp2_with fail
      refine ht.mono ?_
      rintro e TA_w ⟨rfl, hbt, hgt⟩
      have TA : Hid (Ir w TA_w g s (p + 2) m) := mkHidI1 (T4.out.step hbt hgt)
      clear ht hbt hgt T4
      have hZ1 : endZ s (p + 2) = Z := by rw [← HZ.out]; unfold markZ; rw [if_neg (by rw [h0']; simp), if_neg (by rw [h1']; simp), if_neg (by rw [h2']; simp), if_neg (by rw [h3']; simp), if_pos h4]
      have hvr : VB s (p + 2) := by have := VB_sign hv0 h4 hp (by simp) (by decide); simpa using this
      have hc := imEnd_any TA.out.sc TA.out.env TA.out.far hvr hs hr
      rw [hZ1] at hc
      clear HZ hZ1
      go_wp2_with fail
      refine hc.mono ?_
      rintro e w9 ⟨kd, nm, tx, ao, an, ac, q9, rfl, hb9, hq9, hT9, hg9⟩
      have F9 := mkHidI1 (TA.out.step hb9 hg9)
      obtain ⟨r0, r1, r2, r3, s0, s1, s2, s3⟩ := tkcells F9.out.res
      have HP := mkHidI1 (TA.out.pass hb9 hq9 hT9 hg9)
      clear hc TA F9 hb9 hT9 hg9
      go_wp2
      refine bodyPost_ret (v := .tuple #[.agg #[.int .i64 kd, .string nm, .string tx, .slice ao an ac], errV Z.fl]) (by simp [results, Tryz.results29, go_sem, r0, r1, r2, r3]) rfl ?_
      exact HP.out
    have h4' : hasAt s p [60, 47] = false := eq_false_of_ne_true h4
    have ht := take_any (sg := ⟨#[60, 47]⟩) T4.out.sc hs hp
    rw [show hasAt s p (⟨#[60, 47]⟩ : ByteArray).data.toList = false from h4', if_neg (by simp)] at ht
    go_wp2_with fail
    refine ht.mono ?_
    rintro e T5_w ⟨rfl, hbt, hgt⟩
    have T5 := mkHidI1 (T4.out.step hbt hgt)
    clear ht hbt hgt T4
    have ha := ahead_any (sg := ⟨#[60, 33]⟩) T5.out.sc hp T5_w rfl
    by_cases h6 : hasAt s p [60, 33] = true
    · rw [show hasAt s p (⟨#[60, 33]⟩ : ByteArray).data.toList = true from h6] at ha
      have hZ1 : failT (lackF s p [⟨#[60, 33, 45, 45]⟩, ⟨#[60, 33, 91, 67, 68, 65, 84, 65, 91]⟩, ⟨#[60, 33, 68, 79, 67, 84, 89, 80, 69]⟩]) = Z := by
        have hM : markZ s p = failT (if (rest s p).isPrefixOf [60, 33, 45, 45] = true ∨ (rest s p).isPrefixOf [60, 33, 91, 67, 68, 65, 84, 65, 91] = true ∨ (rest s p).isPrefixOf [60, 33, 68, 79, 67, 84, 89, 80, 69] = true then 1 else 2) := by
          unfold markZ; rw [if_neg (by rw [h0']; simp), if_neg (by rw [h1']; simp), if_neg (by rw [h2']; simp), if_neg (by rw [h3']; simp), if_neg (by rw [h4']; simp), if_pos h6]
        rw [← HZ.out, hM, lack_three]
      have hne0 : lackF s p [⟨#[60, 33, 45, 45]⟩, ⟨#[60, 33, 91, 67, 68, 65, 84, 65, 91]⟩, ⟨#[60, 33, 68, 79, 67, 84, 89, 80, 69]⟩] ≠ 0 := by unfold lackF; split <;> simp
      have HZ1 := mkHidI1 hZ1
      clear hZ1
      go_wp2_with fail
      refine ha.mono ?_
      rintro e w7 ⟨rfl, n, hww⟩
      have F7 := mkHidI1 (T5.out.step (W' := w7) (by rw [hww]; exact T5.out.sc) (by rw [hww]; exact im_gdrew _ n _))
      have F8 := mkHidI1 (F7.out.step (im_alloc F7.out.sc (.cells #[.string ⟨#[60, 33, 45, 45]⟩, .string ⟨#[60, 33, 91, 67, 68, 65, 84, 65, 91]⟩, .string ⟨#[60, 33, 68, 79, 67, 84, 89, 80, 69]⟩] 9)) (gallocI _ _ _))
      have hlk := lacks_any F8.out.sc hp [⟨#[60, 33, 45, 45]⟩, ⟨#[60, 33, 91, 67, 68, 65, 84, 65, 91]⟩, ⟨#[60, 33, 68, 79, 67, 84, 89, 80, 69]⟩] _ 3 3 rfl (by simp) (strs_new3 w7 _ _ _)
      clear ha hww T5 F7
      go_wp2_with fail
      refine hlk.mono ?_
      rintro e w8 ⟨rfl, n, hww⟩
      have F9 := mkHidI1 (F8.out.step (W' := w8) (by rw [hww]; exact F8.out.sc) (by rw [hww]; exact im_gdrew _ n _))
      clear hlk hww F8
      obtain ⟨r0, r1, r2, r3, s0, s1, s2, s3⟩ := tkcells F9.out.res
      go_wp2
      refine bodyPost_ret (v := .tuple #[.agg #[.int .i64 0, .string ⟨#[]⟩, .string ⟨#[]⟩, .slice none 0 0], errV (lackF s p [⟨#[60, 33, 45, 45]⟩, ⟨#[60, 33, 91, 67, 68, 65, 84, 65, 91]⟩, ⟨#[60, 33, 68, 79, 67, 84, 89, 80, 69]⟩])]) (by simp [results, Tryz.results29, go_sem, r0, r1, r2, r3]) rfl ?_
      rw [← HZ1.out]
      exact F9.out.fails hne0 hp 0 ByteArray.empty ByteArray.empty (.slice none 0 0)
    have h6' : hasAt s p [60, 33] = false := eq_false_of_ne_true h6
    rw [show hasAt s p (⟨#[60, 33]⟩ : ByteArray).data.toList = false from h6'] at ha
    have hZ1 : tagZ s (p + 1) = Z := by rw [← HZ.out]; unfold markZ; rw [if_neg (by rw [h0']; simp), if_neg (by rw [h1']; simp), if_neg (by rw [h2']; simp), if_neg (by rw [h3']; simp), if_neg (by rw [h4']; simp), if_neg h6]
    have hr : p + 1 ≤ s.size := by have := has_room h60 hp; simpa using this
    have hvr : VB s (p + 1) := by have := VB_sign hv0 h60 hp (by simp) (by decide); simpa using this
    go_wp2_with fail
    refine ha.mono ?_
    rintro e w7 ⟨rfl, n, hww⟩
    have T6 := mkHidI1 (T5.out.step (W' := w7) (by rw [hww]; exact T5.out.sc) (by rw [hww]; exact im_gdrew _ n _))
    clear ha hww T5
    have ht := take_any (sg := ⟨#[60]⟩) T6.out.sc hs hp
    rw [show hasAt s p (⟨#[60]⟩ : ByteArray).data.toList = true from h60, if_pos rfl] at ht
    go_wp2_with fail
    refine ht.mono ?_
    rintro e TA_w ⟨rfl, hbt, hgt⟩
    have TA : Hid (Ir w TA_w g s (p + 1) m) := mkHidI1 (T6.out.step hbt hgt)
    clear ht hbt hgt T6
    have hc := imStart_any TA.out.sc TA.out.env TA.out.far hv0 hvr hs hr
    rw [hZ1] at hc
    clear HZ hZ1
    go_wp2_with fail
    refine hc.mono ?_
    rintro e w9 ⟨kd, nm, tx, ao, an, ac, q9, rfl, hb9, hq9, hT9, hg9⟩
    have F9 := mkHidI1 (TA.out.step hb9 hg9)
    obtain ⟨r0, r1, r2, r3, s0, s1, s2, s3⟩ := tkcells F9.out.res
    have HP := mkHidI1 (TA.out.pass hb9 hq9 hT9 hg9)
    clear hc TA F9 hb9 hT9 hg9
    go_wp2
    refine bodyPost_ret (v := .tuple #[.agg #[.int .i64 kd, .string nm, .string tx, .slice ao an ac], errV Z.fl]) (by simp [results, Tryz.results29, go_sem, r0, r1, r2, r3]) rfl ?_
    exact HP.out
  · rw [if_neg h60]
    have h60' : hasAt s p [60] = false := eq_false_of_ne_true h60
    have ha := ahead_any (sg := ⟨#[60]⟩) F0.out.sc hp W0 rfl
    rw [show hasAt s p (⟨#[60]⟩ : ByteArray).data.toList = false from h60'] at ha
    obtain ⟨Z, hZ⟩ : ∃ Z, textZ s p closed = Z := ⟨_, rfl⟩
    rw [hZ]
    go_enter Tryz.func29, Tryz.ntmps29
    go_wp2_with fail
    rw [HW0.out]
    refine ha.mono ?_
    rintro e T0_w ⟨rfl, n, hww⟩
    have T0 : Hid (Ir w T0_w g s p m) := mkHidI1 (F0.out.step (W' := T0_w) (by rw [hww]; exact F0.out.sc) (by rw [hww]; exact im_gdrew _ n _))
    have hc := imPlain_any closed T0.out.sc T0.out.env T0.out.far hs hp
    rw [hZ] at hc
    clear ha hww F0 hZ
    go_wp2_with fail
    refine hc.mono ?_
    rintro e w9 ⟨kd, nm, tx, ao, an, ac, q9, rfl, hb9, hq9, hT9, hg9⟩
    have F9 := mkHidI1 (T0.out.step hb9 hg9)
    obtain ⟨r0, r1, r2, r3, s0, s1, s2, s3⟩ := tkcells F9.out.res
    have HP := mkHidI1 (T0.out.pass hb9 hq9 hT9 hg9)
    clear hc T0 F9 hb9 hT9 hg9
    go_wp2
    refine bodyPost_ret (v := .tuple #[.agg #[.int .i64 kd, .string nm, .string tx, .slice ao an ac], errV Z.fl]) (by simp [results, Tryz.results29, go_sem, r0, r1, r2, r3]) rfl ?_
    exact HP.out
end Go.Proofs.YtefahocflhlgiaaGreatDoor
