import Derived.Test.YtocnfoeaikiecaaGreatDoorMdE
set_option maxHeartbeats 4000000
set_option maxRecDepth 100000
namespace Go.Proofs.YtocnfoeaikiecaaGreatDoor
open Go.RowKit Strs Plain10 Plain16 Tryz
theorem dXl {w W : World} {O : Out} {e : Ending} (h : bXq w O e W) : bXq w O e W.drew := by
 obtain ⟨v, he, hr, hb⟩ := h
 have hg : ∀ r, W.grownBy W.drew r := fun r => ⟨rfl, rfl, rfl, Nat.le_refl _, fun _ _ _ => rfl⟩
 refine ⟨v, he, ?_, hb.drew⟩
 by_cases hv : v.ownBlock = none
 · exact hr.kept (hg none) (.inl hv)
 · exact hr.kept (hg none) (.inr hv)
theorem bQj (s : ByteArray) (p : Nat) (closed : Bool) (w : World) (hs : s.size ≤ 1048576) (hp : p < s.size) :
 Calls prog 42 #[.string s, .int .i64 p, .bool closed] w fun e w' => bXq w (aK0 (if aQ1 s p = 60 then aJf s p else aKs s p closed) closed) e w' := by
 obtain ⟨W0, hW0⟩ := nmE (w.alloc zOut)
 have HW0 : Hid (w.alloc (.cells #[.int .i64 0, .string ⟨#[]⟩, .string ⟨#[]⟩, .slice none 0 0, .int .i64 0, .int .i64 0] 101) = W0) := aQ0 hW0
 clear hW0
 obtain ⟨c, hc⟩ : ∃ c : Int, aQ1 s p = c := ⟨_, rfl⟩
 have hix : ∀ wx, (Instr.index 9 (.string s) (.int .i64 (p : Int))).run prog wx = .ok (.int .u8 c) wx := fun wx => by rw [aQ8 wx 9 s p hp underlying9, hc]
 have hB0 : Below w.heap.size w W0 := by rw [← HW0.out]; exact bAl
 have hsz : W0.heap.size = w.heap.size + 1 := by rw [← HW0.out]; simp
 have hZ0 : W0.heap[w.heap.size]? = some zOut := by rw [← HW0.out]; exact Below.heap_new _ _
 have HB0 := aQ0 hB0
 have HSZ := aQ0 hsz
 have HZ0 := aQ0 hZ0
 have h60 := hc
 clear hB0 hsz hZ0 hc
 by_cases hcc : c = 60
 · rw [h60, if_pos hcc]
   subst hcc
   obtain ⟨W1, hW1⟩ := nmE (W0.alloc (.cells #[.string s, .int .i64 (p : Int), .bool false, .bool false, .bool false] 126))
   have HW1 := aQ0 hW1
   have hbx : aQj W1 (w.heap.size + 1) s ⟨p, 0⟩ := by
    rw [← hW1, ← HSZ.out]; exact Below.heap_new _ _
   have hB1 : Below w.heap.size w W1 := by rw [← hW1]; exact HB0.out.alloc (by rw [HSZ.out]; omega) _
   have hs1 : W1.heap.size = w.heap.size + 2 := by rw [← hW1]; simp [HSZ.out]
   have hZ1 : W1.heap[w.heap.size]? = some zOut := by rw [← hW1, heap_alloc_old W0 _ (by rw [HSZ.out]; omega)]; exact HZ0.out
   have HM := aQ0 (mark_ok W1 (w.heap.size + 1) s p hbx hs hp h60)
   have hfl := cJ3 s p
   obtain ⟨T, hT⟩ := nmE (aJf s p)
   rw [hT] at HM hfl ⊢
   have HB1 := aQ0 hB1
   have HS1 := aQ0 hs1
   have HZ1 := aQ0 hZ1
   clear hT h60 hW1 hbx hB1 hs1 hZ1 HB0 HSZ HZ0
   go_enter func42, ntmps42
   go_wp2_with fail
   rw [HW0.out, HW1.out]
   refine HM.out.mono ?_
   rintro e w2 ⟨kd, nm, tx, ao, an, ac, q, rfl, hb, hq, hTT, hg⟩
   have hlt2 : w.heap.size + 2 ≤ w2.heap.size := by have := hg.size; rw [HS1.out] at this; exact this
   have hB2 : Below w.heap.size w w2 := HB1.out.grown hg (by rw [HS1.out]; omega) (fun k hk => by have := Option.some.inj hk; omega)
   have hZ2 : w2.heap[w.heap.size]? = some zOut := by rw [hg.block w.heap.size (by rw [HS1.out]; omega) (fun e => by have := Option.some.inj e; omega)]; exact HZ1.out
   obtain ⟨W3, hW3⟩ := nmE (w2.alloc (.cells #[.int .i64 kd, .string nm, .string tx, .slice ao an ac] 99))
   have hb3 : aQj W3 (w.heap.size + 1) s ⟨q, T.fl⟩ := by rw [← hW3]; exact aW1 hb _
   have ht3 : aKr W3 w2.heap.size kd nm tx (.slice ao an ac) := by rw [← hW3]; exact cK9 _ _ _ _ _
   have hz3 : W3.heap[w.heap.size]? = some zOut := by rw [← hW3, heap_alloc_old _ _ (by omega)]; exact hZ2
   have hB3 : Below w.heap.size w W3 := by rw [← hW3]; exact hB2.alloc (by omega) _
   have hT3 : T.fl = 0 → kd = T.kind ∧ nm = T.name ∧ tx = T.text ∧ q = T.pos ∧ W3.ownsRow (w.heap.size + 1) 54 2 (.slice ao an ac) T.attrs.length (aQc T.attrs) := fun h0 => by
    obtain ⟨e1, e2, e3, e4, hr⟩ := hTT h0
    refine ⟨e1, e2, e3, e4, ?_⟩
    rw [← hW3]; exact cZn (hr.alloc _) (by rw [HS1.out]; omega)
   subst hW3
   have HB3 := aQ0 hB3
   have HT3 := aQ0 hT3
   obtain ⟨⟨c0, c1, c2, c3, c4, c5⟩, f0, f1, f2, f3, f4, f5⟩ := cZs hz3
   obtain ⟨k0, k1, k2, k3, kf0, kf1, kf2, kf3⟩ := aQ9 ht3
   obtain ⟨b0, b1, b2, b3, b4, bf1, bf2, bf3, bf4⟩ := aJz hb3
   clear hz3 ht3 hb3 hB3 hT3 hb hTT hg hB2 hZ2 HB1 HS1 HZ1 HM
   have hcase : T.fl = 0 ∨ T.fl = 1 ∨ T.fl = 2 ∨ T.fl = 3 := by omega
   clear hfl
   rcases hcase with hfl | hfl | hfl | hfl
   · rw [hfl] at b2 b3 b4
     obtain ⟨e1, e2, e3, e4, hr⟩ := HT3.out hfl
     have HR := aQ0 hr
     have HO := aQ0 (show aK0 T closed = ⟨T, T.pos, 0⟩ by unfold aK0; rw [if_pos hfl])
     have HE := aQ0 e4
     have HE1 := aQ0 e1
     have HE2 := aQ0 e2
     have HE3 := aQ0 e3
     clear hr HT3 hfl e1 e2 e3 e4
     go_wp2
     go_region
     go_wp2
     rw [HO.out]
     refine bodyPost_ret (v := .agg #[.int .i64 kd, .string nm, .string tx, .slice ao an ac, .int .i64 (q : Int), .int .i64 0]) (by simp [results, results42, go_sem, c0, c1, c2, c3, c4, c5]) rfl ?_
     obtain rfl := HE.out
     obtain rfl := HE1.out
     obtain rfl := HE2.out
     obtain rfl := HE3.out
     exact dXl (cWf (O := ⟨T, T.pos, 0⟩) HB3.out HR.out (by omega))
   · rw [hfl] at b2 b3 b4
     have HO := aQ0 (show aK0 T closed = bQn (if closed = true then 3 else 4) by unfold aK0; rw [if_neg (by omega), hfl]; cases closed <;> rfl)
     clear HT3 hfl
     cases closed with
     | true =>
      go_wp2
      rw [HO.out]
      refine bodyPost_ret (v := .agg #[.int .i64 0, .string ⟨#[]⟩, .string ⟨#[]⟩, .slice none 0 0, .int .i64 0, .int .i64 3]) (by simp [results, results42, go_sem, c0, c1, c2, c3, c4, c5]) rfl ?_
      exact bZk 3 HB3.out
     | false =>
      go_wp2
      rw [HO.out]
      refine bodyPost_ret (v := .agg #[.int .i64 0, .string ⟨#[]⟩, .string ⟨#[]⟩, .slice none 0 0, .int .i64 0, .int .i64 4]) (by simp [results, results42, go_sem, c0, c1, c2, c3, c4, c5]) rfl ?_
      exact bZk 4 HB3.out
   · rw [hfl] at b2 b3 b4
     have HO := aQ0 (show aK0 T closed = bQn 3 by unfold aK0; rw [if_neg (by omega), hfl]; cases closed <;> rfl)
     clear HT3 hfl
     go_wp2
     rw [HO.out]
     refine bodyPost_ret (v := .agg #[.int .i64 0, .string ⟨#[]⟩, .string ⟨#[]⟩, .slice none 0 0, .int .i64 0, .int .i64 3]) (by simp [results, results42, go_sem, c0, c1, c2, c3, c4, c5]) rfl ?_
     exact bZk 3 HB3.out
   · rw [hfl] at b2 b3 b4
     have HO := aQ0 (show aK0 T closed = bQn 6 by unfold aK0; rw [if_neg (by omega), hfl]; rfl)
     clear HT3 hfl
     go_wp2
     rw [HO.out]
     refine bodyPost_ret (v := .agg #[.int .i64 0, .string ⟨#[]⟩, .string ⟨#[]⟩, .slice none 0 0, .int .i64 0, .int .i64 6]) (by simp [results, results42, go_sem, c0, c1, c2, c3, c4, c5]) rfl ?_
     exact bZk 6 HB3.out
 · rw [h60, if_neg hcc]
   have hcn : (c != 60) = true := by simp; omega
   have ht := cXh s p closed W0 hs (by omega)
   obtain ⟨O, hO⟩ := nmE (aK0 (aKs s p closed) closed)
   rw [hO] at ht ⊢
   clear hO h60 hcc
   go_enter func42, ntmps42
   go_wp2_with fail
   rw [HW0.out]
   refine ht.mono ?_
   rintro e w1 ⟨v, rfl, hr, hb⟩
   clear ht
   obtain ⟨ao, an, ac, rfl⟩ := cW2 hr
   have HR := aQ0 hr
   have HB := aQ0 hb
   have hz : w1.heap[w.heap.size]? = some zOut := by rw [hb.block w.heap.size (by rw [HSZ.out]; omega)]; exact HZ0.out
   obtain ⟨⟨c0, c1, c2, c3, c4, c5⟩, f0, f1, f2, f3, f4, f5⟩ := cZs hz
   clear hr hb hz
   go_wp2
   refine bodyPost_ret (v := .agg #[.int .i64 O.tk.kind, .string O.tk.name, .string O.tk.text, .slice ao an ac, .int .i64 O.at1, .int .i64 O.code]) (by simp [results, results42, go_sem, c0, c1, c2, c3, c4, c5]) rfl ?_
   exact cWf (HB0.out.trans (HB.out.mono (by rw [HSZ.out]; omega))) HR.out (by rw [HSZ.out]; omega)
open Go.RowKit Plain3 Plain5
theorem dVw : (prog.info? 2).map (fun i => (i.zero, i.size, i.bytes)) = some (some (.int .i64 0), 1, 8) := by kernel_rfl
theorem bYm (s : ByteArray) (w : World) (hs : s.size ≤ 1048576) :
 Calls prog 26 #[.string s] w fun e w' => ∃ v, e = .returned (.tuple #[v, .int .i64 (aX4 s).2]) ∧ w'.ownsRow w.heap.size 2 1 v (aX4 s).1.length ((aX4 s).1.map (Value.int .i64)) ∧ Below w.heap.size w w' := by
 obtain ⟨i0, hi, hz0, hz1, hz2⟩ := info_parts dVw
 generalize hR : aX4 s = R
 have HR : Hid (aX4 s = R) := hR
 clear hR
 go_enter func26, ntmps26
 go_wp2
 go_loopw [4, 5] (fun v i wr => ∃ (f pos : Nat) (acc : List Int), pos ≤ s.size ∧ i = .int .i64 pos ∧ scan s f pos acc = R ∧ s.size < pos + f ∧ acc.length ≤ pos ∧ wr.ownsRow w.heap.size 2 1 v acc.length (acc.map (Value.int .i64)) ∧ Below w.heap.size w wr) (fun _ i _ => s.size - (intOf i).toNat)
 case atStart => exact ⟨s.size + 1, 0, [], Nat.zero_le _, rfl, HR.out, by omega, Nat.le_refl _, World.ownsRow_lit w _ 0 (Nat.le_refl _) (by unfold maxLen; omega) (by simp), bAl⟩
 case round =>
  obtain ⟨f, pos, acc, hpos, rfl, hsc, hf, hal, hown, hb⟩ := hrel
  have HS : Hid (scan s f pos acc = R) := hsc
  clear hsc
  have hsz := hb.size
  by_cases hlt : pos < s.size
  · obtain ⟨f', rfl⟩ : ∃ f', f = f' + 1 := ⟨f - 1, by omega⟩
    obtain ⟨r, hr⟩ := nmE (aQm s pos)
    have hcall := cZm s pos wr hlt hs
    rw [hr] at hcall
    obtain ⟨c, n⟩ := r
    simp only at hcall
    by_cases hn : n = 0
    · subst hn
      have HRr : Hid (aQm s pos = (c, 0)) := hr
      clear hr
      go_wp2_with (first | (go_at_call 40; refine hcall.mono ?_; rintro e w' ⟨rfl, rfl⟩))
      have hbad := aW0 (f := f') (acc := acc) hlt (by rw [HRr.out])
      rw [HS.out] at hbad
      subst hbad
      go_ret2
      exact ⟨_, rfl, World.ownsRow_nil _ _ _ _, hb⟩
    · have hgood := aVl (f := f') (acc := acc) hlt (by rw [hr]; exact hn)
      have hle := aWr (s := s) (pos := pos) (by rw [hr]; exact hn)
      rw [HS.out, hr] at hgood
      rw [hr] at hle
      simp only at hgood hle
      have HG : Hid (R = scan s f' (pos + n) (acc ++ [c])) := hgood
      have hn' : ((n : Int) == 0) = false := by simp; omega
      clear hgood hr
      go_wp2_with (first | (go_at_call 40; refine hcall.mono ?_; rintro e w' ⟨rfl, rfl⟩) | (at_builtin; refine wpList_append_own _ rfl _ _ 70 rfl w.heap.size 2 i0 (.int .i64 0) 1 8 underlying70 hi hz0 hz1 hz2 rfl (by decide) _ _ _ rfl (hown.alloc _) ⟨_, 0, none⟩ 1 1 [.int .i64 c] rfl rfl ?c1 ?c2 ?c3 ?c4 ?c5 ?_))
      case c1 => exact cell_one_new _ _ _
      case c2 => intro u hu; simp at hu; subst hu; rfl
      case c3 => unfold maxLen; omega
      case c4 => omega
      case c5 => simp; omega
      intro v' w2 hown' hgrow _
      have hb2 : Below w.heap.size w w2 := (hb.alloc hsz _).grown hgrow (by simp; omega) (fun k hk => (hown.lt k hk).1)
      clear hgrow hown hb
      go_wp2
      go_roundw
      case rel =>
       refine ⟨f', pos + n, acc ++ [c], by omega, by go_num, HG.out.symm, by omega, by simp; omega, ?_, hb2⟩
       simpa using hown'
      case measure => simp [intOf]; omega
  · have he := aWq (f := f) (acc := acc) (show s.size ≤ pos by omega)
    rw [HS.out] at he
    subst he
    go_wp2
    go_ret2
    exact ⟨_, rfl, hown, hb⟩
open Go.RowKit Strs Plain7 Bytes
theorem info8e : (prog.info? 5).map (fun i => (i.zero, i.size, i.bytes)) = some (some (.int .u8 0), 1, 1) := by kernel_rfl
theorem bV8 {w wr w2 : World} {o : Obj} {e : TypeId} {size : Nat} {v : Value} {n : Nat} {xs : List Value} (hb : Below w.heap.size w wr) (hown : wr.ownsRow w.heap.size e size v n xs) (hg : (wr.alloc o).grownBy w2 v.ownBlock) : Below w.heap.size w w2 :=
 (hb.alloc hb.size o).grown hg (by have := hb.size; simp; omega) (fun k hk => (hown.lt k hk).1)
theorem bWq (s : ByteArray) (w : World) :
 Calls prog 28 #[.string s] w fun e w' => e = .returned (.string ⟨(bX3 s).toArray⟩) ∧ Below w.heap.size w w' := by
 by_cases hbig : 4000 < s.size
 · have e : bX3 s = [] := by unfold bX3; rw [if_pos hbig]
   rw [e]
   go_enter func28, ntmps28
   go_wp2
   go_ret
   exact ⟨rfl, Below.refl _ _⟩
 have e : bX3 s = aZq s.data.toList := by unfold bX3; rw [if_neg hbig]
 rw [e]
 clear e
 obtain ⟨i0, hi, hz0, hz1, hz2⟩ := info_parts info8e
 have hsl : s.data.toList.length = s.size := by simp
 obtain ⟨R, hR⟩ := nmE (aZq s.data.toList)
 rw [hR]
 have HR : Hid (aZq s.data.toList = R) := hR
 have HSL : Hid (s.data.toList.length = s.size) := hsl
 clear hR hsl
 go_enter func28, ntmps28
 go_wp2
 go_loopw [3, 4] (fun v i wr => ∃ (k : Nat) (acc : List UInt8), k ≤ s.size ∧ i = .int .i64 k ∧ acc.length ≤ k ∧ aZq s.data.toList = acc ++ aZq (s.data.toList.drop k) ∧ wr.ownsRow w.heap.size 5 1 v acc.length ((bXs acc).map (Value.int .u8)) ∧ Below w.heap.size w wr) (fun _ i _ => s.size - (intOf i).toNat)
 case atStart => exact ⟨0, [], Nat.zero_le _, rfl, Nat.le_refl _, by simp, World.ownsRow_lit w _ 0 (Nat.le_refl _) (by unfold maxLen; omega) (by simp), bAl⟩
 case round =>
  obtain ⟨k, acc, hk, rfl, hal, hacc, hown, hb⟩ := hrel
  have hsz := hb.size
  by_cases hlt : k < s.size
  · obtain ⟨st1, st2, st3⟩ := cYv hacc (by rw [HSL.out]; exact hlt)
    obtain ⟨b0, hb0⟩ : ∃ b, aQ1 s k = b := ⟨_, rfl⟩
    have hbd := aXn s k
    rw [hb0] at hbd
    obtain ⟨hbd0, hbd1⟩ := hbd
    have HB0 : Hid (aQ1 s k = b0) := hb0
    have HB : Hid (Below w.heap.size w wr) := hb
    clear hb0 hb hacc
    by_cases h13 : b0 = 13
    · have hg : s.data.toList.getD k 0 = 13 := (aWm _ 13).1 (HB0.out.trans h13)
      have h13' : (b0 != 13) = false := by simp [h13]
      have S2 := st2 hg
      have S3 := st3 hg
      clear st1 st2 st3 hg h13
      by_cases hend : s.size ≤ k + 1
      · have ST : Hid (aZq s.data.toList = (acc ++ [10]) ++ aZq (s.data.toList.drop (k + 1))) := S3 (.inl (by rw [HSL.out]; exact hend))
        clear S2 S3
        go_wp2_with (first | (refine aQf rfl 9 (.tmp 16) (.tmp 17) rfl s k _ b0 rfl rfl rfl hlt underlying9 HB0.out ?_) | (at_builtin; refine wpList_append_own _ rfl _ _ 22 rfl w.heap.size 5 i0 (.int .u8 0) 1 1 underlying22 hi hz0 hz1 hz2 rfl (by decide) _ _ _ rfl (hown.alloc _) ⟨_, 0, none⟩ 1 1 [.int .u8 (10)] rfl rfl (cell_one_new _ _ _) (by intro u hu; simp at hu; subst hu; rfl) (by unfold maxLen; omega) (by omega) (by simp; omega) ?_; intro v' w2 hown' hgrow _; have hb2 := bV8 HB.out hown hgrow; clear hgrow hown))
        go_roundw
        case rel => exact ⟨k + 1, acc ++ [10], by omega, by go_num, by simp; omega, ST.out, by simpa [bXs] using hown', hb2⟩
        case measure => simp [intOf]; omega
      · obtain ⟨b1, hb1⟩ : ∃ b, aQ1 s (k + 1) = b := ⟨_, rfl⟩
        have HB1 : Hid (aQ1 s (k + 1) = b1) := hb1
        clear hb1
        have hlt1 : k + 1 < s.size := by omega
        by_cases h10 : b1 = 10
        · have h10' : (b1 != 10) = false := by simp [h10]
          have ST : Hid (aZq s.data.toList = acc ++ aZq (s.data.toList.drop (k + 1))) := S2 (by rw [HSL.out]; exact hlt1) ((aWm _ 10).1 (HB1.out.trans h10))
          clear S2 S3 h10
          go_wp2_with (first | (refine aQf rfl 9 (.tmp 16) (.tmp 17) rfl s k _ b0 rfl rfl rfl hlt underlying9 HB0.out ?_) | (refine aKb 9 (.tmp 33) (.tmp 35) rfl s (k + 1) _ b1 rfl rfl (by omega) hlt1 underlying9 HB1.out (by go_simp) ?_))
          go_roundw
          case rel => exact ⟨k + 1, acc, by omega, by go_num, by omega, ST.out, hown, HB.out⟩
          case measure => simp [intOf]; omega
        · have h10' : (b1 != 10) = true := by simp [h10]
          have ST : Hid (aZq s.data.toList = (acc ++ [10]) ++ aZq (s.data.toList.drop (k + 1))) := S3 (.inr (fun h => h10 (HB1.out.symm.trans ((aWm _ 10).2 h))))
          clear S2 S3 h10
          go_wp2_with (first | (refine aQf rfl 9 (.tmp 16) (.tmp 17) rfl s k _ b0 rfl rfl rfl hlt underlying9 HB0.out ?_) | (refine aKb 9 (.tmp 33) (.tmp 35) rfl s (k + 1) _ b1 rfl rfl (by omega) hlt1 underlying9 HB1.out (by go_simp) ?_) | (at_builtin; refine wpList_append_own _ rfl _ _ 22 rfl w.heap.size 5 i0 (.int .u8 0) 1 1 underlying22 hi hz0 hz1 hz2 rfl (by decide) _ _ _ rfl (hown.alloc _) ⟨_, 0, none⟩ 1 1 [.int .u8 (10)] rfl rfl (cell_one_new _ _ _) (by intro u hu; simp at hu; subst hu; rfl) (by unfold maxLen; omega) (by omega) (by simp; omega) ?_; intro v' w2 hown' hgrow _; have hb2 := bV8 HB.out hown hgrow; clear hgrow hown))
          go_roundw
          case rel => exact ⟨k + 1, acc ++ [10], by omega, by go_num, by simp; omega, ST.out, by simpa [bXs] using hown', hb2⟩
          case measure => simp [intOf]; omega
    · have h13' : (b0 != 13) = true := by simp [h13]
      have ST0 := st1 (fun h => h13 (HB0.out.symm.trans ((aWm _ 13).2 h)))
      obtain ⟨c, hc⟩ := nmE (s.data.toList.getD k 0)
      rw [hc] at ST0
      have hcb : (c.toNat : Int) = b0 := by rw [← hc]; exact HB0.out
      have ST : Hid (aZq s.data.toList = (acc ++ [c]) ++ aZq (s.data.toList.drop (k + 1))) := ST0
      have HCB : Hid ((c.toNat : Int) = b0) := hcb
      clear st1 st2 st3 h13 ST0 hc hcb
      go_wp2_with (first | (refine aQf rfl 9 (.tmp 16) (.tmp 17) rfl s k _ b0 rfl rfl rfl hlt underlying9 HB0.out ?_) | (refine aQf rfl 9 (.tmp 21) (.tmp 22) rfl s k _ b0 rfl rfl rfl hlt underlying9 HB0.out ?_) | (at_builtin; refine wpList_append_own _ rfl _ _ 22 rfl w.heap.size 5 i0 (.int .u8 0) 1 1 underlying22 hi hz0 hz1 hz2 rfl (by decide) _ _ _ rfl (hown.alloc _) ⟨_, 0, none⟩ 1 1 [.int .u8 (b0)] rfl rfl (cell_one_new _ _ _) (by intro u hu; simp at hu; subst hu; rfl) (by unfold maxLen; omega) (by omega) (by simp; omega) ?_; intro v' w2 hown' hgrow _; have hb2 := bV8 HB.out hown hgrow; clear hgrow hown))
      go_roundw
      case rel => exact ⟨k + 1, acc ++ [c], by omega, by go_num, by simp; omega, ST.out, by rw [cX7, HCB.out]; simpa using hown', hb2⟩
      case measure => simp [intOf]; omega
  · have hkn : s.size ≤ k := by omega
    have hd : s.data.toList.drop k = [] := List.drop_eq_nil_of_le (by rw [HSL.out]; exact hkn)
    rw [hd, HR.out] at hacc
    have hacc' : R = acc := by rw [hacc]; simp [aZq]
    subst hacc'
    have hconv := bZj (P := prog) (src := 22) (dst := 9) underlying22 underlying5 underlying9 hown
    rw [strOf_nums] at hconv
    clear hown hacc hd
    go_wp2
    go_ret
    exact ⟨rfl, hb⟩
end Go.Proofs.YtocnfoeaikiecaaGreatDoor
