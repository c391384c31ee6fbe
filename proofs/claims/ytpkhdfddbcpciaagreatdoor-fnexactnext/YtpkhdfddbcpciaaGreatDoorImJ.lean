/- The program's beginsCharacter. -/
/- The program's Next. -/
import Derived.Test.YtpkhdfddbcpciaaGreatDoorImI
import Derived.Test.YtpkhdfddbcpciaaGreatDoorFreN
namespace Go.Proofs.YtpkhdfddbcpciaaGreatDoor
open Go.RowKit Plain1 Plain2 Strs Strs2 Lists Plain3 Plain5 Plain6 Plain9 Plain10 Plain11 Plain12 Plain13 Plain14

def begB (s : ByteArray) (at0 : Int) : Bool := decide (0 ≤ at0 ∧ at0 ≤ s.size ∧ (at0 = s.size ∨ ¬ (128 ≤ byteAt s at0.toNat ∧ byteAt s at0.toNat < 192)))
set_option maxRecDepth 100000 in
set_option maxHeartbeats 4000000 in
theorem begins_any (s : ByteArray) (at0 : Int) (w : World) (h4 : s.size ≤ 4000) :
    Calls Tryz.prog 13 #[.string s, .int .i64 at0] w fun e w' => e = .returned (.bool (begB s at0)) ∧ w' = w := by
  by_cases ha : at0 < 0
  · rw [show begB s at0 = false from decide_eq_false (by omega)]
    go_enter Tryz.func13, Tryz.ntmps13
    go_wp2
    go_ret
    exact ⟨rfl, rfl⟩
  by_cases hb : at0 > (s.size : Int)
  · rw [show begB s at0 = false from decide_eq_false (by omega)]
    go_enter Tryz.func13, Tryz.ntmps13
    go_wp2
    go_ret
    exact ⟨rfl, rfl⟩
  by_cases he : at0 = s.size
  · rw [show begB s at0 = true from decide_eq_true (by omega)]
    subst he
    go_enter Tryz.func13, Tryz.ntmps13
    go_wp2
    go_ret
    exact ⟨rfl, rfl⟩
  obtain ⟨p, rfl⟩ : ∃ p : Nat, at0 = p := ⟨at0.toNat, by omega⟩
  have hp : p < s.size := by omega
  obtain ⟨c, hc⟩ : ∃ c : Int, byteAt s p = c := ⟨_, rfl⟩
  have hbd := byteAt_bd s p
  rw [hc] at hbd
  have hix : ∀ wx, (Instr.index 9 (.string s) (.int .i64 (p : Int))).run Tryz.prog wx = .ok (.int .u8 c) wx := fun wx => by rw [run_index_byte wx 9 s p hp Tryz.underlying9, hc]
  have hrs := Tryz.utf8_RuneStart c w hbd.1 (by omega)
  have hB : begB s p = Lib.runeStart c := by
    unfold begB Lib.runeStart
    rw [show ((p : Int)).toNat = p from rfl, hc]
    by_cases h : c / 64 = 2
    · rw [show (c / 64 != 2) = false from by simp [h]]; exact decide_eq_false (by omega)
    · rw [show (c / 64 != 2) = true from by simp [h]]; exact decide_eq_true (by omega)
  rw [hB]
  have hne : ((p : Int) == (s.size : Int)) = false := beq_eq_false_iff_ne.2 he
  clear hB hc
  go_enter Tryz.func13, Tryz.ntmps13
  go_wp2_with fail
  refine hrs.mono ?_
  rintro e w2 ⟨rfl, hww⟩
  obtain rfl := hww
  go_wp2
  go_ret
  exact ⟨rfl, rfl⟩
end Go.Proofs.YtpkhdfddbcpciaaGreatDoor

namespace Go.Proofs.YtpkhdfddbcpciaaGreatDoor
open Go.RowKit Plain1 Plain2 Strs Strs2 Lists Plain3 Plain5 Plain6 Plain9 Plain10 Plain11 Plain12 Plain13 Plain14 Plain16

set_option maxRecDepth 100000 in
set_option maxHeartbeats 8000000 in
theorem implNext_go [Inhabited Hold] (hx : IsSc) (s : ByteArray) (at0 : Int) (closed : Bool) (w : World) (m : Int) (he : Env w m) (het : EtCell w) :
    Calls Tryz.prog 5 #[.string s, .int .i64 at0, .bool closed] w fun e w' => OutSays w (nextZ s at0 closed) e w' := by
  obtain ⟨W0, hW0⟩ : ∃ W0, w.alloc zOut = W0 := ⟨_, rfl⟩
  have HW0 : Hid (w.alloc (.cells #[.int .i64 0, .string ⟨#[]⟩, .string ⟨#[]⟩, .slice none 0 0, .int .i64 0, .int .i64 0] 26) = W0) := mkHidT hW0
  clear hW0
  have HEV := mkHidT he
  have HET := mkHidT het
  clear he het
  have HB0 := mkHidT (show Below w.heap.size w W0 by rw [← HW0.out]; exact (Below.refl _ _).alloc (Nat.le_refl _) _)
  have HSZ := mkHidT (show W0.heap.size = w.heap.size + 1 by rw [← HW0.out]; simp)
  have HZ0 := mkHidT (show W0.heap[w.heap.size]? = some zOut by rw [← HW0.out]; exact Below.heap_new _ _)
  by_cases h4 : 4000 < s.size
  · have hN : nextZ s at0 closed = codeOut 2 := by unfold nextZ; rw [if_pos h4]
    rw [hN]
    clear hN
    have h4' : (s.size : Int) > 4000 := by omega
    go_enter Tryz.func5, Tryz.ntmps5
    go_wp2
    refine bodyPost_ret (v := .agg #[.int .i64 0, .string ⟨#[]⟩, .string ⟨#[]⟩, .slice none 0 0, .int .i64 0, .int .i64 2]) (by simp [results, Tryz.results5, go_sem]) rfl ?_
    exact ⟨_, rfl, World.ownsRow_nil _ _ _ _, (Below.refl _ _).alloc (Nat.le_refl _) _⟩
  have h4' : ¬ (s.size : Int) > 4000 := by omega
  have HR := mkHidT (marksRight_any s W0 m (by omega) (HEV.out.below HB0.out).mx)
  have hb0 := fun w1 => begins_any s at0 w1 (by omega)
  by_cases hM : (scanAll s).2 < 0 ∧ fz s 0 [13] = -1
  · rw [decide_eq_true hM] at HR
    by_cases hb : begB s at0 = true
    · rw [hb] at hb0
      have hbb := of_decide_eq_true hb
      by_cases hE : at0 = s.size
      · have hN : nextZ s at0 closed = codeOut 10 := by unfold nextZ; rw [if_neg h4, if_neg (by omega), if_pos hE]
        rw [hN]
        clear hN hM hb hbb
        subst hE
        go_enter Tryz.func5, Tryz.ntmps5
        go_wp2_with fail
        rw [HW0.out]
        refine HR.out.mono ?_
        rintro e w1 ⟨rfl, hb⟩
        have HB1 := mkHidT (HB0.out.trans (hb.mono (by rw [HSZ.out]; omega)))
        have hz1 : w1.heap[w.heap.size]? = some zOut := by rw [hb.block w.heap.size (by rw [HSZ.out]; omega)]; exact HZ0.out
        have HZ1 := mkHidT hz1
        have HS1 := mkHidT (show w.heap.size + 1 ≤ w1.heap.size by have := hb.size; rw [HSZ.out] at this; exact this)
        obtain ⟨⟨c0, c1, c2, c3, c4, c5⟩, f0, f1, f2, f3, f4, f5⟩ := outcells hz1
        clear hb hz1 HR HB0 HZ0
        have hbg := hb0 w1
        clear hb0
        go_wp2_with fail
        refine hbg.mono ?_
        rintro e w2 ⟨rfl, hww⟩
        obtain rfl := hww.symm
        clear hbg
        go_wp2
        refine bodyPost_ret (v := .agg #[.int .i64 0, .string ⟨#[]⟩, .string ⟨#[]⟩, .slice none 0 0, .int .i64 0, .int .i64 10]) (by simp [results, Tryz.results5, go_sem, c0, c1, c2, c3, c4, c5]) rfl ?_
        exact code_put 10 HB1.out
      · obtain ⟨p, rfl⟩ : ∃ p : Nat, at0 = p := ⟨at0.toNat, by omega⟩
        have hp : p < s.size := by omega
        have hne : ((p : Int) == (s.size : Int)) = false := beq_eq_false_iff_ne.2 hE
        obtain ⟨T, hT⟩ : ∃ T, (if hasAt s p [60] = true then markZ s p else textZ s p closed) = T := ⟨_, rfl⟩
        have hN : nextZ s p closed = outOf T closed := by
          unfold nextZ
          have h3 := hbb.2.2
          rw [show ((p : Int)).toNat = p from rfl] at h3 ⊢
          rw [if_neg h4, if_neg (by omega), if_neg hE, if_neg (by omega), ← hT]
          by_cases h6 : byteAt s p = 60
          · rw [if_pos h6, if_pos ((has60 hp).2 h6)]
          · rw [if_neg h6, if_neg (fun h => h6 ((has60 hp).1 h))]
        have hfl : T.fl ≤ 3 := by rw [← hT]; split; exact markZ_le _ _; exact textZ_le _ _ _
        have hv0 : VB s 0 := VB_all hM.1
        have hs : s.size ≤ 1048576 := by omega
        have HT := mkHidT hT
        have HV := mkHidT hv0
        rw [hN]
        clear hN hb hbb hM hT hv0
        go_enter Tryz.func5, Tryz.ntmps5
        go_wp2_with fail
        rw [HW0.out]
        refine HR.out.mono ?_
        rintro e w1 ⟨rfl, hb⟩
        have HB1 := mkHidT (HB0.out.trans (hb.mono (by rw [HSZ.out]; omega)))
        have hz1 : w1.heap[w.heap.size]? = some zOut := by rw [hb.block w.heap.size (by rw [HSZ.out]; omega)]; exact HZ0.out
        have HZ1 := mkHidT hz1
        have HS1 := mkHidT (show w.heap.size + 1 ≤ w1.heap.size by have := hb.size; rw [HSZ.out] at this; exact this)
        obtain ⟨⟨c0, c1, c2, c3, c4, c5⟩, f0, f1, f2, f3, f4, f5⟩ := outcells hz1
        clear hb hz1 HR HB0 HZ0
        have hbg := hb0 w1
        clear hb0
        go_wp2_with fail
        refine hbg.mono ?_
        rintro e w2 ⟨rfl, hww⟩
        obtain rfl := hww.symm
        clear hbg
        obtain ⟨W2, hW2⟩ : ∃ W2, w1.alloc (.cells #[.string s, .int .i64 (p : Int)] 39) = W2 := ⟨_, rfl⟩
        have HW2 := mkHidT hW2
        have hB2 : Below w1.heap.size w1 W2 := by rw [← hW2]; exact (Below.refl _ _).alloc (Nat.le_refl _) _
        have hBw2 : Below w.heap.size w W2 := HB1.out.trans (hB2.mono (by have := HS1.out; omega))
        have hbx : ImBox W2 w1.heap.size s p := by rw [← hW2]; exact im_sc hx (Below.heap_new _ _)
        have hs2 : W2.heap.size = w1.heap.size + 1 := by rw [← hW2]; simp
        have htk := imToken_any (w := W2) (g := w1.heap.size) (s := s) (p := p) (m := m) closed hbx (HEV.out.below hBw2) (HEV.out.far (by have := HS1.out; omega)) HV.out hs (by omega)
        rw [HT.out] at htk
        have HTK := mkHidT htk
        have HB2 := mkHidT hBw2
        have HS2 := mkHidT hs2
        have HZ2 := mkHidT (show W2.heap[w.heap.size]? = some zOut by rw [hB2.block w.heap.size (by have := HS1.out; omega)]; exact HZ1.out)
        clear htk hB2 hBw2 hbx hs2 hW2 HT HV c0 c1 c2 c3 c4 c5 f0 f1 f2 f3 f4 f5
        go_wp2_with fail
        rw [HW2.out]
        refine HTK.out.mono ?_
        rintro e w3 ⟨kd, nm, tx, ao, an, ac, q, rfl, hb3, hq, hTT, hg⟩
        have hsz3 : w1.heap.size + 1 ≤ w3.heap.size := by have := hg.size; rw [HS2.out] at this; exact this
        have hB3 : Below w.heap.size w w3 := HB2.out.grown hg (by have := HS1.out; rw [HS2.out]; omega) (fun k hk => by have := Option.some.inj hk; have := HS1.out; omega)
        obtain ⟨W4, hW4⟩ : ∃ W4, w3.alloc (.cells #[.int .i64 kd, .string nm, .string tx, .slice ao an ac] 24) = W4 := ⟨_, rfl⟩
        have hB34 : Below w3.heap.size w3 W4 := by rw [← hW4]; exact (Below.refl _ _).alloc (Nat.le_refl _) _
        have hB4 : Below w.heap.size w W4 := hB3.trans (hB34.mono (by have := HS1.out; omega))
        have hs4 : w1.heap.size + 2 ≤ W4.heap.size := by rw [← hW4]; simp; omega
        have hb4 : ImBox W4 w1.heap.size s q := by rw [← hW4]; exact im_alloc hb3 _
        have hk4 : TkBox W4 w3.heap.size kd nm tx (.slice ao an ac) := by rw [← hW4]; exact tk_new _ _ _ _ _
        have hz4 : W4.heap[w.heap.size]? = some zOut := by rw [hB34.block w.heap.size (by have := HS1.out; omega), hg.block w.heap.size (by have := HS1.out; rw [HS2.out]; omega) (fun e => by have := Option.some.inj e; have := HS1.out; omega)]; exact HZ2.out
        have hE4 : EtCell W4 := HET.out.below hB4
        have hT4 : T.fl = 0 → kd = T.kind ∧ nm = T.name ∧ tx = T.text ∧ q = T.pos ∧ W4.ownsRow (w.heap.size + 1) 85 2 (.slice ao an ac) T.attrs.length (acells T.attrs) := fun h0 => by
          obtain ⟨e1, e2, e3, e4, hr⟩ := hTT h0
          refine ⟨e1, e2, e3, e4, ?_⟩
          rw [← hW4]; exact row_mono (hr.alloc _) (by have := HS1.out; rw [HS2.out]; omega)
        obtain ⟨⟨c0, c1, c2, c3, c4, c5⟩, f0, f1, f2, f3, f4, f5⟩ := outcells hz4
        obtain ⟨k0, k1, k2, k3, kf0, kf1, kf2, kf3⟩ := tkcells hk4
        obtain ⟨b0, b1, bf1⟩ := imcells hb4
        have HB4 := mkHidT hB4
        have HS4 := mkHidT hs4
        have HZ4 := mkHidT hz4
        have HE4 := mkHidT hE4
        have HT4 := mkHidT hT4
        have HW4 := mkHidT hW4
        clear hB3 hB34 hB4 hs4 hb4 hk4 hz4 hE4 hT4 hb3 hTT hg HTK
        have hcase : T.fl = 0 ∨ T.fl = 1 ∨ T.fl = 2 ∨ T.fl = 3 := by omega
        clear hfl
        rcases hcase with hfl | hfl | hfl | hfl
        · obtain ⟨e1, e2, e3, e4, hr⟩ := HT4.out hfl
          have HR := mkHidT hr
          have HO := mkHidT (show outOf T closed = ⟨T, T.pos, 0⟩ by unfold outOf; rw [if_pos hfl])
          have HE := mkHidT e4
          have HE1 := mkHidT e1
          have HE2 := mkHidT e2
          have HE3 := mkHidT e3
          rw [hfl, errV0]
          clear hr HT4 hfl e1 e2 e3 e4
          subst hW4
          go_wp2
          rw [HO.out]
          refine bodyPost_ret (v := .agg #[.int .i64 kd, .string nm, .string tx, .slice ao an ac, .int .i64 (q : Int), .int .i64 0]) (by simp [results, Tryz.results5, go_sem, c0, c1, c2, c3, c4, c5]) rfl ?_
          obtain rfl := HE.out
          obtain rfl := HE1.out
          obtain rfl := HE2.out
          obtain rfl := HE3.out
          exact out_put (O := ⟨T, T.pos, 0⟩) HB4.out HR.out (by omega)
        · have HO := mkHidT (show outOf T closed = codeOut (flCode 1 closed) by unfold outOf; rw [if_neg (by omega), hfl]; rfl)
          have hfc := faultCode_any W4 1 closed (by decide) (by decide) HE4.out
          obtain ⟨cc, hcc⟩ : ∃ cc, flCode 1 closed = cc := ⟨_, rfl⟩
          rw [hcc] at hfc HO
          rw [errV1] at hfc
          rw [hfl, errV1]
          have HFC := mkHidT hfc
          clear HT4 hfl hcc hfc c0 c1 c2 c3 c4 c5 f0 f1 f2 f3 f4 f5
          go_wp2_with fail
          refine HFC.out.mono ?_
          rintro e w5 ⟨rfl, hg5⟩
          have hz5 : w5.heap[w.heap.size]? = some zOut := by rw [hg5.block w.heap.size (by have := HS4.out; have := HS1.out; omega) (fun e => by cases e)]; exact HZ4.out
          have HB5 := mkHidT (HB4.out.grown hg5 (by have := HS4.out; have := HS1.out; omega) (fun k hk => by cases hk))
          obtain ⟨⟨c0, c1, c2, c3, c4, c5⟩, f0, f1, f2, f3, f4, f5⟩ := outcells hz5
          clear hz5 hg5 HFC
          go_wp2
          rw [HO.out]
          refine bodyPost_ret (v := .agg #[.int .i64 0, .string ⟨#[]⟩, .string ⟨#[]⟩, .slice none 0 0, .int .i64 0, .int .i64 cc]) (by simp [results, Tryz.results5, go_sem, c0, c1, c2, c3, c4, c5]) rfl ?_
          exact code_put cc HB5.out
        · have HO := mkHidT (show outOf T closed = codeOut (flCode 2 closed) by unfold outOf; rw [if_neg (by omega), hfl]; rfl)
          have hfc := faultCode_any W4 2 closed (by decide) (by decide) HE4.out
          obtain ⟨cc, hcc⟩ : ∃ cc, flCode 2 closed = cc := ⟨_, rfl⟩
          rw [hcc] at hfc HO
          rw [errV2] at hfc
          rw [hfl, errV2]
          have HFC := mkHidT hfc
          clear HT4 hfl hcc hfc c0 c1 c2 c3 c4 c5 f0 f1 f2 f3 f4 f5
          go_wp2_with fail
          refine HFC.out.mono ?_
          rintro e w5 ⟨rfl, hg5⟩
          have hz5 : w5.heap[w.heap.size]? = some zOut := by rw [hg5.block w.heap.size (by have := HS4.out; have := HS1.out; omega) (fun e => by cases e)]; exact HZ4.out
          have HB5 := mkHidT (HB4.out.grown hg5 (by have := HS4.out; have := HS1.out; omega) (fun k hk => by cases hk))
          obtain ⟨⟨c0, c1, c2, c3, c4, c5⟩, f0, f1, f2, f3, f4, f5⟩ := outcells hz5
          clear hz5 hg5 HFC
          go_wp2
          rw [HO.out]
          refine bodyPost_ret (v := .agg #[.int .i64 0, .string ⟨#[]⟩, .string ⟨#[]⟩, .slice none 0 0, .int .i64 0, .int .i64 cc]) (by simp [results, Tryz.results5, go_sem, c0, c1, c2, c3, c4, c5]) rfl ?_
          exact code_put cc HB5.out
        · have HO := mkHidT (show outOf T closed = codeOut (flCode 3 closed) by unfold outOf; rw [if_neg (by omega), hfl]; rfl)
          have hfc := faultCode_any W4 3 closed (by decide) (by decide) HE4.out
          obtain ⟨cc, hcc⟩ : ∃ cc, flCode 3 closed = cc := ⟨_, rfl⟩
          rw [hcc] at hfc HO
          rw [errV3] at hfc
          rw [hfl, errV3]
          have HFC := mkHidT hfc
          clear HT4 hfl hcc hfc c0 c1 c2 c3 c4 c5 f0 f1 f2 f3 f4 f5
          go_wp2_with fail
          refine HFC.out.mono ?_
          rintro e w5 ⟨rfl, hg5⟩
          have hz5 : w5.heap[w.heap.size]? = some zOut := by rw [hg5.block w.heap.size (by have := HS4.out; have := HS1.out; omega) (fun e => by cases e)]; exact HZ4.out
          have HB5 := mkHidT (HB4.out.grown hg5 (by have := HS4.out; have := HS1.out; omega) (fun k hk => by cases hk))
          obtain ⟨⟨c0, c1, c2, c3, c4, c5⟩, f0, f1, f2, f3, f4, f5⟩ := outcells hz5
          clear hz5 hg5 HFC
          go_wp2
          rw [HO.out]
          refine bodyPost_ret (v := .agg #[.int .i64 0, .string ⟨#[]⟩, .string ⟨#[]⟩, .slice none 0 0, .int .i64 0, .int .i64 cc]) (by simp [results, Tryz.results5, go_sem, c0, c1, c2, c3, c4, c5]) rfl ?_
          exact code_put cc HB5.out
    · have hb' : begB s at0 = false := by simpa using hb
      rw [hb'] at hb0
      have hbb : ¬ _ := of_decide_eq_false hb'
      have hN : nextZ s at0 closed = codeOut 1 := by
        unfold nextZ
        rw [if_neg h4]
        by_cases h1 : 0 ≤ (scanAll s).2 ∨ fz s 0 [13] ≠ -1 ∨ at0 < 0 ∨ (s.size : Int) < at0
        · rw [if_pos h1]
        · rw [if_neg h1, if_neg (by omega), if_pos (by omega)]
      rw [hN]
      clear hN hM hb hb' hbb
      go_enter Tryz.func5, Tryz.ntmps5
      go_wp2_with fail
      rw [HW0.out]
      refine HR.out.mono ?_
      rintro e w1 ⟨rfl, hb⟩
      have HB1 := mkHidT (HB0.out.trans (hb.mono (by rw [HSZ.out]; omega)))
      have hz1 : w1.heap[w.heap.size]? = some zOut := by rw [hb.block w.heap.size (by rw [HSZ.out]; omega)]; exact HZ0.out
      have HZ1 := mkHidT hz1
      have HS1 := mkHidT (show w.heap.size + 1 ≤ w1.heap.size by have := hb.size; rw [HSZ.out] at this; exact this)
      obtain ⟨⟨c0, c1, c2, c3, c4, c5⟩, f0, f1, f2, f3, f4, f5⟩ := outcells hz1
      clear hb hz1 HR HB0 HZ0
      have hbg := hb0 w1
      clear hb0
      go_wp2_with fail
      refine hbg.mono ?_
      rintro e w2 ⟨rfl, hww⟩
      obtain rfl := hww.symm
      clear hbg
      go_wp2
      refine bodyPost_ret (v := .agg #[.int .i64 0, .string ⟨#[]⟩, .string ⟨#[]⟩, .slice none 0 0, .int .i64 0, .int .i64 1]) (by simp [results, Tryz.results5, go_sem, c0, c1, c2, c3, c4, c5]) rfl ?_
      exact code_put 1 HB1.out
  · rw [decide_eq_false hM] at HR
    have hN : nextZ s at0 closed = codeOut 1 := by
      unfold nextZ
      rw [if_neg h4, if_pos (by omega)]
    rw [hN]
    clear hN hM hb0
    go_enter Tryz.func5, Tryz.ntmps5
    go_wp2_with fail
    rw [HW0.out]
    refine HR.out.mono ?_
    rintro e w1 ⟨rfl, hb⟩
    have HB1 := mkHidT (HB0.out.trans (hb.mono (by rw [HSZ.out]; omega)))
    have hz1 : w1.heap[w.heap.size]? = some zOut := by rw [hb.block w.heap.size (by rw [HSZ.out]; omega)]; exact HZ0.out
    have HZ1 := mkHidT hz1
    have HS1 := mkHidT (show w.heap.size + 1 ≤ w1.heap.size by have := hb.size; rw [HSZ.out] at this; exact this)
    obtain ⟨⟨c0, c1, c2, c3, c4, c5⟩, f0, f1, f2, f3, f4, f5⟩ := outcells hz1
    clear hb hz1 HR HB0 HZ0
    go_wp2
    refine bodyPost_ret (v := .agg #[.int .i64 0, .string ⟨#[]⟩, .string ⟨#[]⟩, .slice none 0 0, .int .i64 0, .int .i64 1]) (by simp [results, Tryz.results5, go_sem, c0, c1, c2, c3, c4, c5]) rfl ?_
    exact code_put 1 HB1.out
theorem implNext_any (s : ByteArray) (at0 : Int) (closed : Bool) (w : World) (m : Int) (he : Env w m) (het : EtCell w) :
    Calls Tryz.prog 5 #[.string s, .int .i64 at0, .bool closed] w fun e w' => OutSays w (nextZ s at0 closed) e w' := @implNext_go scE rfl s at0 closed w m he het
end Go.Proofs.YtpkhdfddbcpciaaGreatDoor
