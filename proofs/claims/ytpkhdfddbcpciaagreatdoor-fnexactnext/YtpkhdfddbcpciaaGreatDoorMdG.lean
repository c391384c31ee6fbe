/- The model's Next. -/
import Derived.Test.YtpkhdfddbcpciaaGreatDoorMdF
namespace Go.Proofs.YtpkhdfddbcpciaaGreatDoor
open Go.RowKit Plain1 Strs Strs2 Lists Plain3 Plain5 Plain6 Plain9 Plain10 Plain11 Plain12 Plain16

set_option maxHeartbeats 4000000 in
theorem specNext_any (s : ByteArray) (at0 : Int) (closed : Bool) (w : World) (hs : s.size ≤ 1048576) :
    Calls Tryz.prog 4 #[.string s, .int .i64 at0, .bool closed] w fun e w' => OutSays w (nextZ s at0 closed) e w' := by
  obtain ⟨W0, hW0⟩ : ∃ W0, w.alloc zOut = W0 := ⟨_, rfl⟩
  have HW0 : Hid (w.alloc (.cells #[.int .i64 0, .string ⟨#[]⟩, .string ⟨#[]⟩, .slice none 0 0, .int .i64 0, .int .i64 0] 26) = W0) := mkHidT hW0
  clear hW0
  have HB0 := mkHidT (show Below w.heap.size w W0 by rw [← HW0.out]; exact (Below.refl _ _).alloc (Nat.le_refl _) _)
  have HSZ := mkHidT (show W0.heap.size = w.heap.size + 1 by rw [← HW0.out]; simp)
  have HZ0 := mkHidT (show W0.heap[w.heap.size]? = some zOut by rw [← HW0.out]; exact Below.heap_new _ _)
  by_cases h4 : 4000 < s.size
  · have hN : nextZ s at0 closed = codeOut 2 := by unfold nextZ; rw [if_pos h4]
    rw [hN]
    clear hN
    have h4' : (s.size : Int) > 4000 := by omega
    go_enter Tryz.func4, Tryz.ntmps4
    go_wp2
    refine bodyPost_ret (v := .agg #[.int .i64 0, .string ⟨#[]⟩, .string ⟨#[]⟩, .slice none 0 0, .int .i64 0, .int .i64 2]) (by simp [results, Tryz.results4, go_sem]) rfl ?_
    exact ⟨_, rfl, World.ownsRow_nil _ _ _ _, (Below.refl _ _).alloc (Nat.le_refl _) _⟩
  have h4' : ¬ (s.size : Int) > 4000 := by omega
  have HR := mkHidT (l01Runes_any s W0 hs)
  obtain ⟨z, hz⟩ : ∃ z, (scanAll s).2 = z := ⟨_, rfl⟩
  rw [hz] at HR
  by_cases hz0 : 0 ≤ z
  · have hN : nextZ s at0 closed = codeOut 1 := by unfold nextZ; rw [if_neg h4, if_pos (.inl (by rw [hz]; exact hz0))]
    rw [hN]
    clear hN hz
    go_enter Tryz.func4, Tryz.ntmps4
    go_wp2_with fail
    rw [HW0.out]
    refine HR.out.mono ?_
    rintro e w1 ⟨v, rfl, hr, hb⟩
    have HB1 := mkHidT (HB0.out.trans (hb.mono (by rw [HSZ.out]; omega)))
    have hz1 : w1.heap[w.heap.size]? = some zOut := by rw [hb.block w.heap.size (by rw [HSZ.out]; omega)]; exact HZ0.out
    have HZ1 := mkHidT hz1
    have HS1 := mkHidT (show w.heap.size + 1 ≤ w1.heap.size by have := hb.size; rw [HSZ.out] at this; exact this)
    obtain ⟨⟨c0, c1, c2, c3, c4, c5⟩, f0, f1, f2, f3, f4, f5⟩ := outcells hz1
    clear hr hb hz1 HR HB0 HZ0
    go_wp2
    refine bodyPost_ret (v := .agg #[.int .i64 0, .string ⟨#[]⟩, .string ⟨#[]⟩, .slice none 0 0, .int .i64 0, .int .i64 1]) (by simp [results, Tryz.results4, go_sem, c0, c1, c2, c3, c4, c5]) rfl ?_
    exact code_put 1 HB1.out
  have hf := fun wx => find_any s 0 ⟨#[13]⟩ wx hs (by decide) (Nat.zero_le _)
  simp only [findZ_fz (s := s) (what := ⟨#[13]⟩) (by simp) 0] at hf
  obtain ⟨y, hy⟩ : ∃ y, fz s 0 [13] = y := ⟨_, rfl⟩
  simp only [hy] at hf
  by_cases hy0 : 0 ≤ y
  · have hN : nextZ s at0 closed = codeOut 1 := by unfold nextZ; rw [if_neg h4, if_pos (.inr (.inl (by rw [hy]; omega)))]
    rw [hN]
    clear hN hz hy
    go_enter Tryz.func4, Tryz.ntmps4
    go_wp2_with fail
    rw [HW0.out]
    refine HR.out.mono ?_
    rintro e w1 ⟨v, rfl, hr, hb⟩
    have HB1 := mkHidT (HB0.out.trans (hb.mono (by rw [HSZ.out]; omega)))
    have hz1 : w1.heap[w.heap.size]? = some zOut := by rw [hb.block w.heap.size (by rw [HSZ.out]; omega)]; exact HZ0.out
    have HZ1 := mkHidT hz1
    have HS1 := mkHidT (show w.heap.size + 1 ≤ w1.heap.size by have := hb.size; rw [HSZ.out] at this; exact this)
    obtain ⟨⟨c0, c1, c2, c3, c4, c5⟩, f0, f1, f2, f3, f4, f5⟩ := outcells hz1
    clear hr hb hz1 HR HB0 HZ0
    go_wp2_with fail
    refine (hf _).mono ?_
    rintro e w2 ⟨rfl, hww⟩
    obtain rfl := hww
    go_wp2
    refine bodyPost_ret (v := .agg #[.int .i64 0, .string ⟨#[]⟩, .string ⟨#[]⟩, .slice none 0 0, .int .i64 0, .int .i64 1]) (by simp [results, Tryz.results4, go_sem, c0, c1, c2, c3, c4, c5]) rfl ?_
    exact code_put 1 HB1.out
  have hy1 : y = -1 := by rcases fz_spec s 0 [13] (Nat.zero_le _) with h | ⟨i, h, _⟩ <;> omega
  by_cases ha : at0 < 0
  · have hN : nextZ s at0 closed = codeOut 1 := by unfold nextZ; rw [if_neg h4, if_pos (.inr (.inr (.inl ha)))]
    rw [hN]
    clear hN hz hy hy1
    go_enter Tryz.func4, Tryz.ntmps4
    go_wp2_with fail
    rw [HW0.out]
    refine HR.out.mono ?_
    rintro e w1 ⟨v, rfl, hr, hb⟩
    have HB1 := mkHidT (HB0.out.trans (hb.mono (by rw [HSZ.out]; omega)))
    have hz1 : w1.heap[w.heap.size]? = some zOut := by rw [hb.block w.heap.size (by rw [HSZ.out]; omega)]; exact HZ0.out
    have HZ1 := mkHidT hz1
    have HS1 := mkHidT (show w.heap.size + 1 ≤ w1.heap.size by have := hb.size; rw [HSZ.out] at this; exact this)
    obtain ⟨⟨c0, c1, c2, c3, c4, c5⟩, f0, f1, f2, f3, f4, f5⟩ := outcells hz1
    clear hr hb hz1 HR HB0 HZ0
    go_wp2_with fail
    refine (hf _).mono ?_
    rintro e w2 ⟨rfl, hww⟩
    obtain rfl := hww
    go_wp2
    refine bodyPost_ret (v := .agg #[.int .i64 0, .string ⟨#[]⟩, .string ⟨#[]⟩, .slice none 0 0, .int .i64 0, .int .i64 1]) (by simp [results, Tryz.results4, go_sem, c0, c1, c2, c3, c4, c5]) rfl ?_
    exact code_put 1 HB1.out
  by_cases hb : (s.size : Int) < at0
  · have hN : nextZ s at0 closed = codeOut 1 := by unfold nextZ; rw [if_neg h4, if_pos (.inr (.inr (.inr hb)))]
    rw [hN]
    clear hN hz hy hy1
    have hb' : at0 > (s.size : Int) := hb
    go_enter Tryz.func4, Tryz.ntmps4
    go_wp2_with fail
    rw [HW0.out]
    refine HR.out.mono ?_
    rintro e w1 ⟨v, rfl, hr, hb⟩
    have HB1 := mkHidT (HB0.out.trans (hb.mono (by rw [HSZ.out]; omega)))
    have hz1 : w1.heap[w.heap.size]? = some zOut := by rw [hb.block w.heap.size (by rw [HSZ.out]; omega)]; exact HZ0.out
    have HZ1 := mkHidT hz1
    have HS1 := mkHidT (show w.heap.size + 1 ≤ w1.heap.size by have := hb.size; rw [HSZ.out] at this; exact this)
    obtain ⟨⟨c0, c1, c2, c3, c4, c5⟩, f0, f1, f2, f3, f4, f5⟩ := outcells hz1
    clear hr hb hz1 HR HB0 HZ0
    go_wp2_with fail
    refine (hf _).mono ?_
    rintro e w2 ⟨rfl, hww⟩
    obtain rfl := hww
    go_wp2
    refine bodyPost_ret (v := .agg #[.int .i64 0, .string ⟨#[]⟩, .string ⟨#[]⟩, .slice none 0 0, .int .i64 0, .int .i64 1]) (by simp [results, Tryz.results4, go_sem, c0, c1, c2, c3, c4, c5]) rfl ?_
    exact code_put 1 HB1.out
  have hb' : ¬ at0 > (s.size : Int) := hb
  have hN0 : nextZ s at0 closed = (if at0 = s.size then codeOut 10
      else if 128 ≤ byteAt s at0.toNat ∧ byteAt s at0.toNat < 192 then codeOut 1
      else if byteAt s at0.toNat = 60 then outOf (markZ s at0.toNat) closed
      else outOf (textZ s at0.toNat closed) closed) := by
    conv => lhs; unfold nextZ
    rw [if_neg h4, if_neg (by rw [hz, hy]; omega)]
  clear hz hy hy1
  by_cases he : at0 = s.size
  · rw [hN0, if_pos he]
    subst he
    clear hN0
    go_enter Tryz.func4, Tryz.ntmps4
    go_wp2_with fail
    rw [HW0.out]
    refine HR.out.mono ?_
    rintro e w1 ⟨v, rfl, hr, hb⟩
    have HB1 := mkHidT (HB0.out.trans (hb.mono (by rw [HSZ.out]; omega)))
    have hz1 : w1.heap[w.heap.size]? = some zOut := by rw [hb.block w.heap.size (by rw [HSZ.out]; omega)]; exact HZ0.out
    have HZ1 := mkHidT hz1
    have HS1 := mkHidT (show w.heap.size + 1 ≤ w1.heap.size by have := hb.size; rw [HSZ.out] at this; exact this)
    obtain ⟨⟨c0, c1, c2, c3, c4, c5⟩, f0, f1, f2, f3, f4, f5⟩ := outcells hz1
    clear hr hb hz1 HR HB0 HZ0
    go_wp2_with fail
    refine (hf _).mono ?_
    rintro e w2 ⟨rfl, hww⟩
    obtain rfl := hww
    go_wp2
    refine bodyPost_ret (v := .agg #[.int .i64 0, .string ⟨#[]⟩, .string ⟨#[]⟩, .slice none 0 0, .int .i64 0, .int .i64 10]) (by simp [results, Tryz.results4, go_sem, c0, c1, c2, c3, c4, c5]) rfl ?_
    exact code_put 10 HB1.out
  rw [if_neg he] at hN0
  obtain ⟨p, rfl⟩ : ∃ p : Nat, at0 = p := ⟨at0.toNat, by omega⟩
  rw [show ((p : Int)).toNat = p from rfl] at hN0
  have hp : p < s.size := by omega
  obtain ⟨c, hc⟩ : ∃ c : Int, byteAt s p = c := ⟨_, rfl⟩
  have hix : ∀ wx, (Instr.index 9 (.string s) (.int .i64 (p : Int))).run Tryz.prog wx = .ok (.int .u8 c) wx := fun wx => by rw [run_index_byte wx 9 s p hp Tryz.underlying9, hc]
  rw [hc] at hN0
  have hne : ((p : Int) == (s.size : Int)) = false := beq_eq_false_iff_ne.2 he
  have hlx := fun w1 => l02Next_any s p closed w1 hs hp
  rw [hc] at hlx
  have HL := mkHidT hlx
  clear hlx hc
  by_cases h1 : 128 ≤ c
  · have h1' : c ≥ 128 := h1
    by_cases h2 : c < 192
    · rw [hN0, if_pos ⟨h1, h2⟩]
      clear hN0
      go_enter Tryz.func4, Tryz.ntmps4
      go_wp2_with fail
      rw [HW0.out]
      refine HR.out.mono ?_
      rintro e w1 ⟨v, rfl, hr, hb⟩
      have HB1 := mkHidT (HB0.out.trans (hb.mono (by rw [HSZ.out]; omega)))
      have hz1 : w1.heap[w.heap.size]? = some zOut := by rw [hb.block w.heap.size (by rw [HSZ.out]; omega)]; exact HZ0.out
      have HZ1 := mkHidT hz1
      have HS1 := mkHidT (show w.heap.size + 1 ≤ w1.heap.size by have := hb.size; rw [HSZ.out] at this; exact this)
      obtain ⟨⟨c0, c1, c2, c3, c4, c5⟩, f0, f1, f2, f3, f4, f5⟩ := outcells hz1
      clear hr hb hz1 HR HB0 HZ0
      go_wp2_with fail
      refine (hf _).mono ?_
      rintro e w2 ⟨rfl, hww⟩
      obtain rfl := hww
      go_wp2
      refine bodyPost_ret (v := .agg #[.int .i64 0, .string ⟨#[]⟩, .string ⟨#[]⟩, .slice none 0 0, .int .i64 0, .int .i64 1]) (by simp [results, Tryz.results4, go_sem, c0, c1, c2, c3, c4, c5]) rfl ?_
      exact code_put 1 HB1.out
    · have hN1 : outOf (if c = 60 then markZ s p else textZ s p closed) closed = nextZ s (p : Int) closed := by rw [hN0, if_neg (show ¬ (128 ≤ c ∧ c < 192) by omega)]; by_cases h6 : c = 60 <;> simp only [h6, if_true, if_false]
      obtain ⟨O, hO⟩ : ∃ O, nextZ s (p : Int) closed = O := ⟨_, rfl⟩
      rw [hO] at hN1 ⊢
      have HN := mkHidT hN1
      clear hN0 hO hN1
      go_enter Tryz.func4, Tryz.ntmps4
      go_wp2_with fail
      rw [HW0.out]
      refine HR.out.mono ?_
      rintro e w1 ⟨v, rfl, hr, hb⟩
      have HB1 := mkHidT (HB0.out.trans (hb.mono (by rw [HSZ.out]; omega)))
      have hz1 : w1.heap[w.heap.size]? = some zOut := by rw [hb.block w.heap.size (by rw [HSZ.out]; omega)]; exact HZ0.out
      have HZ1 := mkHidT hz1
      have HS1 := mkHidT (show w.heap.size + 1 ≤ w1.heap.size by have := hb.size; rw [HSZ.out] at this; exact this)
      obtain ⟨⟨c0, c1, c2, c3, c4, c5⟩, f0, f1, f2, f3, f4, f5⟩ := outcells hz1
      clear hr hb hz1 HR HB0 HZ0
      go_wp2_with fail
      refine (hf _).mono ?_
      rintro e w2 ⟨rfl, hww⟩
      obtain rfl := hww
      go_wp2_with fail
      refine (HL.out _).mono ?_
      rw [HN.out]
      rintro e w3 ⟨v, rfl, hr, hb⟩
      obtain ⟨ao, an, ac, rfl⟩ := row_slice hr
      have hz2 : w3.heap[w.heap.size]? = some zOut := by rw [hb.block w.heap.size (by have := HS1.out; omega)]; exact HZ1.out
      have HB := mkHidT (HB1.out.trans (hb.mono (by have := HS1.out; omega)))
      have HRR := mkHidT hr
      clear c0 c1 c2 c3 c4 c5 f0 f1 f2 f3 f4 f5 hr hb
      obtain ⟨⟨c0, c1, c2, c3, c4, c5⟩, f0, f1, f2, f3, f4, f5⟩ := outcells hz2
      clear hz2 HL
      go_wp2
      refine bodyPost_ret (v := .agg #[.int .i64 O.tk.kind, .string O.tk.name, .string O.tk.text, .slice ao an ac, .int .i64 O.at1, .int .i64 O.code]) (by simp [results, Tryz.results4, go_sem, c0, c1, c2, c3, c4, c5]) rfl ?_
      exact out_put HB.out HRR.out (by have := HS1.out; omega)
  · have h1' : ¬ c ≥ 128 := h1
    have hN1 : outOf (if c = 60 then markZ s p else textZ s p closed) closed = nextZ s (p : Int) closed := by rw [hN0, if_neg (show ¬ (128 ≤ c ∧ c < 192) by omega)]; by_cases h6 : c = 60 <;> simp only [h6, if_true, if_false]
    obtain ⟨O, hO⟩ : ∃ O, nextZ s (p : Int) closed = O := ⟨_, rfl⟩
    rw [hO] at hN1 ⊢
    have HN := mkHidT hN1
    clear hN0 hO hN1
    go_enter Tryz.func4, Tryz.ntmps4
    go_wp2_with fail
    rw [HW0.out]
    refine HR.out.mono ?_
    rintro e w1 ⟨v, rfl, hr, hb⟩
    have HB1 := mkHidT (HB0.out.trans (hb.mono (by rw [HSZ.out]; omega)))
    have hz1 : w1.heap[w.heap.size]? = some zOut := by rw [hb.block w.heap.size (by rw [HSZ.out]; omega)]; exact HZ0.out
    have HZ1 := mkHidT hz1
    have HS1 := mkHidT (show w.heap.size + 1 ≤ w1.heap.size by have := hb.size; rw [HSZ.out] at this; exact this)
    obtain ⟨⟨c0, c1, c2, c3, c4, c5⟩, f0, f1, f2, f3, f4, f5⟩ := outcells hz1
    clear hr hb hz1 HR HB0 HZ0
    go_wp2_with fail
    refine (hf _).mono ?_
    rintro e w2 ⟨rfl, hww⟩
    obtain rfl := hww
    go_wp2_with fail
    refine (HL.out _).mono ?_
    rw [HN.out]
    rintro e w3 ⟨v, rfl, hr, hb⟩
    obtain ⟨ao, an, ac, rfl⟩ := row_slice hr
    have hz2 : w3.heap[w.heap.size]? = some zOut := by rw [hb.block w.heap.size (by have := HS1.out; omega)]; exact HZ1.out
    have HB := mkHidT (HB1.out.trans (hb.mono (by have := HS1.out; omega)))
    have HRR := mkHidT hr
    clear c0 c1 c2 c3 c4 c5 f0 f1 f2 f3 f4 f5 hr hb
    obtain ⟨⟨c0, c1, c2, c3, c4, c5⟩, f0, f1, f2, f3, f4, f5⟩ := outcells hz2
    clear hz2 HL
    go_wp2
    refine bodyPost_ret (v := .agg #[.int .i64 O.tk.kind, .string O.tk.name, .string O.tk.text, .slice ao an ac, .int .i64 O.at1, .int .i64 O.code]) (by simp [results, Tryz.results4, go_sem, c0, c1, c2, c3, c4, c5]) rfl ?_
    exact out_put HB.out HRR.out (by have := HS1.out; omega)
end Go.Proofs.YtpkhdfddbcpciaaGreatDoor
