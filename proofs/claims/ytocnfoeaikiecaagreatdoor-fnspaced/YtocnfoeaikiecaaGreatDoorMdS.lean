import Derived.Test.YtocnfoeaikiecaaGreatDoorMdA
set_option maxHeartbeats 2000000
namespace Go.Proofs.YtocnfoeaikiecaaGreatDoor
open Go.RowKit Plain1 Plain6 Tryz
theorem aY8 (s : ByteArray) (w : World) :
 Calls prog 39 #[.string s] w fun e w' => e = .returned (.bool (aV6 s)) ∧ Below w.heap.size w w' := by
 by_cases h1 : s.size < 1
 · rw [bJg h1]
   go_enter func39, ntmps39
   go_wp2_with fail
   go_ret
   exact ⟨rfl, Below.refl _ _⟩
 by_cases h2 : 60 < s.size
 · rw [aWi h2]
   go_enter func39, ntmps39
   go_wp2_with fail
   go_ret
   exact ⟨rfl, Below.refl _ _⟩
 rw [cVb (by omega) (by omega)]
 have hcall := bQk s 0 w (by omega) (by omega)
 obtain ⟨R, hR⟩ := nmE (nameZ s 0)
 rw [hR] at hcall ⊢
 clear hR
 go_enter func39, ntmps39
 go_wp2_with (go_at_call 61; refine hcall.mono ?_; rintro e w1 ⟨rfl, hb1⟩)
 go_ret
 refine ⟨aXd ?_, hb1⟩
 apply Bool.eq_iff_iff.2
 simp
 try omega
open Go.RowKit Strs Strs2 Lists Plain6 PlainS
theorem bK1 {p : Prop} (h : p) : Hid p := h
theorem bV7 {w w' : World} (h : Below w.drew.heap.size w.drew w') : Below w.heap.size w w' := ⟨h.os, h.tape, h.output, h.size, h.block⟩
def bWo (s : ByteArray) : Option Int → ByteArray × ByteArray × Bool
 | none => (⟨#[]⟩, ⟨#[]⟩, false)
 | some k => if k < 0 then (⟨#[]⟩, s, aV6 s) else (s.extract 0 k.toNat, s.extract (k.toNat + 1) s.size, aV6 (s.extract 0 k.toNat) && aV6 (s.extract (k.toNat + 1) s.size))
theorem dVa (s : ByteArray) : aQo s = bWo s (colZ s) := by unfold aQo bWo; cases colZ s <;> rfl
theorem aJy (s : ByteArray) (w : World) (hs : s.size ≤ 1048576) :
 Calls prog 25 #[.string s] w fun e w' => e = .returned (.tuple #[.string (aQo s).1, .string (aQo s).2.1, .bool (aQo s).2.2]) ∧ Below w.heap.size w w' := by
 rw [dVa]
 obtain ⟨R, hR⟩ := nmE (colZ s)
 rw [hR]
 have HR := bK1 hR
 obtain ⟨Z, hZ⟩ := nmE (bWo s R)
 rw [hZ]
 have HZ := bK1 hZ
 clear hR hZ
 go_enter func25, ntmps25
 go_wp2
 go_loop [5, 6] (fun kv iv => ∃ (f i : Nat) (k : Int), kv = .int .i64 k ∧ iv = .int .i64 i ∧ i ≤ s.size ∧ aKd s f i k = R ∧ s.size < i + f ∧ -1 ≤ k ∧ k < s.size) (fun _ iv => s.size - (intOf iv).toNat)
 case atStart => exact ⟨s.size + 1, 0, -1, rfl, rfl, Nat.zero_le _, HR.out, by omega, by omega, by omega⟩
 case round =>
  obtain ⟨f, i, k, rfl, rfl, hi, hgo, hf, hk1, hk2⟩ := hrel
  have HG := bK1 hgo
  clear hgo
  by_cases hlt : i < s.size
  · obtain ⟨f', rfl⟩ : ∃ f', f = f' + 1 := ⟨f - 1, by omega⟩
    obtain ⟨d, hd⟩ := nmE (aQ1 s i)
    have hix : ∀ wx, (Instr.index 9 (.string s) (.int .i64 (i : Int))).run prog wx = .ok (.int .u8 d) wx := fun wx => by rw [aQ8 wx 9 s i (by omega) underlying9, hd]
    have HD := bK1 hd
    clear hd
    by_cases h58 : d = 58
    · subst h58
      by_cases hk : 0 ≤ k
      · have hR : R = none := by rw [← HG.out]; exact cKl hlt HD.out hk
        have hZ2 : Z = (⟨#[]⟩, ⟨#[]⟩, false) := by rw [← HZ.out, hR]; rfl
        subst hZ2
        clear hR
        go_wp2
        refine bodyPost_ret (v := .tuple #[.string ⟨#[]⟩, .string ⟨#[]⟩, .bool false]) (by simp [results, results25, go_sem]) rfl ?_
        exact ⟨rfl, Below.refl _ _⟩
      · have hR : aKd s f' (i + 1) i = R := by rw [← HG.out]; exact (cKn hlt HD.out hk).symm
        have HR2 := bK1 hR
        clear hR
        go_wp2
        go_round
        case rel => exact ⟨f', i + 1, i, rfl, by go_num, by omega, HR2.out, by omega, by omega, by omega⟩
        case measure => simp [intOf]; omega
    · have hR : aKd s f' (i + 1) k = R := by rw [← HG.out]; exact (cKo hlt (by rw [HD.out]; exact h58)).symm
      have HR2 := bK1 hR
      clear hR
      go_wp2
      go_round
      case rel => exact ⟨f', i + 1, k, rfl, by go_num, by omega, HR2.out, by omega, by omega, by omega⟩
      case measure => simp [intOf]; omega
  · have hR : R = some k := by rw [← HG.out]; exact cQt hlt
    by_cases hk : k < 0
    · have hF : Z = (⟨#[]⟩, s, aV6 s) := by rw [← HZ.out, hR]; unfold bWo; simp only; rw [if_pos hk]
      subst hF
      clear hR
      have hn := fun wx => aY8 s wx
      go_wp2_with (go_at_call 39; refine (hn _).mono ?_; rintro e w1 ⟨rfl, hb1⟩)
      refine bodyPost_ret (v := .tuple #[.string ⟨#[]⟩, .string s, .bool (aV6 s)]) (by simp [results, results25, go_sem]) rfl ?_
      exact ⟨rfl, hb1⟩
    · obtain ⟨j, rfl⟩ : ∃ j : Nat, k = (j : Int) := ⟨k.toNat, by omega⟩
      have hF : Z = (s.extract 0 j, s.extract (j + 1) s.size, aV6 (s.extract 0 j) && aV6 (s.extract (j + 1) s.size)) := by
       rw [← HZ.out, hR]; unfold bWo; simp only; rw [if_neg hk, Int.toNat_natCast]
      have hj : j < s.size := by omega
      have hw1 : IntKind.i64.wrap ((j : Int) + 1) = (j : Int) + 1 := aXt (by omega) (by omega)
      have hsl1 : ∀ wx, (Instr.slice 9 (.string s) none (some (.int .i64 (j : Int))) none).run prog wx = .ok (.string (s.extract 0 j)) wx := fun wx => cKg wx _ s j _ rfl (by omega) underlying9
      have hsl2 : ∀ wx, (Instr.slice 9 (.string s) (some (.int .i64 ((j : Int) + 1))) none none).run prog wx = .ok (.string (s.extract (j + 1) s.size)) wx := fun wx => dX5 wx _ s (j + 1) _ (by omega) (by omega) underlying9
      obtain ⟨X, hX⟩ := nmE (s.extract 0 j)
      obtain ⟨Y, hY⟩ := nmE (s.extract (j + 1) s.size)
      rw [hX] at hsl1 hF
      rw [hY] at hsl2 hF
      subst hF
      have hn1 := fun wx => aY8 X wx
      have hn2 := fun wx => aY8 Y wx
      clear hX hY hR
      cases hbX : aV6 X with
      | false =>
       rw [hbX] at hn1
       go_wp2_with fail
       refine wp_region_any (by kernel_rfl) ?_
       (try (change wpAny _ _ _ _ _ _ _ (World.drew _)))
       refine wpAny_take (i := 0) (v := .string s) rfl (by kernel_rfl) (by kernel_rfl) (by kernel_rfl) (fun _ _ _ h => h) (Or.inl ⟨by rfl, by intro wx; go_simp⟩) ?_
       dsimp [Act.put]
       refine wpAny_take (i := 1) (v := .int .i64 (j : Int)) rfl (by kernel_rfl) (by kernel_rfl) (by kernel_rfl) (fun _ _ _ h => h) (Or.inl ⟨by rfl, by intro wx; go_simp⟩) ?_
       dsimp [Act.put]
       refine wpAny_take (i := 2) (v := .string X) rfl (by kernel_rfl) (by kernel_rfl) (by kernel_rfl) (fun _ _ _ h => h) (Or.inl ⟨by rfl, by intro wx; go_simp⟩) ?_
       dsimp [Act.put]
       refine wpAny_take (i := 3) (v := .string s) rfl (by kernel_rfl) (by kernel_rfl) (by kernel_rfl) (fun _ _ _ h => h) (Or.inl ⟨by rfl, by intro wx; go_simp⟩) ?_
       dsimp [Act.put]
       refine wpAny_take (i := 4) (v := .int .i64 (j : Int)) rfl (by kernel_rfl) (by kernel_rfl) (by kernel_rfl) (fun _ _ _ h => h) (Or.inl ⟨by rfl, by intro wx; go_simp⟩) ?_
       dsimp [Act.put]
       refine wpAny_take (i := 5) (v := .int .i64 ((j : Int) + 1)) rfl (by kernel_rfl) (by kernel_rfl) (by kernel_rfl) (fun _ _ _ h => h) (Or.inl ⟨by rfl, by intro wx; go_simp⟩) ?_
       dsimp [Act.put]
       refine wpAny_take (i := 6) (v := .string Y) rfl (by kernel_rfl) (by kernel_rfl) (by kernel_rfl) (fun _ _ _ h => h) (Or.inl ⟨by rfl, by intro wx; go_simp⟩) ?_
       dsimp [Act.put]
       refine wpAny_take (i := 7) (v := .string s) rfl (by kernel_rfl) (by kernel_rfl) (by kernel_rfl) (fun _ _ _ h => h) (Or.inl ⟨by rfl, by intro wx; go_simp⟩) ?_
       dsimp [Act.put]
       refine wpAny_take (i := 8) (v := .int .i64 (j : Int)) rfl (by kernel_rfl) (by kernel_rfl) (by kernel_rfl) (fun _ _ _ h => h) (Or.inl ⟨by rfl, by intro wx; go_simp⟩) ?_
       dsimp [Act.put]
       refine wpAny_take (i := 9) (v := .string X) rfl (by kernel_rfl) (by kernel_rfl) (by kernel_rfl) (fun _ _ _ h => h) (Or.inl ⟨by rfl, by intro wx; go_simp⟩) ?_
       dsimp [Act.put]
       refine wpAny_ready (rs := [10]) (by kernel_rfl) (by simp) ?_
       refine AllReady.cons rfl (fun K hK => ?_) AllReady.nil
       go_simp
       go_wp2_with (go_at_call 39; refine (hn1 _).mono ?_; rintro e w1 ⟨rfl, hb1⟩)
       (first | (refine hK _ _ ?_; clear hK K) | skip)
       refine wpAny_take (i := 11) (v := .bool false) rfl (by kernel_rfl) (by kernel_rfl) (by kernel_rfl) (fun _ _ _ h => h) (Or.inl ⟨by rfl, by intro wx; go_simp⟩) ?_
       dsimp [Act.put]
       refine wpAny_take (i := 12) (v := undef) rfl (by kernel_rfl) (by kernel_rfl) (by kernel_rfl) (fun _ _ _ h => h) (Or.inr ⟨by rfl, rfl⟩) ?_
       dsimp [Act.put]
       refine wpAny_take (i := 13) (v := undef) rfl (by kernel_rfl) (by kernel_rfl) (by kernel_rfl) (fun _ _ _ h => h) (Or.inr ⟨by rfl, rfl⟩) ?_
       dsimp [Act.put]
       refine wpAny_take (i := 14) (v := undef) rfl (by kernel_rfl) (by kernel_rfl) (by kernel_rfl) (fun _ _ _ h => h) (Or.inr ⟨by rfl, rfl⟩) ?_
       dsimp [Act.put]
       refine wpAny_take (i := 15) (v := undef) rfl (by kernel_rfl) (by kernel_rfl) (by kernel_rfl) (fun _ _ _ h => h) (Or.inr ⟨by rfl, rfl⟩) ?_
       dsimp [Act.put]
       refine wpAny_take (i := 16) (v := undef) rfl (by kernel_rfl) (by kernel_rfl) (by kernel_rfl) (fun _ _ _ h => h) (Or.inr ⟨by rfl, rfl⟩) ?_
       dsimp [Act.put]
       refine wpAny_take (i := 17) (v := .bool false) rfl (by kernel_rfl) (by kernel_rfl) (by kernel_rfl) (fun _ _ _ h => h) (Or.inl ⟨by rfl, by intro wx; go_simp⟩) ?_
       dsimp [Act.put]
       refine wpAny_take (i := 18) (v := .string X) rfl (by kernel_rfl) (by kernel_rfl) (by kernel_rfl) (fun _ _ _ h => h) (Or.inl ⟨by rfl, by intro wx; go_simp⟩) ?_
       dsimp [Act.put]
       refine wpAny_take (i := 19) (v := .string Y) rfl (by kernel_rfl) (by kernel_rfl) (by kernel_rfl) (fun _ _ _ h => h) (Or.inl ⟨by rfl, by intro wx; go_simp⟩) ?_
       dsimp [Act.put]
       refine wpAny_take (i := 20) (v := .bool false) rfl (by kernel_rfl) (by kernel_rfl) (by kernel_rfl) (fun _ _ _ h => h) (Or.inl ⟨by rfl, by intro wx; go_simp⟩) ?_
       dsimp [Act.put]
       refine wpAny_done (by kernel_rfl) ?_ _
       go_wp2
       go_ret3
       exact ⟨rfl, bV7 hb1⟩
      | true =>
       rw [hbX] at hn1
       go_wp2_with fail
       refine wp_region_any (by kernel_rfl) ?_
       (try (change wpAny _ _ _ _ _ _ _ (World.drew _)))
       refine wpAny_take (i := 0) (v := .string s) rfl (by kernel_rfl) (by kernel_rfl) (by kernel_rfl) (fun _ _ _ h => h) (Or.inl ⟨by rfl, by intro wx; go_simp⟩) ?_
       dsimp [Act.put]
       refine wpAny_take (i := 1) (v := .int .i64 (j : Int)) rfl (by kernel_rfl) (by kernel_rfl) (by kernel_rfl) (fun _ _ _ h => h) (Or.inl ⟨by rfl, by intro wx; go_simp⟩) ?_
       dsimp [Act.put]
       refine wpAny_take (i := 2) (v := .string X) rfl (by kernel_rfl) (by kernel_rfl) (by kernel_rfl) (fun _ _ _ h => h) (Or.inl ⟨by rfl, by intro wx; go_simp⟩) ?_
       dsimp [Act.put]
       refine wpAny_take (i := 3) (v := .string s) rfl (by kernel_rfl) (by kernel_rfl) (by kernel_rfl) (fun _ _ _ h => h) (Or.inl ⟨by rfl, by intro wx; go_simp⟩) ?_
       dsimp [Act.put]
       refine wpAny_take (i := 4) (v := .int .i64 (j : Int)) rfl (by kernel_rfl) (by kernel_rfl) (by kernel_rfl) (fun _ _ _ h => h) (Or.inl ⟨by rfl, by intro wx; go_simp⟩) ?_
       dsimp [Act.put]
       refine wpAny_take (i := 5) (v := .int .i64 ((j : Int) + 1)) rfl (by kernel_rfl) (by kernel_rfl) (by kernel_rfl) (fun _ _ _ h => h) (Or.inl ⟨by rfl, by intro wx; go_simp⟩) ?_
       dsimp [Act.put]
       refine wpAny_take (i := 6) (v := .string Y) rfl (by kernel_rfl) (by kernel_rfl) (by kernel_rfl) (fun _ _ _ h => h) (Or.inl ⟨by rfl, by intro wx; go_simp⟩) ?_
       dsimp [Act.put]
       refine wpAny_take (i := 7) (v := .string s) rfl (by kernel_rfl) (by kernel_rfl) (by kernel_rfl) (fun _ _ _ h => h) (Or.inl ⟨by rfl, by intro wx; go_simp⟩) ?_
       dsimp [Act.put]
       refine wpAny_take (i := 8) (v := .int .i64 (j : Int)) rfl (by kernel_rfl) (by kernel_rfl) (by kernel_rfl) (fun _ _ _ h => h) (Or.inl ⟨by rfl, by intro wx; go_simp⟩) ?_
       dsimp [Act.put]
       refine wpAny_take (i := 9) (v := .string X) rfl (by kernel_rfl) (by kernel_rfl) (by kernel_rfl) (fun _ _ _ h => h) (Or.inl ⟨by rfl, by intro wx; go_simp⟩) ?_
       dsimp [Act.put]
       refine wpAny_ready (rs := [10]) (by kernel_rfl) (by simp) ?_
       refine AllReady.cons rfl (fun K hK => ?_) AllReady.nil
       go_simp
       go_wp2_with (go_at_call 39; refine (hn1 _).mono ?_; rintro e w1 ⟨rfl, hb1⟩)
       (first | (refine hK _ _ ?_; clear hK K) | skip)
       refine wpAny_take (i := 11) (v := .bool true) rfl (by kernel_rfl) (by kernel_rfl) (by kernel_rfl) (fun _ _ _ h => h) (Or.inl ⟨by rfl, by intro wx; go_simp⟩) ?_
       dsimp [Act.put]
       refine wpAny_take (i := 12) (v := .string s) rfl (by kernel_rfl) (by kernel_rfl) (by kernel_rfl) (fun _ _ _ h => h) (Or.inl ⟨by rfl, by intro wx; go_simp⟩) ?_
       dsimp [Act.put]
       refine wpAny_take (i := 13) (v := .int .i64 (j : Int)) rfl (by kernel_rfl) (by kernel_rfl) (by kernel_rfl) (fun _ _ _ h => h) (Or.inl ⟨by rfl, by intro wx; go_simp⟩) ?_
       dsimp [Act.put]
       refine wpAny_take (i := 14) (v := .int .i64 ((j : Int) + 1)) rfl (by kernel_rfl) (by kernel_rfl) (by kernel_rfl) (fun _ _ _ h => h) (Or.inl ⟨by rfl, by intro wx; go_simp⟩) ?_
       dsimp [Act.put]
       refine wpAny_take (i := 15) (v := .string Y) rfl (by kernel_rfl) (by kernel_rfl) (by kernel_rfl) (fun _ _ _ h => h) (Or.inl ⟨by rfl, by intro wx; go_simp⟩) ?_
       dsimp [Act.put]
       refine wpAny_ready (rs := [16]) (by kernel_rfl) (by simp) ?_
       refine AllReady.cons rfl (fun K hK => ?_) AllReady.nil
       go_simp
       go_wp2_with (go_at_call 39; refine (hn2 _).mono ?_; rintro e w2 ⟨rfl, hb2⟩)
       (first | (refine hK _ _ ?_; clear hK K) | skip)
       refine wpAny_take (i := 17) (v := .bool (aV6 Y)) rfl (by kernel_rfl) (by kernel_rfl) (by kernel_rfl) (fun _ _ _ h => h) (Or.inl ⟨by rfl, by intro wx; go_simp⟩) ?_
       dsimp [Act.put]
       refine wpAny_take (i := 18) (v := .string X) rfl (by kernel_rfl) (by kernel_rfl) (by kernel_rfl) (fun _ _ _ h => h) (Or.inl ⟨by rfl, by intro wx; go_simp⟩) ?_
       dsimp [Act.put]
       refine wpAny_take (i := 19) (v := .string Y) rfl (by kernel_rfl) (by kernel_rfl) (by kernel_rfl) (fun _ _ _ h => h) (Or.inl ⟨by rfl, by intro wx; go_simp⟩) ?_
       dsimp [Act.put]
       refine wpAny_take (i := 20) (v := .bool (aV6 Y)) rfl (by kernel_rfl) (by kernel_rfl) (by kernel_rfl) (fun _ _ _ h => h) (Or.inl ⟨by rfl, by intro wx; go_simp⟩) ?_
       dsimp [Act.put]
       refine wpAny_done (by kernel_rfl) ?_ _
       go_wp2
       go_ret3
       exact ⟨by simp, bV7 (hb1.trans (hb2.mono hb1.size))⟩
open Go.RowKit Plain3 PlainS
theorem bKp (s : ByteArray) (w : World) (hs : s.size ≤ 1048576) :
 Calls prog 10 #[.string s] w fun e w' => e = .returned (.agg #[.string (aQu s).1, .string (aQu s).2.1, .int .i64 (aQu s).2.2]) ∧ Below w.heap.size w w' := by
 obtain ⟨Z, hZ⟩ := nmE (aQu s)
 rw [hZ]
 have HZ := aJ3 hZ
 clear hZ
 have Q0 := aJ3 (QBox.start w)
 have hc := aJy s (w.alloc zQ) hs
 by_cases hbig : 4000 < s.size
 · have hZ2 : Z = (⟨#[]⟩, ⟨#[]⟩, 2) := by rw [← HZ.out]; unfold aQu; rw [if_pos hbig]
   subst hZ2
   go_enter func10, ntmps10
   go_wp2
   refine bodyPost_ret (v := .agg #[.string ⟨#[]⟩, .string ⟨#[]⟩, .int .i64 2]) (by simp [results, results10, go_sem]) rfl ⟨rfl, ?_⟩
   exact bAl
 obtain ⟨X, hX⟩ := nmE (aQo s)
 rw [hX] at hc
 have HX := aJ3 hX
 clear hX
 cases hb : X.2.2 with
 | false =>
  have hZ2 : Z = (⟨#[]⟩, ⟨#[]⟩, 3) := by rw [← HZ.out]; unfold aQu; rw [if_neg hbig, HX.out, if_neg (by rw [hb]; simp)]
  subst hZ2
  rw [hb] at hc
  go_enter func10, ntmps10
  go_wp2_with fail
  refine hc.mono ?_
  rintro e w1 ⟨rfl, hb1⟩
  have Q1 := aJ3 (Q0.out.step hb1)
  clear hc hb1
  obtain ⟨r0, r1, r2, f0, f1, f2⟩ := Q1.out.cells
  go_wp2
  refine bodyPost_ret (v := .agg #[.string ⟨#[]⟩, .string ⟨#[]⟩, .int .i64 3]) (by simp [results, results10, go_sem, r0, r1, r2]) rfl ⟨rfl, ?_⟩
  exact Q1.out.fin _ _ _
 | true =>
  have hZ2 : Z = (X.1, X.2.1, 0) := by rw [← HZ.out]; unfold aQu; rw [if_neg hbig, HX.out, if_pos hb]
  subst hZ2
  rw [hb] at hc
  go_enter func10, ntmps10
  go_wp2_with fail
  refine hc.mono ?_
  rintro e w1 ⟨rfl, hb1⟩
  have Q1 := aJ3 (Q0.out.step hb1)
  clear hc hb1
  obtain ⟨r0, r1, r2, f0, f1, f2⟩ := Q1.out.cells
  go_wp2
  refine bodyPost_ret (v := .agg #[.string X.1, .string X.2.1, .int .i64 0]) (by simp [results, results10, go_sem, r0, r1, r2]) rfl ⟨rfl, ?_⟩
  exact Q1.out.fin _ _ _
end Go.Proofs.YtocnfoeaikiecaaGreatDoor
