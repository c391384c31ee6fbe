/- The contracts of the model's l05Split and Split. -/
import Derived.Test.YtpkhdfddbcpciaaDoorPlainS
import Derived.Test.YtpkhdfddbcpciaaDoorNameModel2
import Derived.Test.YtpkhdfddbcpciaaDoorStrs2
import Derived.Test.YtpkhdfddbcpciaaDoorLists
import Derived.WalkKit
import Derived.WalkSpells
import Derived.WalkSmall
import Derived.Deep.QuietTactic
import Derived.BigQuiet
import Derived.RegionTactic
import Derived.BigRegion
import Derived.Deep.RegionWith
import Derived.OwnWalk
namespace Go.Proofs.YtpkhdfddbcpciaaDoor
open Go.RowKit Plain1 Plain2 Strs Strs2 Lists Plain3 Plain5 Plain6 Plain9 Plain10 Plain11 Plain12 Plain13 PlainS

theorem mkHidS {p : Prop} (h : p) : Hid p := h
theorem below_drew {w w' : World} (h : Below w.drew.heap.size w.drew w') : Below w.heap.size w w' := ⟨h.os, h.tape, h.output, h.size, h.block⟩
/-- What the search's end leaves to be asked. -/
def splFin (s : ByteArray) : Option Int → ByteArray × ByteArray × Bool
  | none => (⟨#[]⟩, ⟨#[]⟩, false)
  | some k => if k < 0 then (⟨#[]⟩, s, nameB s) else (s.extract 0 k.toNat, s.extract (k.toNat + 1) s.size, nameB (s.extract 0 k.toNat) && nameB (s.extract (k.toNat + 1) s.size))
theorem spl_fin (s : ByteArray) : splitZ s = splFin s (colZ s) := by unfold splitZ splFin; cases colZ s <;> rfl

set_option maxHeartbeats 2000000 in
theorem l05Split_any (s : ByteArray) (w : World) (hs : s.size ≤ 1048576) :
    Calls Tryd.prog 45 #[.string s] w fun e w' => e = .returned (.tuple #[.string (splitZ s).1, .string (splitZ s).2.1, .bool (splitZ s).2.2]) ∧ Below w.heap.size w w' := by
  rw [spl_fin]
  obtain ⟨R, hR⟩ : ∃ R, colZ s = R := ⟨_, rfl⟩
  rw [hR]
  have HR := mkHidS hR
  obtain ⟨Z, hZ⟩ : ∃ Z, splFin s R = Z := ⟨_, rfl⟩
  rw [hZ]
  have HZ := mkHidS hZ
  clear hR hZ
  go_enter Tryd.func45, Tryd.ntmps45
  go_wp2
  go_loop [5, 6] (fun kv iv => ∃ (f i : Nat) (k : Int), kv = .int .i64 k ∧ iv = .int .i64 i ∧ i ≤ s.size ∧ splGo s f i k = R ∧ s.size < i + f ∧ -1 ≤ k ∧ k < s.size) (fun _ iv => s.size - (intOf iv).toNat)
  case atStart => exact ⟨s.size + 1, 0, -1, rfl, rfl, Nat.zero_le _, HR.out, by omega, by omega, by omega⟩
  case round =>
    obtain ⟨f, i, k, rfl, rfl, hi, hgo, hf, hk1, hk2⟩ := hrel
    have HG := mkHidS hgo
    clear hgo
    by_cases hlt : i < s.size
    · obtain ⟨f', rfl⟩ : ∃ f', f = f' + 1 := ⟨f - 1, by omega⟩
      obtain ⟨d, hd⟩ : ∃ d, byteAt s i = d := ⟨_, rfl⟩
      have hix : ∀ wx, (Instr.index 9 (.string s) (.int .i64 (i : Int))).run Tryd.prog wx = .ok (.int .u8 d) wx := fun wx => by rw [run_index_byte wx 9 s i (by omega) Tryd.underlying9, hd]
      have HD := mkHidS hd
      clear hd
      by_cases h58 : d = 58
      · subst h58
        by_cases hk : 0 ≤ k
        · have hR : R = none := by rw [← HG.out]; exact spl_two hlt HD.out hk
          have hZ2 : Z = (⟨#[]⟩, ⟨#[]⟩, false) := by rw [← HZ.out, hR]; rfl
          subst hZ2
          clear hR
          go_wp2
          refine bodyPost_ret (v := .tuple #[.string ⟨#[]⟩, .string ⟨#[]⟩, .bool false]) (by simp [results, Tryd.results45, go_sem]) rfl ?_
          exact ⟨rfl, Below.refl _ _⟩
        · have hR : splGo s f' (i + 1) i = R := by rw [← HG.out]; exact (spl_one hlt HD.out hk).symm
          have HR2 := mkHidS hR
          clear hR
          go_wp2
          go_round
          case rel => exact ⟨f', i + 1, i, rfl, by go_num, by omega, HR2.out, by omega, by omega, by omega⟩
          case measure => simp [intOf]; omega
      · have hR : splGo s f' (i + 1) k = R := by rw [← HG.out]; exact (spl_on hlt (by rw [HD.out]; exact h58)).symm
        have HR2 := mkHidS hR
        clear hR
        go_wp2
        go_round
        case rel => exact ⟨f', i + 1, k, rfl, by go_num, by omega, HR2.out, by omega, by omega, by omega⟩
        case measure => simp [intOf]; omega
    · have hR : R = some k := by rw [← HG.out]; exact spl_end hlt
      by_cases hk : k < 0
      · have hF : Z = (⟨#[]⟩, s, nameB s) := by rw [← HZ.out, hR]; unfold splFin; simp only; rw [if_pos hk]
        subst hF
        clear hR
        have hn := fun wx => specName_any s wx
        go_wp2_with (go_at_call 26; refine (hn _).mono ?_; rintro e w1 ⟨rfl, hb1⟩)
        refine bodyPost_ret (v := .tuple #[.string ⟨#[]⟩, .string s, .bool (nameB s)]) (by simp [results, Tryd.results45, go_sem]) rfl ?_
        exact ⟨rfl, hb1⟩
      · obtain ⟨j, rfl⟩ : ∃ j : Nat, k = (j : Int) := ⟨k.toNat, by omega⟩
        have hF : Z = (s.extract 0 j, s.extract (j + 1) s.size, nameB (s.extract 0 j) && nameB (s.extract (j + 1) s.size)) := by
          rw [← HZ.out, hR]; unfold splFin; simp only; rw [if_neg hk, Int.toNat_natCast]
        have hj : j < s.size := by omega
        have hw1 : IntKind.i64.wrap ((j : Int) + 1) = (j : Int) + 1 := wrapSm (by omega) (by omega)
        have hsl1 : ∀ wx, (Instr.slice 9 (.string s) none (some (.int .i64 (j : Int))) none).run Tryd.prog wx = .ok (.string (s.extract 0 j)) wx := fun wx => sub_to wx _ s j _ rfl (by omega) Tryd.underlying9
        have hsl2 : ∀ wx, (Instr.slice 9 (.string s) (some (.int .i64 ((j : Int) + 1))) none none).run Tryd.prog wx = .ok (.string (s.extract (j + 1) s.size)) wx := fun wx => sub_from wx _ s (j + 1) _ (by omega) (by omega) Tryd.underlying9
        obtain ⟨X, hX⟩ : ∃ X, s.extract 0 j = X := ⟨_, rfl⟩
        obtain ⟨Y, hY⟩ : ∃ Y, s.extract (j + 1) s.size = Y := ⟨_, rfl⟩
        rw [hX] at hsl1 hF
        rw [hY] at hsl2 hF
        subst hF
        have hn1 := fun wx => specName_any X wx
        have hn2 := fun wx => specName_any Y wx
        clear hX hY hR
        cases hbX : nameB X with
        | false =>
          rw [hbX] at hn1
          go_wp2_with fail
          refine wp_region_any (by kernel_rfl) ?_
          (try (change wpAny _ _ _ _ _ _ _ (World.drew _)))
          refine wpAny_take (i := 0) (v := .string s) rfl (by kernel_rfl) (by kernel_rfl) (by kernel_rfl) (fun _ _ _ h => h) (Or.inl ⟨by rfl, by intro wx; go_simp⟩) ?_
          dsimp [Act.put]
          refine wpAny_take (i := 1) (v := .int .i64 (j : Int)) rfl (by kernel_rfl) (by kernel_rfl) (by kernel_rfl) (fun _ _ _ h => h) (Or.inl ⟨by rfl, by intro wx; go_simp⟩) ?_
          dsimp [Act.put]
          refine wpAny_take (i := 2) (v := .string X) rfl (by kernel_rfl) (by kernel_rfl) (by kernel_rfl) (fun _ _ _ h => h) (Or.inl ⟨by rfl, by intro wx; go_simp⟩) ?_
          dsimp [Act.put]
          refine wpAny_take (i := 3) (v := .string s) rfl (by kernel_rfl) (by kernel_rfl) (by kernel_rfl) (fun _ _ _ h => h) (Or.inl ⟨by rfl, by intro wx; go_simp⟩) ?_
          dsimp [Act.put]
          refine wpAny_take (i := 4) (v := .int .i64 (j : Int)) rfl (by kernel_rfl) (by kernel_rfl) (by kernel_rfl) (fun _ _ _ h => h) (Or.inl ⟨by rfl, by intro wx; go_simp⟩) ?_
          dsimp [Act.put]
          refine wpAny_take (i := 5) (v := .int .i64 ((j : Int) + 1)) rfl (by kernel_rfl) (by kernel_rfl) (by kernel_rfl) (fun _ _ _ h => h) (Or.inl ⟨by rfl, by intro wx; go_simp⟩) ?_
          dsimp [Act.put]
          refine wpAny_take (i := 6) (v := .string Y) rfl (by kernel_rfl) (by kernel_rfl) (by kernel_rfl) (fun _ _ _ h => h) (Or.inl ⟨by rfl, by intro wx; go_simp⟩) ?_
          dsimp [Act.put]
          refine wpAny_take (i := 7) (v := .string s) rfl (by kernel_rfl) (by kernel_rfl) (by kernel_rfl) (fun _ _ _ h => h) (Or.inl ⟨by rfl, by intro wx; go_simp⟩) ?_
          dsimp [Act.put]
          refine wpAny_take (i := 8) (v := .int .i64 (j : Int)) rfl (by kernel_rfl) (by kernel_rfl) (by kernel_rfl) (fun _ _ _ h => h) (Or.inl ⟨by rfl, by intro wx; go_simp⟩) ?_
          dsimp [Act.put]
          refine wpAny_take (i := 9) (v := .string X) rfl (by kernel_rfl) (by kernel_rfl) (by kernel_rfl) (fun _ _ _ h => h) (Or.inl ⟨by rfl, by intro wx; go_simp⟩) ?_
          dsimp [Act.put]
          refine wpAny_ready (rs := [10]) (by kernel_rfl) (by simp) ?_
          refine AllReady.cons rfl (fun K hK => ?_) AllReady.nil
          go_simp
          go_wp2_with (go_at_call 26; refine (hn1 _).mono ?_; rintro e w1 ⟨rfl, hb1⟩)
          (first | (refine hK _ _ ?_; clear hK K) | skip)
          refine wpAny_take (i := 11) (v := .bool false) rfl (by kernel_rfl) (by kernel_rfl) (by kernel_rfl) (fun _ _ _ h => h) (Or.inl ⟨by rfl, by intro wx; go_simp⟩) ?_
          dsimp [Act.put]
          refine wpAny_take (i := 12) (v := undef) rfl (by kernel_rfl) (by kernel_rfl) (by kernel_rfl) (fun _ _ _ h => h) (Or.inr ⟨by rfl, rfl⟩) ?_
          dsimp [Act.put]
          refine wpAny_take (i := 13) (v := undef) rfl (by kernel_rfl) (by kernel_rfl) (by kernel_rfl) (fun _ _ _ h => h) (Or.inr ⟨by rfl, rfl⟩) ?_
          dsimp [Act.put]
          refine wpAny_take (i := 14) (v := undef) rfl (by kernel_rfl) (by kernel_rfl) (by kernel_rfl) (fun _ _ _ h => h) (Or.inr ⟨by rfl, rfl⟩) ?_
          dsimp [Act.put]
          refine wpAny_take (i := 15) (v := undef) rfl (by kernel_rfl) (by kernel_rfl) (by kernel_rfl) (fun _ _ _ h => h) (Or.inr ⟨by rfl, rfl⟩) ?_
          dsimp [Act.put]
          refine wpAny_take (i := 16) (v := undef) rfl (by kernel_rfl) (by kernel_rfl) (by kernel_rfl) (fun _ _ _ h => h) (Or.inr ⟨by rfl, rfl⟩) ?_
          dsimp [Act.put]
          refine wpAny_take (i := 17) (v := .bool false) rfl (by kernel_rfl) (by kernel_rfl) (by kernel_rfl) (fun _ _ _ h => h) (Or.inl ⟨by rfl, by intro wx; go_simp⟩) ?_
          dsimp [Act.put]
          refine wpAny_take (i := 18) (v := .string X) rfl (by kernel_rfl) (by kernel_rfl) (by kernel_rfl) (fun _ _ _ h => h) (Or.inl ⟨by rfl, by intro wx; go_simp⟩) ?_
          dsimp [Act.put]
          refine wpAny_take (i := 19) (v := .string Y) rfl (by kernel_rfl) (by kernel_rfl) (by kernel_rfl) (fun _ _ _ h => h) (Or.inl ⟨by rfl, by intro wx; go_simp⟩) ?_
          dsimp [Act.put]
          refine wpAny_take (i := 20) (v := .bool false) rfl (by kernel_rfl) (by kernel_rfl) (by kernel_rfl) (fun _ _ _ h => h) (Or.inl ⟨by rfl, by intro wx; go_simp⟩) ?_
          dsimp [Act.put]
          refine wpAny_done (by kernel_rfl) ?_ _
          go_wp2
          go_ret3
          exact ⟨rfl, below_drew hb1⟩
        | true =>
          rw [hbX] at hn1
          go_wp2_with fail
          refine wp_region_any (by kernel_rfl) ?_
          (try (change wpAny _ _ _ _ _ _ _ (World.drew _)))
          refine wpAny_take (i := 0) (v := .string s) rfl (by kernel_rfl) (by kernel_rfl) (by kernel_rfl) (fun _ _ _ h => h) (Or.inl ⟨by rfl, by intro wx; go_simp⟩) ?_
          dsimp [Act.put]
          refine wpAny_take (i := 1) (v := .int .i64 (j : Int)) rfl (by kernel_rfl) (by kernel_rfl) (by kernel_rfl) (fun _ _ _ h => h) (Or.inl ⟨by rfl, by intro wx; go_simp⟩) ?_
          dsimp [Act.put]
          refine wpAny_take (i := 2) (v := .string X) rfl (by kernel_rfl) (by kernel_rfl) (by kernel_rfl) (fun _ _ _ h => h) (Or.inl ⟨by rfl, by intro wx; go_simp⟩) ?_
          dsimp [Act.put]
          refine wpAny_take (i := 3) (v := .string s) rfl (by kernel_rfl) (by kernel_rfl) (by kernel_rfl) (fun _ _ _ h => h) (Or.inl ⟨by rfl, by intro wx; go_simp⟩) ?_
          dsimp [Act.put]
          refine wpAny_take (i := 4) (v := .int .i64 (j : Int)) rfl (by kernel_rfl) (by kernel_rfl) (by kernel_rfl) (fun _ _ _ h => h) (Or.inl ⟨by rfl, by intro wx; go_simp⟩) ?_
          dsimp [Act.put]
          refine wpAny_take (i := 5) (v := .int .i64 ((j : Int) + 1)) rfl (by kernel_rfl) (by kernel_rfl) (by kernel_rfl) (fun _ _ _ h => h) (Or.inl ⟨by rfl, by intro wx; go_simp⟩) ?_
          dsimp [Act.put]
          refine wpAny_take (i := 6) (v := .string Y) rfl (by kernel_rfl) (by kernel_rfl) (by kernel_rfl) (fun _ _ _ h => h) (Or.inl ⟨by rfl, by intro wx; go_simp⟩) ?_
          dsimp [Act.put]
          refine wpAny_take (i := 7) (v := .string s) rfl (by kernel_rfl) (by kernel_rfl) (by kernel_rfl) (fun _ _ _ h => h) (Or.inl ⟨by rfl, by intro wx; go_simp⟩) ?_
          dsimp [Act.put]
          refine wpAny_take (i := 8) (v := .int .i64 (j : Int)) rfl (by kernel_rfl) (by kernel_rfl) (by kernel_rfl) (fun _ _ _ h => h) (Or.inl ⟨by rfl, by intro wx; go_simp⟩) ?_
          dsimp [Act.put]
          refine wpAny_take (i := 9) (v := .string X) rfl (by kernel_rfl) (by kernel_rfl) (by kernel_rfl) (fun _ _ _ h => h) (Or.inl ⟨by rfl, by intro wx; go_simp⟩) ?_
          dsimp [Act.put]
          refine wpAny_ready (rs := [10]) (by kernel_rfl) (by simp) ?_
          refine AllReady.cons rfl (fun K hK => ?_) AllReady.nil
          go_simp
          go_wp2_with (go_at_call 26; refine (hn1 _).mono ?_; rintro e w1 ⟨rfl, hb1⟩)
          (first | (refine hK _ _ ?_; clear hK K) | skip)
          refine wpAny_take (i := 11) (v := .bool true) rfl (by kernel_rfl) (by kernel_rfl) (by kernel_rfl) (fun _ _ _ h => h) (Or.inl ⟨by rfl, by intro wx; go_simp⟩) ?_
          dsimp [Act.put]
          refine wpAny_take (i := 12) (v := .string s) rfl (by kernel_rfl) (by kernel_rfl) (by kernel_rfl) (fun _ _ _ h => h) (Or.inl ⟨by rfl, by intro wx; go_simp⟩) ?_
          dsimp [Act.put]
          refine wpAny_take (i := 13) (v := .int .i64 (j : Int)) rfl (by kernel_rfl) (by kernel_rfl) (by kernel_rfl) (fun _ _ _ h => h) (Or.inl ⟨by rfl, by intro wx; go_simp⟩) ?_
          dsimp [Act.put]
          refine wpAny_take (i := 14) (v := .int .i64 ((j : Int) + 1)) rfl (by kernel_rfl) (by kernel_rfl) (by kernel_rfl) (fun _ _ _ h => h) (Or.inl ⟨by rfl, by intro wx; go_simp⟩) ?_
          dsimp [Act.put]
          refine wpAny_take (i := 15) (v := .string Y) rfl (by kernel_rfl) (by kernel_rfl) (by kernel_rfl) (fun _ _ _ h => h) (Or.inl ⟨by rfl, by intro wx; go_simp⟩) ?_
          dsimp [Act.put]
          refine wpAny_ready (rs := [16]) (by kernel_rfl) (by simp) ?_
          refine AllReady.cons rfl (fun K hK => ?_) AllReady.nil
          go_simp
          go_wp2_with (go_at_call 26; refine (hn2 _).mono ?_; rintro e w2 ⟨rfl, hb2⟩)
          (first | (refine hK _ _ ?_; clear hK K) | skip)
          refine wpAny_take (i := 17) (v := .bool (nameB Y)) rfl (by kernel_rfl) (by kernel_rfl) (by kernel_rfl) (fun _ _ _ h => h) (Or.inl ⟨by rfl, by intro wx; go_simp⟩) ?_
          dsimp [Act.put]
          refine wpAny_take (i := 18) (v := .string X) rfl (by kernel_rfl) (by kernel_rfl) (by kernel_rfl) (fun _ _ _ h => h) (Or.inl ⟨by rfl, by intro wx; go_simp⟩) ?_
          dsimp [Act.put]
          refine wpAny_take (i := 19) (v := .string Y) rfl (by kernel_rfl) (by kernel_rfl) (by kernel_rfl) (fun _ _ _ h => h) (Or.inl ⟨by rfl, by intro wx; go_simp⟩) ?_
          dsimp [Act.put]
          refine wpAny_take (i := 20) (v := .bool (nameB Y)) rfl (by kernel_rfl) (by kernel_rfl) (by kernel_rfl) (fun _ _ _ h => h) (Or.inl ⟨by rfl, by intro wx; go_simp⟩) ?_
          dsimp [Act.put]
          refine wpAny_done (by kernel_rfl) ?_ _
          go_wp2
          go_ret3
          exact ⟨by simp, below_drew (hb1.trans (hb2.mono hb1.size))⟩
end Go.Proofs.YtpkhdfddbcpciaaDoor
