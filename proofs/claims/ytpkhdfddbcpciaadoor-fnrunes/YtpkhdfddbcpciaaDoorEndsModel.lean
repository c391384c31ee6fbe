/- The contract of the model's Ends: a text with its lines' ends made alike. -/
import Derived.Test.YtpkhdfddbcpciaaDoorProg
import Derived.Test.YtpkhdfddbcpciaaDoorPlain1
import Derived.Test.YtpkhdfddbcpciaaDoorPlain7
import Derived.Test.YtpkhdfddbcpciaaDoorBytes
import Derived.Test.YtpkhdfddbcpciaaDoorEndsP
import Derived.WalkKit
import Derived.WalkSpells
namespace Go.Proofs.YtpkhdfddbcpciaaDoor
open Go.RowKit Plain1 Strs Plain7 Bytes Lists

theorem info8e : (Tryd.prog.info? 5).map (fun i => (i.zero, i.size, i.bytes)) = some (some (.int .u8 0), 1, 1) := by kernel_rfl

theorem below_app {w wr w2 : World} {o : Obj} {e : TypeId} {size : Nat} {v : Value} {n : Nat} {xs : List Value} (hb : Below w.heap.size w wr) (hown : wr.ownsRow w.heap.size e size v n xs) (hg : (wr.alloc o).grownBy w2 v.ownBlock) : Below w.heap.size w w2 :=
  (hb.alloc hb.size o).grown hg (by have := hb.size; simp; omega) (fun k hk => (hown.lt k hk).1)

set_option maxHeartbeats 1000000 in
theorem specEnds_any (s : ByteArray) (w : World) :
    Calls Tryd.prog 19 #[.string s] w fun e w' => e = .returned (.string ⟨(endsOf s).toArray⟩) ∧ Below w.heap.size w w' := by
  by_cases hbig : 4000 < s.size
  · have e : endsOf s = [] := by unfold endsOf; rw [if_pos hbig]
    rw [e]
    go_enter Tryd.func19, Tryd.ntmps19
    go_wp2
    go_ret
    exact ⟨rfl, Below.refl _ _⟩
  have e : endsOf s = endsE s.data.toList := by unfold endsOf; rw [if_neg hbig]
  rw [e]
  clear e
  obtain ⟨i0, hi, hz0, hz1, hz2⟩ := info_parts info8e
  have hsl : s.data.toList.length = s.size := by simp
  obtain ⟨R, hR⟩ : ∃ R, endsE s.data.toList = R := ⟨_, rfl⟩
  rw [hR]
  have HR : Hid (endsE s.data.toList = R) := hR
  have HSL : Hid (s.data.toList.length = s.size) := hsl
  clear hR hsl
  go_enter Tryd.func19, Tryd.ntmps19
  go_wp2
  go_loopw [3, 4] (fun v i wr => ∃ (k : Nat) (acc : List UInt8), k ≤ s.size ∧ i = .int .i64 k ∧ acc.length ≤ k ∧ endsE s.data.toList = acc ++ endsE (s.data.toList.drop k) ∧ wr.ownsRow w.heap.size 5 1 v acc.length ((numsOf acc).map (Value.int .u8)) ∧ Below w.heap.size w wr) (fun _ i _ => s.size - (intOf i).toNat)
  case atStart => exact ⟨0, [], Nat.zero_le _, rfl, Nat.le_refl _, by simp, World.ownsRow_lit w _ 0 (Nat.le_refl _) (by unfold maxLen; omega) (by simp), (Below.refl _ _).alloc (Nat.le_refl _) _⟩
  case round =>
    obtain ⟨k, acc, hk, rfl, hal, hacc, hown, hb⟩ := hrel
    have hsz := hb.size
    by_cases hlt : k < s.size
    · obtain ⟨st1, st2, st3⟩ := ends_step hacc (by rw [HSL.out]; exact hlt)
      obtain ⟨b0, hb0⟩ : ∃ b, byteAt s k = b := ⟨_, rfl⟩
      have hbd := byteAt_bd s k
      rw [hb0] at hbd
      obtain ⟨hbd0, hbd1⟩ := hbd
      have HB0 : Hid (byteAt s k = b0) := hb0
      have HB : Hid (Below w.heap.size w wr) := hb
      clear hb0 hb hacc
      by_cases h13 : b0 = 13
      · have hg : s.data.toList.getD k 0 = 13 := (u8_toNat_eq _ 13).1 (HB0.out.trans h13)
        have h13' : (b0 != 13) = false := by simp [h13]
        have S2 := st2 hg
        have S3 := st3 hg
        clear st1 st2 st3 hg h13
        by_cases hend : s.size ≤ k + 1
        · have ST : Hid (endsE s.data.toList = (acc ++ [10]) ++ endsE (s.data.toList.drop (k + 1))) := S3 (.inl (by rw [HSL.out]; exact hend))
          clear S2 S3
          go_wp2_with (first | (refine wpList_index_byte rfl 9 (.tmp 16) (.tmp 17) rfl s k _ b0 rfl rfl rfl hlt Tryd.underlying9 HB0.out ?_) | (at_builtin; refine wpList_append_own _ rfl _ _ 22 rfl w.heap.size 5 i0 (.int .u8 0) 1 1 Tryd.underlying22 hi hz0 hz1 hz2 rfl (by decide) _ _ _ rfl (hown.alloc _) ⟨_, 0, none⟩ 1 1 [.int .u8 (10)] rfl rfl (cell_one_new _ _ _) (by intro u hu; simp at hu; subst hu; rfl) (by unfold maxLen; omega) (by omega) (by simp; omega) ?_; intro v' w2 hown' hgrow _; have hb2 := below_app HB.out hown hgrow; clear hgrow hown))
          go_roundw
          case rel => exact ⟨k + 1, acc ++ [10], by omega, by go_num, by simp; omega, ST.out, by simpa [numsOf] using hown', hb2⟩
          case measure => simp [intOf]; omega
        · obtain ⟨b1, hb1⟩ : ∃ b, byteAt s (k + 1) = b := ⟨_, rfl⟩
          have HB1 : Hid (byteAt s (k + 1) = b1) := hb1
          clear hb1
          have hlt1 : k + 1 < s.size := by omega
          by_cases h10 : b1 = 10
          · have h10' : (b1 != 10) = false := by simp [h10]
            have ST : Hid (endsE s.data.toList = acc ++ endsE (s.data.toList.drop (k + 1))) := S2 (by rw [HSL.out]; exact hlt1) ((u8_toNat_eq _ 10).1 (HB1.out.trans h10))
            clear S2 S3 h10
            go_wp2_with (first | (refine wpList_index_byte rfl 9 (.tmp 16) (.tmp 17) rfl s k _ b0 rfl rfl rfl hlt Tryd.underlying9 HB0.out ?_) | (refine wpList_index_byte_g 9 (.tmp 33) (.tmp 35) rfl s (k + 1) _ b1 rfl rfl (by omega) hlt1 Tryd.underlying9 HB1.out (by go_simp) ?_))
            go_roundw
            case rel => exact ⟨k + 1, acc, by omega, by go_num, by omega, ST.out, hown, HB.out⟩
            case measure => simp [intOf]; omega
          · have h10' : (b1 != 10) = true := by simp [h10]
            have ST : Hid (endsE s.data.toList = (acc ++ [10]) ++ endsE (s.data.toList.drop (k + 1))) := S3 (.inr (fun h => h10 (HB1.out.symm.trans ((u8_toNat_eq _ 10).2 h))))
            clear S2 S3 h10
            go_wp2_with (first | (refine wpList_index_byte rfl 9 (.tmp 16) (.tmp 17) rfl s k _ b0 rfl rfl rfl hlt Tryd.underlying9 HB0.out ?_) | (refine wpList_index_byte_g 9 (.tmp 33) (.tmp 35) rfl s (k + 1) _ b1 rfl rfl (by omega) hlt1 Tryd.underlying9 HB1.out (by go_simp) ?_) | (at_builtin; refine wpList_append_own _ rfl _ _ 22 rfl w.heap.size 5 i0 (.int .u8 0) 1 1 Tryd.underlying22 hi hz0 hz1 hz2 rfl (by decide) _ _ _ rfl (hown.alloc _) ⟨_, 0, none⟩ 1 1 [.int .u8 (10)] rfl rfl (cell_one_new _ _ _) (by intro u hu; simp at hu; subst hu; rfl) (by unfold maxLen; omega) (by omega) (by simp; omega) ?_; intro v' w2 hown' hgrow _; have hb2 := below_app HB.out hown hgrow; clear hgrow hown))
            go_roundw
            case rel => exact ⟨k + 1, acc ++ [10], by omega, by go_num, by simp; omega, ST.out, by simpa [numsOf] using hown', hb2⟩
            case measure => simp [intOf]; omega
      · have h13' : (b0 != 13) = true := by simp [h13]
        have ST0 := st1 (fun h => h13 (HB0.out.symm.trans ((u8_toNat_eq _ 13).2 h)))
        obtain ⟨c, hc⟩ : ∃ c, s.data.toList.getD k 0 = c := ⟨_, rfl⟩
        rw [hc] at ST0
        have hcb : (c.toNat : Int) = b0 := by rw [← hc]; exact HB0.out
        have ST : Hid (endsE s.data.toList = (acc ++ [c]) ++ endsE (s.data.toList.drop (k + 1))) := ST0
        have HCB : Hid ((c.toNat : Int) = b0) := hcb
        clear st1 st2 st3 h13 ST0 hc hcb
        go_wp2_with (first | (refine wpList_index_byte rfl 9 (.tmp 16) (.tmp 17) rfl s k _ b0 rfl rfl rfl hlt Tryd.underlying9 HB0.out ?_) | (refine wpList_index_byte rfl 9 (.tmp 21) (.tmp 22) rfl s k _ b0 rfl rfl rfl hlt Tryd.underlying9 HB0.out ?_) | (at_builtin; refine wpList_append_own _ rfl _ _ 22 rfl w.heap.size 5 i0 (.int .u8 0) 1 1 Tryd.underlying22 hi hz0 hz1 hz2 rfl (by decide) _ _ _ rfl (hown.alloc _) ⟨_, 0, none⟩ 1 1 [.int .u8 (b0)] rfl rfl (cell_one_new _ _ _) (by intro u hu; simp at hu; subst hu; rfl) (by unfold maxLen; omega) (by omega) (by simp; omega) ?_; intro v' w2 hown' hgrow _; have hb2 := below_app HB.out hown hgrow; clear hgrow hown))
        go_roundw
        case rel => exact ⟨k + 1, acc ++ [c], by omega, by go_num, by simp; omega, ST.out, by rw [numsOf_snoc, HCB.out]; simpa using hown', hb2⟩
        case measure => simp [intOf]; omega
    · have hkn : s.size ≤ k := by omega
      have hd : s.data.toList.drop k = [] := List.drop_eq_nil_of_le (by rw [HSL.out]; exact hkn)
      rw [hd, HR.out] at hacc
      have hacc' : R = acc := by rw [hacc]; simp [endsE]
      subst hacc'
      have hconv := conv_own (P := Tryd.prog) (src := 22) (dst := 9) Tryd.underlying22 Tryd.underlying5 Tryd.underlying9 hown
      rw [strOf_nums] at hconv
      clear hown hacc hd
      go_wp2
      go_ret
      exact ⟨rfl, hb⟩
end Go.Proofs.YtpkhdfddbcpciaaDoor
