/- The contract of the program's Ends: two replacements. -/
import Derived.Test.YtpkhdfddbcpciaaDoorShelfB
import Derived.Test.YtpkhdfddbcpciaaDoorEndsP
import Derived.Test.YtpkhdfddbcpciaaDoorLists
import Derived.Test.YtpkhdfddbcpciaaDoorStrs
import Derived.WalkKit
import Derived.WalkSpells
namespace Go.Proofs.YtpkhdfddbcpciaaDoor
open Go.RowKit Plain1 Strs Plain7 Bytes Lists

theorem size_mk (l : List UInt8) : (⟨l.toArray⟩ : ByteArray).size = l.length := by simp [ByteArray.size]
theorem replace_any (s old new : ByteArray) (m : Int) (w : World) (hm : w.cell? ⟨2, 0, none⟩ = some (.int .i64 m)) (hs : s.size ≤ 4000) (h1 : 1 ≤ old.size) (hn : new.size ≤ 4) :
    Calls Tryd.prog 40 #[.string s, .string old, .string new] w fun e w' => e = .returned (.string ⟨(Lib.replaceAll s.data.toList old.data.toList new.data.toList).toArray⟩) ∧ Below w.heap.size w w' := by
  refine Tryd.strings_ReplaceAll s old new m w (by omega) hm h1 ?_
  have hc : Lib.countB s old ≤ s.size + 1 := by
    have := Lib.count_le s.data.toList old.data.toList
    have e : s.data.toList.length = s.size := by simp
    rw [e] at this
    exact this
  have h2 : Lib.countB s old * new.size ≤ (s.size + 1) * 4 := Nat.mul_le_mul hc hn
  omega

theorem implEnds_any (s : ByteArray) (m : Int) (w : World) (hm : w.cell? ⟨2, 0, none⟩ = some (.int .i64 m)) :
    Calls Tryd.prog 17 #[.string s] w fun e w' => e = .returned (.string ⟨(endsOf s).toArray⟩) ∧ Below w.heap.size w w' := by
  by_cases hbig : 4000 < s.size
  · have e : endsOf s = [] := by unfold endsOf; rw [if_pos hbig]
    rw [e]
    clear hm
    go_enter Tryd.func17, Tryd.ntmps17
    go_wp2
    go_ret
    exact ⟨rfl, Below.refl _ _⟩
  have e : endsOf s = endsE s.data.toList := by unfold endsOf; rw [if_neg hbig]
  rw [e, ← ends_two s.data.toList.length s.data.toList (Nat.le_refl _)]
  clear e
  have hz : 2 < w.heap.size := block_lt hm
  have c1 := replace_any s ⟨#[13, 10]⟩ ⟨#[10]⟩ m w hm (by omega) (by decide) (by decide)
  have hl : (Lib.replaceAll s.data.toList [13, 10] [10]).length ≤ s.size := by
    have := rep_len [10] s.data.toList.length [13, 10] s.data.toList (Nat.le_refl _) (by simp) rfl (by simp)
    have e : s.data.toList.length = s.size := by simp
    omega
  have e1 : (⟨#[13, 10]⟩ : ByteArray).data.toList = [13, 10] := rfl
  have e2 : (⟨#[10]⟩ : ByteArray).data.toList = [10] := rfl
  have e3 : (⟨#[13]⟩ : ByteArray).data.toList = [13] := rfl
  rw [e1, e2] at c1
  obtain ⟨L1, hL1⟩ : ∃ L, Lib.replaceAll s.data.toList [13, 10] [10] = L := ⟨_, rfl⟩
  rw [hL1] at c1 hl ⊢
  clear hL1
  have c2 := fun wx hx => replace_any ⟨L1.toArray⟩ ⟨#[13]⟩ ⟨#[10]⟩ m wx hx (by rw [size_mk]; omega) (by decide) (by decide)
  rw [e2, e3] at c2
  clear e1 e2 e3
  have HM : Hid (w.cell? ⟨2, 0, none⟩ = some (.int .i64 m)) := hm
  clear hm
  go_enter Tryd.func17, Tryd.ntmps17
  go_wp2_with fail
  refine c1.mono ?_
  rintro e w1 ⟨rfl, hb1⟩
  clear c1
  have c3 := c2 w1 ((hb1.cell (p := ⟨2, 0, none⟩) hz).trans HM.out)
  clear c2
  go_wp2_with fail
  refine c3.mono ?_
  rintro e w2 ⟨rfl, hb2⟩
  clear c3
  go_wp2
  go_ret
  exact ⟨rfl, hb1.trans (hb2.mono hb1.size)⟩
end Go.Proofs.YtpkhdfddbcpciaaDoor
