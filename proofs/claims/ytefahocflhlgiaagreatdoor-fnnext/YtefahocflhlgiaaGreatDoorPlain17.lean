/- Plain mathematics: a mark has not more attributes than its text has bytes. -/
import Derived.Test.YtefahocflhlgiaaGreatDoorPlain10
namespace Go.Proofs.YtefahocflhlgiaaGreatDoor.Plain17
open Plain1 Plain2 Strs Plain3 Plain4 Plain5 Plain6 Plain9 Plain10

theorem tagGo_len (s nm : ByteArray) : ∀ f p acc, (tagGo s nm f p acc).attrs.length ≤ acc.length + f
  | 0, p, acc => by simp [tagGo, failT]
  | f + 1, p, acc => by
    unfold tagGo
    dsimp only
    repeat' split
    all_goals first
      | (refine Nat.le_trans (tagGo_len s nm f _ _) ?_; simp only [List.length_append, List.length_cons, List.length_nil]; omega)
      | (simp [failT]; done)
      | (simp only []; omega)
theorem markZ_len (s : ByteArray) (p : Nat) : (markZ s p).attrs.length ≤ s.size + 1 := by
  unfold markZ commentZ cdataZ doctypeZ piZ endZ tagZ
  dsimp only
  repeat' split
  all_goals first
    | (refine Nat.le_trans (tagGo_len _ _ _ _ _) ?_; simp; done)
    | (simp [failT]; done)
theorem textZ_len (s : ByteArray) (p : Nat) (closed : Bool) : (textZ s p closed).attrs.length = 0 := by
  unfold textZ
  by_cases h : Lib.index (s.extract p (textE s p)).data.toList [93, 93, 62] ≠ -1
  · rw [if_pos h]; rfl
  · rw [if_neg h]
    by_cases h2 : textE s p = s.size ∧ closed = false
    · rw [if_pos h2]; rfl
    · rw [if_neg h2]; rfl
theorem outOf_len (t : Tk) (closed : Bool) : (outOf t closed).tk.attrs.length ≤ t.attrs.length := by
  unfold outOf
  by_cases h : t.fl = 0
  · rw [if_pos h]; exact Nat.le_refl _
  · rw [if_neg h]; exact Nat.zero_le _
theorem code_len (c : Int) : (codeOut c).tk.attrs.length = 0 := rfl
theorem nextZ_len (s : ByteArray) (at0 : Int) (closed : Bool) : (nextZ s at0 closed).tk.attrs.length ≤ 4001 := by
  unfold nextZ
  by_cases h : 4000 < s.size
  · rw [if_pos h, code_len]; omega
  rw [if_neg h]
  by_cases h1 : 0 ≤ (scanAll s).2 ∨ fz s 0 [13] ≠ -1 ∨ at0 < 0 ∨ (s.size : Int) < at0
  · rw [if_pos h1, code_len]; omega
  rw [if_neg h1]
  by_cases h2 : at0 = s.size
  · rw [if_pos h2, code_len]; omega
  rw [if_neg h2]
  by_cases h3 : 128 ≤ byteAt s at0.toNat ∧ byteAt s at0.toNat < 192
  · rw [if_pos h3, code_len]; omega
  rw [if_neg h3]
  by_cases h4 : byteAt s at0.toNat = 60
  · rw [if_pos h4]
    have a := outOf_len (markZ s at0.toNat) closed
    have b := markZ_len s at0.toNat
    omega
  · rw [if_neg h4]
    have a := outOf_len (textZ s at0.toNat closed) closed
    have b := textZ_len s at0.toNat closed
    omega
end Go.Proofs.YtefahocflhlgiaaGreatDoor.Plain17
