/- Plain mathematics: a name's bytes told of the rest of a text. Nothing of the program is named here. -/
import Derived.Test.YtefahocflhlgiaaGreatDoorPlain13
namespace Go.Proofs.YtefahocflhlgiaaGreatDoor.Plain14
open Plain1 Plain2 Strs Plain3 Plain4 Plain5 Plain6 Plain9 Plain10 Plain11 Plain12 Plain13

/-- A byte of a name: the walk stands at 'n' bytes, f steps are left. -/
theorem name_on {s : ByteArray} {p f n c k : Nat} (h : p + n < s.size) (hr : runeZ s (p + n) = ((c : Int), k)) (hk : k ≠ 0) (h1 : n = 0 → startB (c : Int) = true) (h2 : partB (c : Int) = true) : nameGo s p (f + 1) n = nameGo s p f (n + k) := by
  have hs : ¬ stops s p n := by
    unfold stops
    rw [hr]
    rintro (h0 | ⟨h0, h3⟩ | h3)
    · exact hk h0
    · rw [h1 h0] at h3; cases h3
    · rw [h2] at h3; cases h3
  rw [nameGo_on h hs, hr]
theorem name_stop {s : ByteArray} {p f n c k : Nat} (h : p + n < s.size) (hr : runeZ s (p + n) = ((c : Int), k)) (h1 : (n = 0 ∧ startB (c : Int) = false) ∨ partB (c : Int) = false) : nameGo s p (f + 1) n = n := by
  refine nameGo_stop h ?_
  unfold stops
  rw [hr]
  exact .inr h1
theorem nameGo_roomI {s : ByteArray} {p : Nat} : ∀ (f n : Nat), p + n ≤ s.size → p + nameGo s p f n ≤ s.size
  | 0, n, h => h
  | f + 1, n, h => by
    by_cases hl : p + n < s.size
    · by_cases hs : stops s p n
      · rw [nameGo_stop hl hs]; exact h
      · rw [nameGo_on hl hs]
        refine nameGo_roomI f _ ?_
        have h0 : (runeZ s (p + n)).2 ≠ 0 := fun h0 => hs (.inl h0)
        have := rune_le (s := s) (pos := p + n) h0
        omega
    · rw [nameGo_end (by omega)]; exact h
theorem nameZ_roomI {s : ByteArray} {p : Nat} (h : p ≤ s.size) : p + nameZ s p ≤ s.size := nameGo_roomI _ _ h
theorem ext_ext (s : ByteArray) (p n : Nat) : (s.extract p s.size).extract 0 n = s.extract p (p + n) := by
  rw [Lib.extract_eq, Lib.extract_eq s p (p + n), ext_rest]
  unfold rest
  simp
end Go.Proofs.YtefahocflhlgiaaGreatDoor.Plain14
