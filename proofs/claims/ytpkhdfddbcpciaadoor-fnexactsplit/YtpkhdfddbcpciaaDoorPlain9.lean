/- Plain mathematics of marks: searching, white, signs that must stand there. Nothing of the program is named here. -/
import Derived.Test.YtpkhdfddbcpciaaDoorPlain6
import Derived.Lib.IndexMore
import Derived.Lib.RabinKarpLaws
import Derived.Lib.SlTrimSet
namespace Go.Proofs.YtpkhdfddbcpciaaDoor.Plain9
open Plain1 Plain2 Strs Plain3 Plain4 Plain5 Plain6

def rest (s : ByteArray) (p : Nat) : List UInt8 := s.data.toList.drop p
theorem rest_len (s : ByteArray) (p : Nat) : (rest s p).length = s.size - p := by
  unfold rest; rw [List.length_drop, ← Lib.size_eq]
theorem rest_cons {s : ByteArray} {p : Nat} (h : p < s.size) : rest s p = s.data.toList.getD p 0 :: rest s (p + 1) := by
  unfold rest
  have h' : p < s.data.toList.length := by rw [← Lib.size_eq]; exact h
  rw [List.drop_eq_getElem_cons h', List.getD_eq_getElem?_getD, List.getElem?_eq_getElem h']
  rfl
theorem rest_nil {s : ByteArray} {p : Nat} (h : s.size ≤ p) : rest s p = [] := by
  apply List.eq_nil_of_length_eq_zero; rw [rest_len]; omega
theorem rest_rest (s : ByteArray) (p k : Nat) : (rest s p).drop k = rest s (p + k) := by unfold rest; rw [List.drop_drop]
theorem ext_rest (s : ByteArray) (p : Nat) : (s.extract p s.size).data.toList = rest s p := by
  rw [Lib.extract_data]; unfold rest
  apply List.take_of_length_le
  rw [List.length_drop, ← Lib.size_eq]; omega
theorem ext_size {s : ByteArray} {p q : Nat} (hq : q ≤ s.size) : (s.extract p q).size = q - p := by
  rw [Lib.size_eq, Lib.extract_data, List.length_take, List.length_drop, ← Lib.size_eq]; omega
/-- Does a sign stand at a place? -/
def hasAt (s : ByteArray) (p : Nat) (sg : List UInt8) : Bool := sg.isPrefixOf (rest s p)
theorem has_occ (s : ByteArray) (p : Nat) (sg : List UInt8) : Lib.occAt s.data.toList sg p = hasAt s p sg := rfl
theorem has_room {s : ByteArray} {p : Nat} {sg : List UInt8} (h : hasAt s p sg = true) (hp : p ≤ s.size) : p + sg.length ≤ s.size := by
  unfold hasAt at h
  have := (List.isPrefixOf_iff_prefix.1 h).length_le
  rw [rest_len] at this; omega
theorem byteAt_head (s : ByteArray) (p : Nat) : byteAt s p = ((s.data.toList.getD p 0).toNat : Int) := rfl

/-- Does a text stand at a place of another one? -/
def standsAt (s : ByteArray) (i : Nat) (what : ByteArray) : Bool := (s.extract i (i + what.size)).toList == what.toList
theorem stands_has {s what : ByteArray} {i : Nat} (h : i + what.size ≤ s.size) : standsAt s i what = hasAt s i what.data.toList := by
  rw [← has_occ]
  unfold standsAt
  cases hc : ((s.extract i (i + what.size)).toList == what.toList) with
  | true => exact (occ_yes s what i h hc).symm
  | false => exact (occ_no s what i h hc).symm
def findGo (s what : ByteArray) : Nat → Nat → Int
  | 0, _ => -1
  | f + 1, i => if i + what.size ≤ s.size then (if standsAt s i what = true then (i : Int) else findGo s what f (i + 1)) else -1
/-- The place of a text in another one from a place on, or -1. -/
def findZ (s : ByteArray) (p : Nat) (what : ByteArray) : Int := findGo s what (s.size + 1) p
theorem find_end {s what : ByteArray} {f i : Nat} (h : ¬ i + what.size ≤ s.size) : findGo s what f i = -1 := by
  cases f with
  | zero => rfl
  | succ f => unfold findGo; rw [if_neg h]
theorem find_hit {s what : ByteArray} {f i : Nat} (h : i + what.size ≤ s.size) (hs : standsAt s i what = true) : findGo s what (f + 1) i = (i : Int) := by
  unfold findGo; rw [if_pos h, if_pos hs]
theorem find_miss {s what : ByteArray} {f i : Nat} (h : i + what.size ≤ s.size) (hs : standsAt s i what = false) : findGo s what (f + 1) i = findGo s what f (i + 1) := by
  conv => lhs; unfold findGo
  rw [if_pos h, if_neg (by rw [hs]; simp)]
/-- The place of a sign from a place on, or -1. -/
def fz (s : ByteArray) (p : Nat) (sg : List UInt8) : Int := if Lib.index (rest s p) sg = -1 then -1 else (p : Int) + Lib.index (rest s p) sg
theorem fz_nil {s : ByteArray} {p : Nat} {sg : List UInt8} (h0 : sg ≠ []) (h : s.size < p + sg.length) : fz s p sg = -1 := by
  unfold fz
  have hi : Lib.index (rest s p) sg = -1 := by
    rcases Lib.index_spec (rest s p) sg with ⟨h1, _⟩ | ⟨i, h1, h2, h3, _⟩
    · exact h1
    · rcases Lib.occAt_room h3 with h4 | h4
      · rw [rest_len] at h4; have := List.length_pos_iff.2 h0; omega
      · exact absurd h4 h0
  rw [if_pos hi]
theorem fz_hit {s : ByteArray} {p : Nat} {sg : List UInt8} (hp : p < s.size) (h : hasAt s p sg = true) : fz s p sg = p := by
  unfold fz
  have hi : Lib.index (rest s p) sg = 0 := by
    rw [rest_cons hp]; unfold Lib.index
    unfold hasAt at h; rw [rest_cons hp] at h
    rw [if_pos h]
  rw [hi]; simp
theorem fz_miss {s : ByteArray} {p : Nat} {sg : List UInt8} (hp : p < s.size) (h : hasAt s p sg = false) : fz s p sg = fz s (p + 1) sg := by
  have hi : Lib.index (rest s p) sg = if Lib.index (rest s (p + 1)) sg = -1 then -1 else Lib.index (rest s (p + 1)) sg + 1 := by
    unfold hasAt at h; rw [rest_cons hp] at h
    conv => lhs; rw [rest_cons hp]; unfold Lib.index
    rw [if_neg (by rw [h]; simp)]
    by_cases hk : Lib.index (rest s (p + 1)) sg = -1 <;> simp [hk]
  unfold fz
  rw [hi]
  have hge := Lib.index_ge (rest s (p + 1)) sg
  by_cases hk : Lib.index (rest s (p + 1)) sg = -1
  · simp [hk]
  · rw [if_neg hk, if_neg hk, if_neg (by omega)]; push_cast; omega
theorem find_fz {s what : ByteArray} (h0 : what.data.toList ≠ []) : ∀ (f p : Nat), s.size + 1 ≤ p + f → findGo s what f p = fz s p what.data.toList
  | 0, p, h => by
    rw [fz_nil h0 (by have := List.length_pos_iff.2 h0; omega)]; rfl
  | f + 1, p, h => by
    by_cases hl : p + what.size ≤ s.size
    · have hz : 0 < what.size := by rw [Lib.size_eq]; exact List.length_pos_iff.2 h0
      cases hs : standsAt s p what with
      | true => rw [find_hit hl hs, fz_hit (by omega) (by rw [← stands_has hl]; exact hs)]
      | false => rw [find_miss hl hs, fz_miss (by omega) (by rw [← stands_has hl]; exact hs), find_fz h0 f (p + 1) (by omega)]
    · rw [find_end hl, fz_nil h0 (by rw [← Lib.size_eq]; omega)]
theorem findZ_fz {s what : ByteArray} (h0 : what.data.toList ≠ []) (p : Nat) : findZ s p what = fz s p what.data.toList := find_fz h0 _ _ (by omega)
/-- What the search tells. -/
theorem fz_spec (s : ByteArray) (p : Nat) (sg : List UInt8) (hp : p ≤ s.size) : fz s p sg = -1 ∨ ∃ i : Nat, fz s p sg = i ∧ p ≤ i ∧ i + sg.length ≤ s.size ∧ hasAt s i sg = true ∧ Lib.index (rest s p) sg = ((i - p : Nat) : Int) := by
  unfold fz
  rcases Lib.index_spec (rest s p) sg with ⟨h1, _⟩ | ⟨i, h1, h2, h3, _⟩
  · left; rw [if_pos h1]
  · right
    have hoc : hasAt s (p + i) sg = true := by
      unfold Lib.occAt at h3; rw [rest_rest] at h3; exact h3
    rw [rest_len] at h2
    refine ⟨p + i, ?_, by omega, ?_, hoc, ?_⟩
    · rw [if_neg (by omega), h1]; push_cast; rfl
    · have := has_room hoc (by omega); omega
    · rw [h1]; congr 1; omega
theorem fz_index (s : ByteArray) (p : Nat) (sg : List UInt8) : fz s p sg = -1 ↔ Lib.index (rest s p) sg = -1 := by
  unfold fz
  have := Lib.index_ge (rest s p) sg
  by_cases h : Lib.index (rest s p) sg = -1
  · simp [h]
  · rw [if_neg h]; omega

def whiteB (b : Int) : Bool := decide (b = 9 ∨ b = 10 ∨ b = 32)
def whiteGo (s : ByteArray) : Nat → Nat → Nat
  | 0, i => i
  | f + 1, i => if i < s.size ∧ whiteB (byteAt s i) = true then whiteGo s f (i + 1) else i
/-- The place behind the white from a place on. -/
def whiteZ (s : ByteArray) (p : Nat) : Nat := whiteGo s (s.size + 1) p
theorem whiteGo_stop {s : ByteArray} {f i : Nat} (h : ¬ (i < s.size ∧ whiteB (byteAt s i) = true)) : whiteGo s f i = i := by
  cases f with
  | zero => rfl
  | succ f => unfold whiteGo; rw [if_neg h]
theorem whiteGo_on {s : ByteArray} {f i : Nat} (h : i < s.size ∧ whiteB (byteAt s i) = true) : whiteGo s (f + 1) i = whiteGo s f (i + 1) := by
  conv => lhs; unfold whiteGo
  rw [if_pos h]
theorem whiteGo_ge {s : ByteArray} : ∀ (f i : Nat), i ≤ whiteGo s f i ∧ (i ≤ s.size → whiteGo s f i ≤ s.size)
  | 0, i => ⟨Nat.le_refl _, fun h => h⟩
  | f + 1, i => by
    by_cases h : i < s.size ∧ whiteB (byteAt s i) = true
    · rw [whiteGo_on h]
      have := whiteGo_ge (s := s) f (i + 1)
      exact ⟨by omega, fun _ => this.2 (by omega)⟩
    · rw [whiteGo_stop h]; exact ⟨Nat.le_refl _, fun h => h⟩
theorem whiteZ_ge (s : ByteArray) (p : Nat) : p ≤ whiteZ s p := (whiteGo_ge _ _).1
theorem whiteZ_le {s : ByteArray} {p : Nat} (h : p ≤ s.size) : whiteZ s p ≤ s.size := (whiteGo_ge _ _).2 h
def whites : List UInt8 := [9, 10, 32]
theorem white_byteB (c : UInt8) : whites.contains c = whiteB (c.toNat : Int) := by
  unfold whites whiteB
  apply Bool.eq_iff_iff.2
  simp only [List.contains_cons, List.contains_nil, Bool.or_false, Bool.or_eq_true, beq_iff_eq, decide_eq_true_eq]
  constructor
  · rintro (h | h | h) <;> subst h <;> decide
  · intro h
    rcases h with h | h | h
    · left; apply UInt8.toNat_inj.1; show c.toNat = 9; omega
    · right; left; apply UInt8.toNat_inj.1; show c.toNat = 10; omega
    · right; right; apply UInt8.toNat_inj.1; show c.toNat = 32; omega
theorem whiteGo_trim {s : ByteArray} : ∀ (f i : Nat), i ≤ s.size → s.size ≤ i + f → (Lib.trimLeftS (rest s i) whites).length = s.size - whiteGo s f i
  | 0, i, h, hf => by
    rw [rest_nil (by omega)]; unfold whiteGo Lib.trimLeftS; simp; omega
  | f + 1, i, h, hf => by
    by_cases hi : i < s.size
    · have hb : whites.contains (s.data.toList.getD i 0) = whiteB (byteAt s i) := white_byteB _
      unfold Lib.trimLeftS
      rw [rest_cons hi, List.dropWhile_cons]
      by_cases hw : whiteB (byteAt s i) = true
      · rw [if_pos (by rw [hb]; exact hw), whiteGo_on ⟨hi, hw⟩]
        exact whiteGo_trim f (i + 1) (by omega) (by omega)
      · rw [if_neg (by rw [hb]; exact hw), whiteGo_stop (fun hh => hw hh.2), List.length_cons, rest_len]; omega
    · rw [rest_nil (by omega), whiteGo_stop (fun hh => hi hh.1)]; unfold Lib.trimLeftS; simp; omega
theorem whiteZ_trim {s : ByteArray} {p : Nat} (h : p ≤ s.size) : (Lib.trimLeftS (rest s p) whites).length = s.size - whiteZ s p := whiteGo_trim _ _ h (by omega)
end Go.Proofs.YtpkhdfddbcpciaaDoor.Plain9
