/- Plain mathematics: the characters of a text, one behind the other, or the place of the first byte that is none's. Nothing of the program is named here. -/
import Derived.Test.YtpkhdfddbcpciaaDoorPlain4
namespace Go.Proofs.YtpkhdfddbcpciaaDoor.Plain5
open Plain1 Strs Plain3 Plain4

def scan (s : ByteArray) : Nat → Nat → List Int → List Int × Int
  | 0, _, acc => (acc, -1)
  | f + 1, i, acc => if i < s.size then (if (runeZ s i).2 = 0 then ([], (i : Int)) else scan s f (i + (runeZ s i).2) (acc ++ [(runeZ s i).1])) else (acc, -1)
def scanAll (s : ByteArray) : List Int × Int := scan s (s.size + 1) 0 []

theorem scan_end {s : ByteArray} {f i : Nat} {acc : List Int} (h : s.size ≤ i) : scan s f i acc = (acc, -1) := by
  cases f with
  | zero => rfl
  | succ f => unfold scan; rw [if_neg (by omega)]
theorem scan_bad {s : ByteArray} {f i : Nat} {acc : List Int} (hi : i < s.size) (h : (runeZ s i).2 = 0) : scan s (f + 1) i acc = ([], (i : Int)) := by
  unfold scan; rw [if_pos hi, if_pos h]
theorem scan_good {s : ByteArray} {f i : Nat} {acc : List Int} (hi : i < s.size) (h : (runeZ s i).2 ≠ 0) : scan s (f + 1) i acc = scan s f (i + (runeZ s i).2) (acc ++ [(runeZ s i).1]) := by
  conv => lhs; unfold scan
  rw [if_pos hi, if_neg h]

theorem fin_le {s : ByteArray} {pos n : Nat} {x0 low : Int} (h : (fin s pos x0 n low).2 ≠ 0) : pos + (fin s pos x0 n low).2 ≤ s.size := by
  unfold fin at h ⊢
  split at h
  · rename_i hh; rw [if_pos hh]; exact hh.1
  · simp at h
theorem rune_le {s : ByteArray} {pos : Nat} (h : (runeZ s pos).2 ≠ 0) : pos + (runeZ s pos).2 ≤ s.size := by
  unfold runeZ at h ⊢
  split at h
  · rename_i c; rw [if_pos c]; exact fin_le h
  rename_i c1; rw [if_neg c1]
  split at h
  · rename_i c; rw [if_pos c]; exact fin_le h
  rename_i c2; rw [if_neg c2]
  split at h
  · rename_i c; rw [if_pos c]; exact fin_le h
  rename_i c3; rw [if_neg c3]
  split at h
  · rename_i c; rw [if_pos c]; exact fin_le h
  · simp at h

/-- What Runes answers: the list, the place, the code. -/
def rList (s : ByteArray) : List Int := if 4000 < s.size then [] else (scanAll s).1
def rAt (s : ByteArray) : Int := if 4000 < s.size then 0 else if 0 ≤ (scanAll s).2 then (scanAll s).2 else 0
def rCode (s : ByteArray) : Int := if 4000 < s.size then 2 else if 0 ≤ (scanAll s).2 then 3 else 0
theorem scan_list {s : ByteArray} : ∀ (f i : Nat) (acc : List Int), 0 ≤ (scan s f i acc).2 → (scan s f i acc).1 = []
  | 0, i, acc, h => by simp [scan] at h
  | f + 1, i, acc, h => by
    by_cases hi : i < s.size
    · by_cases hb : (runeZ s i).2 = 0
      · rw [scan_bad hi hb]
      · rw [scan_good hi hb] at h ⊢; exact scan_list f _ _ h
    · rw [scan_end (by omega)] at h; simp at h
theorem scan_at {s : ByteArray} : ∀ (f i : Nat) (acc : List Int), -1 ≤ (scan s f i acc).2 ∧ (scan s f i acc).2 < s.size + 1
  | 0, i, acc => by simp [scan]; omega
  | f + 1, i, acc => by
    by_cases hi : i < s.size
    · by_cases hb : (runeZ s i).2 = 0
      · rw [scan_bad hi hb]; simp only []; omega
      · rw [scan_good hi hb]; exact scan_at f _ _
    · rw [scan_end (by omega)]; simp only []; omega
theorem scan_len {s : ByteArray} : ∀ (f i : Nat) (acc : List Int), i ≤ s.size → (scan s f i acc).1.length + i ≤ acc.length + s.size
  | 0, i, acc, h => by simp [scan]; omega
  | f + 1, i, acc, h => by
    by_cases hi : i < s.size
    · by_cases hb : (runeZ s i).2 = 0
      · rw [scan_bad hi hb]; simp; omega
      · rw [scan_good hi hb]
        have := rune_le hb
        have := scan_len f (i + (runeZ s i).2) (acc ++ [(runeZ s i).1]) this
        simp at this
        omega
    · rw [scan_end (by omega)]; simp only []; omega
theorem rList_len (s : ByteArray) : (rList s).length ≤ 4000 := by
  unfold rList
  split
  · simp
  · have := scan_len (s := s) (s.size + 1) 0 [] (Nat.zero_le _)
    simp at this
    unfold scanAll
    omega
end Go.Proofs.YtpkhdfddbcpciaaDoor.Plain5
