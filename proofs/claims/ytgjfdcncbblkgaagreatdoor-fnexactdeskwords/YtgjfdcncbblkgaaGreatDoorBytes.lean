/- Bytes and texts: a row of bytes turned into a text; the UTF-8 of a list of characters. Nothing of the program is named here. -/
import Derived.Test.YtgjfdcncbblkgaaGreatDoorPlain1
import Derived.Test.YtgjfdcncbblkgaaGreatDoorLists
import Derived.Laws.BytesArg
import Derived.Lib.RuneBytes
namespace Go.Proofs.YtgjfdcncbblkgaaGreatDoor.Bytes
open Go.RowKit Plain1 Lists Go.Lib

def encAll (l : List Int) : List Int := l.flatMap encodeRuneZ
/-- What Utf answers, byte by byte. -/
def utfZ (l : List Int) : List Int := if l.length ≤ 400 ∧ l.all charB = true then encAll l else []

theorem encAll_snoc (l : List Int) (c : Int) : encAll (l ++ [c]) = encAll l ++ encodeRuneZ c := by simp [encAll]
theorem encodeRuneZ_len (c : Int) : 1 ≤ (encodeRuneZ c).length ∧ (encodeRuneZ c).length ≤ 4 := by
  unfold encodeRuneZ; split <;> (try split) <;> (try split) <;> (try split) <;> simp
theorem encAll_len (l : List Int) : (encAll l).length ≤ 4 * l.length := by
  induction l with
  | nil => simp [encAll]
  | cons c l ih =>
    have := (encodeRuneZ_len c).2
    simp [encAll] at ih ⊢
    omega
theorem take_snoc_getD (l : List Int) (k : Nat) (h : k < l.length) : l.take (k + 1) = l.take k ++ [l.getD k 0] := by
  rw [List.take_succ_eq_append_getElem h]; simp [List.getD, h]
theorem all_snoc {l : List Int} {k : Nat} (h : k < l.length) (ha : (l.take k).all charB = true) (hc : charB (l.getD k 0) = true) : (l.take (k + 1)).all charB = true := by
  rw [take_snoc_getD l k h, List.all_append, ha]; simp only [List.all_cons, List.all_nil, hc]; rfl
theorem utfZ_long {l : List Int} (h : 400 < l.length) : utfZ l = [] := by unfold utfZ; rw [if_neg (by omega)]
theorem utfZ_bad {l : List Int} {k : Nat} (h : k < l.length) (hc : charB (l.getD k 0) = false) : utfZ l = [] := by
  unfold utfZ
  rw [if_neg]
  rintro ⟨_, ha⟩
  rw [List.all_eq_true] at ha
  have := ha l[k] (List.getElem_mem h)
  simp [List.getD, h] at hc
  rw [hc] at this
  cases this
theorem utfZ_good {l : List Int} (h : l.length ≤ 400) (ha : l.all charB = true) : utfZ l = encAll l := by unfold utfZ; rw [if_pos ⟨h, ha⟩]

theorem conv_own {P : Program} {w : World} {B : Nat} {e src dst : TypeId} {v : Value} {n : Nat} {xs : List Int} (hs : P.underlying src = some (.slice e)) (he : P.underlying e = some (.int .u8)) (hd : P.underlying dst = some .string)
    (h : w.ownsRow B e 1 v n (xs.map (Value.int .u8))) : (convert src dst v).run P w = .ok (.string (strOfNums xs)) w := by
  have hl : xs.length = n := by have := h.1; simpa using this
  rcases owns_forms h with ⟨rfl, hn⟩ | ⟨g, cap, rfl⟩
  · have : xs = [] := List.eq_nil_of_length_eq_zero (by omega)
    subst this
    exact run_convert_bytes_nil w src e hs he 0 0 dst hd
  · refine run_convert_bytes_arg w src e hs he g 0 n cap xs hl (fun i hi => ?_) dst hd
    rw [Nat.zero_add, h.cellAt i (by omega)]
    simp [List.getD, show i < xs.length by omega]

theorem encBytes (r : Int) : runeCells r = (encodeRuneZ r).map (Value.int .u8) := rfl
theorem ret_str {a b : List Int} (h : a = b) : Ending.returned (.string (strOfNums a)) = .returned (.string (strOfNums b)) := by rw [h]
theorem str_nil : strOfNums [] = ByteArray.empty := rfl
end Go.Proofs.YtgjfdcncbblkgaaGreatDoor.Bytes
