/- Plain mathematics of marks: searching, white, signs that must stand there. Nothing of the program is named here. -/
/- Plain mathematics of marks: what a mark tells. Nothing of the program is named here. -/
/- Plain mathematics: where characters begin in a text that is all characters; the characters of a text's end. Nothing of the program is named here. -/
/- Plain mathematics: a mark told by its first bytes. Nothing of the program is named here. -/
/- Plain mathematics: a text cut at a sign, as the library cuts it. Nothing of the program is named here. -/
/- Plain mathematics: a name's bytes told of the rest of a text. Nothing of the program is named here. -/
/- Plain mathematics: a start read part by part. Nothing of the program is named here. -/
/- Plain mathematics: a fault is one of three. -/
/- Plain mathematics: a mark has not more attributes than its text has bytes. -/
import Derived.Test.YtlfcmlcpdpkibaaDoorPlA
import Derived.Lib.IndexMore
import Derived.Lib.RabinKarpLaws
import Derived.Lib.SlTrimSet
namespace Go.Proofs.YtlfcmlcpdpkibaaDoor.Plain9
open Plain1 Plain2 Strs Plain3 Plain4 Plain5 Plain6

def rest (s : ByteArray) (p : Nat) : List UInt8 := s.data.toList.drop p
theorem rest_len (s : ByteArray) (p : Nat) : (rest s p).length = s.size - p := by
  unfold rest; rw [List.length_drop, ← Lib.size_eq]
theorem rest_cons {s : ByteArray} {p : Nat} (h : p < s.size) : rest s p = s.data.toList.getD p 0 :: rest s (p + 1) := by
  unfold rest
  have h' : p < s.data.toList.length := by rw [← Lib.size_eq]; exact h
  rw [List.drop_eq_getElem_cons h', List.getD_eq_getElem?_getD, List.getElem?_eq_getElem h']
  rfl
theorem rest_nil {s : ByteArray} {p : Nat} (h : s.size ≤ p) : rest s p = [] := by
  apply List.eq_nil_of_length_eq_zero; rw [rest_len]; omega
theorem rest_rest (s : ByteArray) (p k : Nat) : (rest s p).drop k = rest s (p + k) := by unfold rest; rw [List.drop_drop]
theorem ext_rest (s : ByteArray) (p : Nat) : (s.extract p s.size).data.toList = rest s p := by
  rw [Lib.extract_data]; unfold rest
  apply List.take_of_length_le
  rw [List.length_drop, ← Lib.size_eq]; omega
theorem ext_size {s : ByteArray} {p q : Nat} (hq : q ≤ s.size) : (s.extract p q).size = q - p := by
  rw [Lib.size_eq, Lib.extract_data, List.length_take, List.length_drop, ← Lib.size_eq]; omega
/-- Does a sign stand at a place? -/
def hasAt (s : ByteArray) (p : Nat) (sg : List UInt8) : Bool := sg.isPrefixOf (rest s p)
theorem has_occ (s : ByteArray) (p : Nat) (sg : List UInt8) : Lib.occAt s.data.toList sg p = hasAt s p sg := rfl
theorem has_room {s : ByteArray} {p : Nat} {sg : List UInt8} (h : hasAt s p sg = true) (hp : p ≤ s.size) : p + sg.length ≤ s.size := by
  unfold hasAt at h
  have := (List.isPrefixOf_iff_prefix.1 h).length_le
  rw [rest_len] at this; omega
theorem byteAt_head (s : ByteArray) (p : Nat) : byteAt s p = ((s.data.toList.getD p 0).toNat : Int) := rfl

/-- Does a text stand at a place of another one? -/
def standsAt (s : ByteArray) (i : Nat) (what : ByteArray) : Bool := (s.extract i (i + what.size)).toList == what.toList
theorem stands_has {s what : ByteArray} {i : Nat} (h : i + what.size ≤ s.size) : standsAt s i what = hasAt s i what.data.toList := by
  rw [← has_occ]
  unfold standsAt
  cases hc : ((s.extract i (i + what.size)).toList == what.toList) with
  | true => exact (occ_yes s what i h hc).symm
  | false => exact (occ_no s what i h hc).symm
def findGo (s what : ByteArray) : Nat → Nat → Int
  | 0, _ => -1
  | f + 1, i => if i + what.size ≤ s.size then (if standsAt s i what = true then (i : Int) else findGo s what f (i + 1)) else -1
/-- The place of a text in another one from a place on, or -1. -/
def findZ (s : ByteArray) (p : Nat) (what : ByteArray) : Int := findGo s what (s.size + 1) p
theorem find_end {s what : ByteArray} {f i : Nat} (h : ¬ i + what.size ≤ s.size) : findGo s what f i = -1 := by
  cases f with
  | zero => rfl
  | succ f => unfold findGo; rw [if_neg h]
theorem find_hit {s what : ByteArray} {f i : Nat} (h : i + what.size ≤ s.size) (hs : standsAt s i what = true) : findGo s what (f + 1) i = (i : Int) := by
  unfold findGo; rw [if_pos h, if_pos hs]
theorem find_miss {s what : ByteArray} {f i : Nat} (h : i + what.size ≤ s.size) (hs : standsAt s i what = false) : findGo s what (f + 1) i = findGo s what f (i + 1) := by
  conv => lhs; unfold findGo
  rw [if_pos h, if_neg (by rw [hs]; simp)]
/-- The place of a sign from a place on, or -1. -/
def fz (s : ByteArray) (p : Nat) (sg : List UInt8) : Int := if Lib.index (rest s p) sg = -1 then -1 else (p : Int) + Lib.index (rest s p) sg
theorem fz_nil {s : ByteArray} {p : Nat} {sg : List UInt8} (h0 : sg ≠ []) (h : s.size < p + sg.length) : fz s p sg = -1 := by
  unfold fz
  have hi : Lib.index (rest s p) sg = -1 := by
    rcases Lib.index_spec (rest s p) sg with ⟨h1, _⟩ | ⟨i, h1, h2, h3, _⟩
    · exact h1
    · rcases Lib.occAt_room h3 with h4 | h4
      · rw [rest_len] at h4; have := List.length_pos_iff.2 h0; omega
      · exact absurd h4 h0
  rw [if_pos hi]
theorem fz_hit {s : ByteArray} {p : Nat} {sg : List UInt8} (hp : p < s.size) (h : hasAt s p sg = true) : fz s p sg = p := by
  unfold fz
  have hi : Lib.index (rest s p) sg = 0 := by
    rw [rest_cons hp]; unfold Lib.index
    unfold hasAt at h; rw [rest_cons hp] at h
    rw [if_pos h]
  rw [hi]; simp
theorem fz_miss {s : ByteArray} {p : Nat} {sg : List UInt8} (hp : p < s.size) (h : hasAt s p sg = false) : fz s p sg = fz s (p + 1) sg := by
  have hi : Lib.index (rest s p) sg = if Lib.index (rest s (p + 1)) sg = -1 then -1 else Lib.index (rest s (p + 1)) sg + 1 := by
    unfold hasAt at h; rw [rest_cons hp] at h
    conv => lhs; rw [rest_cons hp]; unfold Lib.index
    rw [if_neg (by rw [h]; simp)]
    by_cases hk : Lib.index (rest s (p + 1)) sg = -1 <;> simp [hk]
  unfold fz
  rw [hi]
  have hge := Lib.index_ge (rest s (p + 1)) sg
  by_cases hk : Lib.index (rest s (p + 1)) sg = -1
  · simp [hk]
  · rw [if_neg hk, if_neg hk, if_neg (by omega)]; push_cast; omega
theorem find_fz {s what : ByteArray} (h0 : what.data.toList ≠ []) : ∀ (f p : Nat), s.size + 1 ≤ p + f → findGo s what f p = fz s p what.data.toList
  | 0, p, h => by
    rw [fz_nil h0 (by have := List.length_pos_iff.2 h0; omega)]; rfl
  | f + 1, p, h => by
    by_cases hl : p + what.size ≤ s.size
    · have hz : 0 < what.size := by rw [Lib.size_eq]; exact List.length_pos_iff.2 h0
      cases hs : standsAt s p what with
      | true => rw [find_hit hl hs, fz_hit (by omega) (by rw [← stands_has hl]; exact hs)]
      | false => rw [find_miss hl hs, fz_miss (by omega) (by rw [← stands_has hl]; exact hs), find_fz h0 f (p + 1) (by omega)]
    · rw [find_end hl, fz_nil h0 (by rw [← Lib.size_eq]; omega)]
theorem findZ_fz {s what : ByteArray} (h0 : what.data.toList ≠ []) (p : Nat) : findZ s p what = fz s p what.data.toList := find_fz h0 _ _ (by omega)
/-- What the search tells. -/
theorem fz_spec (s : ByteArray) (p : Nat) (sg : List UInt8) (hp : p ≤ s.size) : fz s p sg = -1 ∨ ∃ i : Nat, fz s p sg = i ∧ p ≤ i ∧ i + sg.length ≤ s.size ∧ hasAt s i sg = true ∧ Lib.index (rest s p) sg = ((i - p : Nat) : Int) := by
  unfold fz
  rcases Lib.index_spec (rest s p) sg with ⟨h1, _⟩ | ⟨i, h1, h2, h3, _⟩
  · left; rw [if_pos h1]
  · right
    have hoc : hasAt s (p + i) sg = true := by
      unfold Lib.occAt at h3; rw [rest_rest] at h3; exact h3
    rw [rest_len] at h2
    refine ⟨p + i, ?_, by omega, ?_, hoc, ?_⟩
    · rw [if_neg (by omega), h1]; push_cast; rfl
    · have := has_room hoc (by omega); omega
    · rw [h1]; congr 1; omega
theorem fz_index (s : ByteArray) (p : Nat) (sg : List UInt8) : fz s p sg = -1 ↔ Lib.index (rest s p) sg = -1 := by
  unfold fz
  have := Lib.index_ge (rest s p) sg
  by_cases h : Lib.index (rest s p) sg = -1
  · simp [h]
  · rw [if_neg h]; omega

def whiteB (b : Int) : Bool := decide (b = 9 ∨ b = 10 ∨ b = 32)
def whiteGo (s : ByteArray) : Nat → Nat → Nat
  | 0, i => i
  | f + 1, i => if i < s.size ∧ whiteB (byteAt s i) = true then whiteGo s f (i + 1) else i
/-- The place behind the white from a place on. -/
def whiteZ (s : ByteArray) (p : Nat) : Nat := whiteGo s (s.size + 1) p
theorem whiteGo_stop {s : ByteArray} {f i : Nat} (h : ¬ (i < s.size ∧ whiteB (byteAt s i) = true)) : whiteGo s f i = i := by
  cases f with
  | zero => rfl
  | succ f => unfold whiteGo; rw [if_neg h]
theorem whiteGo_on {s : ByteArray} {f i : Nat} (h : i < s.size ∧ whiteB (byteAt s i) = true) : whiteGo s (f + 1) i = whiteGo s f (i + 1) := by
  conv => lhs; unfold whiteGo
  rw [if_pos h]
theorem whiteGo_ge {s : ByteArray} : ∀ (f i : Nat), i ≤ whiteGo s f i ∧ (i ≤ s.size → whiteGo s f i ≤ s.size)
  | 0, i => ⟨Nat.le_refl _, fun h => h⟩
  | f + 1, i => by
    by_cases h : i < s.size ∧ whiteB (byteAt s i) = true
    · rw [whiteGo_on h]
      have := whiteGo_ge (s := s) f (i + 1)
      exact ⟨by omega, fun _ => this.2 (by omega)⟩
    · rw [whiteGo_stop h]; exact ⟨Nat.le_refl _, fun h => h⟩
theorem whiteZ_ge (s : ByteArray) (p : Nat) : p ≤ whiteZ s p := (whiteGo_ge _ _).1
theorem whiteZ_le {s : ByteArray} {p : Nat} (h : p ≤ s.size) : whiteZ s p ≤ s.size := (whiteGo_ge _ _).2 h
def whites : List UInt8 := [9, 10, 32]
theorem white_byteB (c : UInt8) : whites.contains c = whiteB (c.toNat : Int) := by
  unfold whites whiteB
  apply Bool.eq_iff_iff.2
  simp only [List.contains_cons, List.contains_nil, Bool.or_false, Bool.or_eq_true, beq_iff_eq, decide_eq_true_eq]
  constructor
  · rintro (h | h | h) <;> subst h <;> decide
  · intro h
    rcases h with h | h | h
    · left; apply UInt8.toNat_inj.1; show c.toNat = 9; omega
    · right; left; apply UInt8.toNat_inj.1; show c.toNat = 10; omega
    · right; right; apply UInt8.toNat_inj.1; show c.toNat = 32; omega
theorem whiteGo_trim {s : ByteArray} : ∀ (f i : Nat), i ≤ s.size → s.size ≤ i + f → (Lib.trimLeftS (rest s i) whites).length = s.size - whiteGo s f i
  | 0, i, h, hf => by
    rw [rest_nil (by omega)]; unfold whiteGo Lib.trimLeftS; simp; omega
  | f + 1, i, h, hf => by
    by_cases hi : i < s.size
    · have hb : whites.contains (s.data.toList.getD i 0) = whiteB (byteAt s i) := white_byteB _
      unfold Lib.trimLeftS
      rw [rest_cons hi, List.dropWhile_cons]
      by_cases hw : whiteB (byteAt s i) = true
      · rw [if_pos (by rw [hb]; exact hw), whiteGo_on ⟨hi, hw⟩]
        exact whiteGo_trim f (i + 1) (by omega) (by omega)
      · rw [if_neg (by rw [hb]; exact hw), whiteGo_stop (fun hh => hw hh.2), List.length_cons, rest_len]; omega
    · rw [rest_nil (by omega), whiteGo_stop (fun hh => hi hh.1)]; unfold Lib.trimLeftS; simp; omega
theorem whiteZ_trim {s : ByteArray} {p : Nat} (h : p ≤ s.size) : (Lib.trimLeftS (rest s p) whites).length = s.size - whiteZ s p := whiteGo_trim _ _ h (by omega)
end Go.Proofs.YtlfcmlcpdpkibaaDoor.Plain9

namespace Go.Proofs.YtlfcmlcpdpkibaaDoor.Plain10
open Plain1 Plain2 Strs Plain3 Plain4 Plain5 Plain6 Plain9

/-- What a sign that must stand there tells: 0 and the place behind it; 1: short; 2: something else stands there. -/
def lackZ (s : ByteArray) (p : Nat) (sg : List UInt8) : Nat := if (rest s p).isPrefixOf sg = true then 1 else 2
def mustF (s : ByteArray) (p : Nat) (sg : List UInt8) : Nat := if hasAt s p sg = true then 0 else lackZ s p sg
/-- A text up to a sign: 0, it, the place behind the sign; 1: short. -/
def upF (s : ByteArray) (p : Nat) (sg : List UInt8) : Nat := if fz s p sg = -1 then 1 else 0
def upT (s : ByteArray) (p : Nat) (sg : List UInt8) : ByteArray := s.extract p (fz s p sg).toNat
def upP (s : ByteArray) (p : Nat) (sg : List UInt8) : Nat := (fz s p sg).toNat + sg.length
/-- A name: 0, it, the place behind it; 1: short; 2: none. -/
def nmF (s : ByteArray) (p : Nat) : Nat := if 60 < nameZ s p then 2 else if s.size ≤ p + nameZ s p then 1 else if nameZ s p = 0 then 2 else 0
def nmT (s : ByteArray) (p : Nat) : ByteArray := s.extract p (p + nameZ s p)
def nmP (s : ByteArray) (p : Nat) : Nat := p + nameZ s p
/-- A value: the sign's place that ends it (0), short (1), wrong (2). -/
def valGo (s : ByteArray) (q : Int) : Nat → Nat → Nat × Nat
  | 0, i => (1, i)
  | f + 1, i => if i < s.size then (if byteAt s i = 60 then (2, i) else if byteAt s i = q then (0, i) else valGo s q f (i + 1)) else (1, i)
def quoteB (b : Int) : Bool := decide (b = 34 ∨ b = 39)
def valF (s : ByteArray) (p : Nat) : Nat := if s.size ≤ p then 1 else if quoteB (byteAt s p) = true then (valGo s (byteAt s p) (s.size + 1) (p + 1)).1 else 2
def valE (s : ByteArray) (p : Nat) : Nat := (valGo s (byteAt s p) (s.size + 1) (p + 1)).2
def valT (s : ByteArray) (p : Nat) : ByteArray := s.extract (p + 1) (valE s p)
def valP (s : ByteArray) (p : Nat) : Nat := valE s p + 1
theorem val_end {s : ByteArray} {q : Int} {f i : Nat} (h : ¬ i < s.size) : valGo s q f i = (1, i) := by
  cases f with
  | zero => rfl
  | succ f => unfold valGo; rw [if_neg h]
theorem val_bad {s : ByteArray} {q : Int} {f i : Nat} (h : i < s.size) (hb : byteAt s i = 60) : valGo s q (f + 1) i = (2, i) := by
  unfold valGo; rw [if_pos h, if_pos hb]
theorem val_hit {s : ByteArray} {q : Int} {f i : Nat} (h : i < s.size) (hb : byteAt s i ≠ 60) (hq : byteAt s i = q) : valGo s q (f + 1) i = (0, i) := by
  unfold valGo; rw [if_pos h, if_neg hb, if_pos hq]
theorem val_on {s : ByteArray} {q : Int} {f i : Nat} (h : i < s.size) (hb : byteAt s i ≠ 60) (hq : byteAt s i ≠ q) : valGo s q (f + 1) i = valGo s q f (i + 1) := by
  conv => lhs; unfold valGo
  rw [if_pos h, if_neg hb, if_neg hq]

/-- What is told: fl 0: a mark; 1: short; 2: wrong; 3: an attribute that is there. -/
structure Tk where
  fl : Nat
  kind : Int
  name : ByteArray
  text : ByteArray
  attrs : List (ByteArray × ByteArray)
  pos : Nat
def failT (f : Nat) : Tk := ⟨f, 0, ByteArray.empty, ByteArray.empty, [], 0⟩
def hasZ (l : List (ByteArray × ByteArray)) (n : ByteArray) : Bool := l.any fun a => a.1.toList == n.toList

/-- Attributes and the end of a start, from a place on. -/
def tagGo (s nm : ByteArray) : Nat → Nat → List (ByteArray × ByteArray) → Tk
  | 0, _, _ => failT 1
  | f + 1, p, acc =>
    let q := whiteZ s p
    if s.size ≤ q then failT 1
    else if byteAt s q = 62 then ⟨0, 1, nm, ByteArray.empty, acc, q + 1⟩
    else if byteAt s q = 47 then (if mustF s q [47, 62] = 0 then ⟨0, 3, nm, ByteArray.empty, acc, q + 2⟩ else failT (mustF s q [47, 62]))
    else if q = p then failT 2
    else if nmF s q ≠ 0 then failT (nmF s q)
    else
      let r := whiteZ s (nmP s q)
      if mustF s r [61] ≠ 0 then failT (mustF s r [61])
      else
        let v := whiteZ s (r + 1)
        if valF s v ≠ 0 then failT (valF s v)
        else if hasZ acc (nmT s q) = true then failT 3
        else tagGo s nm f (valP s v) (acc ++ [(nmT s q, valT s v)])
def tagZ (s : ByteArray) (p : Nat) : Tk := if nmF s p ≠ 0 then failT (nmF s p) else tagGo s (nmT s p) (s.size + 1) (nmP s p) []

def xmlB (n : ByteArray) : Bool := decide (n.size = 3) && (decide (byteAt n 0 = 120 ∨ byteAt n 0 = 88) && (decide (byteAt n 1 = 109 ∨ byteAt n 1 = 77) && decide (byteAt n 2 = 108 ∨ byteAt n 2 = 76)))
def piZ (s : ByteArray) (p : Nat) : Tk :=
  if nmF s p ≠ 0 then failT (nmF s p)
  else if xmlB (nmT s p) = true then failT 2
  else
    let q := whiteZ s (nmP s p)
    if nmP s p < q then (if upF s q [63, 62] = 0 then ⟨0, 7, nmT s p, upT s q [63, 62], [], upP s q [63, 62]⟩ else failT (upF s q [63, 62]))
    else if mustF s q [63, 62] = 0 then ⟨0, 7, nmT s p, ByteArray.empty, [], q + 2⟩ else failT (mustF s q [63, 62])
def commentZ (s : ByteArray) (p : Nat) : Tk :=
  if upF s p [45, 45] ≠ 0 then failT (upF s p [45, 45])
  else if mustF s (upP s p [45, 45]) [62] = 0 then ⟨0, 6, ByteArray.empty, upT s p [45, 45], [], upP s p [45, 45] + 1⟩ else failT (mustF s (upP s p [45, 45]) [62])
def cdataZ (s : ByteArray) (p : Nat) : Tk :=
  if upF s p [93, 93, 62] = 0 then ⟨0, 5, ByteArray.empty, upT s p [93, 93, 62], [], upP s p [93, 93, 62]⟩ else failT (upF s p [93, 93, 62])
def endZ (s : ByteArray) (p : Nat) : Tk :=
  if nmF s p ≠ 0 then failT (nmF s p)
  else
    let q := whiteZ s (nmP s p)
    if mustF s q [62] = 0 then ⟨0, 2, nmT s p, ByteArray.empty, [], q + 1⟩ else failT (mustF s q [62])
/-- The place behind a head's text and its bracket (0), or short (1). -/
def subGo (s : ByteArray) : Nat → Nat → Nat × Nat
  | 0, p => (1, p)
  | f + 1, p =>
    if p < s.size then
      (if byteAt s p = 93 then (0, p + 1)
       else if byteAt s p = 34 then (if upF s (p + 1) [34] = 0 then subGo s f (upP s (p + 1) [34]) else (1, p))
       else if byteAt s p = 39 then (if upF s (p + 1) [39] = 0 then subGo s f (upP s (p + 1) [39]) else (1, p))
       else if hasAt s p [60, 33, 45, 45] = true then (if upF s (p + 4) [45, 45, 62] = 0 then subGo s f (upP s (p + 4) [45, 45, 62]) else (1, p))
       else if hasAt s p [60, 63] = true then (if upF s (p + 2) [63, 62] = 0 then subGo s f (upP s (p + 2) [63, 62]) else (1, p))
       else subGo s f (p + 1))
    else (1, p)
def subF (s : ByteArray) (p : Nat) : Nat := (subGo s (s.size + 1) p).1
def subP (s : ByteArray) (p : Nat) : Nat := (subGo s (s.size + 1) p).2
def subT (s : ByteArray) (p : Nat) : ByteArray := s.extract p (subP s p - 1)
def doctypeZ (s : ByteArray) (p : Nat) : Tk :=
  let q := whiteZ s p
  if q = p then failT (if s.size ≤ p then 1 else 2)
  else if nmF s q ≠ 0 then failT (nmF s q)
  else
    let r := whiteZ s (nmP s q)
    if hasAt s r [91] = true then
      (if subF s (r + 1) ≠ 0 then failT (subF s (r + 1))
       else
         let u := whiteZ s (subP s (r + 1))
         if mustF s u [62] = 0 then ⟨0, 8, nmT s q, subT s (r + 1), [], u + 1⟩ else failT (mustF s u [62]))
    else if mustF s r [62] = 0 then ⟨0, 8, nmT s q, ByteArray.empty, [], r + 1⟩ else failT (mustF s r [62])
/-- A mark, at its sign. -/
def markZ (s : ByteArray) (p : Nat) : Tk :=
  if hasAt s p [60, 33, 45, 45] = true then commentZ s (p + 4)
  else if hasAt s p [60, 33, 91, 67, 68, 65, 84, 65, 91] = true then cdataZ s (p + 9)
  else if hasAt s p [60, 33, 68, 79, 67, 84, 89, 80, 69] = true then doctypeZ s (p + 9)
  else if hasAt s p [60, 63] = true then piZ s (p + 2)
  else if hasAt s p [60, 47] = true then endZ s (p + 2)
  else if hasAt s p [60, 33] = true then failT (if (rest s p).isPrefixOf [60, 33, 45, 45] = true ∨ (rest s p).isPrefixOf [60, 33, 91, 67, 68, 65, 84, 65, 91] = true ∨ (rest s p).isPrefixOf [60, 33, 68, 79, 67, 84, 89, 80, 69] = true then 1 else 2)
  else tagZ s (p + 1)
def textE (s : ByteArray) (p : Nat) : Nat := if fz s p [60] = -1 then s.size else (fz s p [60]).toNat
def textZ (s : ByteArray) (p : Nat) (closed : Bool) : Tk :=
  if Lib.index (s.extract p (textE s p)).data.toList [93, 93, 62] ≠ -1 then failT 2
  else if textE s p = s.size ∧ closed = false then failT 1
  else ⟨0, 4, ByteArray.empty, s.extract p (textE s p), [], textE s p⟩
/-- The code that a fault has. -/
def flCode (f : Nat) (closed : Bool) : Int := if f = 3 then 6 else if f = 2 ∨ (f = 1 ∧ closed = true) then 3 else if f = 1 then 4 else 0
structure Out where
  tk : Tk
  at1 : Int
  code : Int
def outOf (t : Tk) (closed : Bool) : Out := if t.fl = 0 then ⟨t, t.pos, 0⟩ else ⟨failT 0, 0, flCode t.fl closed⟩
def codeOut (c : Int) : Out := ⟨failT 0, 0, c⟩
def nextZ (s : ByteArray) (at0 : Int) (closed : Bool) : Out :=
  if 4000 < s.size then codeOut 2
  else if 0 ≤ (scanAll s).2 ∨ fz s 0 [13] ≠ -1 ∨ at0 < 0 ∨ (s.size : Int) < at0 then codeOut 1
  else if at0 = s.size then codeOut 10
  else if 128 ≤ byteAt s at0.toNat ∧ byteAt s at0.toNat < 192 then codeOut 1
  else if byteAt s at0.toNat = 60 then outOf (markZ s at0.toNat) closed
  else outOf (textZ s at0.toNat closed) closed

/-- The model's scanner: its place and what is wrong (0: nothing). -/
structure Sc where
  pos : Nat
  fl : Nat
def Sc.ended (x : Sc) (s : ByteArray) : Sc := if s.size ≤ x.pos ∧ x.fl = 0 then ⟨x.pos, 1⟩ else x
theorem ended_in {x : Sc} {s : ByteArray} (h : x.pos < s.size) : x.ended s = x := by unfold Sc.ended; rw [if_neg (by omega)]
theorem ended_fl {x : Sc} {s : ByteArray} (h : x.fl ≠ 0) : x.ended s = x := by unfold Sc.ended; rw [if_neg (by omega)]
theorem ended_end {x : Sc} {s : ByteArray} (h : s.size ≤ x.pos) (h0 : x.fl = 0) : x.ended s = ⟨x.pos, 1⟩ := by unfold Sc.ended; rw [if_pos ⟨h, h0⟩]
/-- Going over a text that must stand there. -/
def mustGo (s what : ByteArray) : Nat → Nat → Sc → Sc
  | 0, _, x => x
  | f + 1, i, x => if i < what.size ∧ x.fl = 0 then (if s.size ≤ x.pos then x.ended s else if byteAt s x.pos = byteAt what i then mustGo s what f (i + 1) ⟨x.pos + 1, x.fl⟩ else ⟨x.pos, 2⟩) else x
def Sc.must (x : Sc) (s what : ByteArray) : Sc := mustGo s what (what.size + 1) 0 x
theorem must_stop {s what : ByteArray} {f i : Nat} {x : Sc} (h : ¬ (i < what.size ∧ x.fl = 0)) : mustGo s what f i x = x := by
  cases f with
  | zero => rfl
  | succ f => unfold mustGo; rw [if_neg h]
theorem must_end {s what : ByteArray} {f i : Nat} {x : Sc} (h : i < what.size ∧ x.fl = 0) (he : s.size ≤ x.pos) : mustGo s what (f + 1) i x = x.ended s := by
  unfold mustGo; rw [if_pos h, if_pos he]
theorem must_bad {s what : ByteArray} {f i : Nat} {x : Sc} (h : i < what.size ∧ x.fl = 0) (he : ¬ s.size ≤ x.pos) (hb : ¬ byteAt s x.pos = byteAt what i) : mustGo s what (f + 1) i x = ⟨x.pos, 2⟩ := by
  unfold mustGo; rw [if_pos h, if_neg he, if_neg hb]
theorem must_on {s what : ByteArray} {f i : Nat} {x : Sc} (h : i < what.size ∧ x.fl = 0) (he : ¬ s.size ≤ x.pos) (hb : byteAt s x.pos = byteAt what i) : mustGo s what (f + 1) i x = mustGo s what f (i + 1) ⟨x.pos + 1, x.fl⟩ := by
  conv => lhs; unfold mustGo
  rw [if_pos h, if_neg he, if_pos hb]
theorem byte_eq (s t : ByteArray) (p i : Nat) : byteAt s p = byteAt t i ↔ s.data.toList.getD p 0 = t.data.toList.getD i 0 := by
  unfold byteAt
  constructor
  · intro h; apply UInt8.toNat_inj.1; omega
  · intro h; rw [h]
theorem mustGo_Z {s what : ByteArray} : ∀ (f i p : Nat), p ≤ s.size → i ≤ what.size → what.size + 1 ≤ i + f →
    (mustGo s what f i ⟨p, 0⟩).pos ≤ s.size ∧ (mustGo s what f i ⟨p, 0⟩).fl = (if (rest what i).isPrefixOf (rest s p) = true then 0 else if (rest s p).isPrefixOf (rest what i) = true then 1 else 2) ∧
    ((rest what i).isPrefixOf (rest s p) = true → (mustGo s what f i ⟨p, 0⟩).pos = p + (what.size - i))
  | 0, i, p, hp, hi, hf => by omega
  | f + 1, i, p, hp, hi, hf => by
    by_cases hlt : i < what.size
    · by_cases he : s.size ≤ p
      · rw [must_end ⟨hlt, rfl⟩ he, ended_end he rfl, rest_nil (s := s) he, rest_cons hlt]
        simp only [List.isPrefixOf]
        simp; omega
      · have hp' : p < s.size := by omega
        by_cases hb : byteAt s p = byteAt what i
        · rw [must_on ⟨hlt, rfl⟩ he hb]
          have ih := mustGo_Z (s := s) (what := what) f (i + 1) (p + 1) (by omega) (by omega) (by omega)
          rw [rest_cons hlt, rest_cons hp']
          have hc := (byte_eq s what p i).1 hb
          simp only [List.isPrefixOf, hc, beq_self_eq_true, Bool.true_and]
          refine ⟨ih.1, ih.2.1, fun h => ?_⟩
          rw [ih.2.2 h]; omega
        · rw [must_bad ⟨hlt, rfl⟩ he hb, rest_cons hlt, rest_cons hp']
          have hc : ¬ s.data.toList.getD p 0 = what.data.toList.getD i 0 := fun h => hb ((byte_eq s what p i).2 h)
          have hc1 : (what.data.toList.getD i 0 == s.data.toList.getD p 0) = false := beq_eq_false_iff_ne.2 (fun h => hc h.symm)
          have hc2 : (s.data.toList.getD p 0 == what.data.toList.getD i 0) = false := beq_eq_false_iff_ne.2 hc
          simp only [List.isPrefixOf, hc1, hc2, Bool.false_and]
          simp; omega
    · rw [must_stop (fun h => hlt h.1), rest_nil (s := what) (by omega)]
      simp [List.isPrefixOf]
      omega
theorem must_no {x : Sc} {s what : ByteArray} (h : x.fl ≠ 0) : x.must s what = x := must_stop (fun hh => h hh.2)
theorem rest_zero (s : ByteArray) : rest s 0 = s.data.toList := rfl
theorem must_fl {s what : ByteArray} {p : Nat} (hp : p ≤ s.size) : ((Sc.mk p 0).must s what).fl = mustF s p what.data.toList := by
  have := (mustGo_Z (s := s) (what := what) (what.size + 1) 0 p hp (by omega) (by omega)).2.1
  unfold Sc.must; rw [this, rest_zero]; rfl
theorem must_le {s what : ByteArray} {p : Nat} (hp : p ≤ s.size) : ((Sc.mk p 0).must s what).pos ≤ s.size := (mustGo_Z (s := s) (what := what) (what.size + 1) 0 p hp (by omega) (by omega)).1
theorem must_pos {s what : ByteArray} {p : Nat} (hp : p ≤ s.size) (h : mustF s p what.data.toList = 0) : ((Sc.mk p 0).must s what).pos = p + what.data.toList.length := by
  have h3 := (mustGo_Z (s := s) (what := what) (what.size + 1) 0 p hp (by omega) (by omega)).2.2
  unfold mustF at h
  by_cases hh : hasAt s p what.data.toList = true
  · rw [← Lib.size_eq]; exact (h3 hh)
  · rw [if_neg hh] at h; unfold lackZ at h; split at h <;> cases h
theorem must_st {s what : ByteArray} {p : Nat} (hp : p ≤ s.size) : ∃ q, (Sc.mk p 0).must s what = ⟨q, mustF s p what.data.toList⟩ ∧ q ≤ s.size ∧ (mustF s p what.data.toList = 0 → q = p + what.data.toList.length) :=
  ⟨((Sc.mk p 0).must s what).pos, by rw [← must_fl hp], must_le hp, must_pos hp⟩
end Go.Proofs.YtlfcmlcpdpkibaaDoor.Plain10

namespace Go.Proofs.YtlfcmlcpdpkibaaDoor.Plain11
open Plain1 Plain2 Strs Plain3 Plain4 Plain5 Plain6 Plain9 Plain10

theorem fin_two {s : ByteArray} {pos n : Nat} {x0 low : Int} (h : (fin s pos x0 n low).2 ≠ 0) : (fin s pos x0 n low).2 = n ∧ conts s pos n := by
  unfold fin at h ⊢
  split at h
  · rename_i hh; rw [if_pos hh]; exact ⟨rfl, hh.2.1⟩
  · simp at h
/-- A character's bytes: the first goes on nothing; the others do, and each stands behind one of 128 or more. -/
theorem rune_bytes {s : ByteArray} {pos : Nat} (h : (runeZ s pos).2 ≠ 0) : ¬ goesOn s pos ∧ ∀ k, 1 ≤ k → k < (runeZ s pos).2 → goesOn s (pos + k) ∧ 128 ≤ byteAt s (pos + k - 1) := by
  have key : ∀ (x0 : Int) (n : Nat) (low : Int), (n ≤ 1 ∨ 128 ≤ byteAt s pos) → (fin s pos x0 n low).2 ≠ 0 → ∀ k, 1 ≤ k → k < (fin s pos x0 n low).2 → goesOn s (pos + k) ∧ 128 ≤ byteAt s (pos + k - 1) := by
    intro x0 n low hb hf k h1 h2
    obtain ⟨e, hc⟩ := fin_two hf
    rw [e] at h2
    refine ⟨conts_iff.1 hc k h2 h1, ?_⟩
    by_cases hk : k = 1
    · subst hk; rcases hb with hb | hb
      · omega
      · simpa using hb
    · have := (conts_iff.1 hc (k - 1) (by omega) (by omega)).1
      rw [show pos + k - 1 = pos + (k - 1) by omega]; exact this
  unfold runeZ at h ⊢
  unfold goesOn at key ⊢
  by_cases c1 : byteAt s pos < 128
  · rw [if_pos c1] at h ⊢; exact ⟨by omega, key _ 1 _ (by omega) h⟩
  rw [if_neg c1] at h ⊢
  by_cases c2 : 192 ≤ byteAt s pos ∧ byteAt s pos < 224
  · rw [if_pos c2] at h ⊢; exact ⟨by omega, key _ _ _ (by omega) h⟩
  rw [if_neg c2] at h ⊢
  by_cases c3 : 224 ≤ byteAt s pos ∧ byteAt s pos < 240
  · rw [if_pos c3] at h ⊢; exact ⟨by omega, key _ _ _ (by omega) h⟩
  rw [if_neg c3] at h ⊢
  by_cases c4 : 240 ≤ byteAt s pos ∧ byteAt s pos < 248
  · rw [if_pos c4] at h ⊢; exact ⟨by omega, key _ _ _ (by omega) h⟩
  rw [if_neg c4] at h; exact absurd rfl h
/-- From a place on all is characters. -/
def VB (s : ByteArray) (p : Nat) : Prop := ∃ f l, s.size ≤ p + f ∧ scanR s f p = some l
theorem VB_end {s : ByteArray} {p : Nat} (h : s.size ≤ p) : VB s p := ⟨0, [], by omega, rfl⟩
theorem VB_step {s : ByteArray} {p : Nat} (h : VB s p) (hp : p < s.size) : (runeZ s p).2 ≠ 0 ∧ VB s (p + (runeZ s p).2) := by
  obtain ⟨f, l, hf, hl⟩ := h
  obtain ⟨f', rfl⟩ : ∃ f', f = f' + 1 := ⟨f - 1, by omega⟩
  unfold scanR at hl
  rw [if_pos hp] at hl
  split at hl
  · cases hl
  · rename_i hr
    cases hm : scanR s f' (p + (runeZ s p).2) with
    | none => rw [hm] at hl; cases hl
    | some m => exact ⟨hr, f', m, by omega, hm⟩
theorem VB_all {s : ByteArray} (h : (scanAll s).2 < 0) : VB s 0 := by
  rcases scan_R (s := s) (s.size + 1) 0 [] with ⟨l, h1, _⟩ | ⟨_, h2⟩
  · exact ⟨s.size + 1, l, by omega, h1⟩
  · unfold scanAll at h; omega
theorem VB_from {s : ByteArray} : ∀ (n i p : Nat), VB s i → s.size ≤ i + n → i ≤ p → p < s.size → VB s p ∨ (goesOn s p ∧ 1 ≤ p ∧ 128 ≤ byteAt s (p - 1))
  | 0, i, p, hv, hn, hi, hp => by omega
  | n + 1, i, p, hv, hn, hi, hp => by
    by_cases he : p = i
    · subst he; exact .inl hv
    · obtain ⟨hr, hv2⟩ := VB_step hv (by omega)
      by_cases hl : p < i + (runeZ s i).2
      · have := (rune_bytes hr).2 (p - i) (by omega) (by omega)
        rw [show i + (p - i) = p by omega] at this
        exact .inr ⟨this.1, by omega, this.2⟩
      · exact VB_from n _ p hv2 (by omega) (by omega) hp
/-- Where no byte goes on another, a character begins. -/
theorem VB_at {s : ByteArray} {p : Nat} (h : VB s 0) (hg : ¬ goesOn s p) : VB s p := by
  by_cases hp : p < s.size
  · rcases VB_from s.size 0 p h (by omega) (by omega) hp with h1 | h1
    · exact h1
    · exact absurd h1.1 hg
  · exact VB_end (by omega)
/-- Behind a byte below 128 a character begins. -/
theorem VB_behind {s : ByteArray} {p : Nat} (h : VB s 0) (h1 : 1 ≤ p) (hb : byteAt s (p - 1) < 128) : VB s p := by
  by_cases hp : p < s.size
  · rcases VB_from s.size 0 p h (by omega) (by omega) hp with h2 | h2
    · exact h2
    · omega
  · exact VB_end (by omega)
theorem nameGo_VB {s : ByteArray} {p : Nat} : ∀ (f n : Nat), VB s (p + n) → VB s (p + nameGo s p f n)
  | 0, n, h => h
  | f + 1, n, h => by
    by_cases hl : p + n < s.size
    · by_cases hs : stops s p n
      · rw [nameGo_stop hl hs]; exact h
      · rw [nameGo_on hl hs]
        exact nameGo_VB f _ (by rw [← Nat.add_assoc]; exact (VB_step h hl).2)
    · rw [nameGo_end (by omega)]; exact h
theorem nameZ_VB {s : ByteArray} {p : Nat} (h : VB s p) : VB s (p + nameZ s p) := nameGo_VB _ _ h
theorem byteAt_of_cons {s : ByteArray} {p : Nat} {c : UInt8} {t : List UInt8} (h : hasAt s p (c :: t) = true) (hp : p < s.size) : byteAt s p = (c.toNat : Int) := by
  unfold hasAt at h
  rw [rest_cons hp] at h
  simp only [List.isPrefixOf, Bool.and_eq_true, beq_iff_eq] at h
  rw [byteAt_head, ← h.1]
theorem has_tail {s : ByteArray} {p : Nat} {c : UInt8} {t : List UInt8} (h : hasAt s p (c :: t) = true) (hp : p < s.size) : hasAt s (p + 1) t = true := by
  unfold hasAt at h ⊢
  rw [rest_cons hp] at h
  simp only [List.isPrefixOf, Bool.and_eq_true] at h
  exact h.2
/-- A sign's bytes as they stand there. -/
theorem has_byte {s : ByteArray} : ∀ {sg : List UInt8} {p : Nat}, hasAt s p sg = true → p ≤ s.size → ∀ k, k < sg.length → byteAt s (p + k) = ((sg.getD k 0).toNat : Int)
  | [], p, h, hp, k, hk => by simp at hk
  | c :: t, p, h, hp, k, hk => by
    have hr := has_room h hp
    simp only [List.length_cons] at hr hk
    cases k with
    | zero => exact byteAt_of_cons h (by omega)
    | succ k =>
      have := has_byte (has_tail h (by omega)) (by omega) k (by omega)
      rw [show p + (k + 1) = p + 1 + k by omega, this]
      rfl
theorem VB_sign {s : ByteArray} {p : Nat} {sg : List UInt8} (h : VB s 0) (hs : hasAt s p sg = true) (hp : p ≤ s.size) (h0 : 1 ≤ sg.length) (ha : (sg.getD (sg.length - 1) 0).toNat < 128) : VB s (p + sg.length) := by
  apply VB_behind h (by omega)
  rw [show p + sg.length - 1 = p + (sg.length - 1) by omega, has_byte hs hp _ (by omega)]
  omega
theorem whiteGo_VB {s : ByteArray} (h0 : VB s 0) : ∀ (f i : Nat), VB s i → VB s (whiteGo s f i)
  | 0, i, h => h
  | f + 1, i, h => by
    by_cases hw : i < s.size ∧ whiteB (byteAt s i) = true
    · rw [whiteGo_on hw]
      refine whiteGo_VB h0 f _ (VB_behind h0 (by omega) ?_)
      have := of_decide_eq_true hw.2
      rw [Nat.add_sub_cancel]; omega
    · rw [whiteGo_stop hw]; exact h
theorem whiteZ_VB {s : ByteArray} {p : Nat} (h0 : VB s 0) (h : VB s p) : VB s (whiteZ s p) := whiteGo_VB h0 _ _ h
theorem up_VB {s : ByteArray} {p : Nat} {sg : List UInt8} (h0 : VB s 0) (hp : p ≤ s.size) (hf : upF s p sg = 0) (h1 : 1 ≤ sg.length) (ha : (sg.getD (sg.length - 1) 0).toNat < 128) : VB s (upP s p sg) := by
  unfold upF at hf
  unfold upP
  rcases fz_spec s p sg hp with h | ⟨i, h, hpi, hr, ho, _⟩
  · rw [if_pos h] at hf; cases hf
  · rw [h, Int.toNat_natCast]; exact VB_sign h0 ho (by omega) h1 ha
theorem up_le {s : ByteArray} {p : Nat} {sg : List UInt8} (hp : p ≤ s.size) (hf : upF s p sg = 0) : upP s p sg ≤ s.size ∧ p ≤ upP s p sg - sg.length ∧ sg.length ≤ upP s p sg := by
  unfold upF at hf
  unfold upP
  rcases fz_spec s p sg hp with h | ⟨i, h, hpi, hr, ho, _⟩
  · rw [if_pos h] at hf; cases hf
  · rw [h, Int.toNat_natCast]; omega
theorem must_has {s : ByteArray} {p : Nat} {sg : List UInt8} : mustF s p sg = 0 ↔ hasAt s p sg = true := by
  unfold mustF
  constructor
  · intro h
    by_cases hh : hasAt s p sg = true
    · exact hh
    · rw [if_neg hh] at h; unfold lackZ at h; split at h <;> cases h
  · intro h; rw [if_pos h]
theorem valGo_spec {s : ByteArray} {q : Int} : ∀ (f i : Nat), (valGo s q f i).1 = 0 → i ≤ (valGo s q f i).2 ∧ (valGo s q f i).2 < s.size ∧ byteAt s (valGo s q f i).2 = q
  | 0, i, h => by simp [valGo] at h
  | f + 1, i, h => by
    by_cases hi : i < s.size
    · by_cases hb : byteAt s i = 60
      · rw [val_bad hi hb] at h; cases h
      · by_cases hq : byteAt s i = q
        · rw [val_hit hi hb hq]; exact ⟨Nat.le_refl _, hi, hq⟩
        · rw [val_on hi hb hq] at h ⊢
          have := valGo_spec f (i + 1) h
          exact ⟨by omega, this.2⟩
    · rw [val_end hi] at h; cases h
theorem val_spec {s : ByteArray} {p : Nat} (h : valF s p = 0) : p < s.size ∧ p + 1 ≤ valE s p ∧ valE s p < s.size ∧ (byteAt s (valE s p) = 34 ∨ byteAt s (valE s p) = 39) := by
  unfold valF at h
  by_cases hp : s.size ≤ p
  · rw [if_pos hp] at h; cases h
  · rw [if_neg hp] at h
    by_cases hq : quoteB (byteAt s p) = true
    · rw [if_pos hq] at h
      have := valGo_spec _ _ h
      have hq' := of_decide_eq_true hq
      unfold valE
      refine ⟨by omega, this.1, this.2.1, ?_⟩
      rw [this.2.2]; exact hq'
    · rw [if_neg hq] at h; cases h
theorem val_VB {s : ByteArray} {p : Nat} (h0 : VB s 0) (h : valF s p = 0) : VB s (valP s p) := by
  have hv := val_spec h
  refine VB_behind h0 (by unfold valP; omega) ?_
  unfold valP
  rw [Nat.add_sub_cancel]; omega
theorem nm_spec {s : ByteArray} {p : Nat} (h : nmF s p = 0) : 1 ≤ nameZ s p ∧ nameZ s p ≤ 60 ∧ nmP s p < s.size ∧ nmP s p = p + nameZ s p := by
  unfold nmF at h
  unfold nmP
  by_cases h1 : 60 < nameZ s p
  · rw [if_pos h1] at h; cases h
  · rw [if_neg h1] at h
    by_cases h2 : s.size ≤ p + nameZ s p
    · rw [if_pos h2] at h; cases h
    · rw [if_neg h2] at h
      by_cases h3 : nameZ s p = 0
      · rw [if_pos h3] at h; cases h
      · omega
theorem nm_VB {s : ByteArray} {p : Nat} (h : VB s p) : VB s (nmP s p) := nameZ_VB h
theorem byteAt_ext {s : ByteArray} {p i : Nat} (_hi : p + i < s.size) : byteAt (s.extract p s.size) i = byteAt s (p + i) := by
  unfold byteAt
  rw [ext_rest]; unfold rest
  simp only [List.getD_eq_getElem?_getD, List.getElem?_drop]
theorem ext_sz (s : ByteArray) (p : Nat) : (s.extract p s.size).size = s.size - p := by rw [ext_size (Nat.le_refl _)]
theorem vz_ext {s : ByteArray} {p i : Nat} (x0 : Int) : ∀ n, p + i + n < s.size + 0 ∨ n = 0 → vz (s.extract p s.size) i x0 n = vz s (p + i) x0 n
  | 0, _ => rfl
  | n + 1, h => by
    have h' : p + i + (n + 1) < s.size := by omega
    have hb := byteAt_ext (s := s) (p := p) (i := i + (n + 1)) (by omega)
    have ih := vz_ext (s := s) (p := p) (i := i) x0 n (by omega)
    have e := vz_step (s.extract p s.size) i x0 (n + 1) (by omega)
    have e' := vz_step s (p + i) x0 (n + 1) (by omega)
    simp only [Nat.add_sub_cancel] at e e'
    rw [e, e', hb, ih, Nat.add_assoc]
theorem conts_ext {s : ByteArray} {p i n : Nat} (h : p + i + n ≤ s.size) : conts (s.extract p s.size) i n ↔ conts s (p + i) n := by
  rw [conts_iff, conts_iff]
  constructor
  · intro hh k hk h1
    have := hh k hk h1
    unfold goesOn at this ⊢
    rw [byteAt_ext (by omega)] at this
    rw [Nat.add_assoc]; exact this
  · intro hh k hk h1
    have := hh k hk h1
    unfold goesOn at this ⊢
    rw [byteAt_ext (by omega)]
    rw [Nat.add_assoc] at this; exact this
theorem fin_ext {s : ByteArray} {p i n : Nat} {x0 low : Int} (hp : p ≤ s.size) (hn : 1 ≤ n) : fin (s.extract p s.size) i x0 n low = fin s (p + i) x0 n low := by
  unfold fin
  rw [ext_sz]
  by_cases h : p + i + n ≤ s.size
  · have e := vz_ext (s := s) (p := p) (i := i) x0 (n - 1) (by omega)
    rw [e]
    have c := conts_ext (s := s) (p := p) (i := i) (n := n) h
    have hr : (i + n ≤ s.size - p) ↔ (p + i + n ≤ s.size) := by omega
    simp only [hr, c]
  · rw [if_neg (by omega), if_neg (by omega)]
theorem rune_ext {s : ByteArray} {p i : Nat} (h : p + i < s.size) : runeZ (s.extract p s.size) i = runeZ s (p + i) := by
  unfold runeZ
  rw [byteAt_ext h]
  simp only [fin_ext (s := s) (p := p) (i := i) (by omega : p ≤ s.size) (by omega : 1 ≤ 1), fin_ext (s := s) (p := p) (i := i) (by omega : p ≤ s.size) (by omega : 1 ≤ 2), fin_ext (s := s) (p := p) (i := i) (by omega : p ≤ s.size) (by omega : 1 ≤ 3), fin_ext (s := s) (p := p) (i := i) (by omega : p ≤ s.size) (by omega : 1 ≤ 4)]
end Go.Proofs.YtlfcmlcpdpkibaaDoor.Plain11

namespace Go.Proofs.YtlfcmlcpdpkibaaDoor.Plain12
open Plain1 Plain2 Strs Plain3 Plain4 Plain5 Plain6 Plain9 Plain10 Plain11

abbrev u8At (s : ByteArray) (p : Nat) : UInt8 := s.data.toList.getD p 0
theorem u8At_eq {s : ByteArray} {p : Nat} {c : UInt8} : byteAt s p = (c.toNat : Int) ↔ u8At s p = c := by
  rw [byteAt_head]
  constructor
  · intro h; exact UInt8.toNat_inj.1 (Int.ofNat.inj h)
  · intro h; rw [← h]
theorem u8At_is {s : ByteArray} {p : Nat} (n : Nat) (c : UInt8) (hc : c.toNat = n) : byteAt s p = (n : Int) ↔ u8At s p = c := by
  subst hc; exact u8At_eq
theorem has_cons {s : ByteArray} {p : Nat} (h : p < s.size) (c : UInt8) (t : List UInt8) : hasAt s p (c :: t) = (c == u8At s p && hasAt s (p + 1) t) := by
  unfold hasAt; rw [rest_cons h]; rfl
theorem has_nil (s : ByteArray) (p : Nat) : hasAt s p [] = true := by unfold hasAt; simp [List.isPrefixOf]
theorem has_end {s : ByteArray} {p : Nat} (h : s.size ≤ p) (c : UInt8) (t : List UInt8) : hasAt s p (c :: t) = false := by unfold hasAt; rw [rest_nil h]; rfl
theorem pre_cons {s : ByteArray} {p : Nat} (h : p < s.size) (c : UInt8) (t : List UInt8) : (rest s p).isPrefixOf (c :: t) = (u8At s p == c && (rest s (p + 1)).isPrefixOf t) := by rw [rest_cons h]; rfl
theorem pre_end {s : ByteArray} {p : Nat} (h : s.size ≤ p) (t : List UInt8) : (rest s p).isPrefixOf t = true := by rw [rest_nil h]; simp [List.isPrefixOf]
variable {s : ByteArray} {p : Nat}
theorem mark_end1 (hp : p < s.size) (h0 : byteAt s p = 60) (h1 : s.size ≤ p + 1) : markZ s p = failT 1 := by
  have u0 := (u8At_is 60 60 rfl).1 h0
  unfold markZ
  simp only [has_cons hp, u0, has_end h1, Bool.and_false, Bool.false_eq_true, if_false]
  unfold tagZ
  have : nmF s (p + 1) = 1 := by
    unfold nmF
    have hn : nameZ s (p + 1) = 0 := nameGo_end (by omega)
    rw [hn, if_neg (by omega), if_pos (by omega)]
  rw [this]; simp
theorem mark_slash (hp : p + 1 < s.size) (h0 : byteAt s p = 60) (h1 : byteAt s (p + 1) = 47) : markZ s p = endZ s (p + 2) := by
  have u0 := (u8At_is 60 60 rfl).1 h0
  have u1 := (u8At_is 47 47 rfl).1 h1
  unfold markZ
  simp [has_cons (show p < s.size by omega), has_cons hp, u0, u1, has_nil, -List.getD_eq_getElem?_getD]
theorem mark_pi (hp : p + 1 < s.size) (h0 : byteAt s p = 60) (h1 : byteAt s (p + 1) = 63) : markZ s p = piZ s (p + 2) := by
  have u0 := (u8At_is 60 60 rfl).1 h0
  have u1 := (u8At_is 63 63 rfl).1 h1
  unfold markZ
  simp [has_cons (show p < s.size by omega), has_cons hp, u0, u1, has_nil, -List.getD_eq_getElem?_getD]
theorem mark_tag (hp : p + 1 < s.size) (h0 : byteAt s p = 60) (h1 : byteAt s (p + 1) ≠ 47) (h2 : byteAt s (p + 1) ≠ 63) (h3 : byteAt s (p + 1) ≠ 33) : markZ s p = tagZ s (p + 1) := by
  have u0 := (u8At_is 60 60 rfl).1 h0
  have e1 : (47 == u8At s (p + 1)) = false := beq_eq_false_iff_ne.2 fun h => h1 ((u8At_is 47 47 rfl).2 h.symm)
  have e2 : (63 == u8At s (p + 1)) = false := beq_eq_false_iff_ne.2 fun h => h2 ((u8At_is 63 63 rfl).2 h.symm)
  have e3 : (33 == u8At s (p + 1)) = false := beq_eq_false_iff_ne.2 fun h => h3 ((u8At_is 33 33 rfl).2 h.symm)
  unfold markZ
  simp only [has_cons (show p < s.size by omega), has_cons hp, u0, e1, e2, e3, Bool.false_and, Bool.and_false, Bool.false_eq_true, if_false]
theorem mark_excl_end (hp : p + 1 < s.size) (h0 : byteAt s p = 60) (h1 : byteAt s (p + 1) = 33) (h2 : s.size ≤ p + 2) : markZ s p = failT 1 := by
  have u0 := (u8At_is 60 60 rfl).1 h0
  have u1 := (u8At_is 33 33 rfl).1 h1
  have e : p + 1 + 1 = p + 2 := rfl
  unfold markZ
  simp [has_cons (show p < s.size by omega), has_cons hp, e, has_end h2, u0, u1, has_nil, pre_cons (show p < s.size by omega), pre_cons hp, pre_end h2, -List.getD_eq_getElem?_getD]
theorem mark_dash (hp : p + 2 < s.size) (h0 : byteAt s p = 60) (h1 : byteAt s (p + 1) = 33) (h2 : byteAt s (p + 2) = 45) :
    markZ s p = if mustF s (p + 2) [45, 45] = 0 then commentZ s (p + 4) else failT (mustF s (p + 2) [45, 45]) := by
  have u0 := (u8At_is 60 60 rfl).1 h0
  have u1 := (u8At_is 33 33 rfl).1 h1
  have u2 := (u8At_is 45 45 rfl).1 h2
  have e : p + 1 + 1 = p + 2 := rfl
  have e3 : p + 2 + 1 = p + 3 := rfl
  have hl : lackZ s (p + 2) [45, 45] = if (rest s (p + 2)).isPrefixOf [45, 45] = true then 1 else 2 := rfl
  unfold markZ mustF
  rw [hl]
  simp only [has_cons (show p < s.size by omega), has_cons (show p + 1 < s.size by omega), e, has_cons hp, e3, u0, u1, u2, pre_cons (show p < s.size by omega), pre_cons (show p + 1 < s.size by omega), pre_cons hp, has_nil]
  cases hh : hasAt s (p + 3) [45] <;> cases hq : (rest s (p + 3)).isPrefixOf [45] <;> simp
theorem mark_brack (hp : p + 2 < s.size) (h0 : byteAt s p = 60) (h1 : byteAt s (p + 1) = 33) (h2 : byteAt s (p + 2) = 91) :
    markZ s p = if mustF s (p + 2) [91, 67, 68, 65, 84, 65, 91] = 0 then cdataZ s (p + 9) else failT (mustF s (p + 2) [91, 67, 68, 65, 84, 65, 91]) := by
  have u0 := (u8At_is 60 60 rfl).1 h0
  have u1 := (u8At_is 33 33 rfl).1 h1
  have u2 := (u8At_is 91 91 rfl).1 h2
  have e : p + 1 + 1 = p + 2 := rfl
  have e3 : p + 2 + 1 = p + 3 := rfl
  have hl : lackZ s (p + 2) [91, 67, 68, 65, 84, 65, 91] = if (rest s (p + 2)).isPrefixOf [91, 67, 68, 65, 84, 65, 91] = true then 1 else 2 := rfl
  unfold markZ mustF
  rw [hl]
  simp only [has_cons (show p < s.size by omega), has_cons (show p + 1 < s.size by omega), e, has_cons hp, e3, u0, u1, u2, pre_cons (show p < s.size by omega), pre_cons (show p + 1 < s.size by omega), pre_cons hp, has_nil]
  cases hh : hasAt s (p + 3) [67, 68, 65, 84, 65, 91] <;> cases hq : (rest s (p + 3)).isPrefixOf [67, 68, 65, 84, 65, 91] <;> simp
theorem mark_doc (hp : p + 2 < s.size) (h0 : byteAt s p = 60) (h1 : byteAt s (p + 1) = 33) (h2 : byteAt s (p + 2) ≠ 45) (h3 : byteAt s (p + 2) ≠ 91) :
    markZ s p = if mustF s (p + 2) [68, 79, 67, 84, 89, 80, 69] = 0 then doctypeZ s (p + 9) else failT (mustF s (p + 2) [68, 79, 67, 84, 89, 80, 69]) := by
  have u0 := (u8At_is 60 60 rfl).1 h0
  have u1 := (u8At_is 33 33 rfl).1 h1
  have d1 : (45 == u8At s (p + 2)) = false := beq_eq_false_iff_ne.2 fun h => h2 ((u8At_is 45 45 rfl).2 h.symm)
  have d2 : (91 == u8At s (p + 2)) = false := beq_eq_false_iff_ne.2 fun h => h3 ((u8At_is 91 91 rfl).2 h.symm)
  have d3 : (u8At s (p + 2) == 45) = false := beq_eq_false_iff_ne.2 fun h => h2 ((u8At_is 45 45 rfl).2 h)
  have d4 : (u8At s (p + 2) == 91) = false := beq_eq_false_iff_ne.2 fun h => h3 ((u8At_is 91 91 rfl).2 h)
  have e : p + 1 + 1 = p + 2 := rfl
  have e3 : p + 2 + 1 = p + 3 := rfl
  have hl : lackZ s (p + 2) [68, 79, 67, 84, 89, 80, 69] = if (rest s (p + 2)).isPrefixOf [68, 79, 67, 84, 89, 80, 69] = true then 1 else 2 := rfl
  unfold markZ mustF
  rw [hl]
  simp only [has_cons (show p < s.size by omega), has_cons (show p + 1 < s.size by omega), e, has_cons hp, e3, u0, u1, d1, d2, pre_cons (show p < s.size by omega), pre_cons (show p + 1 < s.size by omega), pre_cons hp, d3, d4, has_nil]
  cases hk : (68 == u8At s (p + 2)) <;> cases hm : (u8At s (p + 2) == 68) <;> cases hh : hasAt s (p + 3) [79, 67, 84, 89, 80, 69] <;> cases hq : (rest s (p + 3)).isPrefixOf [79, 67, 84, 89, 80, 69] <;> simp
end Go.Proofs.YtlfcmlcpdpkibaaDoor.Plain12

namespace Go.Proofs.YtlfcmlcpdpkibaaDoor.Plain13
open Plain1 Plain2 Strs Plain3 Plain4 Plain5 Plain6 Plain9 Plain10 Plain11 Plain12

theorem take_ext {s : ByteArray} {p q : Nat} (hpq : p ≤ q) : (⟨((rest s p).take (q - p)).toArray⟩ : ByteArray) = s.extract p q := by
  apply ByteArray.ext
  apply Array.toList_inj.1
  rw [Lib.extract_data]
  unfold rest
  simp [List.take_drop, Nat.add_sub_cancel' hpq]
theorem cut_yes {s : ByteArray} {p : Nat} {sg : List UInt8} (hp : p ≤ s.size) (h : upF s p sg = 0) :
    (Lib.cut (rest s p) sg).2.2 = true ∧ (⟨(Lib.cut (rest s p) sg).1.toArray⟩ : ByteArray) = upT s p sg ∧ p + ((upT s p sg).size + sg.length) = upP s p sg := by
  unfold upF at h
  rcases fz_spec s p sg hp with h0 | ⟨i, h0, h1, h2, h3, h4⟩
  · rw [if_pos h0] at h; cases h
  · have hc : Lib.cut (rest s p) sg = ((rest s p).take (i - p), (rest s p).drop ((i - p) + sg.length), true) := by
      unfold Lib.cut
      rw [h4, if_pos (by omega), Int.toNat_natCast]
    rw [hc]
    have hu : upT s p sg = s.extract p i := by unfold upT; rw [h0, Int.toNat_natCast]
    refine ⟨rfl, ?_, ?_⟩
    · rw [hu]; exact take_ext h1
    · rw [hu, ext_size (by omega)]; unfold upP; rw [h0, Int.toNat_natCast]; omega
theorem cut_no {s : ByteArray} {p : Nat} {sg : List UInt8} (h : upF s p sg ≠ 0) : Lib.cut (rest s p) sg = (rest s p, [], false) ∧ upF s p sg = 1 := by
  unfold upF at h ⊢
  by_cases h0 : fz s p sg = -1
  · rw [if_pos h0]
    have := (fz_index s p sg).1 h0
    unfold Lib.cut
    rw [this, if_neg (by omega)]
    exact ⟨rfl, rfl⟩
  · rw [if_neg h0] at h; exact absurd rfl h
theorem upT_size {s : ByteArray} {p : Nat} {sg : List UInt8} (hp : p ≤ s.size) (h : upF s p sg = 0) : (upT s p sg).size ≤ s.size ∧ upP s p sg ≤ s.size := by
  have h1 := (cut_yes hp h).2.2
  have h2 := (up_le hp h).1
  omega
end Go.Proofs.YtlfcmlcpdpkibaaDoor.Plain13

namespace Go.Proofs.YtlfcmlcpdpkibaaDoor.Plain14
open Plain1 Plain2 Strs Plain3 Plain4 Plain5 Plain6 Plain9 Plain10 Plain11 Plain12 Plain13

/-- A byte of a name: the walk stands at 'n' bytes, f steps are left. -/
theorem name_on {s : ByteArray} {p f n c k : Nat} (h : p + n < s.size) (hr : runeZ s (p + n) = ((c : Int), k)) (hk : k ≠ 0) (h1 : n = 0 → startB (c : Int) = true) (h2 : partB (c : Int) = true) : nameGo s p (f + 1) n = nameGo s p f (n + k) := by
  have hs : ¬ stops s p n := by
    unfold stops
    rw [hr]
    rintro (h0 | ⟨h0, h3⟩ | h3)
    · exact hk h0
    · rw [h1 h0] at h3; cases h3
    · rw [h2] at h3; cases h3
  rw [nameGo_on h hs, hr]
theorem name_stop {s : ByteArray} {p f n c k : Nat} (h : p + n < s.size) (hr : runeZ s (p + n) = ((c : Int), k)) (h1 : (n = 0 ∧ startB (c : Int) = false) ∨ partB (c : Int) = false) : nameGo s p (f + 1) n = n := by
  refine nameGo_stop h ?_
  unfold stops
  rw [hr]
  exact .inr h1
theorem nameGo_roomI {s : ByteArray} {p : Nat} : ∀ (f n : Nat), p + n ≤ s.size → p + nameGo s p f n ≤ s.size
  | 0, n, h => h
  | f + 1, n, h => by
    by_cases hl : p + n < s.size
    · by_cases hs : stops s p n
      · rw [nameGo_stop hl hs]; exact h
      · rw [nameGo_on hl hs]
        refine nameGo_roomI f _ ?_
        have h0 : (runeZ s (p + n)).2 ≠ 0 := fun h0 => hs (.inl h0)
        have := rune_le (s := s) (pos := p + n) h0
        omega
    · rw [nameGo_end (by omega)]; exact h
theorem nameZ_roomI {s : ByteArray} {p : Nat} (h : p ≤ s.size) : p + nameZ s p ≤ s.size := nameGo_roomI _ _ h
theorem ext_ext (s : ByteArray) (p n : Nat) : (s.extract p s.size).extract 0 n = s.extract p (p + n) := by
  rw [Lib.extract_eq, Lib.extract_eq s p (p + n), ext_rest]
  unfold rest
  simp
end Go.Proofs.YtlfcmlcpdpkibaaDoor.Plain14

namespace Go.Proofs.YtlfcmlcpdpkibaaDoor.Plain15
open Plain1 Plain2 Strs Plain3 Plain4 Plain5 Plain6 Plain9 Plain10 Plain11 Plain12 Plain13 Plain14

def tagV (s nm : ByteArray) (f v : Nat) (an : ByteArray) (acc : List (ByteArray × ByteArray)) : Tk :=
  if valF s v ≠ 0 then failT (valF s v) else if hasZ acc an = true then failT 3 else tagGo s nm f (valP s v) (acc ++ [(an, valT s v)])
def tagS (s nm : ByteArray) (f p : Nat) (an : ByteArray) (acc : List (ByteArray × ByteArray)) : Tk :=
  if mustF s (whiteZ s p) [61] ≠ 0 then failT (mustF s (whiteZ s p) [61]) else tagV s nm f (whiteZ s (whiteZ s p + 1)) an acc
def tagN (s nm : ByteArray) (f q : Nat) (acc : List (ByteArray × ByteArray)) : Tk :=
  if nmF s q ≠ 0 then failT (nmF s q) else tagS s nm f (nmP s q) (nmT s q) acc
/-- Why neither of a start's two ends stands there. -/
def endL (s : ByteArray) (q : Nat) : Nat := if (rest s q).isPrefixOf [47, 62] = true ∨ (rest s q).isPrefixOf [62] = true then 1 else 2
def tagE (s nm : ByteArray) (q : Nat) (acc : List (ByteArray × ByteArray)) : Tk :=
  if hasAt s q [47, 62] = true then ⟨0, 3, nm, ByteArray.empty, acc, q + 2⟩ else if hasAt s q [62] = true then ⟨0, 1, nm, ByteArray.empty, acc, q + 1⟩ else failT (endL s q)
theorem tag_step (s nm : ByteArray) (f p : Nat) (acc : List (ByteArray × ByteArray)) : tagGo s nm (f + 1) p acc =
    if s.size ≤ whiteZ s p then failT 1 else if byteAt s (whiteZ s p) = 62 then ⟨0, 1, nm, ByteArray.empty, acc, whiteZ s p + 1⟩
    else if byteAt s (whiteZ s p) = 47 then (if mustF s (whiteZ s p) [47, 62] = 0 then ⟨0, 3, nm, ByteArray.empty, acc, whiteZ s p + 2⟩ else failT (mustF s (whiteZ s p) [47, 62]))
    else if whiteZ s p = p then failT 2 else tagN s nm f (whiteZ s p) acc := rfl
theorem nmF_end {s : ByteArray} {q : Nat} (h : s.size ≤ q) : nmF s q = 1 := by
  unfold nmF
  have hn : nameZ s q = 0 := nameGo_end (by omega)
  rw [hn, if_neg (by omega), if_pos (by omega)]
theorem one_sign {s : ByteArray} {k : Nat} (hk : k < s.size) (n : Nat) (c : UInt8) (hc : c.toNat = n) : hasAt s k [c] = decide (byteAt s k = (n : Int)) := by
  rw [has_cons hk, has_nil, Bool.and_true]
  by_cases h : byteAt s k = (n : Int)
  · rw [decide_eq_true h, (u8At_is n c hc).1 h]; simp
  · rw [decide_eq_false h]
    exact beq_eq_false_iff_ne.2 fun e => h ((u8At_is n c hc).2 e.symm)
theorem has47 {s : ByteArray} {k : Nat} (hk : k < s.size) : hasAt s k [47] = decide (byteAt s k = 47) := one_sign hk 47 47 rfl
theorem has62 {s : ByteArray} {k : Nat} (hk : k < s.size) : hasAt s k [62] = decide (byteAt s k = 62) := one_sign hk 62 62 rfl
/-- White was there, and neither end's first sign: a name must come. -/
theorem tag_name {s nm : ByteArray} {f p : Nat} {acc : List (ByteArray × ByteArray)} (h1 : p < whiteZ s p) (h2 : hasAt s (whiteZ s p) [47] = false) (h3 : hasAt s (whiteZ s p) [62] = false) : tagGo s nm (f + 1) p acc = tagN s nm f (whiteZ s p) acc := by
  rw [tag_step]
  by_cases he : s.size ≤ whiteZ s p
  · rw [if_pos he]; unfold tagN; rw [nmF_end he, if_pos (by simp)]
  · have hl : whiteZ s p < s.size := by omega
    rw [has47 hl] at h2
    rw [has62 hl] at h3
    have n2 := of_decide_eq_false h2
    have n3 := of_decide_eq_false h3
    rw [if_neg he, if_neg n3, if_neg n2, if_neg (by omega)]
/-- Else the end must come. -/
theorem tag_end {s nm : ByteArray} {f p : Nat} {acc : List (ByteArray × ByteArray)} (h : whiteZ s p = p ∨ hasAt s (whiteZ s p) [47] = true ∨ hasAt s (whiteZ s p) [62] = true) : tagGo s nm (f + 1) p acc = tagE s nm (whiteZ s p) acc := by
  rw [tag_step]
  unfold tagE endL
  by_cases he : s.size ≤ whiteZ s p
  · rw [if_pos he, has_end he, has_end he, pre_end he]
    simp
  · have hl : whiteZ s p < s.size := by omega
    rw [if_neg he]
    rw [has62 hl, has47 hl] at h
    rw [has62 hl]
    by_cases c1 : byteAt s (whiteZ s p) = 62
    · have c2 : hasAt s (whiteZ s p) [47, 62] = false := by
        rw [has_cons hl]
        have : (47 == u8At s (whiteZ s p)) = false := by rw [(u8At_is 62 62 rfl).1 c1]; rfl
        rw [this]; rfl
      rw [if_pos c1, c2, if_neg (by simp), decide_eq_true c1, if_pos rfl]
    · rw [if_neg c1]
      by_cases c2 : byteAt s (whiteZ s p) = 47
      · rw [if_pos c2]
        have u2 := (u8At_is 47 47 rfl).1 c2
        have p1 : (rest s (whiteZ s p)).isPrefixOf [62] = false := by rw [pre_cons hl, u2]; rfl
        rw [p1]
        unfold mustF lackZ
        by_cases c3 : hasAt s (whiteZ s p) [47, 62] = true
        · rw [c3]; simp
        · have c3' : hasAt s (whiteZ s p) [47, 62] = false := eq_false_of_ne_true c3
          rw [c3', decide_eq_false c1]
          by_cases c4 : (rest s (whiteZ s p)).isPrefixOf [47, 62] = true
          · rw [c4]; simp
          · have c4' : (rest s (whiteZ s p)).isPrefixOf [47, 62] = false := eq_false_of_ne_true c4
            rw [c4']; simp
      · rw [if_neg c2]
        rcases h with h | h | h
        · rw [if_pos h]
          have n1 : (47 == u8At s (whiteZ s p)) = false := beq_eq_false_iff_ne.2 fun e => c2 ((u8At_is 47 47 rfl).2 e.symm)
          have n2 : (u8At s (whiteZ s p) == 47) = false := beq_eq_false_iff_ne.2 fun e => c2 ((u8At_is 47 47 rfl).2 e)
          have n3 : (u8At s (whiteZ s p) == 62) = false := beq_eq_false_iff_ne.2 fun e => c1 ((u8At_is 62 62 rfl).2 e)
          rw [has_cons hl, n1, pre_cons hl, pre_cons hl, n2, n3, decide_eq_false c1]
          simp
        · exact absurd (of_decide_eq_true h) c2
        · exact absurd (of_decide_eq_true h) c1
end Go.Proofs.YtlfcmlcpdpkibaaDoor.Plain15

namespace Go.Proofs.YtlfcmlcpdpkibaaDoor.Plain16
open Plain1 Plain2 Strs Plain3 Plain4 Plain5 Plain6 Plain9 Plain10

theorem mustF_le (s : ByteArray) (p : Nat) (sg : List UInt8) : mustF s p sg ≤ 3 := by unfold mustF lackZ; split <;> (try split) <;> omega
theorem upF_le (s : ByteArray) (p : Nat) (sg : List UInt8) : upF s p sg ≤ 3 := by unfold upF; split <;> omega
theorem nmF_le (s : ByteArray) (p : Nat) : nmF s p ≤ 3 := by unfold nmF; split <;> (try split) <;> (try split) <;> omega
theorem valGo_le (s : ByteArray) (q : Int) : ∀ f i, (valGo s q f i).1 ≤ 3
  | 0, i => by simp [valGo]
  | f + 1, i => by
    unfold valGo
    split
    · split
      · simp
      · split
        · simp
        · exact valGo_le s q f (i + 1)
    · simp
theorem valF_le (s : ByteArray) (p : Nat) : valF s p ≤ 3 := by
  unfold valF; split
  · omega
  · split
    · exact valGo_le _ _ _ _
    · omega
theorem subGo_le (s : ByteArray) : ∀ f p, (subGo s f p).1 ≤ 3
  | 0, p => by simp [subGo]
  | f + 1, p => by
    unfold subGo
    repeat' split
    all_goals first | exact subGo_le s f _ | simp
theorem subF_le (s : ByteArray) (p : Nat) : subF s p ≤ 3 := subGo_le _ _ _
theorem fail_fl (f : Nat) : (failT f).fl = f := rfl
theorem tagGo_le (s nm : ByteArray) : ∀ f p acc, (tagGo s nm f p acc).fl ≤ 3
  | 0, p, acc => by simp [tagGo, failT]
  | f + 1, p, acc => by
    unfold tagGo
    dsimp only
    repeat' split
    all_goals first | exact tagGo_le s nm f _ _ | exact mustF_le _ _ _ | exact nmF_le _ _ | exact valF_le _ _ | (simp [failT]; done) | (simp [fail_fl])
theorem markZ_le (s : ByteArray) (p : Nat) : (markZ s p).fl ≤ 3 := by
  unfold markZ commentZ cdataZ doctypeZ piZ endZ tagZ
  dsimp only
  repeat' split
  all_goals first | exact tagGo_le _ _ _ _ _ | exact mustF_le _ _ _ | exact nmF_le _ _ | exact upF_le _ _ _ | exact subF_le _ _ | (simp [failT]; done) | (simp [fail_fl])
theorem textZ_le (s : ByteArray) (p : Nat) (closed : Bool) : (textZ s p closed).fl ≤ 3 := by
  unfold textZ; repeat' split
  all_goals simp [failT]
end Go.Proofs.YtlfcmlcpdpkibaaDoor.Plain16

namespace Go.Proofs.YtlfcmlcpdpkibaaDoor.Plain17
open Plain1 Plain2 Strs Plain3 Plain4 Plain5 Plain6 Plain9 Plain10

theorem tagGo_len (s nm : ByteArray) : ∀ f p acc, (tagGo s nm f p acc).attrs.length ≤ acc.length + f
  | 0, p, acc => by simp [tagGo, failT]
  | f + 1, p, acc => by
    unfold tagGo
    dsimp only
    repeat' split
    all_goals first
      | (refine Nat.le_trans (tagGo_len s nm f _ _) ?_; simp only [List.length_append, List.length_cons, List.length_nil]; omega)
      | (simp [failT]; done)
      | (simp only []; omega)
theorem markZ_len (s : ByteArray) (p : Nat) : (markZ s p).attrs.length ≤ s.size + 1 := by
  unfold markZ commentZ cdataZ doctypeZ piZ endZ tagZ
  dsimp only
  repeat' split
  all_goals first
    | (refine Nat.le_trans (tagGo_len _ _ _ _ _) ?_; simp; done)
    | (simp [failT]; done)
theorem textZ_len (s : ByteArray) (p : Nat) (closed : Bool) : (textZ s p closed).attrs.length = 0 := by
  unfold textZ
  by_cases h : Lib.index (s.extract p (textE s p)).data.toList [93, 93, 62] ≠ -1
  · rw [if_pos h]; rfl
  · rw [if_neg h]
    by_cases h2 : textE s p = s.size ∧ closed = false
    · rw [if_pos h2]; rfl
    · rw [if_neg h2]; rfl
theorem outOf_len (t : Tk) (closed : Bool) : (outOf t closed).tk.attrs.length ≤ t.attrs.length := by
  unfold outOf
  by_cases h : t.fl = 0
  · rw [if_pos h]; exact Nat.le_refl _
  · rw [if_neg h]; exact Nat.zero_le _
theorem code_len (c : Int) : (codeOut c).tk.attrs.length = 0 := rfl
theorem nextZ_len (s : ByteArray) (at0 : Int) (closed : Bool) : (nextZ s at0 closed).tk.attrs.length ≤ 4001 := by
  unfold nextZ
  by_cases h : 4000 < s.size
  · rw [if_pos h, code_len]; omega
  rw [if_neg h]
  by_cases h1 : 0 ≤ (scanAll s).2 ∨ fz s 0 [13] ≠ -1 ∨ at0 < 0 ∨ (s.size : Int) < at0
  · rw [if_pos h1, code_len]; omega
  rw [if_neg h1]
  by_cases h2 : at0 = s.size
  · rw [if_pos h2, code_len]; omega
  rw [if_neg h2]
  by_cases h3 : 128 ≤ byteAt s at0.toNat ∧ byteAt s at0.toNat < 192
  · rw [if_pos h3, code_len]; omega
  rw [if_neg h3]
  by_cases h4 : byteAt s at0.toNat = 60
  · rw [if_pos h4]
    have a := outOf_len (markZ s at0.toNat) closed
    have b := markZ_len s at0.toNat
    omega
  · rw [if_neg h4]
    have a := outOf_len (textZ s at0.toNat closed) closed
    have b := textZ_len s at0.toNat closed
    omega
end Go.Proofs.YtlfcmlcpdpkibaaDoor.Plain17
