import Derived.Test.YtocnfoeaikiecaaGreatDoorPlA
import Derived.Lib.IndexMore
import Derived.Lib.RabinKarpLaws
import Derived.Lib.SlTrimSet
namespace Go.Proofs.YtocnfoeaikiecaaGreatDoor.Plain9
open Strs
def rest (s : ByteArray) (p : Nat) : List UInt8 := s.data.toList.drop p
theorem aYx (s : ByteArray) (p : Nat) : (rest s p).length = s.size - p := by
 unfold rest; rw [List.length_drop, ← Lib.size_eq]
theorem aXs {s : ByteArray} {p : Nat} (h : p < s.size) : rest s p = s.data.toList.getD p 0 :: rest s (p + 1) := by
 unfold rest
 have h' : p < s.data.toList.length := by rw [← Lib.size_eq]; exact h
 rw [List.drop_eq_getElem_cons h', List.getD_eq_getElem?_getD, List.getElem?_eq_getElem h']
 rfl
theorem aW2 {s : ByteArray} {p : Nat} (h : s.size ≤ p) : rest s p = [] := by
 apply List.eq_nil_of_length_eq_zero; rw [aYx]; omega
theorem cW8 (s : ByteArray) (p k : Nat) : (rest s p).drop k = rest s (p + k) := by unfold rest; rw [List.drop_drop]
theorem bW4 (s : ByteArray) (p : Nat) : (s.extract p s.size).data.toList = rest s p := by
 rw [Lib.extract_data]; unfold rest
 apply List.take_of_length_le
 rw [List.length_drop, ← Lib.size_eq]; omega
theorem aXy {s : ByteArray} {p q : Nat} (hq : q ≤ s.size) : (s.extract p q).size = q - p := by
 rw [Lib.size_eq, Lib.extract_data, List.length_take, List.length_drop, ← Lib.size_eq]; omega
def aQa (s : ByteArray) (p : Nat) (sg : List UInt8) : Bool := sg.isPrefixOf (rest s p)
theorem dVy (s : ByteArray) (p : Nat) (sg : List UInt8) : Lib.occAt s.data.toList sg p = aQa s p sg := rfl
theorem aX5 {s : ByteArray} {p : Nat} {sg : List UInt8} (h : aQa s p sg = true) (hp : p ≤ s.size) : p + sg.length ≤ s.size := by
 unfold aQa at h
 have := (List.isPrefixOf_iff_prefix.1 h).length_le
 rw [aYx] at this; omega
theorem aZ0 (s : ByteArray) (p : Nat) : aQ1 s p = ((s.data.toList.getD p 0).toNat : Int) := rfl
def aKy (s : ByteArray) (i : Nat) (what : ByteArray) : Bool := (s.extract i (i + what.size)).toList == what.toList
theorem bVv {s what : ByteArray} {i : Nat} (h : i + what.size ≤ s.size) : aKy s i what = aQa s i what.data.toList := by
 rw [← dVy]
 unfold aKy
 cases hc : ((s.extract i (i + what.size)).toList == what.toList) with
 | true => exact (occ_yes s what i h hc).symm
 | false => exact (occ_no s what i h hc).symm
def aVd (s what : ByteArray) : Nat → Nat → Int
 | 0, _ => -1
 | f + 1, i => if i + what.size ≤ s.size then (if aKy s i what = true then (i : Int) else aVd s what f (i + 1)) else -1
def bXn (s : ByteArray) (p : Nat) (what : ByteArray) : Int := aVd s what (s.size + 1) p
theorem find_end {s what : ByteArray} {f i : Nat} (h : ¬ i + what.size ≤ s.size) : aVd s what f i = -1 := by
 cases f with
 | zero => rfl
 | succ f => unfold aVd; rw [if_neg h]
theorem find_hit {s what : ByteArray} {f i : Nat} (h : i + what.size ≤ s.size) (hs : aKy s i what = true) : aVd s what (f + 1) i = (i : Int) := by
 unfold aVd; rw [if_pos h, if_pos hs]
theorem bJy {s what : ByteArray} {f i : Nat} (h : i + what.size ≤ s.size) (hs : aKy s i what = false) : aVd s what (f + 1) i = aVd s what f (i + 1) := by
 conv => lhs; unfold aVd
 rw [if_pos h, if_neg (by rw [hs]; simp)]
def fz (s : ByteArray) (p : Nat) (sg : List UInt8) : Int := if Lib.index (rest s p) sg = -1 then -1 else (p : Int) + Lib.index (rest s p) sg
theorem bJw {s : ByteArray} {p : Nat} {sg : List UInt8} (h0 : sg ≠ []) (h : s.size < p + sg.length) : fz s p sg = -1 := by
 unfold fz
 have hi : Lib.index (rest s p) sg = -1 := by
  rcases Lib.index_spec (rest s p) sg with ⟨h1, _⟩ | ⟨i, h1, h2, h3, _⟩
  · exact h1
  · rcases Lib.occAt_room h3 with h4 | h4
    · rw [aYx] at h4; have := List.length_pos_iff.2 h0; omega
    · exact absurd h4 h0
 rw [if_pos hi]
theorem bQ8 {s : ByteArray} {p : Nat} {sg : List UInt8} (hp : p < s.size) (h : aQa s p sg = true) : fz s p sg = p := by
 unfold fz
 have hi : Lib.index (rest s p) sg = 0 := by
  rw [aXs hp]; unfold Lib.index
  unfold aQa at h; rw [aXs hp] at h
  rw [if_pos h]
 rw [hi]; simp
theorem aYh {s : ByteArray} {p : Nat} {sg : List UInt8} (hp : p < s.size) (h : aQa s p sg = false) : fz s p sg = fz s (p + 1) sg := by
 have hi : Lib.index (rest s p) sg = if Lib.index (rest s (p + 1)) sg = -1 then -1 else Lib.index (rest s (p + 1)) sg + 1 := by
  unfold aQa at h; rw [aXs hp] at h
  conv => lhs; rw [aXs hp]; unfold Lib.index
  rw [if_neg (by rw [h]; simp)]
  by_cases hk : Lib.index (rest s (p + 1)) sg = -1 <;> simp [hk]
 unfold fz
 rw [hi]
 have hge := Lib.index_ge (rest s (p + 1)) sg
 by_cases hk : Lib.index (rest s (p + 1)) sg = -1
 · simp [hk]
 · rw [if_neg hk, if_neg hk, if_neg (by omega)]; push_cast; omega
theorem cXo {s what : ByteArray} (h0 : what.data.toList ≠ []) : ∀ (f p : Nat), s.size + 1 ≤ p + f → aVd s what f p = fz s p what.data.toList
 | 0, p, h => by
  rw [bJw h0 (by have := List.length_pos_iff.2 h0; omega)]; rfl
 | f + 1, p, h => by
  by_cases hl : p + what.size ≤ s.size
  · have hz : 0 < what.size := by rw [Lib.size_eq]; exact List.length_pos_iff.2 h0
    cases hs : aKy s p what with
    | true => rw [find_hit hl hs, bQ8 (by omega) (by rw [← bVv hl]; exact hs)]
    | false => rw [bJy hl hs, aYh (by omega) (by rw [← bVv hl]; exact hs), cXo h0 f (p + 1) (by omega)]
  · rw [find_end hl, bJw h0 (by rw [← Lib.size_eq]; omega)]
theorem aW3 {s what : ByteArray} (h0 : what.data.toList ≠ []) (p : Nat) : bXn s p what = fz s p what.data.toList := cXo h0 _ _ (by omega)
theorem aZa (s : ByteArray) (p : Nat) (sg : List UInt8) (hp : p ≤ s.size) : fz s p sg = -1 ∨ ∃ i : Nat, fz s p sg = i ∧ p ≤ i ∧ i + sg.length ≤ s.size ∧ aQa s i sg = true ∧ Lib.index (rest s p) sg = ((i - p : Nat) : Int) := by
 unfold fz
 rcases Lib.index_spec (rest s p) sg with ⟨h1, _⟩ | ⟨i, h1, h2, h3, _⟩
 · left; rw [if_pos h1]
 · right
   have hoc : aQa s (p + i) sg = true := by
    unfold Lib.occAt at h3; rw [cW8] at h3; exact h3
   rw [aYx] at h2
   refine ⟨p + i, ?_, by omega, ?_, hoc, ?_⟩
   · rw [if_neg (by omega), h1]; push_cast; rfl
   · have := aX5 hoc (by omega); omega
   · rw [h1]; congr 1; omega
theorem aJp (s : ByteArray) (p : Nat) (sg : List UInt8) : fz s p sg = -1 ↔ Lib.index (rest s p) sg = -1 := by
 unfold fz
 have := Lib.index_ge (rest s p) sg
 by_cases h : Lib.index (rest s p) sg = -1
 · simp [h]
 · rw [if_neg h]; omega
def whiteB (b : Int) : Bool := decide (b = 9 ∨ b = 10 ∨ b = 32)
def aXz (s : ByteArray) : Nat → Nat → Nat
 | 0, i => i
 | f + 1, i => if i < s.size ∧ whiteB (aQ1 s i) = true then aXz s f (i + 1) else i
def whiteZ (s : ByteArray) (p : Nat) : Nat := aXz s (s.size + 1) p
theorem aXc {s : ByteArray} {f i : Nat} (h : ¬ (i < s.size ∧ whiteB (aQ1 s i) = true)) : aXz s f i = i := by
 cases f with
 | zero => rfl
 | succ f => unfold aXz; rw [if_neg h]
theorem aJu {s : ByteArray} {f i : Nat} (h : i < s.size ∧ whiteB (aQ1 s i) = true) : aXz s (f + 1) i = aXz s f (i + 1) := by
 conv => lhs; unfold aXz
 rw [if_pos h]
theorem bX9 {s : ByteArray} : ∀ (f i : Nat), i ≤ aXz s f i ∧ (i ≤ s.size → aXz s f i ≤ s.size)
 | 0, i => ⟨Nat.le_refl _, fun h => h⟩
 | f + 1, i => by
  by_cases h : i < s.size ∧ whiteB (aQ1 s i) = true
  · rw [aJu h]
    have := bX9 (s := s) f (i + 1)
    exact ⟨by omega, fun _ => this.2 (by omega)⟩
  · rw [aXc h]; exact ⟨Nat.le_refl _, fun h => h⟩
theorem aXj (s : ByteArray) (p : Nat) : p ≤ whiteZ s p := (bX9 _ _).1
theorem aQv {s : ByteArray} {p : Nat} (h : p ≤ s.size) : whiteZ s p ≤ s.size := (bX9 _ _).2 h
end Go.Proofs.YtocnfoeaikiecaaGreatDoor.Plain9
namespace Go.Proofs.YtocnfoeaikiecaaGreatDoor.Plain10
open Strs Plain6 Plain9
def bXl (s : ByteArray) (p : Nat) (sg : List UInt8) : Nat := if (rest s p).isPrefixOf sg = true then 1 else 2
def aQp (s : ByteArray) (p : Nat) (sg : List UInt8) : Nat := if aQa s p sg = true then 0 else bXl s p sg
def upF (s : ByteArray) (p : Nat) (sg : List UInt8) : Nat := if fz s p sg = -1 then 1 else 0
def upT (s : ByteArray) (p : Nat) (sg : List UInt8) : ByteArray := s.extract p (fz s p sg).toNat
def upP (s : ByteArray) (p : Nat) (sg : List UInt8) : Nat := (fz s p sg).toNat + sg.length
def nmF (s : ByteArray) (p : Nat) : Nat := if 60 < nameZ s p then 2 else if s.size ≤ p + nameZ s p then 1 else if nameZ s p = 0 then 2 else 0
def nmT (s : ByteArray) (p : Nat) : ByteArray := s.extract p (p + nameZ s p)
def nmP (s : ByteArray) (p : Nat) : Nat := p + nameZ s p
def aVe (s : ByteArray) (q : Int) : Nat → Nat → Nat × Nat
 | 0, i => (1, i)
 | f + 1, i => if i < s.size then (if aQ1 s i = 60 then (2, i) else if aQ1 s i = q then (0, i) else aVe s q f (i + 1)) else (1, i)
def aY2 (b : Int) : Bool := decide (b = 34 ∨ b = 39)
def valF (s : ByteArray) (p : Nat) : Nat := if s.size ≤ p then 1 else if aY2 (aQ1 s p) = true then (aVe s (aQ1 s p) (s.size + 1) (p + 1)).1 else 2
def valE (s : ByteArray) (p : Nat) : Nat := (aVe s (aQ1 s p) (s.size + 1) (p + 1)).2
def valT (s : ByteArray) (p : Nat) : ByteArray := s.extract (p + 1) (valE s p)
def valP (s : ByteArray) (p : Nat) : Nat := valE s p + 1
theorem cQj {s : ByteArray} {q : Int} {f i : Nat} (h : ¬ i < s.size) : aVe s q f i = (1, i) := by
 cases f with
 | zero => rfl
 | succ f => unfold aVe; rw [if_neg h]
theorem bKl {s : ByteArray} {q : Int} {f i : Nat} (h : i < s.size) (hb : aQ1 s i = 60) : aVe s q (f + 1) i = (2, i) := by
 unfold aVe; rw [if_pos h, if_pos hb]
theorem bKk {s : ByteArray} {q : Int} {f i : Nat} (h : i < s.size) (hb : aQ1 s i ≠ 60) (hq : aQ1 s i = q) : aVe s q (f + 1) i = (0, i) := by
 unfold aVe; rw [if_pos h, if_neg hb, if_pos hq]
theorem cZ5 {s : ByteArray} {q : Int} {f i : Nat} (h : i < s.size) (hb : aQ1 s i ≠ 60) (hq : aQ1 s i ≠ q) : aVe s q (f + 1) i = aVe s q f (i + 1) := by
 conv => lhs; unfold aVe
 rw [if_pos h, if_neg hb, if_neg hq]
structure Tk where
 fl : Nat
 kind : Int
 name : ByteArray
 text : ByteArray
 attrs : List (ByteArray × ByteArray)
 pos : Nat
def aX2 (f : Nat) : Tk := ⟨f, 0, ByteArray.empty, ByteArray.empty, [], 0⟩
def hasZ (l : List (ByteArray × ByteArray)) (n : ByteArray) : Bool := l.any fun a => a.1.toList == n.toList
def aWn (s nm : ByteArray) : Nat → Nat → List (ByteArray × ByteArray) → Tk
 | 0, _, _ => aX2 1
 | f + 1, p, acc =>
  let q := whiteZ s p
  if s.size ≤ q then aX2 1
  else if aQ1 s q = 62 then ⟨0, 1, nm, ByteArray.empty, acc, q + 1⟩
  else if aQ1 s q = 47 then (if aQp s q [47, 62] = 0 then ⟨0, 3, nm, ByteArray.empty, acc, q + 2⟩ else aX2 (aQp s q [47, 62]))
  else if q = p then aX2 2
  else if nmF s q ≠ 0 then aX2 (nmF s q)
  else
   let r := whiteZ s (nmP s q)
   if aQp s r [61] ≠ 0 then aX2 (aQp s r [61])
   else
    let v := whiteZ s (r + 1)
    if valF s v ≠ 0 then aX2 (valF s v)
    else if hasZ acc (nmT s q) = true then aX2 3
    else aWn s nm f (valP s v) (acc ++ [(nmT s q, valT s v)])
def tagZ (s : ByteArray) (p : Nat) : Tk := if nmF s p ≠ 0 then aX2 (nmF s p) else aWn s (nmT s p) (s.size + 1) (nmP s p) []
def xmlB (n : ByteArray) : Bool := decide (n.size = 3) && (decide (aQ1 n 0 = 120 ∨ aQ1 n 0 = 88) && (decide (aQ1 n 1 = 109 ∨ aQ1 n 1 = 77) && decide (aQ1 n 2 = 108 ∨ aQ1 n 2 = 76)))
def piZ (s : ByteArray) (p : Nat) : Tk :=
 if nmF s p ≠ 0 then aX2 (nmF s p)
 else if xmlB (nmT s p) = true then aX2 2
 else
  let q := whiteZ s (nmP s p)
  if nmP s p < q then (if upF s q [63, 62] = 0 then ⟨0, 7, nmT s p, upT s q [63, 62], [], upP s q [63, 62]⟩ else aX2 (upF s q [63, 62]))
  else if aQp s q [63, 62] = 0 then ⟨0, 7, nmT s p, ByteArray.empty, [], q + 2⟩ else aX2 (aQp s q [63, 62])
def aXa (s : ByteArray) (p : Nat) : Tk :=
 if upF s p [45, 45] ≠ 0 then aX2 (upF s p [45, 45])
 else if aQp s (upP s p [45, 45]) [62] = 0 then ⟨0, 6, ByteArray.empty, upT s p [45, 45], [], upP s p [45, 45] + 1⟩ else aX2 (aQp s (upP s p [45, 45]) [62])
def aYk (s : ByteArray) (p : Nat) : Tk :=
 if upF s p [93, 93, 62] = 0 then ⟨0, 5, ByteArray.empty, upT s p [93, 93, 62], [], upP s p [93, 93, 62]⟩ else aX2 (upF s p [93, 93, 62])
def endZ (s : ByteArray) (p : Nat) : Tk :=
 if nmF s p ≠ 0 then aX2 (nmF s p)
 else
  let q := whiteZ s (nmP s p)
  if aQp s q [62] = 0 then ⟨0, 2, nmT s p, ByteArray.empty, [], q + 1⟩ else aX2 (aQp s q [62])
def aZf (s : ByteArray) : Nat → Nat → Nat × Nat
 | 0, p => (1, p)
 | f + 1, p =>
  if p < s.size then
   (if aQ1 s p = 93 then (0, p + 1)
    else if aQ1 s p = 34 then (if upF s (p + 1) [34] = 0 then aZf s f (upP s (p + 1) [34]) else (1, p))
    else if aQ1 s p = 39 then (if upF s (p + 1) [39] = 0 then aZf s f (upP s (p + 1) [39]) else (1, p))
    else if aQa s p [60, 33, 45, 45] = true then (if upF s (p + 4) [45, 45, 62] = 0 then aZf s f (upP s (p + 4) [45, 45, 62]) else (1, p))
    else if aQa s p [60, 63] = true then (if upF s (p + 2) [63, 62] = 0 then aZf s f (upP s (p + 2) [63, 62]) else (1, p))
    else aZf s f (p + 1))
  else (1, p)
def subF (s : ByteArray) (p : Nat) : Nat := (aZf s (s.size + 1) p).1
def subP (s : ByteArray) (p : Nat) : Nat := (aZf s (s.size + 1) p).2
def subT (s : ByteArray) (p : Nat) : ByteArray := s.extract p (subP s p - 1)
def aX1 (s : ByteArray) (p : Nat) : Tk :=
 let q := whiteZ s p
 if q = p then aX2 (if s.size ≤ p then 1 else 2)
 else if nmF s q ≠ 0 then aX2 (nmF s q)
 else
  let r := whiteZ s (nmP s q)
  if aQa s r [91] = true then
   (if subF s (r + 1) ≠ 0 then aX2 (subF s (r + 1))
    else
     let u := whiteZ s (subP s (r + 1))
     if aQp s u [62] = 0 then ⟨0, 8, nmT s q, subT s (r + 1), [], u + 1⟩ else aX2 (aQp s u [62]))
  else if aQp s r [62] = 0 then ⟨0, 8, nmT s q, ByteArray.empty, [], r + 1⟩ else aX2 (aQp s r [62])
def aJf (s : ByteArray) (p : Nat) : Tk :=
 if aQa s p [60, 33, 45, 45] = true then aXa s (p + 4)
 else if aQa s p [60, 33, 91, 67, 68, 65, 84, 65, 91] = true then aYk s (p + 9)
 else if aQa s p [60, 33, 68, 79, 67, 84, 89, 80, 69] = true then aX1 s (p + 9)
 else if aQa s p [60, 63] = true then piZ s (p + 2)
 else if aQa s p [60, 47] = true then endZ s (p + 2)
 else if aQa s p [60, 33] = true then aX2 (if (rest s p).isPrefixOf [60, 33, 45, 45] = true ∨ (rest s p).isPrefixOf [60, 33, 91, 67, 68, 65, 84, 65, 91] = true ∨ (rest s p).isPrefixOf [60, 33, 68, 79, 67, 84, 89, 80, 69] = true then 1 else 2)
 else tagZ s (p + 1)
def aVf (s : ByteArray) (p : Nat) : Nat := if fz s p [60] = -1 then s.size else (fz s p [60]).toNat
def aKs (s : ByteArray) (p : Nat) (closed : Bool) : Tk :=
 if Lib.index (s.extract p (aVf s p)).data.toList [93, 93, 62] ≠ -1 then aX2 2
 else if aVf s p = s.size ∧ closed = false then aX2 1
 else ⟨0, 4, ByteArray.empty, s.extract p (aVf s p), [], aVf s p⟩
def cYg (f : Nat) (closed : Bool) : Int := if f = 3 then 6 else if f = 2 ∨ (f = 1 ∧ closed = true) then 3 else if f = 1 then 4 else 0
structure Out where
 tk : Tk
 at1 : Int
 code : Int
def aK0 (t : Tk) (closed : Bool) : Out := if t.fl = 0 then ⟨t, t.pos, 0⟩ else ⟨aX2 0, 0, cYg t.fl closed⟩
def bQn (c : Int) : Out := ⟨aX2 0, 0, c⟩
structure Sc where
 pos : Nat
 fl : Nat
def Sc.ended (x : Sc) (s : ByteArray) : Sc := if s.size ≤ x.pos ∧ x.fl = 0 then ⟨x.pos, 1⟩ else x
theorem aV9 {x : Sc} {s : ByteArray} (h : x.pos < s.size) : x.ended s = x := by unfold Sc.ended; rw [if_neg (by omega)]
theorem bW7 {x : Sc} {s : ByteArray} (h : x.fl ≠ 0) : x.ended s = x := by unfold Sc.ended; rw [if_neg (by omega)]
theorem aZb {x : Sc} {s : ByteArray} (h : s.size ≤ x.pos) (h0 : x.fl = 0) : x.ended s = ⟨x.pos, 1⟩ := by unfold Sc.ended; rw [if_pos ⟨h, h0⟩]
def aV7 (s what : ByteArray) : Nat → Nat → Sc → Sc
 | 0, _, x => x
 | f + 1, i, x => if i < what.size ∧ x.fl = 0 then (if s.size ≤ x.pos then x.ended s else if aQ1 s x.pos = aQ1 what i then aV7 s what f (i + 1) ⟨x.pos + 1, x.fl⟩ else ⟨x.pos, 2⟩) else x
def Sc.must (x : Sc) (s what : ByteArray) : Sc := aV7 s what (what.size + 1) 0 x
theorem aYf {s what : ByteArray} {f i : Nat} {x : Sc} (h : ¬ (i < what.size ∧ x.fl = 0)) : aV7 s what f i x = x := by
 cases f with
 | zero => rfl
 | succ f => unfold aV7; rw [if_neg h]
theorem bKt {s what : ByteArray} {f i : Nat} {x : Sc} (h : i < what.size ∧ x.fl = 0) (he : s.size ≤ x.pos) : aV7 s what (f + 1) i x = x.ended s := by
 unfold aV7; rw [if_pos h, if_pos he]
theorem bKu {s what : ByteArray} {f i : Nat} {x : Sc} (h : i < what.size ∧ x.fl = 0) (he : ¬ s.size ≤ x.pos) (hb : ¬ aQ1 s x.pos = aQ1 what i) : aV7 s what (f + 1) i x = ⟨x.pos, 2⟩ := by
 unfold aV7; rw [if_pos h, if_neg he, if_neg hb]
theorem cXb {s what : ByteArray} {f i : Nat} {x : Sc} (h : i < what.size ∧ x.fl = 0) (he : ¬ s.size ≤ x.pos) (hb : aQ1 s x.pos = aQ1 what i) : aV7 s what (f + 1) i x = aV7 s what f (i + 1) ⟨x.pos + 1, x.fl⟩ := by
 conv => lhs; unfold aV7
 rw [if_pos h, if_neg he, if_pos hb]
theorem dQh (s t : ByteArray) (p i : Nat) : aQ1 s p = aQ1 t i ↔ s.data.toList.getD p 0 = t.data.toList.getD i 0 := by
 unfold aQ1
 constructor
 · intro h; apply UInt8.toNat_inj.1; omega
 · intro h; rw [h]
theorem bZh {s what : ByteArray} : ∀ (f i p : Nat), p ≤ s.size → i ≤ what.size → what.size + 1 ≤ i + f →
 (aV7 s what f i ⟨p, 0⟩).pos ≤ s.size ∧ (aV7 s what f i ⟨p, 0⟩).fl = (if (rest what i).isPrefixOf (rest s p) = true then 0 else if (rest s p).isPrefixOf (rest what i) = true then 1 else 2) ∧
 ((rest what i).isPrefixOf (rest s p) = true → (aV7 s what f i ⟨p, 0⟩).pos = p + (what.size - i))
 | 0, i, p, hp, hi, hf => by omega
 | f + 1, i, p, hp, hi, hf => by
  by_cases hlt : i < what.size
  · by_cases he : s.size ≤ p
    · rw [bKt ⟨hlt, rfl⟩ he, aZb he rfl, aW2 (s := s) he, aXs hlt]
      simp only [List.isPrefixOf]
      simp; omega
    · have hp' : p < s.size := by omega
      by_cases hb : aQ1 s p = aQ1 what i
      · rw [cXb ⟨hlt, rfl⟩ he hb]
        have ih := bZh (s := s) (what := what) f (i + 1) (p + 1) (by omega) (by omega) (by omega)
        rw [aXs hlt, aXs hp']
        have hc := (dQh s what p i).1 hb
        simp only [List.isPrefixOf, hc, beq_self_eq_true, Bool.true_and]
        refine ⟨ih.1, ih.2.1, fun h => ?_⟩
        rw [ih.2.2 h]; omega
      · rw [bKu ⟨hlt, rfl⟩ he hb, aXs hlt, aXs hp']
        have hc : ¬ s.data.toList.getD p 0 = what.data.toList.getD i 0 := fun h => hb ((dQh s what p i).2 h)
        have hc1 : (what.data.toList.getD i 0 == s.data.toList.getD p 0) = false := beq_eq_false_iff_ne.2 (fun h => hc h.symm)
        have hc2 : (s.data.toList.getD p 0 == what.data.toList.getD i 0) = false := beq_eq_false_iff_ne.2 hc
        simp only [List.isPrefixOf, hc1, hc2, Bool.false_and]
        simp; omega
  · rw [aYf (fun h => hlt h.1), aW2 (s := what) (by omega)]
    simp [List.isPrefixOf]
    omega
theorem cWp {x : Sc} {s what : ByteArray} (h : x.fl ≠ 0) : x.must s what = x := aYf (fun hh => h hh.2)
theorem cW7 (s : ByteArray) : rest s 0 = s.data.toList := rfl
theorem cWr {s what : ByteArray} {p : Nat} (hp : p ≤ s.size) : ((Sc.mk p 0).must s what).fl = aQp s p what.data.toList := by
 have := (bZh (s := s) (what := what) (what.size + 1) 0 p hp (by omega) (by omega)).2.1
 unfold Sc.must; rw [this, cW7]; rfl
theorem cWq {s what : ByteArray} {p : Nat} (hp : p ≤ s.size) : ((Sc.mk p 0).must s what).pos ≤ s.size := (bZh (s := s) (what := what) (what.size + 1) 0 p hp (by omega) (by omega)).1
theorem cZz {s what : ByteArray} {p : Nat} (hp : p ≤ s.size) (h : aQp s p what.data.toList = 0) : ((Sc.mk p 0).must s what).pos = p + what.data.toList.length := by
 have h3 := (bZh (s := s) (what := what) (what.size + 1) 0 p hp (by omega) (by omega)).2.2
 unfold aQp at h
 by_cases hh : aQa s p what.data.toList = true
 · rw [← Lib.size_eq]; exact (h3 hh)
 · rw [if_neg hh] at h; unfold bXl at h; split at h <;> cases h
theorem must_st {s what : ByteArray} {p : Nat} (hp : p ≤ s.size) : ∃ q, (Sc.mk p 0).must s what = ⟨q, aQp s p what.data.toList⟩ ∧ q ≤ s.size ∧ (aQp s p what.data.toList = 0 → q = p + what.data.toList.length) :=
 ⟨((Sc.mk p 0).must s what).pos, by rw [← cWr hp], cWq hp, cZz hp⟩
end Go.Proofs.YtocnfoeaikiecaaGreatDoor.Plain10
namespace Go.Proofs.YtocnfoeaikiecaaGreatDoor.Plain11
open Strs Plain3 Plain5 Plain6 Plain9 Plain10
theorem bJz {s : ByteArray} {pos n : Nat} {x0 low : Int} (h : (fin s pos x0 n low).2 ≠ 0) : (fin s pos x0 n low).2 = n ∧ aVu s pos n := by
 unfold fin at h ⊢
 split at h
 · rename_i hh; rw [if_pos hh]; exact ⟨rfl, hh.2.1⟩
 · simp at h
theorem aWg {s : ByteArray} {pos : Nat} (h : (aQm s pos).2 ≠ 0) : ¬ aQw s pos ∧ ∀ k, 1 ≤ k → k < (aQm s pos).2 → aQw s (pos + k) ∧ 128 ≤ aQ1 s (pos + k - 1) := by
 have key : ∀ (x0 : Int) (n : Nat) (low : Int), (n ≤ 1 ∨ 128 ≤ aQ1 s pos) → (fin s pos x0 n low).2 ≠ 0 → ∀ k, 1 ≤ k → k < (fin s pos x0 n low).2 → aQw s (pos + k) ∧ 128 ≤ aQ1 s (pos + k - 1) := by
  intro x0 n low hb hf k h1 h2
  obtain ⟨e, hc⟩ := bJz hf
  rw [e] at h2
  refine ⟨aZ1.1 hc k h2 h1, ?_⟩
  by_cases hk : k = 1
  · subst hk; rcases hb with hb | hb
    · omega
    · simpa using hb
  · have := (aZ1.1 hc (k - 1) (by omega) (by omega)).1
    rw [show pos + k - 1 = pos + (k - 1) by omega]; exact this
 unfold aQm at h ⊢
 unfold aQw at key ⊢
 by_cases c1 : aQ1 s pos < 128
 · rw [if_pos c1] at h ⊢; exact ⟨by omega, key _ 1 _ (by omega) h⟩
 rw [if_neg c1] at h ⊢
 by_cases c2 : 192 ≤ aQ1 s pos ∧ aQ1 s pos < 224
 · rw [if_pos c2] at h ⊢; exact ⟨by omega, key _ _ _ (by omega) h⟩
 rw [if_neg c2] at h ⊢
 by_cases c3 : 224 ≤ aQ1 s pos ∧ aQ1 s pos < 240
 · rw [if_pos c3] at h ⊢; exact ⟨by omega, key _ _ _ (by omega) h⟩
 rw [if_neg c3] at h ⊢
 by_cases c4 : 240 ≤ aQ1 s pos ∧ aQ1 s pos < 248
 · rw [if_pos c4] at h ⊢; exact ⟨by omega, key _ _ _ (by omega) h⟩
 rw [if_neg c4] at h; exact absurd rfl h
def VB (s : ByteArray) (p : Nat) : Prop := ∃ f l, s.size ≤ p + f ∧ aVm s f p = some l
theorem bZ5 {s : ByteArray} {p : Nat} (h : s.size ≤ p) : VB s p := ⟨0, [], by omega, rfl⟩
theorem aY1 {s : ByteArray} {p : Nat} (h : VB s p) (hp : p < s.size) : (aQm s p).2 ≠ 0 ∧ VB s (p + (aQm s p).2) := by
 obtain ⟨f, l, hf, hl⟩ := h
 obtain ⟨f', rfl⟩ : ∃ f', f = f' + 1 := ⟨f - 1, by omega⟩
 unfold aVm at hl
 rw [if_pos hp] at hl
 split at hl
 · cases hl
 · rename_i hr
   cases hm : aVm s f' (p + (aQm s p).2) with
   | none => rw [hm] at hl; cases hl
   | some m => exact ⟨hr, f', m, by omega, hm⟩
theorem dQs {s : ByteArray} (h : (aX4 s).2 < 0) : VB s 0 := by
 rcases bWu (s := s) (s.size + 1) 0 [] with ⟨l, h1, _⟩ | ⟨_, h2⟩
 · exact ⟨s.size + 1, l, by omega, h1⟩
 · unfold aX4 at h; omega
theorem cXz {s : ByteArray} : ∀ (n i p : Nat), VB s i → s.size ≤ i + n → i ≤ p → p < s.size → VB s p ∨ (aQw s p ∧ 1 ≤ p ∧ 128 ≤ aQ1 s (p - 1))
 | 0, i, p, hv, hn, hi, hp => by omega
 | n + 1, i, p, hv, hn, hi, hp => by
  by_cases he : p = i
  · subst he; exact .inl hv
  · obtain ⟨hr, hv2⟩ := aY1 hv (by omega)
    by_cases hl : p < i + (aQm s i).2
    · have := (aWg hr).2 (p - i) (by omega) (by omega)
      rw [show i + (p - i) = p by omega] at this
      exact .inr ⟨this.1, by omega, this.2⟩
    · exact cXz n _ p hv2 (by omega) (by omega) hp
theorem VB_at {s : ByteArray} {p : Nat} (h : VB s 0) (hg : ¬ aQw s p) : VB s p := by
 by_cases hp : p < s.size
 · rcases cXz s.size 0 p h (by omega) (by omega) hp with h1 | h1
   · exact h1
   · exact absurd h1.1 hg
 · exact bZ5 (by omega)
theorem aKq {s : ByteArray} {p : Nat} (h : VB s 0) (h1 : 1 ≤ p) (hb : aQ1 s (p - 1) < 128) : VB s p := by
 by_cases hp : p < s.size
 · rcases cXz s.size 0 p h (by omega) (by omega) hp with h2 | h2
   · exact h2
   · omega
 · exact bZ5 (by omega)
theorem bYa {s : ByteArray} {p : Nat} : ∀ (f n : Nat), VB s (p + n) → VB s (p + aZk s p f n)
 | 0, n, h => h
 | f + 1, n, h => by
  by_cases hl : p + n < s.size
  · by_cases hs : aVy s p n
    · rw [aZm hl hs]; exact h
    · rw [aVo hl hs]
      exact bYa f _ (by rw [← Nat.add_assoc]; exact (aY1 h hl).2)
  · rw [aXx (by omega)]; exact h
theorem dXw {s : ByteArray} {p : Nat} (h : VB s p) : VB s (p + nameZ s p) := bYa _ _ h
theorem aX6 {s : ByteArray} {p : Nat} {c : UInt8} {t : List UInt8} (h : aQa s p (c :: t) = true) (hp : p < s.size) : aQ1 s p = (c.toNat : Int) := by
 unfold aQa at h
 rw [aXs hp] at h
 simp only [List.isPrefixOf, Bool.and_eq_true, beq_iff_eq] at h
 rw [aZ0, ← h.1]
theorem dZ7 {s : ByteArray} {p : Nat} {c : UInt8} {t : List UInt8} (h : aQa s p (c :: t) = true) (hp : p < s.size) : aQa s (p + 1) t = true := by
 unfold aQa at h ⊢
 rw [aXs hp] at h
 simp only [List.isPrefixOf, Bool.and_eq_true] at h
 exact h.2
theorem aK2 {s : ByteArray} : ∀ {sg : List UInt8} {p : Nat}, aQa s p sg = true → p ≤ s.size → ∀ k, k < sg.length → aQ1 s (p + k) = ((sg.getD k 0).toNat : Int)
 | [], p, h, hp, k, hk => by simp at hk
 | c :: t, p, h, hp, k, hk => by
  have hr := aX5 h hp
  simp only [List.length_cons] at hr hk
  cases k with
  | zero => exact aX6 h (by omega)
  | succ k =>
   have := aK2 (dZ7 h (by omega)) (by omega) k (by omega)
   rw [show p + (k + 1) = p + 1 + k by omega, this]
   rfl
theorem aZn {s : ByteArray} {p : Nat} {sg : List UInt8} (h : VB s 0) (hs : aQa s p sg = true) (hp : p ≤ s.size) (h0 : 1 ≤ sg.length) (ha : (sg.getD (sg.length - 1) 0).toNat < 128) : VB s (p + sg.length) := by
 apply aKq h (by omega)
 rw [show p + sg.length - 1 = p + (sg.length - 1) by omega, aK2 hs hp _ (by omega)]
 omega
theorem bVp {s : ByteArray} (h0 : VB s 0) : ∀ (f i : Nat), VB s i → VB s (aXz s f i)
 | 0, i, h => h
 | f + 1, i, h => by
  by_cases hw : i < s.size ∧ whiteB (aQ1 s i) = true
  · rw [aJu hw]
    refine bVp h0 f _ (aKq h0 (by omega) ?_)
    have := of_decide_eq_true hw.2
    rw [Nat.add_sub_cancel]; omega
  · rw [aXc hw]; exact h
theorem aKc {s : ByteArray} {p : Nat} (h0 : VB s 0) (h : VB s p) : VB s (whiteZ s p) := bVp h0 _ _ h
theorem cK5 {s : ByteArray} {p : Nat} {sg : List UInt8} (h0 : VB s 0) (hp : p ≤ s.size) (hf : upF s p sg = 0) (h1 : 1 ≤ sg.length) (ha : (sg.getD (sg.length - 1) 0).toNat < 128) : VB s (upP s p sg) := by
 unfold upF at hf
 unfold upP
 rcases aZa s p sg hp with h | ⟨i, h, hpi, hr, ho, _⟩
 · rw [if_pos h] at hf; cases hf
 · rw [h, Int.toNat_natCast]; exact aZn h0 ho (by omega) h1 ha
theorem bQc {s : ByteArray} {p : Nat} {sg : List UInt8} (hp : p ≤ s.size) (hf : upF s p sg = 0) : upP s p sg ≤ s.size ∧ p ≤ upP s p sg - sg.length ∧ sg.length ≤ upP s p sg := by
 unfold upF at hf
 unfold upP
 rcases aZa s p sg hp with h | ⟨i, h, hpi, hr, ho, _⟩
 · rw [if_pos h] at hf; cases hf
 · rw [h, Int.toNat_natCast]; omega
theorem aJ0 {s : ByteArray} {p : Nat} {sg : List UInt8} : aQp s p sg = 0 ↔ aQa s p sg = true := by
 unfold aQp
 constructor
 · intro h
   by_cases hh : aQa s p sg = true
   · exact hh
   · rw [if_neg hh] at h; unfold bXl at h; split at h <;> cases h
 · intro h; rw [if_pos h]
theorem bVq {s : ByteArray} {q : Int} : ∀ (f i : Nat), (aVe s q f i).1 = 0 → i ≤ (aVe s q f i).2 ∧ (aVe s q f i).2 < s.size ∧ aQ1 s (aVe s q f i).2 = q
 | 0, i, h => by simp [aVe] at h
 | f + 1, i, h => by
  by_cases hi : i < s.size
  · by_cases hb : aQ1 s i = 60
    · rw [bKl hi hb] at h; cases h
    · by_cases hq : aQ1 s i = q
      · rw [bKk hi hb hq]; exact ⟨Nat.le_refl _, hi, hq⟩
      · rw [cZ5 hi hb hq] at h ⊢
        have := bVq f (i + 1) h
        exact ⟨by omega, this.2⟩
  · rw [cQj hi] at h; cases h
theorem aYo {s : ByteArray} {p : Nat} (h : valF s p = 0) : p < s.size ∧ p + 1 ≤ valE s p ∧ valE s p < s.size ∧ (aQ1 s (valE s p) = 34 ∨ aQ1 s (valE s p) = 39) := by
 unfold valF at h
 by_cases hp : s.size ≤ p
 · rw [if_pos hp] at h; cases h
 · rw [if_neg hp] at h
   by_cases hq : aY2 (aQ1 s p) = true
   · rw [if_pos hq] at h
     have := bVq _ _ h
     have hq' := of_decide_eq_true hq
     unfold valE
     refine ⟨by omega, this.1, this.2.1, ?_⟩
     rw [this.2.2]; exact hq'
   · rw [if_neg hq] at h; cases h
theorem dZx {s : ByteArray} {p : Nat} (h0 : VB s 0) (h : valF s p = 0) : VB s (valP s p) := by
 have hv := aYo h
 refine aKq h0 (by unfold valP; omega) ?_
 unfold valP
 rw [Nat.add_sub_cancel]; omega
theorem aZx {s : ByteArray} {p : Nat} (h : nmF s p = 0) : 1 ≤ nameZ s p ∧ nameZ s p ≤ 60 ∧ nmP s p < s.size ∧ nmP s p = p + nameZ s p := by
 unfold nmF at h
 unfold nmP
 by_cases h1 : 60 < nameZ s p
 · rw [if_pos h1] at h; cases h
 · rw [if_neg h1] at h
   by_cases h2 : s.size ≤ p + nameZ s p
   · rw [if_pos h2] at h; cases h
   · rw [if_neg h2] at h
     by_cases h3 : nameZ s p = 0
     · rw [if_pos h3] at h; cases h
     · omega
theorem nm_VB {s : ByteArray} {p : Nat} (h : VB s p) : VB s (nmP s p) := dXw h
theorem cVq {s : ByteArray} {p i : Nat} (_hi : p + i < s.size) : aQ1 (s.extract p s.size) i = aQ1 s (p + i) := by
 unfold aQ1
 rw [bW4]; unfold rest
 simp only [List.getD_eq_getElem?_getD, List.getElem?_drop]
theorem cYk (s : ByteArray) (p : Nat) : (s.extract p s.size).size = s.size - p := by rw [aXy (Nat.le_refl _)]
end Go.Proofs.YtocnfoeaikiecaaGreatDoor.Plain11
namespace Go.Proofs.YtocnfoeaikiecaaGreatDoor.Plain12
open Strs Plain6 Plain9 Plain10
abbrev u8At (s : ByteArray) (p : Nat) : UInt8 := s.data.toList.getD p 0
theorem cQl {s : ByteArray} {p : Nat} {c : UInt8} : aQ1 s p = (c.toNat : Int) ↔ u8At s p = c := by
 rw [aZ0]
 constructor
 · intro h; exact UInt8.toNat_inj.1 (Int.ofNat.inj h)
 · intro h; rw [← h]
theorem aXp {s : ByteArray} {p : Nat} (n : Nat) (c : UInt8) (hc : c.toNat = n) : aQ1 s p = (n : Int) ↔ u8At s p = c := by
 subst hc; exact cQl
theorem aXl {s : ByteArray} {p : Nat} (h : p < s.size) (c : UInt8) (t : List UInt8) : aQa s p (c :: t) = (c == u8At s p && aQa s (p + 1) t) := by
 unfold aQa; rw [aXs h]; rfl
theorem aKk (s : ByteArray) (p : Nat) : aQa s p [] = true := by unfold aQa; simp [List.isPrefixOf]
theorem bJs {s : ByteArray} {p : Nat} (h : s.size ≤ p) (c : UInt8) (t : List UInt8) : aQa s p (c :: t) = false := by unfold aQa; rw [aW2 h]; rfl
theorem aV3 {s : ByteArray} {p : Nat} (h : p < s.size) (c : UInt8) (t : List UInt8) : (rest s p).isPrefixOf (c :: t) = (u8At s p == c && (rest s (p + 1)).isPrefixOf t) := by rw [aXs h]; rfl
theorem cX4 {s : ByteArray} {p : Nat} (h : s.size ≤ p) (t : List UInt8) : (rest s p).isPrefixOf t = true := by rw [aW2 h]; simp [List.isPrefixOf]
variable {s : ByteArray} {p : Nat}
theorem bYd (hp : p < s.size) (h0 : aQ1 s p = 60) (h1 : s.size ≤ p + 1) : aJf s p = aX2 1 := by
 have u0 := (aXp 60 60 rfl).1 h0
 unfold aJf
 simp only [aXl hp, u0, bJs h1, Bool.and_false, Bool.false_eq_true, if_false]
 unfold tagZ
 have : nmF s (p + 1) = 1 := by
  unfold nmF
  have hn : nameZ s (p + 1) = 0 := aXx (by omega)
  rw [hn, if_neg (by omega), if_pos (by omega)]
 rw [this]; simp
theorem bK2 (hp : p + 1 < s.size) (h0 : aQ1 s p = 60) (h1 : aQ1 s (p + 1) = 47) : aJf s p = endZ s (p + 2) := by
 have u0 := (aXp 60 60 rfl).1 h0
 have u1 := (aXp 47 47 rfl).1 h1
 unfold aJf
 simp [aXl (show p < s.size by omega), aXl hp, u0, u1, aKk, -List.getD_eq_getElem?_getD]
theorem cWv (hp : p + 1 < s.size) (h0 : aQ1 s p = 60) (h1 : aQ1 s (p + 1) = 63) : aJf s p = piZ s (p + 2) := by
 have u0 := (aXp 60 60 rfl).1 h0
 have u1 := (aXp 63 63 rfl).1 h1
 unfold aJf
 simp [aXl (show p < s.size by omega), aXl hp, u0, u1, aKk, -List.getD_eq_getElem?_getD]
theorem cJ1 (hp : p + 1 < s.size) (h0 : aQ1 s p = 60) (h1 : aQ1 s (p + 1) ≠ 47) (h2 : aQ1 s (p + 1) ≠ 63) (h3 : aQ1 s (p + 1) ≠ 33) : aJf s p = tagZ s (p + 1) := by
 have u0 := (aXp 60 60 rfl).1 h0
 have e1 : (47 == u8At s (p + 1)) = false := beq_eq_false_iff_ne.2 fun h => h1 ((aXp 47 47 rfl).2 h.symm)
 have e2 : (63 == u8At s (p + 1)) = false := beq_eq_false_iff_ne.2 fun h => h2 ((aXp 63 63 rfl).2 h.symm)
 have e3 : (33 == u8At s (p + 1)) = false := beq_eq_false_iff_ne.2 fun h => h3 ((aXp 33 33 rfl).2 h.symm)
 unfold aJf
 simp only [aXl (show p < s.size by omega), aXl hp, u0, e1, e2, e3, Bool.false_and, Bool.and_false, Bool.false_eq_true, if_false]
theorem bQy (hp : p + 1 < s.size) (h0 : aQ1 s p = 60) (h1 : aQ1 s (p + 1) = 33) (h2 : s.size ≤ p + 2) : aJf s p = aX2 1 := by
 have u0 := (aXp 60 60 rfl).1 h0
 have u1 := (aXp 33 33 rfl).1 h1
 have e : p + 1 + 1 = p + 2 := rfl
 unfold aJf
 simp [aXl (show p < s.size by omega), aXl hp, e, bJs h2, u0, u1, aKk, aV3 (show p < s.size by omega), aV3 hp, cX4 h2, -List.getD_eq_getElem?_getD]
theorem bYe (hp : p + 2 < s.size) (h0 : aQ1 s p = 60) (h1 : aQ1 s (p + 1) = 33) (h2 : aQ1 s (p + 2) = 45) :
 aJf s p = if aQp s (p + 2) [45, 45] = 0 then aXa s (p + 4) else aX2 (aQp s (p + 2) [45, 45]) := by
 have u0 := (aXp 60 60 rfl).1 h0
 have u1 := (aXp 33 33 rfl).1 h1
 have u2 := (aXp 45 45 rfl).1 h2
 have e : p + 1 + 1 = p + 2 := rfl
 have e3 : p + 2 + 1 = p + 3 := rfl
 have hl : bXl s (p + 2) [45, 45] = if (rest s (p + 2)).isPrefixOf [45, 45] = true then 1 else 2 := rfl
 unfold aJf aQp
 rw [hl]
 simp only [aXl (show p < s.size by omega), aXl (show p + 1 < s.size by omega), e, aXl hp, e3, u0, u1, u2, aV3 (show p < s.size by omega), aV3 (show p + 1 < s.size by omega), aV3 hp, aKk]
 cases hh : aQa s (p + 3) [45] <;> cases hq : (rest s (p + 3)).isPrefixOf [45] <;> simp
theorem bK3 (hp : p + 2 < s.size) (h0 : aQ1 s p = 60) (h1 : aQ1 s (p + 1) = 33) (h2 : aQ1 s (p + 2) = 91) :
 aJf s p = if aQp s (p + 2) [91, 67, 68, 65, 84, 65, 91] = 0 then aYk s (p + 9) else aX2 (aQp s (p + 2) [91, 67, 68, 65, 84, 65, 91]) := by
 have u0 := (aXp 60 60 rfl).1 h0
 have u1 := (aXp 33 33 rfl).1 h1
 have u2 := (aXp 91 91 rfl).1 h2
 have e : p + 1 + 1 = p + 2 := rfl
 have e3 : p + 2 + 1 = p + 3 := rfl
 have hl : bXl s (p + 2) [91, 67, 68, 65, 84, 65, 91] = if (rest s (p + 2)).isPrefixOf [91, 67, 68, 65, 84, 65, 91] = true then 1 else 2 := rfl
 unfold aJf aQp
 rw [hl]
 simp only [aXl (show p < s.size by omega), aXl (show p + 1 < s.size by omega), e, aXl hp, e3, u0, u1, u2, aV3 (show p < s.size by omega), aV3 (show p + 1 < s.size by omega), aV3 hp, aKk]
 cases hh : aQa s (p + 3) [67, 68, 65, 84, 65, 91] <;> cases hq : (rest s (p + 3)).isPrefixOf [67, 68, 65, 84, 65, 91] <;> simp
theorem cJ2 (hp : p + 2 < s.size) (h0 : aQ1 s p = 60) (h1 : aQ1 s (p + 1) = 33) (h2 : aQ1 s (p + 2) ≠ 45) (h3 : aQ1 s (p + 2) ≠ 91) :
 aJf s p = if aQp s (p + 2) [68, 79, 67, 84, 89, 80, 69] = 0 then aX1 s (p + 9) else aX2 (aQp s (p + 2) [68, 79, 67, 84, 89, 80, 69]) := by
 have u0 := (aXp 60 60 rfl).1 h0
 have u1 := (aXp 33 33 rfl).1 h1
 have d1 : (45 == u8At s (p + 2)) = false := beq_eq_false_iff_ne.2 fun h => h2 ((aXp 45 45 rfl).2 h.symm)
 have d2 : (91 == u8At s (p + 2)) = false := beq_eq_false_iff_ne.2 fun h => h3 ((aXp 91 91 rfl).2 h.symm)
 have d3 : (u8At s (p + 2) == 45) = false := beq_eq_false_iff_ne.2 fun h => h2 ((aXp 45 45 rfl).2 h)
 have d4 : (u8At s (p + 2) == 91) = false := beq_eq_false_iff_ne.2 fun h => h3 ((aXp 91 91 rfl).2 h)
 have e : p + 1 + 1 = p + 2 := rfl
 have e3 : p + 2 + 1 = p + 3 := rfl
 have hl : bXl s (p + 2) [68, 79, 67, 84, 89, 80, 69] = if (rest s (p + 2)).isPrefixOf [68, 79, 67, 84, 89, 80, 69] = true then 1 else 2 := rfl
 unfold aJf aQp
 rw [hl]
 simp only [aXl (show p < s.size by omega), aXl (show p + 1 < s.size by omega), e, aXl hp, e3, u0, u1, d1, d2, aV3 (show p < s.size by omega), aV3 (show p + 1 < s.size by omega), aV3 hp, d3, d4, aKk]
 cases hk : (68 == u8At s (p + 2)) <;> cases hm : (u8At s (p + 2) == 68) <;> cases hh : aQa s (p + 3) [79, 67, 84, 89, 80, 69] <;> cases hq : (rest s (p + 3)).isPrefixOf [79, 67, 84, 89, 80, 69] <;> simp
end Go.Proofs.YtocnfoeaikiecaaGreatDoor.Plain12
namespace Go.Proofs.YtocnfoeaikiecaaGreatDoor.Plain13
open Plain9 Plain10 Plain11
theorem dX3 {s : ByteArray} {p q : Nat} (hpq : p ≤ q) : (⟨((rest s p).take (q - p)).toArray⟩ : ByteArray) = s.extract p q := by
 apply ByteArray.ext
 apply Array.toList_inj.1
 rw [Lib.extract_data]
 unfold rest
 simp [List.take_drop, Nat.add_sub_cancel' hpq]
theorem dQc {s : ByteArray} {p : Nat} {sg : List UInt8} (hp : p ≤ s.size) (h : upF s p sg = 0) :
 (Lib.cut (rest s p) sg).2.2 = true ∧ (⟨(Lib.cut (rest s p) sg).1.toArray⟩ : ByteArray) = upT s p sg ∧ p + ((upT s p sg).size + sg.length) = upP s p sg := by
 unfold upF at h
 rcases aZa s p sg hp with h0 | ⟨i, h0, h1, h2, h3, h4⟩
 · rw [if_pos h0] at h; cases h
 · have hc : Lib.cut (rest s p) sg = ((rest s p).take (i - p), (rest s p).drop ((i - p) + sg.length), true) := by
    unfold Lib.cut
    rw [h4, if_pos (by omega), Int.toNat_natCast]
   rw [hc]
   have hu : upT s p sg = s.extract p i := by unfold upT; rw [h0, Int.toNat_natCast]
   refine ⟨rfl, ?_, ?_⟩
   · rw [hu]; exact dX3 h1
   · rw [hu, aXy (by omega)]; unfold upP; rw [h0, Int.toNat_natCast]; omega
theorem cut_no {s : ByteArray} {p : Nat} {sg : List UInt8} (h : upF s p sg ≠ 0) : Lib.cut (rest s p) sg = (rest s p, [], false) ∧ upF s p sg = 1 := by
 unfold upF at h ⊢
 by_cases h0 : fz s p sg = -1
 · rw [if_pos h0]
   have := (aJp s p sg).1 h0
   unfold Lib.cut
   rw [this, if_neg (by omega)]
   exact ⟨rfl, rfl⟩
 · rw [if_neg h0] at h; exact absurd rfl h
theorem upT_size {s : ByteArray} {p : Nat} {sg : List UInt8} (hp : p ≤ s.size) (h : upF s p sg = 0) : (upT s p sg).size ≤ s.size ∧ upP s p sg ≤ s.size := by
 have h1 := (dQc hp h).2.2
 have h2 := (bQc hp h).1
 omega
end Go.Proofs.YtocnfoeaikiecaaGreatDoor.Plain13
namespace Go.Proofs.YtocnfoeaikiecaaGreatDoor.Plain14
open Plain3 Plain5 Plain6
theorem bXu {s : ByteArray} {p : Nat} : ∀ (f n : Nat), p + n ≤ s.size → p + aZk s p f n ≤ s.size
 | 0, n, h => h
 | f + 1, n, h => by
  by_cases hl : p + n < s.size
  · by_cases hs : aVy s p n
    · rw [aZm hl hs]; exact h
    · rw [aVo hl hs]
      refine bXu f _ ?_
      have h0 : (aQm s (p + n)).2 ≠ 0 := fun h0 => hs (.inl h0)
      have := aWr (s := s) (pos := p + n) h0
      omega
  · rw [aXx (by omega)]; exact h
theorem cX8 {s : ByteArray} {p : Nat} (h : p ≤ s.size) : p + nameZ s p ≤ s.size := bXu _ _ h
end Go.Proofs.YtocnfoeaikiecaaGreatDoor.Plain14
namespace Go.Proofs.YtocnfoeaikiecaaGreatDoor.Plain15
open Strs Plain6 Plain9 Plain10 Plain12
theorem dVg {s : ByteArray} {q : Nat} (h : s.size ≤ q) : nmF s q = 1 := by
 unfold nmF
 have hn : nameZ s q = 0 := aXx (by omega)
 rw [hn, if_neg (by omega), if_pos (by omega)]
theorem bZe {s : ByteArray} {k : Nat} (hk : k < s.size) (n : Nat) (c : UInt8) (hc : c.toNat = n) : aQa s k [c] = decide (aQ1 s k = (n : Int)) := by
 rw [aXl hk, aKk, Bool.and_true]
 by_cases h : aQ1 s k = (n : Int)
 · rw [decide_eq_true h, (aXp n c hc).1 h]; simp
 · rw [decide_eq_false h]
   exact beq_eq_false_iff_ne.2 fun e => h ((aXp n c hc).2 e.symm)
end Go.Proofs.YtocnfoeaikiecaaGreatDoor.Plain15
namespace Go.Proofs.YtocnfoeaikiecaaGreatDoor.Plain16
open Plain10
theorem cJ0 (s : ByteArray) (p : Nat) (sg : List UInt8) : aQp s p sg ≤ 3 := by unfold aQp bXl; split <;> (try split) <;> omega
theorem upF_le (s : ByteArray) (p : Nat) (sg : List UInt8) : upF s p sg ≤ 3 := by unfold upF; split <;> omega
theorem dJ8 (s : ByteArray) (p : Nat) : nmF s p ≤ 3 := by unfold nmF; split <;> (try split) <;> (try split) <;> omega
theorem cZ6 (s : ByteArray) (q : Int) : ∀ f i, (aVe s q f i).1 ≤ 3
 | 0, i => by simp [aVe]
 | f + 1, i => by
  unfold aVe
  split
  · split
    · simp
    · split
      · simp
      · exact cZ6 s q f (i + 1)
  · simp
theorem dJy (s : ByteArray) (p : Nat) : valF s p ≤ 3 := by
 unfold valF; split
 · omega
 · split
   · exact cZ6 _ _ _ _
   · omega
theorem cZe (s : ByteArray) : ∀ f p, (aZf s f p).1 ≤ 3
 | 0, p => by simp [aZf]
 | f + 1, p => by
  unfold aZf
  repeat' split
  all_goals first | exact cZe s f _ | simp
theorem dV7 (s : ByteArray) (p : Nat) : subF s p ≤ 3 := cZe _ _ _
theorem cYj (f : Nat) : (aX2 f).fl = f := rfl
theorem cZc (s nm : ByteArray) : ∀ f p acc, (aWn s nm f p acc).fl ≤ 3
 | 0, p, acc => by simp [aWn, aX2]
 | f + 1, p, acc => by
  unfold aWn
  dsimp only
  repeat' split
  all_goals first | exact cZc s nm f _ _ | exact cJ0 _ _ _ | exact dJ8 _ _ | exact dJy _ _ | (simp [aX2]; done) | (simp [cYj])
theorem cJ3 (s : ByteArray) (p : Nat) : (aJf s p).fl ≤ 3 := by
 unfold aJf aXa aYk aX1 piZ endZ tagZ
 dsimp only
 repeat' split
 all_goals first | exact cZc _ _ _ _ _ | exact cJ0 _ _ _ | exact dJ8 _ _ | exact upF_le _ _ _ | exact dV7 _ _ | (simp [aX2]; done) | (simp [cYj])
end Go.Proofs.YtocnfoeaikiecaaGreatDoor.Plain16
namespace Go.Proofs.YtocnfoeaikiecaaGreatDoor.Plain17
open Plain10
theorem bWl (s nm : ByteArray) : ∀ f p acc, (aWn s nm f p acc).attrs.length ≤ acc.length + f
 | 0, p, acc => by simp [aWn, aX2]
 | f + 1, p, acc => by
  unfold aWn
  dsimp only
  repeat' split
  all_goals first
   | (refine Nat.le_trans (bWl s nm f _ _) ?_; simp only [List.length_append, List.length_cons, List.length_nil]; omega)
   | (simp [aX2]; done)
   | (simp only []; omega)
theorem cWw (s : ByteArray) (p : Nat) : (aJf s p).attrs.length ≤ s.size + 1 := by
 unfold aJf aXa aYk aX1 piZ endZ tagZ
 dsimp only
 repeat' split
 all_goals first
  | (refine Nat.le_trans (bWl _ _ _ _ _) ?_; simp; done)
  | (simp [aX2]; done)
theorem cKb (s : ByteArray) (p : Nat) (closed : Bool) : (aKs s p closed).attrs.length = 0 := by
 unfold aKs
 by_cases h : Lib.index (s.extract p (aVf s p)).data.toList [93, 93, 62] ≠ -1
 · rw [if_pos h]; rfl
 · rw [if_neg h]
   by_cases h2 : aVf s p = s.size ∧ closed = false
   · rw [if_pos h2]; rfl
   · rw [if_neg h2]; rfl
end Go.Proofs.YtocnfoeaikiecaaGreatDoor.Plain17
namespace Go.Proofs.YtocnfoeaikiecaaGreatDoor.PlainS
open Go.RowKit Strs Plain6 Plain9 Plain10 Plain11 Plain13
def aKd (s : ByteArray) : Nat → Nat → Int → Option Int
 | 0, _, k => some k
 | f + 1, i, k => if i < s.size then (if aQ1 s i = 58 then (if 0 ≤ k then none else aKd s f (i + 1) i) else aKd s f (i + 1) k) else some k
theorem cQt {s : ByteArray} {f i : Nat} {k : Int} (h : ¬ i < s.size) : aKd s f i k = some k := by
 cases f with
 | zero => rfl
 | succ f => unfold aKd; rw [if_neg h]
theorem cKl {s : ByteArray} {f i : Nat} {k : Int} (h : i < s.size) (hb : aQ1 s i = 58) (hk : 0 ≤ k) : aKd s (f + 1) i k = none := by
 conv => lhs; unfold aKd
 rw [if_pos h, if_pos hb, if_pos hk]
theorem cKn {s : ByteArray} {f i : Nat} {k : Int} (h : i < s.size) (hb : aQ1 s i = 58) (hk : ¬ 0 ≤ k) : aKd s (f + 1) i k = aKd s f (i + 1) i := by
 conv => lhs; unfold aKd
 rw [if_pos h, if_pos hb, if_neg hk]
theorem cKo {s : ByteArray} {f i : Nat} {k : Int} (h : i < s.size) (hb : ¬ aQ1 s i = 58) : aKd s (f + 1) i k = aKd s f (i + 1) k := by
 conv => lhs; unfold aKd
 rw [if_pos h, if_neg hb]
def colZ (s : ByteArray) : Option Int := aKd s (s.size + 1) 0 (-1)
def aQo (s : ByteArray) : ByteArray × ByteArray × Bool :=
 match colZ s with
 | none => (⟨#[]⟩, ⟨#[]⟩, false)
 | some k => if k < 0 then (⟨#[]⟩, s, aV6 s) else (s.extract 0 k.toNat, s.extract (k.toNat + 1) s.size, aV6 (s.extract 0 k.toNat) && aV6 (s.extract (k.toNat + 1) s.size))
def aQu (s : ByteArray) : ByteArray × ByteArray × Int :=
 if 4000 < s.size then (⟨#[]⟩, ⟨#[]⟩, 2) else if (aQo s).2.2 = true then ((aQo s).1, (aQo s).2.1, 0) else (⟨#[]⟩, ⟨#[]⟩, 3)
theorem bWd {s : ByteArray} {i : Nat} (hi : i < s.size) : aQa s i [58] = decide (aQ1 s i = 58) := by
 unfold aQa
 rw [aXs hi]
 unfold aQ1
 have e : (List.isPrefixOf [58] (s.data.toList.getD i 0 :: rest s (i + 1))) = decide (s.data.toList.getD i 0 = 58) := by
  simp [List.isPrefixOf, Bool.beq_eq_decide_eq, eq_comm]
 first
  | rw [e]
  | (simp only [List.isPrefixOf, Bool.and_true]; rw [Bool.beq_eq_decide_eq])
 apply decide_eq_decide.2
 constructor
 · intro h; rw [h]; rfl
 · intro h; exact UInt8.toNat_inj.1 (by have : ((58 : UInt8).toNat : Int) = 58 := rfl; omega)
theorem cKq {s : ByteArray} {k : Int} (hk : 0 ≤ k) : ∀ (f i : Nat), s.size < i + f → aKd s f i k = if fz s i [58] = -1 then some k else none
 | 0, i, h => by rw [bJw (by simp) (by simp; omega), if_pos rfl]; rfl
 | f + 1, i, h => by
  by_cases hi : i < s.size
  · by_cases hb : aQ1 s i = 58
    · rw [cKl hi hb hk, bQ8 hi (by rw [bWd hi]; exact decide_eq_true hb), if_neg (by omega)]
    · rw [cKo hi hb, aYh hi (by rw [bWd hi]; exact decide_eq_false hb)]
      exact cKq hk f (i + 1) (by omega)
  · rw [cQt hi, bJw (by simp) (by simp; omega), if_pos rfl]
theorem cQs {s : ByteArray} : ∀ (f i : Nat), s.size < i + f → aKd s f i (-1) = if fz s i [58] = -1 then some (-1) else if fz s ((fz s i [58]).toNat + 1) [58] = -1 then some (fz s i [58]) else none
 | 0, i, h => by rw [bJw (by simp) (by simp; omega), if_pos rfl]; rfl
 | f + 1, i, h => by
  by_cases hi : i < s.size
  · by_cases hb : aQ1 s i = 58
    · rw [cKn hi hb (by omega), bQ8 hi (by rw [bWd hi]; exact decide_eq_true hb), if_neg (by omega), Int.toNat_natCast]
      exact cKq (by omega) f (i + 1) (by omega)
    · rw [cKo hi hb, aYh hi (by rw [bWd hi]; exact decide_eq_false hb)]
      exact cQs f (i + 1) (by omega)
  · rw [cQt hi, bJw (by simp) (by simp; omega), if_pos rfl]
theorem dX8 {s : ByteArray} (h : upF s 0 [58] ≠ 0) : aQo s = (⟨#[]⟩, s, aV6 s) ∧ Lib.contains s.data.toList [58] = false := by
 have h0 : fz s 0 [58] = -1 := by unfold upF at h; by_cases h0 : fz s 0 [58] = -1 <;> simp_all
 refine ⟨?_, ?_⟩
 · unfold aQo colZ
   rw [cQs _ _ (by omega), if_pos h0]
   rfl
 · have := (aJp s 0 [58]).1 h0
   unfold rest at this
   rw [List.drop_zero] at this
   unfold Lib.contains
   rw [this]; rfl
theorem cKj {s : ByteArray} (h : upF s 0 [58] = 0) : upP s 0 [58] ≤ s.size ∧ (upT s 0 [58]).size ≤ s.size ∧ (s.extract (upP s 0 [58]) s.size).size ≤ s.size ∧ (Lib.cut s.data.toList [58]).2.2 = true ∧ (⟨(Lib.cut s.data.toList [58]).1.toArray⟩ : ByteArray) = upT s 0 [58] ∧ (⟨(Lib.cut s.data.toList [58]).2.1.toArray⟩ : ByteArray) = s.extract (upP s 0 [58]) s.size ∧
 aQo s = if Lib.contains (s.extract (upP s 0 [58]) s.size).data.toList [58] = true then (⟨#[]⟩, ⟨#[]⟩, false) else (upT s 0 [58], s.extract (upP s 0 [58]) s.size, aV6 (upT s 0 [58]) && aV6 (s.extract (upP s 0 [58]) s.size)) := by
 have hr : rest s 0 = s.data.toList := by unfold rest; rw [List.drop_zero]
 have hc := dQc (s := s) (p := 0) (sg := [58]) (Nat.zero_le _) h
 have hz := upT_size (s := s) (p := 0) (sg := [58]) (Nat.zero_le _) h
 rw [hr] at hc
 rcases aZa s 0 [58] (Nat.zero_le _) with h0 | ⟨i, h0, h1, h2, h3, h4⟩
 · unfold upF at h; rw [if_pos h0] at h; cases h
 have hP : upP s 0 [58] = i + 1 := by unfold upP; rw [h0]; rfl
 have hT : upT s 0 [58] = s.extract 0 i := by unfold upT; rw [h0]; rfl
 simp only [List.length_cons, List.length_nil] at h2
 refine ⟨hz.2, hz.1, by rw [hP, cYk]; omega, hc.1, hc.2.1, ?_, ?_⟩
 · rw [hP]
   unfold Lib.cut
   rw [hr] at h4
   rw [h4, if_pos (by omega)]
   apply ByteArray.ext
   apply Array.toList_inj.1
   rw [bW4]
   unfold rest
   simp
 · unfold aQo colZ
   rw [cQs _ _ (by omega), h0, if_neg (by omega), Int.toNat_natCast, hP, hT]
   have hcon : Lib.contains (s.extract (i + 1) s.size).data.toList [58] = true ↔ ¬ fz s (i + 1) [58] = -1 := by
    rw [aJp, bW4]
    unfold Lib.contains
    have := Lib.index_ge (rest s (i + 1)) [58]
    rw [decide_eq_true_iff]
    omega
   by_cases hn : fz s (i + 1) [58] = -1
   · rw [if_pos hn, if_neg (by rw [hcon]; simpa using hn)]
     simp only
     rw [if_neg (by omega), Int.toNat_natCast]
   · rw [if_neg hn, if_pos (hcon.2 hn)]
end Go.Proofs.YtocnfoeaikiecaaGreatDoor.PlainS
