import Derived.Test.YtdblemolaojebaaGreatDoorPlA
import Derived.Lib.IndexMore
import Derived.Lib.RabinKarpLaws
import Derived.Lib.SlTrimSet
namespace Go.Proofs.YtdblemolaojebaaGreatDoor.Plain9
open Strs
def rest (s : ByteArray) (p : Nat) : List UInt8 := s.data.toList.drop p
theorem aVx (s : ByteArray) (p : Nat) : (rest s p).length = s.size - p := by
 unfold rest; rw [List.length_drop, ← Lib.size_eq]
theorem aZw {s : ByteArray} {p : Nat} (h : p < s.size) : rest s p = s.data.toList.getD p 0 :: rest s (p + 1) := by
 unfold rest
 have h' : p < s.data.toList.length := by rw [← Lib.size_eq]; exact h
 rw [List.drop_eq_getElem_cons h', List.getD_eq_getElem?_getD, List.getElem?_eq_getElem h']
 rfl
theorem bQg {s : ByteArray} {p : Nat} (h : s.size ≤ p) : rest s p = [] := by
 apply List.eq_nil_of_length_eq_zero; rw [aVx]; omega
theorem rest_rest (s : ByteArray) (p k : Nat) : (rest s p).drop k = rest s (p + k) := by unfold rest; rw [List.drop_drop]
theorem aJl (s : ByteArray) (p : Nat) : (s.extract p s.size).data.toList = rest s p := by
 rw [Lib.extract_data]; unfold rest
 apply List.take_of_length_le
 rw [List.length_drop, ← Lib.size_eq]; omega
theorem aX7 {s : ByteArray} {p q : Nat} (hq : q ≤ s.size) : (s.extract p q).size = q - p := by
 rw [Lib.size_eq, Lib.extract_data, List.length_take, List.length_drop, ← Lib.size_eq]; omega
def aQ5 (s : ByteArray) (p : Nat) (sg : List UInt8) : Bool := sg.isPrefixOf (rest s p)
theorem aQ9 {s : ByteArray} {p : Nat} {sg : List UInt8} (h : aQ5 s p sg = true) (hp : p ≤ s.size) : p + sg.length ≤ s.size := by
 unfold aQ5 at h
 have := (List.isPrefixOf_iff_prefix.1 h).length_le
 rw [aVx] at this; omega
theorem aXz (s : ByteArray) (p : Nat) : aQ2 s p = ((s.data.toList.getD p 0).toNat : Int) := rfl
def standsAt (s : ByteArray) (i : Nat) (what : ByteArray) : Bool := (s.extract i (i + what.size)).toList == what.toList
def findGo (s what : ByteArray) : Nat → Nat → Int
 | 0, _ => -1
 | f + 1, i => if i + what.size ≤ s.size then (if standsAt s i what = true then (i : Int) else findGo s what f (i + 1)) else -1
theorem find_end {s what : ByteArray} {f i : Nat} (h : ¬ i + what.size ≤ s.size) : findGo s what f i = -1 := by
 cases f with
 | zero => rfl
 | succ f => unfold findGo; rw [if_neg h]
theorem find_hit {s what : ByteArray} {f i : Nat} (h : i + what.size ≤ s.size) (hs : standsAt s i what = true) : findGo s what (f + 1) i = (i : Int) := by
 unfold findGo; rw [if_pos h, if_pos hs]
def fz (s : ByteArray) (p : Nat) (sg : List UInt8) : Int := if Lib.index (rest s p) sg = -1 then -1 else (p : Int) + Lib.index (rest s p) sg
theorem fz_nil {s : ByteArray} {p : Nat} {sg : List UInt8} (h0 : sg ≠ []) (h : s.size < p + sg.length) : fz s p sg = -1 := by
 unfold fz
 have hi : Lib.index (rest s p) sg = -1 := by
  rcases Lib.index_spec (rest s p) sg with ⟨h1, _⟩ | ⟨i, h1, h2, h3, _⟩
  · exact h1
  · rcases Lib.occAt_room h3 with h4 | h4
    · rw [aVx] at h4; have := List.length_pos_iff.2 h0; omega
    · exact absurd h4 h0
 rw [if_pos hi]
theorem fz_hit {s : ByteArray} {p : Nat} {sg : List UInt8} (hp : p < s.size) (h : aQ5 s p sg = true) : fz s p sg = p := by
 unfold fz
 have hi : Lib.index (rest s p) sg = 0 := by
  rw [aZw hp]; unfold Lib.index
  unfold aQ5 at h; rw [aZw hp] at h
  rw [if_pos h]
 rw [hi]; simp
theorem bJh {s : ByteArray} {p : Nat} {sg : List UInt8} (hp : p < s.size) (h : aQ5 s p sg = false) : fz s p sg = fz s (p + 1) sg := by
 have hi : Lib.index (rest s p) sg = if Lib.index (rest s (p + 1)) sg = -1 then -1 else Lib.index (rest s (p + 1)) sg + 1 := by
  unfold aQ5 at h; rw [aZw hp] at h
  conv => lhs; rw [aZw hp]; unfold Lib.index
  rw [if_neg (by rw [h]; simp)]
  by_cases hk : Lib.index (rest s (p + 1)) sg = -1 <;> simp [hk]
 unfold fz
 rw [hi]
 have hge := Lib.index_ge (rest s (p + 1)) sg
 by_cases hk : Lib.index (rest s (p + 1)) sg = -1
 · simp [hk]
 · rw [if_neg hk, if_neg hk, if_neg (by omega)]; push_cast; omega
theorem aJh (s : ByteArray) (p : Nat) (sg : List UInt8) (hp : p ≤ s.size) : fz s p sg = -1 ∨ ∃ i : Nat, fz s p sg = i ∧ p ≤ i ∧ i + sg.length ≤ s.size ∧ aQ5 s i sg = true ∧ Lib.index (rest s p) sg = ((i - p : Nat) : Int) := by
 unfold fz
 rcases Lib.index_spec (rest s p) sg with ⟨h1, _⟩ | ⟨i, h1, h2, h3, _⟩
 · left; rw [if_pos h1]
 · right
   have hoc : aQ5 s (p + i) sg = true := by
    unfold Lib.occAt at h3; rw [rest_rest] at h3; exact h3
   rw [aVx] at h2
   refine ⟨p + i, ?_, by omega, ?_, hoc, ?_⟩
   · rw [if_neg (by omega), h1]; push_cast; rfl
   · have := aQ9 hoc (by omega); omega
   · rw [h1]; congr 1; omega
theorem aWo (s : ByteArray) (p : Nat) (sg : List UInt8) : fz s p sg = -1 ↔ Lib.index (rest s p) sg = -1 := by
 unfold fz
 have := Lib.index_ge (rest s p) sg
 by_cases h : Lib.index (rest s p) sg = -1
 · simp [h]
 · rw [if_neg h]; omega
def whiteB (b : Int) : Bool := decide (b = 9 ∨ b = 10 ∨ b = 32)
def aZk (s : ByteArray) : Nat → Nat → Nat
 | 0, i => i
 | f + 1, i => if i < s.size ∧ whiteB (aQ2 s i) = true then aZk s f (i + 1) else i
def whiteZ (s : ByteArray) (p : Nat) : Nat := aZk s (s.size + 1) p
theorem aXp {s : ByteArray} {f i : Nat} (h : ¬ (i < s.size ∧ whiteB (aQ2 s i) = true)) : aZk s f i = i := by
 cases f with
 | zero => rfl
 | succ f => unfold aZk; rw [if_neg h]
theorem aJo {s : ByteArray} {f i : Nat} (h : i < s.size ∧ whiteB (aQ2 s i) = true) : aZk s (f + 1) i = aZk s f (i + 1) := by
 conv => lhs; unfold aZk
 rw [if_pos h]
theorem aYb {s : ByteArray} : ∀ (f i : Nat), i ≤ aZk s f i ∧ (i ≤ s.size → aZk s f i ≤ s.size)
 | 0, i => ⟨Nat.le_refl _, fun h => h⟩
 | f + 1, i => by
  by_cases h : i < s.size ∧ whiteB (aQ2 s i) = true
  · rw [aJo h]
    have := aYb (s := s) f (i + 1)
    exact ⟨by omega, fun _ => this.2 (by omega)⟩
  · rw [aXp h]; exact ⟨Nat.le_refl _, fun h => h⟩
theorem aQw (s : ByteArray) (p : Nat) : p ≤ whiteZ s p := (aYb _ _).1
theorem aQq {s : ByteArray} {p : Nat} (h : p ≤ s.size) : whiteZ s p ≤ s.size := (aYb _ _).2 h
def bVd : List UInt8 := [9, 10, 32]
theorem white_byteB (c : UInt8) : bVd.contains c = whiteB (c.toNat : Int) := by
 unfold bVd whiteB
 apply Bool.eq_iff_iff.2
 simp only [List.contains_cons, List.contains_nil, Bool.or_false, Bool.or_eq_true, beq_iff_eq, decide_eq_true_eq]
 constructor
 · rintro (h | h | h) <;> subst h <;> decide
 · intro h
   rcases h with h | h | h
   · left; apply UInt8.toNat_inj.1; show c.toNat = 9; omega
   · right; left; apply UInt8.toNat_inj.1; show c.toNat = 10; omega
   · right; right; apply UInt8.toNat_inj.1; show c.toNat = 32; omega
theorem bXm {s : ByteArray} : ∀ (f i : Nat), i ≤ s.size → s.size ≤ i + f → (Lib.trimLeftS (rest s i) bVd).length = s.size - aZk s f i
 | 0, i, h, hf => by
  rw [bQg (by omega)]; unfold aZk Lib.trimLeftS; simp; omega
 | f + 1, i, h, hf => by
  by_cases hi : i < s.size
  · have hb : bVd.contains (s.data.toList.getD i 0) = whiteB (aQ2 s i) := white_byteB _
    unfold Lib.trimLeftS
    rw [aZw hi, List.dropWhile_cons]
    by_cases hw : whiteB (aQ2 s i) = true
    · rw [if_pos (by rw [hb]; exact hw), aJo ⟨hi, hw⟩]
      exact bXm f (i + 1) (by omega) (by omega)
    · rw [if_neg (by rw [hb]; exact hw), aXp (fun hh => hw hh.2), List.length_cons, aVx]; omega
  · rw [bQg (by omega), aXp (fun hh => hi hh.1)]; unfold Lib.trimLeftS; simp; omega
theorem whiteZ_trim {s : ByteArray} {p : Nat} (h : p ≤ s.size) : (Lib.trimLeftS (rest s p) bVd).length = s.size - whiteZ s p := bXm _ _ h (by omega)
end Go.Proofs.YtdblemolaojebaaGreatDoor.Plain9
namespace Go.Proofs.YtdblemolaojebaaGreatDoor.Plain10
open Strs Plain6 Plain9
def aW5 (s : ByteArray) (p : Nat) (sg : List UInt8) : Nat := if (rest s p).isPrefixOf sg = true then 1 else 2
def aQm (s : ByteArray) (p : Nat) (sg : List UInt8) : Nat := if aQ5 s p sg = true then 0 else aW5 s p sg
def upF (s : ByteArray) (p : Nat) (sg : List UInt8) : Nat := if fz s p sg = -1 then 1 else 0
def upT (s : ByteArray) (p : Nat) (sg : List UInt8) : ByteArray := s.extract p (fz s p sg).toNat
def upP (s : ByteArray) (p : Nat) (sg : List UInt8) : Nat := (fz s p sg).toNat + sg.length
def nmF (s : ByteArray) (p : Nat) : Nat := if 60 < aXw s p then 2 else if s.size ≤ p + aXw s p then 1 else if aXw s p = 0 then 2 else 0
def nmT (s : ByteArray) (p : Nat) : ByteArray := s.extract p (p + aXw s p)
def nmP (s : ByteArray) (p : Nat) : Nat := p + aXw s p
def aZv (s : ByteArray) (q : Int) : Nat → Nat → Nat × Nat
 | 0, i => (1, i)
 | f + 1, i => if i < s.size then (if aQ2 s i = 60 then (2, i) else if aQ2 s i = q then (0, i) else aZv s q f (i + 1)) else (1, i)
def aKe (b : Int) : Bool := decide (b = 34 ∨ b = 39)
def valF (s : ByteArray) (p : Nat) : Nat := if s.size ≤ p then 1 else if aKe (aQ2 s p) = true then (aZv s (aQ2 s p) (s.size + 1) (p + 1)).1 else 2
def valE (s : ByteArray) (p : Nat) : Nat := (aZv s (aQ2 s p) (s.size + 1) (p + 1)).2
def valT (s : ByteArray) (p : Nat) : ByteArray := s.extract (p + 1) (valE s p)
def valP (s : ByteArray) (p : Nat) : Nat := valE s p + 1
theorem val_end {s : ByteArray} {q : Int} {f i : Nat} (h : ¬ i < s.size) : aZv s q f i = (1, i) := by
 cases f with
 | zero => rfl
 | succ f => unfold aZv; rw [if_neg h]
theorem bK5 {s : ByteArray} {q : Int} {f i : Nat} (h : i < s.size) (hb : aQ2 s i = 60) : aZv s q (f + 1) i = (2, i) := by
 unfold aZv; rw [if_pos h, if_pos hb]
theorem bK4 {s : ByteArray} {q : Int} {f i : Nat} (h : i < s.size) (hb : aQ2 s i ≠ 60) (hq : aQ2 s i = q) : aZv s q (f + 1) i = (0, i) := by
 unfold aZv; rw [if_pos h, if_neg hb, if_pos hq]
theorem val_on {s : ByteArray} {q : Int} {f i : Nat} (h : i < s.size) (hb : aQ2 s i ≠ 60) (hq : aQ2 s i ≠ q) : aZv s q (f + 1) i = aZv s q f (i + 1) := by
 conv => lhs; unfold aZv
 rw [if_pos h, if_neg hb, if_neg hq]
structure Tk where
 fl : Nat
 kind : Int
 name : ByteArray
 text : ByteArray
 attrs : List (ByteArray × ByteArray)
 pos : Nat
def aQy (f : Nat) : Tk := ⟨f, 0, ByteArray.empty, ByteArray.empty, [], 0⟩
def hasZ (l : List (ByteArray × ByteArray)) (n : ByteArray) : Bool := l.any fun a => a.1.toList == n.toList
def aWf (s nm : ByteArray) : Nat → Nat → List (ByteArray × ByteArray) → Tk
 | 0, _, _ => aQy 1
 | f + 1, p, acc =>
  let q := whiteZ s p
  if s.size ≤ q then aQy 1
  else if aQ2 s q = 62 then ⟨0, 1, nm, ByteArray.empty, acc, q + 1⟩
  else if aQ2 s q = 47 then (if aQm s q [47, 62] = 0 then ⟨0, 3, nm, ByteArray.empty, acc, q + 2⟩ else aQy (aQm s q [47, 62]))
  else if q = p then aQy 2
  else if nmF s q ≠ 0 then aQy (nmF s q)
  else
   let r := whiteZ s (nmP s q)
   if aQm s r [61] ≠ 0 then aQy (aQm s r [61])
   else
    let v := whiteZ s (r + 1)
    if valF s v ≠ 0 then aQy (valF s v)
    else if hasZ acc (nmT s q) = true then aQy 3
    else aWf s nm f (valP s v) (acc ++ [(nmT s q, valT s v)])
def tagZ (s : ByteArray) (p : Nat) : Tk := if nmF s p ≠ 0 then aQy (nmF s p) else aWf s (nmT s p) (s.size + 1) (nmP s p) []
def xmlB (n : ByteArray) : Bool := decide (n.size = 3) && (decide (aQ2 n 0 = 120 ∨ aQ2 n 0 = 88) && (decide (aQ2 n 1 = 109 ∨ aQ2 n 1 = 77) && decide (aQ2 n 2 = 108 ∨ aQ2 n 2 = 76)))
def piZ (s : ByteArray) (p : Nat) : Tk :=
 if nmF s p ≠ 0 then aQy (nmF s p)
 else if xmlB (nmT s p) = true then aQy 2
 else
  let q := whiteZ s (nmP s p)
  if nmP s p < q then (if upF s q [63, 62] = 0 then ⟨0, 7, nmT s p, upT s q [63, 62], [], upP s q [63, 62]⟩ else aQy (upF s q [63, 62]))
  else if aQm s q [63, 62] = 0 then ⟨0, 7, nmT s p, ByteArray.empty, [], q + 2⟩ else aQy (aQm s q [63, 62])
def aXa (s : ByteArray) (p : Nat) : Tk :=
 if upF s p [45, 45] ≠ 0 then aQy (upF s p [45, 45])
 else if aQm s (upP s p [45, 45]) [62] = 0 then ⟨0, 6, ByteArray.empty, upT s p [45, 45], [], upP s p [45, 45] + 1⟩ else aQy (aQm s (upP s p [45, 45]) [62])
def bQy (s : ByteArray) (p : Nat) : Tk :=
 if upF s p [93, 93, 62] = 0 then ⟨0, 5, ByteArray.empty, upT s p [93, 93, 62], [], upP s p [93, 93, 62]⟩ else aQy (upF s p [93, 93, 62])
def endZ (s : ByteArray) (p : Nat) : Tk :=
 if nmF s p ≠ 0 then aQy (nmF s p)
 else
  let q := whiteZ s (nmP s p)
  if aQm s q [62] = 0 then ⟨0, 2, nmT s p, ByteArray.empty, [], q + 1⟩ else aQy (aQm s q [62])
def aZa (s : ByteArray) : Nat → Nat → Nat × Nat
 | 0, p => (1, p)
 | f + 1, p =>
  if p < s.size then
   (if aQ2 s p = 93 then (0, p + 1)
    else if aQ2 s p = 34 then (if upF s (p + 1) [34] = 0 then aZa s f (upP s (p + 1) [34]) else (1, p))
    else if aQ2 s p = 39 then (if upF s (p + 1) [39] = 0 then aZa s f (upP s (p + 1) [39]) else (1, p))
    else if aQ5 s p [60, 33, 45, 45] = true then (if upF s (p + 4) [45, 45, 62] = 0 then aZa s f (upP s (p + 4) [45, 45, 62]) else (1, p))
    else if aQ5 s p [60, 63] = true then (if upF s (p + 2) [63, 62] = 0 then aZa s f (upP s (p + 2) [63, 62]) else (1, p))
    else aZa s f (p + 1))
  else (1, p)
def subF (s : ByteArray) (p : Nat) : Nat := (aZa s (s.size + 1) p).1
def subP (s : ByteArray) (p : Nat) : Nat := (aZa s (s.size + 1) p).2
def subT (s : ByteArray) (p : Nat) : ByteArray := s.extract p (subP s p - 1)
def aJm (s : ByteArray) (p : Nat) : Tk :=
 let q := whiteZ s p
 if q = p then aQy (if s.size ≤ p then 1 else 2)
 else if nmF s q ≠ 0 then aQy (nmF s q)
 else
  let r := whiteZ s (nmP s q)
  if aQ5 s r [91] = true then
   (if subF s (r + 1) ≠ 0 then aQy (subF s (r + 1))
    else
     let u := whiteZ s (subP s (r + 1))
     if aQm s u [62] = 0 then ⟨0, 8, nmT s q, subT s (r + 1), [], u + 1⟩ else aQy (aQm s u [62]))
  else if aQm s r [62] = 0 then ⟨0, 8, nmT s q, ByteArray.empty, [], r + 1⟩ else aQy (aQm s r [62])
def aJa (s : ByteArray) (p : Nat) : Tk :=
 if aQ5 s p [60, 33, 45, 45] = true then aXa s (p + 4)
 else if aQ5 s p [60, 33, 91, 67, 68, 65, 84, 65, 91] = true then bQy s (p + 9)
 else if aQ5 s p [60, 33, 68, 79, 67, 84, 89, 80, 69] = true then aJm s (p + 9)
 else if aQ5 s p [60, 63] = true then piZ s (p + 2)
 else if aQ5 s p [60, 47] = true then endZ s (p + 2)
 else if aQ5 s p [60, 33] = true then aQy (if (rest s p).isPrefixOf [60, 33, 45, 45] = true ∨ (rest s p).isPrefixOf [60, 33, 91, 67, 68, 65, 84, 65, 91] = true ∨ (rest s p).isPrefixOf [60, 33, 68, 79, 67, 84, 89, 80, 69] = true then 1 else 2)
 else tagZ s (p + 1)
def aJ4 (s : ByteArray) (p : Nat) : Nat := if fz s p [60] = -1 then s.size else (fz s p [60]).toNat
def aWe (s : ByteArray) (p : Nat) (closed : Bool) : Tk :=
 if Lib.index (s.extract p (aJ4 s p)).data.toList [93, 93, 62] ≠ -1 then aQy 2
 else if aJ4 s p = s.size ∧ closed = false then aQy 1
 else ⟨0, 4, ByteArray.empty, s.extract p (aJ4 s p), [], aJ4 s p⟩
def aZf (f : Nat) (closed : Bool) : Int := if f = 3 then 6 else if f = 2 ∨ (f = 1 ∧ closed = true) then 3 else if f = 1 then 4 else 0
structure Sc where
 pos : Nat
 fl : Nat
def Sc.ended (x : Sc) (s : ByteArray) : Sc := if s.size ≤ x.pos ∧ x.fl = 0 then ⟨x.pos, 1⟩ else x
def mustGo (s what : ByteArray) : Nat → Nat → Sc → Sc
 | 0, _, x => x
 | f + 1, i, x => if i < what.size ∧ x.fl = 0 then (if s.size ≤ x.pos then x.ended s else if aQ2 s x.pos = aQ2 what i then mustGo s what f (i + 1) ⟨x.pos + 1, x.fl⟩ else ⟨x.pos, 2⟩) else x
def Sc.must (x : Sc) (s what : ByteArray) : Sc := mustGo s what (what.size + 1) 0 x
end Go.Proofs.YtdblemolaojebaaGreatDoor.Plain10
namespace Go.Proofs.YtdblemolaojebaaGreatDoor.Plain11
open Strs Plain3 Plain5 Plain6 Plain9 Plain10
theorem bJi {s : ByteArray} {pos n : Nat} {x0 low : Int} (h : (fin s pos x0 n low).2 ≠ 0) : (fin s pos x0 n low).2 = n ∧ aWq s pos n := by
 unfold fin at h ⊢
 split at h
 · rename_i hh; rw [if_pos hh]; exact ⟨rfl, hh.2.1⟩
 · simp at h
theorem aW3 {s : ByteArray} {pos : Nat} (h : (aQo s pos).2 ≠ 0) : ¬ aX1 s pos ∧ ∀ k, 1 ≤ k → k < (aQo s pos).2 → aX1 s (pos + k) ∧ 128 ≤ aQ2 s (pos + k - 1) := by
 have key : ∀ (x0 : Int) (n : Nat) (low : Int), (n ≤ 1 ∨ 128 ≤ aQ2 s pos) → (fin s pos x0 n low).2 ≠ 0 → ∀ k, 1 ≤ k → k < (fin s pos x0 n low).2 → aX1 s (pos + k) ∧ 128 ≤ aQ2 s (pos + k - 1) := by
  intro x0 n low hb hf k h1 h2
  obtain ⟨e, hc⟩ := bJi hf
  rw [e] at h2
  refine ⟨aXy.1 hc k h2 h1, ?_⟩
  by_cases hk : k = 1
  · subst hk; rcases hb with hb | hb
    · omega
    · simpa using hb
  · have := (aXy.1 hc (k - 1) (by omega) (by omega)).1
    rw [show pos + k - 1 = pos + (k - 1) by omega]; exact this
 unfold aQo at h ⊢
 unfold aX1 at key ⊢
 by_cases c1 : aQ2 s pos < 128
 · rw [if_pos c1] at h ⊢; exact ⟨by omega, key _ 1 _ (by omega) h⟩
 rw [if_neg c1] at h ⊢
 by_cases c2 : 192 ≤ aQ2 s pos ∧ aQ2 s pos < 224
 · rw [if_pos c2] at h ⊢; exact ⟨by omega, key _ _ _ (by omega) h⟩
 rw [if_neg c2] at h ⊢
 by_cases c3 : 224 ≤ aQ2 s pos ∧ aQ2 s pos < 240
 · rw [if_pos c3] at h ⊢; exact ⟨by omega, key _ _ _ (by omega) h⟩
 rw [if_neg c3] at h ⊢
 by_cases c4 : 240 ≤ aQ2 s pos ∧ aQ2 s pos < 248
 · rw [if_pos c4] at h ⊢; exact ⟨by omega, key _ _ _ (by omega) h⟩
 rw [if_neg c4] at h; exact absurd rfl h
def VB (s : ByteArray) (p : Nat) : Prop := ∃ f l, s.size ≤ p + f ∧ aYm s f p = some l
theorem bXu {s : ByteArray} {p : Nat} (h : s.size ≤ p) : VB s p := ⟨0, [], by omega, rfl⟩
theorem aW1 {s : ByteArray} {p : Nat} (h : VB s p) (hp : p < s.size) : (aQo s p).2 ≠ 0 ∧ VB s (p + (aQo s p).2) := by
 obtain ⟨f, l, hf, hl⟩ := h
 obtain ⟨f', rfl⟩ : ∃ f', f = f' + 1 := ⟨f - 1, by omega⟩
 unfold aYm at hl
 rw [if_pos hp] at hl
 split at hl
 · cases hl
 · rename_i hr
   cases hm : aYm s f' (p + (aQo s p).2) with
   | none => rw [hm] at hl; cases hl
   | some m => exact ⟨hr, f', m, by omega, hm⟩
theorem bK0 {s : ByteArray} (h : (aQv s).2 < 0) : VB s 0 := by
 rcases scan_R (s := s) (s.size + 1) 0 [] with ⟨l, h1, _⟩ | ⟨_, h2⟩
 · exact ⟨s.size + 1, l, by omega, h1⟩
 · unfold aQv at h; omega
theorem VB_from {s : ByteArray} : ∀ (n i p : Nat), VB s i → s.size ≤ i + n → i ≤ p → p < s.size → VB s p ∨ (aX1 s p ∧ 1 ≤ p ∧ 128 ≤ aQ2 s (p - 1))
 | 0, i, p, hv, hn, hi, hp => by omega
 | n + 1, i, p, hv, hn, hi, hp => by
  by_cases he : p = i
  · subst he; exact .inl hv
  · obtain ⟨hr, hv2⟩ := aW1 hv (by omega)
    by_cases hl : p < i + (aQo s i).2
    · have := (aW3 hr).2 (p - i) (by omega) (by omega)
      rw [show i + (p - i) = p by omega] at this
      exact .inr ⟨this.1, by omega, this.2⟩
    · exact VB_from n _ p hv2 (by omega) (by omega) hp
theorem VB_at {s : ByteArray} {p : Nat} (h : VB s 0) (hg : ¬ aX1 s p) : VB s p := by
 by_cases hp : p < s.size
 · rcases VB_from s.size 0 p h (by omega) (by omega) hp with h1 | h1
   · exact h1
   · exact absurd h1.1 hg
 · exact bXu (by omega)
theorem aJj {s : ByteArray} {p : Nat} (h : VB s 0) (h1 : 1 ≤ p) (hb : aQ2 s (p - 1) < 128) : VB s p := by
 by_cases hp : p < s.size
 · rcases VB_from s.size 0 p h (by omega) (by omega) hp with h2 | h2
   · exact h2
   · omega
 · exact bXu (by omega)
theorem nameGo_VB {s : ByteArray} {p : Nat} : ∀ (f n : Nat), VB s (p + n) → VB s (p + aZc s p f n)
 | 0, n, h => h
 | f + 1, n, h => by
  by_cases hl : p + n < s.size
  · by_cases hs : aY1 s p n
    · rw [aV8 hl hs]; exact h
    · rw [aW4 hl hs]
      exact nameGo_VB f _ (by rw [← Nat.add_assoc]; exact (aW1 h hl).2)
  · rw [aZn (by omega)]; exact h
theorem nameZ_VB {s : ByteArray} {p : Nat} (h : VB s p) : VB s (p + aXw s p) := nameGo_VB _ _ h
theorem aXm {s : ByteArray} {p : Nat} {c : UInt8} {t : List UInt8} (h : aQ5 s p (c :: t) = true) (hp : p < s.size) : aQ2 s p = (c.toNat : Int) := by
 unfold aQ5 at h
 rw [aZw hp] at h
 simp only [List.isPrefixOf, Bool.and_eq_true, beq_iff_eq] at h
 rw [aXz, ← h.1]
theorem has_tail {s : ByteArray} {p : Nat} {c : UInt8} {t : List UInt8} (h : aQ5 s p (c :: t) = true) (hp : p < s.size) : aQ5 s (p + 1) t = true := by
 unfold aQ5 at h ⊢
 rw [aZw hp] at h
 simp only [List.isPrefixOf, Bool.and_eq_true] at h
 exact h.2
theorem aK0 {s : ByteArray} : ∀ {sg : List UInt8} {p : Nat}, aQ5 s p sg = true → p ≤ s.size → ∀ k, k < sg.length → aQ2 s (p + k) = ((sg.getD k 0).toNat : Int)
 | [], p, h, hp, k, hk => by simp at hk
 | c :: t, p, h, hp, k, hk => by
  have hr := aQ9 h hp
  simp only [List.length_cons] at hr hk
  cases k with
  | zero => exact aXm h (by omega)
  | succ k =>
   have := aK0 (has_tail h (by omega)) (by omega) k (by omega)
   rw [show p + (k + 1) = p + 1 + k by omega, this]
   rfl
theorem aXh {s : ByteArray} {p : Nat} {sg : List UInt8} (h : VB s 0) (hs : aQ5 s p sg = true) (hp : p ≤ s.size) (h0 : 1 ≤ sg.length) (ha : (sg.getD (sg.length - 1) 0).toNat < 128) : VB s (p + sg.length) := by
 apply aJj h (by omega)
 rw [show p + sg.length - 1 = p + (sg.length - 1) by omega, aK0 hs hp _ (by omega)]
 omega
theorem bVe {s : ByteArray} (h0 : VB s 0) : ∀ (f i : Nat), VB s i → VB s (aZk s f i)
 | 0, i, h => h
 | f + 1, i, h => by
  by_cases hw : i < s.size ∧ whiteB (aQ2 s i) = true
  · rw [aJo hw]
    refine bVe h0 f _ (aJj h0 (by omega) ?_)
    have := of_decide_eq_true hw.2
    rw [Nat.add_sub_cancel]; omega
  · rw [aXp hw]; exact h
theorem aZj {s : ByteArray} {p : Nat} (h0 : VB s 0) (h : VB s p) : VB s (whiteZ s p) := bVe h0 _ _ h
theorem up_VB {s : ByteArray} {p : Nat} {sg : List UInt8} (h0 : VB s 0) (hp : p ≤ s.size) (hf : upF s p sg = 0) (h1 : 1 ≤ sg.length) (ha : (sg.getD (sg.length - 1) 0).toNat < 128) : VB s (upP s p sg) := by
 unfold upF at hf
 unfold upP
 rcases aJh s p sg hp with h | ⟨i, h, hpi, hr, ho, _⟩
 · rw [if_pos h] at hf; cases hf
 · rw [h, Int.toNat_natCast]; exact aXh h0 ho (by omega) h1 ha
theorem aYy {s : ByteArray} {p : Nat} {sg : List UInt8} (hp : p ≤ s.size) (hf : upF s p sg = 0) : upP s p sg ≤ s.size ∧ p ≤ upP s p sg - sg.length ∧ sg.length ≤ upP s p sg := by
 unfold upF at hf
 unfold upP
 rcases aJh s p sg hp with h | ⟨i, h, hpi, hr, ho, _⟩
 · rw [if_pos h] at hf; cases hf
 · rw [h, Int.toNat_natCast]; omega
theorem aX8 {s : ByteArray} {p : Nat} {sg : List UInt8} : aQm s p sg = 0 ↔ aQ5 s p sg = true := by
 unfold aQm
 constructor
 · intro h
   by_cases hh : aQ5 s p sg = true
   · exact hh
   · rw [if_neg hh] at h; unfold aW5 at h; split at h <;> cases h
 · intro h; rw [if_pos h]
theorem bVg {s : ByteArray} {q : Int} : ∀ (f i : Nat), (aZv s q f i).1 = 0 → i ≤ (aZv s q f i).2 ∧ (aZv s q f i).2 < s.size ∧ aQ2 s (aZv s q f i).2 = q
 | 0, i, h => by simp [aZv] at h
 | f + 1, i, h => by
  by_cases hi : i < s.size
  · by_cases hb : aQ2 s i = 60
    · rw [bK5 hi hb] at h; cases h
    · by_cases hq : aQ2 s i = q
      · rw [bK4 hi hb hq]; exact ⟨Nat.le_refl _, hi, hq⟩
      · rw [val_on hi hb hq] at h ⊢
        have := bVg f (i + 1) h
        exact ⟨by omega, this.2⟩
  · rw [val_end hi] at h; cases h
theorem aYc {s : ByteArray} {p : Nat} (h : valF s p = 0) : p < s.size ∧ p + 1 ≤ valE s p ∧ valE s p < s.size ∧ (aQ2 s (valE s p) = 34 ∨ aQ2 s (valE s p) = 39) := by
 unfold valF at h
 by_cases hp : s.size ≤ p
 · rw [if_pos hp] at h; cases h
 · rw [if_neg hp] at h
   by_cases hq : aKe (aQ2 s p) = true
   · rw [if_pos hq] at h
     have := bVg _ _ h
     have hq' := of_decide_eq_true hq
     unfold valE
     refine ⟨by omega, this.1, this.2.1, ?_⟩
     rw [this.2.2]; exact hq'
   · rw [if_neg hq] at h; cases h
theorem val_VB {s : ByteArray} {p : Nat} (h0 : VB s 0) (h : valF s p = 0) : VB s (valP s p) := by
 have hv := aYc h
 refine aJj h0 (by unfold valP; omega) ?_
 unfold valP
 rw [Nat.add_sub_cancel]; omega
theorem aJg {s : ByteArray} {p : Nat} (h : nmF s p = 0) : 1 ≤ aXw s p ∧ aXw s p ≤ 60 ∧ nmP s p < s.size ∧ nmP s p = p + aXw s p := by
 unfold nmF at h
 unfold nmP
 by_cases h1 : 60 < aXw s p
 · rw [if_pos h1] at h; cases h
 · rw [if_neg h1] at h
   by_cases h2 : s.size ≤ p + aXw s p
   · rw [if_pos h2] at h; cases h
   · rw [if_neg h2] at h
     by_cases h3 : aXw s p = 0
     · rw [if_pos h3] at h; cases h
     · omega
theorem nm_VB {s : ByteArray} {p : Nat} (h : VB s p) : VB s (nmP s p) := nameZ_VB h
theorem aK8 {s : ByteArray} {p i : Nat} (_hi : p + i < s.size) : aQ2 (s.extract p s.size) i = aQ2 s (p + i) := by
 unfold aQ2
 rw [aJl]; unfold rest
 simp only [List.getD_eq_getElem?_getD, List.getElem?_drop]
theorem aWx (s : ByteArray) (p : Nat) : (s.extract p s.size).size = s.size - p := by rw [aX7 (Nat.le_refl _)]
theorem vz_ext {s : ByteArray} {p i : Nat} (x0 : Int) : ∀ n, p + i + n < s.size + 0 ∨ n = 0 → vz (s.extract p s.size) i x0 n = vz s (p + i) x0 n
 | 0, _ => rfl
 | n + 1, h => by
  have h' : p + i + (n + 1) < s.size := by omega
  have hb := aK8 (s := s) (p := p) (i := i + (n + 1)) (by omega)
  have ih := vz_ext (s := s) (p := p) (i := i) x0 n (by omega)
  have e := vz_step (s.extract p s.size) i x0 (n + 1) (by omega)
  have e' := vz_step s (p + i) x0 (n + 1) (by omega)
  simp only [Nat.add_sub_cancel] at e e'
  rw [e, e', hb, ih, Nat.add_assoc]
theorem conts_ext {s : ByteArray} {p i n : Nat} (h : p + i + n ≤ s.size) : aWq (s.extract p s.size) i n ↔ aWq s (p + i) n := by
 rw [aXy, aXy]
 constructor
 · intro hh k hk h1
   have := hh k hk h1
   unfold aX1 at this ⊢
   rw [aK8 (by omega)] at this
   rw [Nat.add_assoc]; exact this
 · intro hh k hk h1
   have := hh k hk h1
   unfold aX1 at this ⊢
   rw [aK8 (by omega)]
   rw [Nat.add_assoc] at this; exact this
theorem bW7 {s : ByteArray} {p i n : Nat} {x0 low : Int} (hp : p ≤ s.size) (hn : 1 ≤ n) : fin (s.extract p s.size) i x0 n low = fin s (p + i) x0 n low := by
 unfold fin
 rw [aWx]
 by_cases h : p + i + n ≤ s.size
 · have e := vz_ext (s := s) (p := p) (i := i) x0 (n - 1) (by omega)
   rw [e]
   have c := conts_ext (s := s) (p := p) (i := i) (n := n) h
   have hr : (i + n ≤ s.size - p) ↔ (p + i + n ≤ s.size) := by omega
   simp only [hr, c]
 · rw [if_neg (by omega), if_neg (by omega)]
theorem rune_ext {s : ByteArray} {p i : Nat} (h : p + i < s.size) : aQo (s.extract p s.size) i = aQo s (p + i) := by
 unfold aQo
 rw [aK8 h]
 simp only [bW7 (s := s) (p := p) (i := i) (by omega : p ≤ s.size) (by omega : 1 ≤ 1), bW7 (s := s) (p := p) (i := i) (by omega : p ≤ s.size) (by omega : 1 ≤ 2), bW7 (s := s) (p := p) (i := i) (by omega : p ≤ s.size) (by omega : 1 ≤ 3), bW7 (s := s) (p := p) (i := i) (by omega : p ≤ s.size) (by omega : 1 ≤ 4)]
end Go.Proofs.YtdblemolaojebaaGreatDoor.Plain11
namespace Go.Proofs.YtdblemolaojebaaGreatDoor.Plain12
open Strs Plain6 Plain9 Plain10
abbrev u8At (s : ByteArray) (p : Nat) : UInt8 := s.data.toList.getD p 0
theorem u8At_eq {s : ByteArray} {p : Nat} {c : UInt8} : aQ2 s p = (c.toNat : Int) ↔ u8At s p = c := by
 rw [aXz]
 constructor
 · intro h; exact UInt8.toNat_inj.1 (Int.ofNat.inj h)
 · intro h; rw [← h]
theorem aXb {s : ByteArray} {p : Nat} (n : Nat) (c : UInt8) (hc : c.toNat = n) : aQ2 s p = (n : Int) ↔ u8At s p = c := by
 subst hc; exact u8At_eq
theorem aXk {s : ByteArray} {p : Nat} (h : p < s.size) (c : UInt8) (t : List UInt8) : aQ5 s p (c :: t) = (c == u8At s p && aQ5 s (p + 1) t) := by
 unfold aQ5; rw [aZw h]; rfl
theorem aKz (s : ByteArray) (p : Nat) : aQ5 s p [] = true := by unfold aQ5; simp [List.isPrefixOf]
theorem bJd {s : ByteArray} {p : Nat} (h : s.size ≤ p) (c : UInt8) (t : List UInt8) : aQ5 s p (c :: t) = false := by unfold aQ5; rw [bQg h]; rfl
theorem aZs {s : ByteArray} {p : Nat} (h : p < s.size) (c : UInt8) (t : List UInt8) : (rest s p).isPrefixOf (c :: t) = (u8At s p == c && (rest s (p + 1)).isPrefixOf t) := by rw [aZw h]; rfl
theorem bKh {s : ByteArray} {p : Nat} (h : s.size ≤ p) (t : List UInt8) : (rest s p).isPrefixOf t = true := by rw [bQg h]; simp [List.isPrefixOf]
variable {s : ByteArray} {p : Nat}
theorem mark_end1 (hp : p < s.size) (h0 : aQ2 s p = 60) (h1 : s.size ≤ p + 1) : aJa s p = aQy 1 := by
 have u0 := (aXb 60 60 rfl).1 h0
 unfold aJa
 simp only [aXk hp, u0, bJd h1, Bool.and_false, Bool.false_eq_true, if_false]
 unfold tagZ
 have : nmF s (p + 1) = 1 := by
  unfold nmF
  have hn : aXw s (p + 1) = 0 := aZn (by omega)
  rw [hn, if_neg (by omega), if_pos (by omega)]
 rw [this]; simp
theorem mark_slash (hp : p + 1 < s.size) (h0 : aQ2 s p = 60) (h1 : aQ2 s (p + 1) = 47) : aJa s p = endZ s (p + 2) := by
 have u0 := (aXb 60 60 rfl).1 h0
 have u1 := (aXb 47 47 rfl).1 h1
 unfold aJa
 simp [aXk (show p < s.size by omega), aXk hp, u0, u1, aKz, -List.getD_eq_getElem?_getD]
theorem mark_pi (hp : p + 1 < s.size) (h0 : aQ2 s p = 60) (h1 : aQ2 s (p + 1) = 63) : aJa s p = piZ s (p + 2) := by
 have u0 := (aXb 60 60 rfl).1 h0
 have u1 := (aXb 63 63 rfl).1 h1
 unfold aJa
 simp [aXk (show p < s.size by omega), aXk hp, u0, u1, aKz, -List.getD_eq_getElem?_getD]
theorem mark_tag (hp : p + 1 < s.size) (h0 : aQ2 s p = 60) (h1 : aQ2 s (p + 1) ≠ 47) (h2 : aQ2 s (p + 1) ≠ 63) (h3 : aQ2 s (p + 1) ≠ 33) : aJa s p = tagZ s (p + 1) := by
 have u0 := (aXb 60 60 rfl).1 h0
 have e1 : (47 == u8At s (p + 1)) = false := beq_eq_false_iff_ne.2 fun h => h1 ((aXb 47 47 rfl).2 h.symm)
 have e2 : (63 == u8At s (p + 1)) = false := beq_eq_false_iff_ne.2 fun h => h2 ((aXb 63 63 rfl).2 h.symm)
 have e3 : (33 == u8At s (p + 1)) = false := beq_eq_false_iff_ne.2 fun h => h3 ((aXb 33 33 rfl).2 h.symm)
 unfold aJa
 simp only [aXk (show p < s.size by omega), aXk hp, u0, e1, e2, e3, Bool.false_and, Bool.and_false, Bool.false_eq_true, if_false]
theorem bKr (hp : p + 1 < s.size) (h0 : aQ2 s p = 60) (h1 : aQ2 s (p + 1) = 33) (h2 : s.size ≤ p + 2) : aJa s p = aQy 1 := by
 have u0 := (aXb 60 60 rfl).1 h0
 have u1 := (aXb 33 33 rfl).1 h1
 have e : p + 1 + 1 = p + 2 := rfl
 unfold aJa
 simp [aXk (show p < s.size by omega), aXk hp, e, bJd h2, u0, u1, aKz, aZs (show p < s.size by omega), aZs hp, bKh h2, -List.getD_eq_getElem?_getD]
theorem mark_dash (hp : p + 2 < s.size) (h0 : aQ2 s p = 60) (h1 : aQ2 s (p + 1) = 33) (h2 : aQ2 s (p + 2) = 45) :
 aJa s p = if aQm s (p + 2) [45, 45] = 0 then aXa s (p + 4) else aQy (aQm s (p + 2) [45, 45]) := by
 have u0 := (aXb 60 60 rfl).1 h0
 have u1 := (aXb 33 33 rfl).1 h1
 have u2 := (aXb 45 45 rfl).1 h2
 have e : p + 1 + 1 = p + 2 := rfl
 have e3 : p + 2 + 1 = p + 3 := rfl
 have hl : aW5 s (p + 2) [45, 45] = if (rest s (p + 2)).isPrefixOf [45, 45] = true then 1 else 2 := rfl
 unfold aJa aQm
 rw [hl]
 simp only [aXk (show p < s.size by omega), aXk (show p + 1 < s.size by omega), e, aXk hp, e3, u0, u1, u2, aZs (show p < s.size by omega), aZs (show p + 1 < s.size by omega), aZs hp, aKz]
 cases hh : aQ5 s (p + 3) [45] <;> cases hq : (rest s (p + 3)).isPrefixOf [45] <;> simp
theorem mark_brack (hp : p + 2 < s.size) (h0 : aQ2 s p = 60) (h1 : aQ2 s (p + 1) = 33) (h2 : aQ2 s (p + 2) = 91) :
 aJa s p = if aQm s (p + 2) [91, 67, 68, 65, 84, 65, 91] = 0 then bQy s (p + 9) else aQy (aQm s (p + 2) [91, 67, 68, 65, 84, 65, 91]) := by
 have u0 := (aXb 60 60 rfl).1 h0
 have u1 := (aXb 33 33 rfl).1 h1
 have u2 := (aXb 91 91 rfl).1 h2
 have e : p + 1 + 1 = p + 2 := rfl
 have e3 : p + 2 + 1 = p + 3 := rfl
 have hl : aW5 s (p + 2) [91, 67, 68, 65, 84, 65, 91] = if (rest s (p + 2)).isPrefixOf [91, 67, 68, 65, 84, 65, 91] = true then 1 else 2 := rfl
 unfold aJa aQm
 rw [hl]
 simp only [aXk (show p < s.size by omega), aXk (show p + 1 < s.size by omega), e, aXk hp, e3, u0, u1, u2, aZs (show p < s.size by omega), aZs (show p + 1 < s.size by omega), aZs hp, aKz]
 cases hh : aQ5 s (p + 3) [67, 68, 65, 84, 65, 91] <;> cases hq : (rest s (p + 3)).isPrefixOf [67, 68, 65, 84, 65, 91] <;> simp
theorem mark_doc (hp : p + 2 < s.size) (h0 : aQ2 s p = 60) (h1 : aQ2 s (p + 1) = 33) (h2 : aQ2 s (p + 2) ≠ 45) (h3 : aQ2 s (p + 2) ≠ 91) :
 aJa s p = if aQm s (p + 2) [68, 79, 67, 84, 89, 80, 69] = 0 then aJm s (p + 9) else aQy (aQm s (p + 2) [68, 79, 67, 84, 89, 80, 69]) := by
 have u0 := (aXb 60 60 rfl).1 h0
 have u1 := (aXb 33 33 rfl).1 h1
 have d1 : (45 == u8At s (p + 2)) = false := beq_eq_false_iff_ne.2 fun h => h2 ((aXb 45 45 rfl).2 h.symm)
 have d2 : (91 == u8At s (p + 2)) = false := beq_eq_false_iff_ne.2 fun h => h3 ((aXb 91 91 rfl).2 h.symm)
 have d3 : (u8At s (p + 2) == 45) = false := beq_eq_false_iff_ne.2 fun h => h2 ((aXb 45 45 rfl).2 h)
 have d4 : (u8At s (p + 2) == 91) = false := beq_eq_false_iff_ne.2 fun h => h3 ((aXb 91 91 rfl).2 h)
 have e : p + 1 + 1 = p + 2 := rfl
 have e3 : p + 2 + 1 = p + 3 := rfl
 have hl : aW5 s (p + 2) [68, 79, 67, 84, 89, 80, 69] = if (rest s (p + 2)).isPrefixOf [68, 79, 67, 84, 89, 80, 69] = true then 1 else 2 := rfl
 unfold aJa aQm
 rw [hl]
 simp only [aXk (show p < s.size by omega), aXk (show p + 1 < s.size by omega), e, aXk hp, e3, u0, u1, d1, d2, aZs (show p < s.size by omega), aZs (show p + 1 < s.size by omega), aZs hp, d3, d4, aKz]
 cases hk : (68 == u8At s (p + 2)) <;> cases hm : (u8At s (p + 2) == 68) <;> cases hh : aQ5 s (p + 3) [79, 67, 84, 89, 80, 69] <;> cases hq : (rest s (p + 3)).isPrefixOf [79, 67, 84, 89, 80, 69] <;> simp
end Go.Proofs.YtdblemolaojebaaGreatDoor.Plain12
namespace Go.Proofs.YtdblemolaojebaaGreatDoor.Plain13
open Plain9 Plain10 Plain11
theorem bK6 {s : ByteArray} {p q : Nat} (hpq : p ≤ q) : (⟨((rest s p).take (q - p)).toArray⟩ : ByteArray) = s.extract p q := by
 apply ByteArray.ext
 apply Array.toList_inj.1
 rw [Lib.extract_data]
 unfold rest
 simp [List.take_drop, Nat.add_sub_cancel' hpq]
theorem bJt {s : ByteArray} {p : Nat} {sg : List UInt8} (hp : p ≤ s.size) (h : upF s p sg = 0) :
 (Lib.cut (rest s p) sg).2.2 = true ∧ (⟨(Lib.cut (rest s p) sg).1.toArray⟩ : ByteArray) = upT s p sg ∧ p + ((upT s p sg).size + sg.length) = upP s p sg := by
 unfold upF at h
 rcases aJh s p sg hp with h0 | ⟨i, h0, h1, h2, h3, h4⟩
 · rw [if_pos h0] at h; cases h
 · have hc : Lib.cut (rest s p) sg = ((rest s p).take (i - p), (rest s p).drop ((i - p) + sg.length), true) := by
    unfold Lib.cut
    rw [h4, if_pos (by omega), Int.toNat_natCast]
   rw [hc]
   have hu : upT s p sg = s.extract p i := by unfold upT; rw [h0, Int.toNat_natCast]
   refine ⟨rfl, ?_, ?_⟩
   · rw [hu]; exact bK6 h1
   · rw [hu, aX7 (by omega)]; unfold upP; rw [h0, Int.toNat_natCast]; omega
theorem aYw {s : ByteArray} {p : Nat} {sg : List UInt8} (h : upF s p sg ≠ 0) : Lib.cut (rest s p) sg = (rest s p, [], false) ∧ upF s p sg = 1 := by
 unfold upF at h ⊢
 by_cases h0 : fz s p sg = -1
 · rw [if_pos h0]
   have := (aWo s p sg).1 h0
   unfold Lib.cut
   rw [this, if_neg (by omega)]
   exact ⟨rfl, rfl⟩
 · rw [if_neg h0] at h; exact absurd rfl h
theorem upT_size {s : ByteArray} {p : Nat} {sg : List UInt8} (hp : p ≤ s.size) (h : upF s p sg = 0) : (upT s p sg).size ≤ s.size ∧ upP s p sg ≤ s.size := by
 have h1 := (bJt hp h).2.2
 have h2 := (aYy hp h).1
 omega
end Go.Proofs.YtdblemolaojebaaGreatDoor.Plain13
namespace Go.Proofs.YtdblemolaojebaaGreatDoor.Plain14
open Plain2 Plain3 Plain5 Plain6 Plain9
theorem name_on {s : ByteArray} {p f n c k : Nat} (h : p + n < s.size) (hr : aQo s (p + n) = ((c : Int), k)) (hk : k ≠ 0) (h1 : n = 0 → aW2 (c : Int) = true) (h2 : aWj (c : Int) = true) : aZc s p (f + 1) n = aZc s p f (n + k) := by
 have hs : ¬ aY1 s p n := by
  unfold aY1
  rw [hr]
  rintro (h0 | ⟨h0, h3⟩ | h3)
  · exact hk h0
  · rw [h1 h0] at h3; cases h3
  · rw [h2] at h3; cases h3
 rw [aW4 h hs, hr]
theorem bJ5 {s : ByteArray} {p f n c k : Nat} (h : p + n < s.size) (hr : aQo s (p + n) = ((c : Int), k)) (h1 : (n = 0 ∧ aW2 (c : Int) = false) ∨ aWj (c : Int) = false) : aZc s p (f + 1) n = n := by
 refine aV8 h ?_
 unfold aY1
 rw [hr]
 exact .inr h1
theorem bXp {s : ByteArray} {p : Nat} : ∀ (f n : Nat), p + n ≤ s.size → p + aZc s p f n ≤ s.size
 | 0, n, h => h
 | f + 1, n, h => by
  by_cases hl : p + n < s.size
  · by_cases hs : aY1 s p n
    · rw [aV8 hl hs]; exact h
    · rw [aW4 hl hs]
      refine bXp f _ ?_
      have h0 : (aQo s (p + n)).2 ≠ 0 := fun h0 => hs (.inl h0)
      have := bXa (s := s) (pos := p + n) h0
      omega
  · rw [aZn (by omega)]; exact h
theorem nameZ_roomI {s : ByteArray} {p : Nat} (h : p ≤ s.size) : p + aXw s p ≤ s.size := bXp _ _ h
theorem ext_ext (s : ByteArray) (p n : Nat) : (s.extract p s.size).extract 0 n = s.extract p (p + n) := by
 rw [Lib.extract_eq, Lib.extract_eq s p (p + n), aJl]
 unfold rest
 simp
end Go.Proofs.YtdblemolaojebaaGreatDoor.Plain14
namespace Go.Proofs.YtdblemolaojebaaGreatDoor.Plain15
open Strs Plain6 Plain9 Plain10 Plain12
def tagV (s nm : ByteArray) (f v : Nat) (an : ByteArray) (acc : List (ByteArray × ByteArray)) : Tk :=
 if valF s v ≠ 0 then aQy (valF s v) else if hasZ acc an = true then aQy 3 else aWf s nm f (valP s v) (acc ++ [(an, valT s v)])
def tagS (s nm : ByteArray) (f p : Nat) (an : ByteArray) (acc : List (ByteArray × ByteArray)) : Tk :=
 if aQm s (whiteZ s p) [61] ≠ 0 then aQy (aQm s (whiteZ s p) [61]) else tagV s nm f (whiteZ s (whiteZ s p + 1)) an acc
def tagN (s nm : ByteArray) (f q : Nat) (acc : List (ByteArray × ByteArray)) : Tk :=
 if nmF s q ≠ 0 then aQy (nmF s q) else tagS s nm f (nmP s q) (nmT s q) acc
def endL (s : ByteArray) (q : Nat) : Nat := if (rest s q).isPrefixOf [47, 62] = true ∨ (rest s q).isPrefixOf [62] = true then 1 else 2
def tagE (s nm : ByteArray) (q : Nat) (acc : List (ByteArray × ByteArray)) : Tk :=
 if aQ5 s q [47, 62] = true then ⟨0, 3, nm, ByteArray.empty, acc, q + 2⟩ else if aQ5 s q [62] = true then ⟨0, 1, nm, ByteArray.empty, acc, q + 1⟩ else aQy (endL s q)
theorem tag_step (s nm : ByteArray) (f p : Nat) (acc : List (ByteArray × ByteArray)) : aWf s nm (f + 1) p acc =
 if s.size ≤ whiteZ s p then aQy 1 else if aQ2 s (whiteZ s p) = 62 then ⟨0, 1, nm, ByteArray.empty, acc, whiteZ s p + 1⟩
 else if aQ2 s (whiteZ s p) = 47 then (if aQm s (whiteZ s p) [47, 62] = 0 then ⟨0, 3, nm, ByteArray.empty, acc, whiteZ s p + 2⟩ else aQy (aQm s (whiteZ s p) [47, 62]))
 else if whiteZ s p = p then aQy 2 else tagN s nm f (whiteZ s p) acc := rfl
theorem nmF_end {s : ByteArray} {q : Nat} (h : s.size ≤ q) : nmF s q = 1 := by
 unfold nmF
 have hn : aXw s q = 0 := aZn (by omega)
 rw [hn, if_neg (by omega), if_pos (by omega)]
theorem bQl {s : ByteArray} {k : Nat} (hk : k < s.size) (n : Nat) (c : UInt8) (hc : c.toNat = n) : aQ5 s k [c] = decide (aQ2 s k = (n : Int)) := by
 rw [aXk hk, aKz, Bool.and_true]
 by_cases h : aQ2 s k = (n : Int)
 · rw [decide_eq_true h, (aXb n c hc).1 h]; simp
 · rw [decide_eq_false h]
   exact beq_eq_false_iff_ne.2 fun e => h ((aXb n c hc).2 e.symm)
theorem has47 {s : ByteArray} {k : Nat} (hk : k < s.size) : aQ5 s k [47] = decide (aQ2 s k = 47) := bQl hk 47 47 rfl
theorem has62 {s : ByteArray} {k : Nat} (hk : k < s.size) : aQ5 s k [62] = decide (aQ2 s k = 62) := bQl hk 62 62 rfl
theorem tag_name {s nm : ByteArray} {f p : Nat} {acc : List (ByteArray × ByteArray)} (h1 : p < whiteZ s p) (h2 : aQ5 s (whiteZ s p) [47] = false) (h3 : aQ5 s (whiteZ s p) [62] = false) : aWf s nm (f + 1) p acc = tagN s nm f (whiteZ s p) acc := by
 rw [tag_step]
 by_cases he : s.size ≤ whiteZ s p
 · rw [if_pos he]; unfold tagN; rw [nmF_end he, if_pos (by simp)]
 · have hl : whiteZ s p < s.size := by omega
   rw [has47 hl] at h2
   rw [has62 hl] at h3
   have n2 := of_decide_eq_false h2
   have n3 := of_decide_eq_false h3
   rw [if_neg he, if_neg n3, if_neg n2, if_neg (by omega)]
theorem bX7 {s nm : ByteArray} {f p : Nat} {acc : List (ByteArray × ByteArray)} (h : whiteZ s p = p ∨ aQ5 s (whiteZ s p) [47] = true ∨ aQ5 s (whiteZ s p) [62] = true) : aWf s nm (f + 1) p acc = tagE s nm (whiteZ s p) acc := by
 rw [tag_step]
 unfold tagE endL
 by_cases he : s.size ≤ whiteZ s p
 · rw [if_pos he, bJd he, bJd he, bKh he]
   simp
 · have hl : whiteZ s p < s.size := by omega
   rw [if_neg he]
   rw [has62 hl, has47 hl] at h
   rw [has62 hl]
   by_cases c1 : aQ2 s (whiteZ s p) = 62
   · have c2 : aQ5 s (whiteZ s p) [47, 62] = false := by
      rw [aXk hl]
      have : (47 == u8At s (whiteZ s p)) = false := by rw [(aXb 62 62 rfl).1 c1]; rfl
      rw [this]; rfl
     rw [if_pos c1, c2, if_neg (by simp), decide_eq_true c1, if_pos rfl]
   · rw [if_neg c1]
     by_cases c2 : aQ2 s (whiteZ s p) = 47
     · rw [if_pos c2]
       have u2 := (aXb 47 47 rfl).1 c2
       have p1 : (rest s (whiteZ s p)).isPrefixOf [62] = false := by rw [aZs hl, u2]; rfl
       rw [p1]
       unfold aQm aW5
       by_cases c3 : aQ5 s (whiteZ s p) [47, 62] = true
       · rw [c3]; simp
       · have c3' : aQ5 s (whiteZ s p) [47, 62] = false := eq_false_of_ne_true c3
         rw [c3', decide_eq_false c1]
         by_cases c4 : (rest s (whiteZ s p)).isPrefixOf [47, 62] = true
         · rw [c4]; simp
         · have c4' : (rest s (whiteZ s p)).isPrefixOf [47, 62] = false := eq_false_of_ne_true c4
           rw [c4']; simp
     · rw [if_neg c2]
       rcases h with h | h | h
       · rw [if_pos h]
         have n1 : (47 == u8At s (whiteZ s p)) = false := beq_eq_false_iff_ne.2 fun e => c2 ((aXb 47 47 rfl).2 e.symm)
         have n2 : (u8At s (whiteZ s p) == 47) = false := beq_eq_false_iff_ne.2 fun e => c2 ((aXb 47 47 rfl).2 e)
         have n3 : (u8At s (whiteZ s p) == 62) = false := beq_eq_false_iff_ne.2 fun e => c1 ((aXb 62 62 rfl).2 e)
         rw [aXk hl, n1, aZs hl, aZs hl, n2, n3, decide_eq_false c1]
         simp
       · exact absurd (of_decide_eq_true h) c2
       · exact absurd (of_decide_eq_true h) c1
end Go.Proofs.YtdblemolaojebaaGreatDoor.Plain15
namespace Go.Proofs.YtdblemolaojebaaGreatDoor.Plain16
open Plain10
theorem mustF_le (s : ByteArray) (p : Nat) (sg : List UInt8) : aQm s p sg ≤ 3 := by unfold aQm aW5; split <;> (try split) <;> omega
theorem upF_le (s : ByteArray) (p : Nat) (sg : List UInt8) : upF s p sg ≤ 3 := by unfold upF; split <;> omega
theorem nmF_le (s : ByteArray) (p : Nat) : nmF s p ≤ 3 := by unfold nmF; split <;> (try split) <;> (try split) <;> omega
theorem valGo_le (s : ByteArray) (q : Int) : ∀ f i, (aZv s q f i).1 ≤ 3
 | 0, i => by simp [aZv]
 | f + 1, i => by
  unfold aZv
  split
  · split
    · simp
    · split
      · simp
      · exact valGo_le s q f (i + 1)
  · simp
theorem valF_le (s : ByteArray) (p : Nat) : valF s p ≤ 3 := by
 unfold valF; split
 · omega
 · split
   · exact valGo_le _ _ _ _
   · omega
theorem subGo_le (s : ByteArray) : ∀ f p, (aZa s f p).1 ≤ 3
 | 0, p => by simp [aZa]
 | f + 1, p => by
  unfold aZa
  repeat' split
  all_goals first | exact subGo_le s f _ | simp
theorem subF_le (s : ByteArray) (p : Nat) : subF s p ≤ 3 := subGo_le _ _ _
theorem fail_fl (f : Nat) : (aQy f).fl = f := rfl
theorem tagGo_le (s nm : ByteArray) : ∀ f p acc, (aWf s nm f p acc).fl ≤ 3
 | 0, p, acc => by simp [aWf, aQy]
 | f + 1, p, acc => by
  unfold aWf
  dsimp only
  repeat' split
  all_goals first | exact tagGo_le s nm f _ _ | exact mustF_le _ _ _ | exact nmF_le _ _ | exact valF_le _ _ | (simp [aQy]; done) | (simp [fail_fl])
theorem markZ_le (s : ByteArray) (p : Nat) : (aJa s p).fl ≤ 3 := by
 unfold aJa aXa bQy aJm piZ endZ tagZ
 dsimp only
 repeat' split
 all_goals first | exact tagGo_le _ _ _ _ _ | exact mustF_le _ _ _ | exact nmF_le _ _ | exact upF_le _ _ _ | exact subF_le _ _ | (simp [aQy]; done) | (simp [fail_fl])
theorem textZ_le (s : ByteArray) (p : Nat) (closed : Bool) : (aWe s p closed).fl ≤ 3 := by
 unfold aWe; repeat' split
 all_goals simp [aQy]
end Go.Proofs.YtdblemolaojebaaGreatDoor.Plain16
namespace Go.Proofs.YtdblemolaojebaaGreatDoor.Plain17
open Plain10
theorem tagGo_len (s nm : ByteArray) : ∀ f p acc, (aWf s nm f p acc).attrs.length ≤ acc.length + f
 | 0, p, acc => by simp [aWf, aQy]
 | f + 1, p, acc => by
  unfold aWf
  dsimp only
  repeat' split
  all_goals first
   | (refine Nat.le_trans (tagGo_len s nm f _ _) ?_; simp only [List.length_append, List.length_cons, List.length_nil]; omega)
   | (simp [aQy]; done)
   | (simp only []; omega)
theorem markZ_len (s : ByteArray) (p : Nat) : (aJa s p).attrs.length ≤ s.size + 1 := by
 unfold aJa aXa bQy aJm piZ endZ tagZ
 dsimp only
 repeat' split
 all_goals first
  | (refine Nat.le_trans (tagGo_len _ _ _ _ _) ?_; simp; done)
  | (simp [aQy]; done)
theorem textZ_len (s : ByteArray) (p : Nat) (closed : Bool) : (aWe s p closed).attrs.length = 0 := by
 unfold aWe
 by_cases h : Lib.index (s.extract p (aJ4 s p)).data.toList [93, 93, 62] ≠ -1
 · rw [if_pos h]; rfl
 · rw [if_neg h]
   by_cases h2 : aJ4 s p = s.size ∧ closed = false
   · rw [if_pos h2]; rfl
   · rw [if_neg h2]; rfl
end Go.Proofs.YtdblemolaojebaaGreatDoor.Plain17
