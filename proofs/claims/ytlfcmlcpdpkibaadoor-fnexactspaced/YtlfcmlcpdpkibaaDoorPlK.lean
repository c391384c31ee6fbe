/- Plain mathematics of the head: references, values, definitions, marks, and what a head tells. Nothing of the program is named here. -/
/- Plain mathematics of lines' ends: the model's way byte by byte, and the program's way by two replacements. Nothing of the program is named here. -/
/- Plain mathematics of reading: values, content and documents as the program reads them. Nothing of the program is named here. -/
/- Plain mathematics: a name parted at its colon. Nothing of the program is named here. -/
/- Plain mathematics of names and their spaces: rows of events, declarations, scopes, nodes. Nothing of the program is named here. -/
import Derived.Test.YtlfcmlcpdpkibaaDoorPlB
import Derived.Test.YtlfcmlcpdpkibaaDoorPlA
import Derived.Test.YtlfcmlcpdpkibaaDoorAtA
import Derived.Lib.Replace
import Derived.Lib.CountLaws
import Derived.Laws.BytesArg
import Derived.Lib.FieldsP
import Derived.Lib.Join
namespace Go.Proofs.YtlfcmlcpdpkibaaDoor.Plain23
open Go.RowKit Plain1 Strs Strs2 Lists Bytes Ents Plain3 Plain5 Plain6 Plain9 Plain10 Plain11 Plain12 Go.Lib

/-- A digit's number, 99 of what is none. -/
def digV (c : UInt8) : Nat := if 48 ≤ c.toNat ∧ c.toNat ≤ 57 then c.toNat - 48 else if 97 ≤ c.toNat ∧ c.toNat ≤ 102 then c.toNat - 87 else if 65 ≤ c.toNat ∧ c.toNat ≤ 70 then c.toNat - 55 else 99
def digs (base : Nat) (l : List UInt8) : List UInt8 := l.takeWhile fun c => decide (digV c < base)
def digX (base : Nat) (l : List UInt8) : Nat := l.foldl (fun n c => base * n + digV c) 0
def numBase (s : ByteArray) (p : Nat) : Nat := if hasAt s p [120] = true then 16 else 10
def numAt (s : ByteArray) (p : Nat) : Nat := if hasAt s p [120] = true then p + 1 else p
/-- The digits behind a number's sign. -/
def numD (s : ByteArray) (p : Nat) : List UInt8 := digs (numBase s p) (rest s (numAt s p))
def numV (s : ByteArray) (p : Nat) : Nat := digX (numBase s p) (numD s p)
abbrev numOk (s : ByteArray) (p : Nat) : Prop := 1 ≤ (numD s p).length ∧ (numD s p).length ≤ 8 ∧ hasAt s (numAt s p + (numD s p).length) [59] = true ∧ charB (numV s p) = true
/-- What stands behind a number's sign: the character, the place behind it. -/
def numZ (s : ByteArray) (p : Nat) : Option (Int × Nat) := if numOk s p then some ((numV s p : Int), numAt s p + (numD s p).length + 1) else none
/-- What a reference has: a character, or a name. -/
abbrev Rf := Int ⊕ ByteArray
def namedZ (s : ByteArray) (p : Nat) : Option (ByteArray × Nat) := if nmF s p = 0 ∧ hasAt s (nmP s p) [59] = true then some (nmT s p, nmP s p + 1) else none
/-- A reference whose sign stands at a place: what it has, the place behind it. -/
def refZ (s : ByteArray) (p : Nat) : Option (Rf × Nat) :=
  if hasAt s (p + 1) [35] = true then (numZ s (p + 2)).map fun x => (.inl x.1, x.2) else (namedZ s (p + 1)).map fun x => (.inr x.1, x.2)
def nums (s : ByteArray) : List Int := s.data.toList.map fun c => (c.toNat : Int)
/-- The text of an entity, out of a value. -/
def entGo (v : ByteArray) : Nat → Nat → List Int → Option (List Int)
  | 0, _, acc => some acc
  | f + 1, i, acc =>
    if i < v.size then
      if byteAt v i = 37 then none
      else if byteAt v i = 38 then
        match refZ v i with
        | none => none
        | some (.inl n, q) => entGo v f q (acc ++ encodeRuneZ n)
        | some (.inr _, q) => entGo v f q (acc ++ nums (v.extract i q))
      else entGo v f (i + 1) (acc ++ [byteAt v i])
    else some acc
def entO (v : ByteArray) : Option (List Int) := entGo v (v.size + 1) 0 []

/-- A definition: an entity's, or an attribute's. -/
abbrev Df := (ByteArray × ByteArray) ⊕ At5
def gapO (s : ByteArray) (p : Nat) : Option Nat := if p < whiteZ s p then some (whiteZ s p) else none
def nameO (s : ByteArray) (p : Nat) : Option (ByteArray × Nat) := if nmF s p = 0 then some (nmT s p, nmP s p) else none
def valO (s : ByteArray) (p : Nat) : Option (ByteArray × Nat) := if valF s p = 0 then some (valT s p, valP s p) else none
def u8 (s : ByteArray) (p : Nat) : UInt8 := s.data.toList.getD p 0
/-- A text between two like signs. -/
def qtO (s : ByteArray) (p : Nat) : Option (ByteArray × Nat) :=
  if p < s.size ∧ quoteB (byteAt s p) = true ∧ upF s (p + 1) [u8 s p] = 0 then some (upT s (p + 1) [u8 s p], upP s (p + 1) [u8 s p]) else none
def mustO (s : ByteArray) (p : Nat) (sg : List UInt8) : Option Nat := if hasAt s p sg = true then some (p + sg.length) else none
def entityZ (s : ByteArray) (p : Nat) : Option (List Df × Nat) :=
  (gapO s p).bind fun a => (nameO s a).bind fun n => (gapO s n.2).bind fun b => (qtO s b).bind fun v => (entO v.1).bind fun t => (mustO s (whiteZ s v.2) [62]).bind fun q => some ([.inl (n.1, strOfNums t)], q)
def kindZ (k : ByteArray) : Option Bool :=
  if k.data.toList = [67, 68, 65, 84, 65] then some false
  else if k.data.toList = [73, 68] ∨ k.data.toList = [73, 68, 82, 69, 70] ∨ k.data.toList = [78, 77, 84, 79, 75, 69, 78] ∨ k.data.toList = [78, 77, 84, 79, 75, 69, 78, 83] then some true
  else none
def reqL : List UInt8 := [35, 82, 69, 81, 85, 73, 82, 69, 68]
def impL : List UInt8 := [35, 73, 77, 80, 76, 73, 69, 68]
def fixL : List UInt8 := [35, 70, 73, 88, 69, 68]
/-- The default of a definition: has it a value, which, the place behind it. -/
def defZ (s : ByteArray) (p : Nat) : Option (Bool × ByteArray × Nat) :=
  if hasAt s p reqL = true then some (false, ⟨#[]⟩, p + 9)
  else if hasAt s p impL = true then some (false, ⟨#[]⟩, p + 8)
  else if hasAt s p fixL = true then (gapO s (p + 6)).bind fun a => (valO s a).bind fun v => some (true, v.1, v.2)
  else (valO s p).bind fun v => some (true, v.1, v.2)
def attZ (s o : ByteArray) (p : Nat) : Option (At5 × Nat) :=
  (nameO s p).bind fun n => (gapO s n.2).bind fun a => (nameO s a).bind fun k => (kindZ k.1).bind fun wd => (gapO s k.2).bind fun b => (defZ s b).bind fun d => some (⟨o, n.1, wd, d.1, d.2.1⟩, d.2.2)
def attsGo (s o : ByteArray) : Nat → Nat → List At5 → Option (List At5 × Nat)
  | 0, _, _ => none
  | f + 1, p, acc =>
    if hasAt s (whiteZ s p) [62] = true then some (acc, whiteZ s p + 1)
    else if whiteZ s p = p then none
    else match attZ s o (whiteZ s p) with
      | none => none
      | some (a, q) => attsGo s o f q (acc ++ [a])
def attlistZ (s : ByteArray) (p : Nat) : Option (List Df × Nat) :=
  (gapO s p).bind fun a => (nameO s a).bind fun n => (attsGo s n.1 (s.size + 1) n.2 []).bind fun l => some (l.1.map .inr, l.2)
def elementZ (s : ByteArray) (p : Nat) : Option (List Df × Nat) :=
  (gapO s p).bind fun a => (nameO s a).bind fun n => (gapO s n.2).bind fun b => if upF s b [62] = 0 ∧ Lib.index (upT s b [62]).data.toList [60] = -1 then some ([], upP s b [62]) else none
def entL : List UInt8 := [60, 33, 69, 78, 84, 73, 84, 89]
def attL : List UInt8 := [60, 33, 65, 84, 84, 76, 73, 83, 84]
def eleL : List UInt8 := [60, 33, 69, 76, 69, 77, 69, 78, 84]
/-- A mark of a head: what it defines, the place behind it. -/
def markO (s : ByteArray) (p : Nat) : Option (List Df × Nat) :=
  if hasAt s p [60, 33, 45, 45] = true then (if (commentZ s (p + 4)).fl = 0 then some ([], (commentZ s (p + 4)).pos) else none)
  else if hasAt s p [60, 63] = true then (if (piZ s (p + 2)).fl = 0 then some ([], (piZ s (p + 2)).pos) else none)
  else if hasAt s p entL = true then entityZ s (p + 8)
  else if hasAt s p attL = true then attlistZ s (p + 9)
  else if hasAt s p eleL = true then elementZ s (p + 9)
  else none
structure Dt where
  ents : List (ByteArray × ByteArray)
  atts : List At5
def addD (d : Dt) : Df → Dt
  | .inl e => if (d.ents.find? (isEnt e.1)).isSome = true then d else ⟨d.ents ++ [e], d.atts⟩
  | .inr a => if (d.atts.find? (isAtt a.of a.nm)).isSome = true then d else ⟨d.ents, d.atts ++ [a]⟩
def addAll (d : Dt) (l : List Df) : Dt := l.foldl addD d
def fullB (d : Dt) : Bool := decide (40 < d.ents.length ∨ 40 < d.atts.length)
structure DOut where
  dtd : Dt
  at1 : Int
  code : Int
def dFail (at1 code : Int) : DOut := ⟨⟨[], []⟩, at1, code⟩
/-- The program's way: what is full is told at the end. -/
def implGo (s : ByteArray) : Nat → Nat → Dt → Int → DOut
  | 0, _, _, _ => dFail 0 0
  | f + 1, p, d, fu =>
    if whiteZ s p < s.size then
      match markO s (whiteZ s p) with
      | none => dFail (whiteZ s p : Int) 3
      | some (l, q) => implGo s f q (addAll d l) (if fu < 0 ∧ fullB (addAll d l) = true then (whiteZ s p : Int) else fu)
    else if fu < 0 then ⟨d, 0, 0⟩ else dFail fu 7
/-- The model's way: what is full is told at once. -/
def specGo (s : ByteArray) : Nat → Nat → Dt → DOut
  | 0, _, _ => dFail 0 0
  | f + 1, p, d =>
    if whiteZ s p < s.size then
      match markO s (whiteZ s p) with
      | none => dFail (whiteZ s p : Int) 3
      | some (l, q) => if fullB (addAll d l) = true then dFail (whiteZ s p : Int) 7 else specGo s f q (addAll d l)
    else ⟨d, 0, 0⟩
abbrev headOk (s : ByteArray) : Prop := (scanAll s).2 < 0 ∧ fz s 0 [13] = -1
def implDtd (s : ByteArray) : DOut := if 4000 < s.size then dFail 0 2 else if headOk s then implGo s (s.size + 1) 0 ⟨[], []⟩ (-1) else dFail 0 1
def specDtd (s : ByteArray) : DOut := if 4000 < s.size then dFail 0 2 else if headOk s then specGo s (s.size + 1) 0 ⟨[], []⟩ else dFail 0 1

theorem gap_some {s : ByteArray} {p q : Nat} (h : gapO s p = some q) : p < q ∧ q = whiteZ s p ∧ (p ≤ s.size → q ≤ s.size) := by
  unfold gapO at h
  split at h
  · cases h; exact ⟨by assumption, rfl, whiteZ_le⟩
  · cases h
theorem name_some {s : ByteArray} {p : Nat} {n : ByteArray × Nat} (h : nameO s p = some n) : nmF s p = 0 ∧ n.1 = nmT s p ∧ n.2 = nmP s p ∧ p < n.2 ∧ n.2 < s.size := by
  unfold nameO at h
  split at h
  · rename_i h0
    cases h
    have := nm_spec h0
    exact ⟨h0, rfl, rfl, by simp only; omega, this.2.2.1⟩
  · cases h
theorem name_none {s : ByteArray} {p : Nat} (h : nmF s p ≠ 0) : nameO s p = none := by unfold nameO; rw [if_neg h]
theorem name_yes {s : ByteArray} {p : Nat} (h : nmF s p = 0) : nameO s p = some (nmT s p, nmP s p) := by unfold nameO; rw [if_pos h]
theorem val_some {s : ByteArray} {p : Nat} {n : ByteArray × Nat} (h : valO s p = some n) : valF s p = 0 ∧ n.1 = valT s p ∧ n.2 = valP s p ∧ p + 1 < n.2 ∧ n.2 ≤ s.size := by
  unfold valO at h
  split at h
  · rename_i h0
    cases h
    have := val_spec h0
    refine ⟨h0, rfl, rfl, ?_, ?_⟩ <;> simp only [valP] <;> omega
  · cases h
theorem must_some {s : ByteArray} {p q : Nat} {sg : List UInt8} (h : mustO s p sg = some q) : hasAt s p sg = true ∧ q = p + sg.length := by
  unfold mustO at h
  split at h
  · rename_i h0; cases h; exact ⟨h0, rfl⟩
  · cases h
theorem qt_some {s : ByteArray} {p : Nat} {n : ByteArray × Nat} (h : qtO s p = some n) : p < s.size ∧ quoteB (byteAt s p) = true ∧ upF s (p + 1) [u8 s p] = 0 ∧ n.1 = upT s (p + 1) [u8 s p] ∧ n.2 = upP s (p + 1) [u8 s p] ∧ p + 1 < n.2 ∧ n.2 ≤ s.size := by
  unfold qtO at h
  split at h
  · rename_i h0
    cases h
    have := up_le (sg := [u8 s p]) (show p + 1 ≤ s.size by omega) h0.2.2
    refine ⟨h0.1, h0.2.1, h0.2.2, rfl, rfl, ?_, this.1⟩
    have h2 := this.2
    simp only [List.length_cons, List.length_nil] at h2 ⊢
    simp only [upP] at h2 ⊢
    simp only [List.length_cons, List.length_nil] at h2 ⊢
    omega
  · cases h
end Go.Proofs.YtlfcmlcpdpkibaaDoor.Plain23

namespace Go.Proofs.YtlfcmlcpdpkibaaDoor.Plain7
open Go.Lib Strs

def endsE : List UInt8 → List UInt8
  | [] => []
  | c :: t => if c ≠ 13 then c :: endsE t else if t.head? = some 10 then endsE t else 10 :: endsE t

section
variable {old new : List UInt8}
theorem rep_eq (h : (old == new) = false) (s : List UInt8) : replaceAll s old new = replaceK old new (count s old) s := by
  unfold replaceAll replace
  rw [h]
  simp [replaceNum]
theorem rep_nil (h : (old == new) = false) (ho : old ≠ []) : replaceAll [] old new = [] := by
  have hi : index [] old = -1 := by
    cases old with
    | nil => exact absurd rfl ho
    | cons a l => rfl
  rw [rep_eq h, count_miss hi]
  rfl
theorem rep_pre (h : (old == new) = false) (ho : old ≠ []) {c : UInt8} {t : List UInt8} (hp : old.isPrefixOf (c :: t) = true) : replaceAll (c :: t) old new = new ++ replaceAll ((c :: t).drop old.length) old new := by
  have hi : index (c :: t) old = ((0 : Nat) : Int) := by unfold index; rw [if_pos hp]; rfl
  rw [rep_eq h, rep_eq h, count_hit ho hi, Nat.add_comm 1, replaceK_hit _ _ _ _ 0 hi]
  simp
theorem rep_cons (h : (old == new) = false) (ho : old ≠ []) {c : UInt8} {t : List UInt8} (hp : old.isPrefixOf (c :: t) = false) : replaceAll (c :: t) old new = c :: replaceAll t old new := by
  rw [rep_eq h, rep_eq h]
  have hge := index_ge t old
  by_cases hm : index t old = -1
  · have hi : index (c :: t) old = -1 := by unfold index; rw [if_neg (by simp [hp]), if_pos (by simp [hm])]
    rw [count_miss hi, count_miss hm]
    rfl
  · obtain ⟨i, hi⟩ : ∃ i : Nat, index t old = i := ⟨(index t old).toNat, by omega⟩
    have hi' : index (c :: t) old = ((i + 1 : Nat) : Int) := by unfold index; rw [if_neg (by simp [hp]), if_neg (by simp [hm]), hi]; omega
    rw [count_hit ho hi', count_hit ho hi, Nat.add_comm 1, Nat.add_comm 1, replaceK_hit _ _ _ _ (i + 1) hi', replaceK_hit _ _ _ _ i hi]
    simp [Nat.add_right_comm i 1]
end

theorem pre1 (c : UInt8) (t : List UInt8) : [(13 : UInt8)].isPrefixOf (c :: t) = decide (c = 13) := by
  simp [List.isPrefixOf]
  by_cases h : c = 13
  · simp [h]
  · simp [h]; intro e; exact h e.symm
theorem pre2 (c : UInt8) (t : List UInt8) : [(13 : UInt8), 10].isPrefixOf (c :: t) = (decide (c = 13) && decide (t.head? = some 10)) := by
  cases t with
  | nil => simp [List.isPrefixOf]
  | cons d u =>
    apply Bool.eq_iff_iff.2
    simp only [List.isPrefixOf, Bool.and_true, Bool.and_eq_true, beq_iff_eq, decide_eq_true_eq, List.head?_cons, Option.some.injEq]
    exact ⟨fun ⟨a, b⟩ => ⟨a.symm, b.symm⟩, fun ⟨a, b⟩ => ⟨a.symm, b.symm⟩⟩

theorem ends_two : ∀ (n : Nat) (l : List UInt8), l.length ≤ n → replaceAll (replaceAll l [13, 10] [10]) [13] [10] = endsE l
  | _, [], _ => by rw [rep_nil rfl (by simp), rep_nil rfl (by simp)]; rfl
  | 0, c :: t, h => by simp at h
  | n + 1, c :: t, h => by
    simp at h
    have p1 := fun x => pre1 c x
    have p2 := pre2 c t
    by_cases hc : c = 13
    · subst hc
      by_cases ht : t.head? = some 10
      · obtain ⟨u, rfl⟩ : ∃ u, t = 10 :: u := by
          cases t with
          | nil => simp at ht
          | cons d u => simp at ht; exact ⟨u, by rw [ht]⟩
        rw [rep_pre (old := [13, 10]) (new := [10]) rfl (by simp) (by rw [p2]; simp)]
        simp only [List.length_cons, List.length_nil, List.drop_succ_cons, List.drop_zero, List.cons_append, List.nil_append]
        rw [rep_cons (old := [13]) (new := [10]) rfl (by simp) (by rw [pre1]; decide), ends_two n u (by simp at h; omega)]
        simp [endsE]
      · rw [rep_cons (old := [13, 10]) (new := [10]) rfl (by simp) (by rw [p2]; simp [ht]), rep_pre (old := [13]) (new := [10]) rfl (by simp) (by rw [p1]; simp)]
        simp only [List.length_cons, List.length_nil, List.drop_succ_cons, List.drop_zero, List.cons_append, List.nil_append]
        rw [ends_two n t (by omega)]
        simp [endsE, ht]
    · rw [rep_cons (old := [13, 10]) (new := [10]) rfl (by simp) (by rw [p2]; simp [hc]), rep_cons (old := [13]) (new := [10]) rfl (by simp) (by rw [p1]; simp [hc]), ends_two n t (by omega)]
      simp [endsE, hc]

theorem rep_len (new : List UInt8) : ∀ (n : Nat) (old l : List UInt8), l.length ≤ n → old ≠ [] → (old == new) = false → new.length ≤ old.length → (replaceAll l old new).length ≤ l.length
  | _, old, [], _, ho, hne, _ => by rw [rep_nil hne ho]; simp
  | 0, _, c :: t, h, _, _, _ => by simp at h
  | n + 1, old, c :: t, h, ho, hne, hl => by
    cases hp : old.isPrefixOf (c :: t) with
    | true =>
      rw [rep_pre hne ho hp, List.length_append]
      have hol : 1 ≤ old.length := by cases old with | nil => exact absurd rfl ho | cons a b => simp
      have hpl : old.length ≤ (c :: t).length := (List.isPrefixOf_iff_prefix.1 hp).length_le
      have := rep_len new n old ((c :: t).drop old.length) (by simp at h ⊢; omega) ho hne hl
      rw [List.length_drop] at this
      omega
    | false =>
      rw [rep_cons hne ho hp]
      have := rep_len new n old t (by simp at h; omega) ho hne hl
      simp; omega
theorem endsE_len (l : List UInt8) : (endsE l).length ≤ l.length := by
  induction l with
  | nil => simp [endsE]
  | cons c t ih =>
    unfold endsE
    split
    · simp; omega
    · split
      · simp; omega
      · simp; omega

/-- The model's answer so far, at place k. -/
theorem ends_step {l acc : List UInt8} {k : Nat} (h : endsE l = acc ++ endsE (l.drop k)) (hk : k < l.length) :
    (l.getD k 0 ≠ 13 → endsE l = (acc ++ [l.getD k 0]) ++ endsE (l.drop (k + 1))) ∧ (l.getD k 0 = 13 → k + 1 < l.length → l.getD (k + 1) 0 = 10 → endsE l = acc ++ endsE (l.drop (k + 1))) ∧
    (l.getD k 0 = 13 → (l.length ≤ k + 1 ∨ l.getD (k + 1) 0 ≠ 10) → endsE l = (acc ++ [10]) ++ endsE (l.drop (k + 1))) := by
  have e : l.drop k = l.getD k 0 :: l.drop (k + 1) := by rw [List.drop_eq_getElem_cons hk]; simp [List.getD, hk]
  have hh : (l.drop (k + 1)).head? = l[k + 1]? := by simp
  rw [e] at h
  refine ⟨fun h1 => ?_, fun h1 h2 h3 => ?_, fun h1 h2 => ?_⟩
  · rw [h]; simp only [endsE]; rw [if_pos h1]; simp
  · rw [h]; simp only [endsE]; rw [if_neg (by simpa using h1), if_pos]
    rw [hh]
    simp [List.getD, h2] at h3
    simp [h2, h3]
  · rw [h]; simp only [endsE]; rw [if_neg (by simpa using h1), if_neg]
    · simp
    · rw [hh]
      intro hx
      rcases h2 with h2 | h2
      · rw [List.getElem?_eq_none (by omega)] at hx; cases hx
      · apply h2; simp [List.getD, hx]

def numsOf (l : List UInt8) : List Int := l.map fun b => (b.toNat : Int)
theorem strOf_nums (l : List UInt8) : strOfNums (numsOf l) = ⟨l.toArray⟩ := by
  unfold strOfNums numsOf
  congr 2
  rw [List.map_map]
  apply List.ext_getElem
  · simp
  · intro i h1 h2
    simp
theorem numsOf_snoc (l : List UInt8) (c : UInt8) : numsOf (l ++ [c]) = numsOf l ++ [(c.toNat : Int)] := by simp [numsOf]
theorem byteAt_get (s : ByteArray) (k : Nat) : byteAt s k = ((s.data.toList.getD k 0).toNat : Int) := rfl
theorem u8_toNat_eq (x y : UInt8) : (x.toNat : Int) = (y.toNat : Int) ↔ x = y := by
  constructor
  · intro h; exact UInt8.toNat.inj (by omega)
  · intro h; rw [h]
end Go.Proofs.YtlfcmlcpdpkibaaDoor.Plain7

namespace Go.Proofs.YtlfcmlcpdpkibaaDoor.PlainR
open Go.RowKit Plain1 Strs Strs2 Lists Bytes Ents Plain3 Plain5 Plain6 Plain7 Plain9 Plain10 Plain11 Plain12 Plain23 Go.Lib

structure Ev where
  kind : Int
  name : ByteArray
  text : ByteArray
  attrs : List (ByteArray × ByteArray)
/-- What a reader has. -/
structure Rs where
  dt : Dt
  evs : List Ev
  txt : List UInt8
  pos : Nat
  deep : Nat
  wi : List ByteArray
  spent : Nat
def ampE (s : ByteArray) (p : Nat) : Nat := if fz s p [38] = -1 then s.size else (fz s p [38]).toNat
def encB (n : Int) : List UInt8 := (Utf8.encode n).data.toList
/-- What a name stands for by itself. -/
def givenZ (nm : ByteArray) : Option UInt8 :=
  if nm.toList == [108, 116] then some 60
  else if nm.toList == [103, 116] then some 62
  else if nm.toList == [97, 109, 112] then some 38
  else if nm.toList == [97, 112, 111, 115] then some 39
  else if nm.toList == [113, 117, 111, 116] then some 34
  else none
def inB (l : List ByteArray) (nm : ByteArray) : Bool := l.any fun x => x.toList == nm.toList
/-- What stands as it is in a value: no sign 60, each white a blank. -/
def plainV : List UInt8 → Option (List UInt8)
  | [] => some []
  | c :: l => if c = 60 then none else (plainV l).map fun r => (if c = 9 ∨ c = 10 then 32 else c) :: r
/-- What an entity's name leads to: its text, or a fault. -/
def entTo (D : Dt) (wi : List ByteArray) (sp : Nat) (nm : ByteArray) : Except Int ByteArray :=
  if (entR D.ents nm).1.size = 0 then .error 5
  else if inB wi nm = true then .error 9
  else if 4000 < sp + (entR D.ents nm).2.size then .error 7
  else .ok (entR D.ents nm).2
/-- A reader, and the bytes of a value in the making. -/
abbrev Sg := Rs × List UInt8
def plainP (v : Bool) (σ : Sg) (t : List UInt8) : Option Sg := if v = true then (plainV t).map fun l => (σ.1, σ.2 ++ l) else some ({ σ.1 with txt := σ.1.txt ++ t }, σ.2)
def signP (v : Bool) (σ : Sg) (l : List UInt8) : Sg := if v = true then (σ.1, σ.2 ++ l) else ({ σ.1 with txt := σ.1.txt ++ l }, σ.2)
def goIn (σ : Sg) (nm tx : ByteArray) : Sg := ({ σ.1 with wi := nm :: σ.1.wi, spent := σ.1.spent + tx.size }, σ.2)
def goOut (wi : List ByteArray) (σ : Sg) : Sg := ({ σ.1 with wi := wi }, σ.2)
/-- A text part by part, in a value or in content; what an entity's text does is handed in. -/
def partsG (v : Bool) (EN : Sg → ByteArray → Sg × Option Int) : Nat → ByteArray → Nat → Sg → Sg × Option Int
  | 0, _, _, σ => (σ, some 0)
  | n + 1, s, p, σ =>
    if s.size ≤ p then (σ, none)
    else if byteAt s p ≠ 38 then
      match plainP v σ (s.extract p (ampE s p)).data.toList with
      | none => (σ, some 3)
      | some σ' => partsG v EN n s (ampE s p) σ'
    else
      match refZ s p with
      | none => (σ, some 3)
      | some (.inl c, q) => partsG v EN n s q (signP v σ (encB c))
      | some (.inr nm, q) =>
        match givenZ nm with
        | some b => partsG v EN n s q (signP v σ [b])
        | none =>
          match entTo σ.1.dt σ.1.wi σ.1.spent nm with
          | .error c => (σ, some c)
          | .ok tx =>
            match EN (goIn σ nm tx) tx with
            | (σ2, some c) => (σ2, some c)
            | (σ2, none) => partsG v EN n s q (goOut σ.1.wi σ2)
/-- An entity's text in a value. -/
def valE : Nat → Sg → ByteArray → Sg × Option Int
  | 0, σ, _ => (σ, some 0)
  | f + 1, σ, tx => partsG true (valE f) (tx.size + 1) tx 0 σ
def valFuel : Nat := 4003
/-- Blanks put right: the words with one blank between. -/
def blankP (n : Nat) : Bool := n == 32
def wordsT (s : ByteArray) : ByteArray := ⟨(Lib.join ((Lib.goFieldsP blankP s).map (·.data.toList)) [32]).toArray⟩
/-- The value of an attribute. -/
def valueZ (st : Rs) (t : ByteArray) (words : Bool) : Rs × Except Int ByteArray :=
  match partsG true (valE valFuel) (t.size + 1) t 0 (st, []) with
  | (σ, some c) => (σ.1, .error c)
  | (σ, none) => (σ.1, .ok (if words = true then wordsT ⟨σ.2.toArray⟩ else ⟨σ.2.toArray⟩))
/-- The values of some attributes: name, text, words. -/
def valsZ : List (ByteArray × ByteArray × Bool) → Rs → List (ByteArray × ByteArray) → Rs × Except Int (List (ByteArray × ByteArray))
  | [], st, acc => (st, .ok acc)
  | a :: l, st, acc =>
    match valueZ st a.2.1 a.2.2 with
    | (st', .error c) => (st', .error c)
    | (st', .ok v) => valsZ l st' (acc ++ [(a.1, v)])
def ownA (D : Dt) (nm : ByteArray) (l : List (ByteArray × ByteArray)) : List (ByteArray × ByteArray × Bool) := l.map fun a => (a.1, a.2, (attR D.atts nm a.1).words)
def defA (D : Dt) (nm : ByteArray) (l : List (ByteArray × ByteArray)) : List (ByteArray × ByteArray × Bool) :=
  (D.atts.filter fun a => (a.of.toList == nm.toList) && (a.has && !hasZ l a.nm)).map fun a => (a.nm, a.val, a.words)
def tellZ (st : Rs) (e : Ev) : Rs := { st with evs := (if st.txt = [] then st.evs else st.evs ++ [⟨3, ⟨#[]⟩, ⟨st.txt.toArray⟩, []⟩]) ++ [e], txt := [] }
def tokZ (s : ByteArray) (p : Nat) (closed : Bool) : Tk := if hasAt s p [60] = true then markZ s p else textZ s p closed
def atZ (st : Rs) (p : Nat) : Rs := if st.wi = [] then { st with pos := p } else st
/-- The next mark or text: with nothing behind it, a mark of no kind. -/
def nextR (st : Rs) (s : ByteArray) (p : Nat) (closed : Bool) : Rs × Except Int Tk :=
  if p = s.size then (atZ st p, if closed = true then .ok ⟨0, 0, ⟨#[]⟩, ⟨#[]⟩, [], p⟩ else .error 4)
  else if (tokZ s p closed).fl = 0 then (atZ st p, .ok (tokZ s p closed)) else (atZ st p, .error (flCode (tokZ s p closed).fl closed))
/-- An element's start: not too deep, its attributes, told. -/
def startR (st : Rs) (T : Tk) : Rs × Option Int :=
  if st.deep = 30 then (st, some 8)
  else
    match valsZ (ownA st.dt T.name T.attrs ++ defA st.dt T.name T.attrs) st [] with
    | (st', .error c) => (st', some c)
    | (st', .ok l) => (tellZ st' ⟨1, T.name, ⟨#[]⟩, l⟩, none)
def endR (st : Rs) (nm : ByteArray) : Rs := tellZ st ⟨2, nm, ⟨#[]⟩, []⟩
def asideR (st : Rs) (T : Tk) : Rs := tellZ st ⟨if T.kind = 7 then 5 else 4, T.name, T.text, []⟩
def isEndR (E : Option ByteArray) (T : Tk) : Bool :=
  match E with
  | none => decide (T.kind = 0)
  | some nm => decide (T.kind = 2) && (T.name.toList == nm.toList)
def marksB (t : ByteArray) : Bool := decide ((scanAll t).2 < 0 ∧ fz t 0 [13] = -1)
/-- Content: marks up to the end of a text (none), or of an element. -/
def conGo : Nat → Option ByteArray → ByteArray → Nat → Bool → Rs → Rs × Except Int Nat
  | 0, _, _, _, _, st => (st, .error 0)
  | f + 1, E, s, p, cl, st =>
    match nextR st s p cl with
    | (st1, .error c) => (st1, .error c)
    | (st1, .ok T) =>
      if isEndR E T = true then (st1, .ok T.pos)
      else if T.kind = 1 ∨ T.kind = 3 then
        match startR st1 T with
        | (st2, some c) => (st2, .error c)
        | (st2, none) =>
          if T.kind = 1 then
            match conGo f (some T.name) s T.pos cl { st2 with deep := st2.deep + 1 } with
            | (st3, .error c) => (st3, .error c)
            | (st3, .ok q) => conGo f E s q cl (endR { st3 with deep := st2.deep } T.name)
          else conGo f E s T.pos cl (endR st2 T.name)
      else if T.kind = 6 ∨ T.kind = 7 then conGo f E s T.pos cl (asideR st1 T)
      else if T.kind = 4 then
        match partsG false (fun σ tx => if marksB tx = false then (σ, some 1) else match conGo f none tx 0 true σ.1 with
            | (st3, .error c) => ((st3, σ.2), some c)
            | (st3, .ok _) => ((st3, σ.2), none)) (T.text.size + 1) T.text 0 (st1, []) with
        | (σ, some c) => (σ.1, .error c)
        | (σ, none) => conGo f E s T.pos cl σ.1
      else if T.kind = 5 then conGo f E s T.pos cl { st1 with txt := st1.txt ++ T.text.data.toList }
      else (st1, .error 3)
/-- An entity's text in content. -/
def entC (f : Nat) (σ : Sg) (tx : ByteArray) : Sg × Option Int :=
  if marksB tx = false then (σ, some 1) else match conGo f none tx 0 true σ.1 with
    | (st3, .error c) => ((st3, σ.2), some c)
    | (st3, .ok _) => ((st3, σ.2), none)
/-- An element from behind its start's mark on. -/
def elemR (f : Nat) (s : ByteArray) (T : Tk) (cl : Bool) (st : Rs) : Rs × Except Int Nat :=
  match startR st T with
  | (st2, some c) => (st2, .error c)
  | (st2, none) =>
    if T.kind = 1 then
      match conGo f (some T.name) s T.pos cl { st2 with deep := st2.deep + 1 } with
      | (st3, .error c) => (st3, .error c)
      | (st3, .ok q) => (endR { st3 with deep := st2.deep } T.name, .ok q)
    else (endR st2 T.name, .ok T.pos)
def meas (sp sz p : Nat) : Nat := (4001 - sp) * 5000 + (sz - p) + 1
def conFuel : Nat := 4001 * 5000 + 5000
def whiteB (t : ByteArray) : Bool := t.data.toList.all fun c => c = 9 ∨ c = 10 ∨ c = 32
/-- The document's marks; a head was there, the element has ended. -/
def docGo : Nat → ByteArray → Nat → Bool → Bool → Bool → Rs → Rs × Option Int
  | 0, _, _, _, _, _, st => (st, some 0)
  | f + 1, s, p, cl, hd, en, st =>
    match nextR st s p cl with
    | (st1, .error c) => (st1, some c)
    | (st1, .ok T) =>
      if T.kind = 0 then (st1, if en = true then none else some 3)
      else if T.kind = 6 ∨ T.kind = 7 then docGo f s T.pos cl hd en (asideR st1 T)
      else if T.kind = 4 ∧ whiteB T.text = true then docGo f s T.pos cl hd en st1
      else if T.kind = 8 ∧ hd = false ∧ en = false then
        if (implDtd T.text).code = 0 then docGo f s T.pos cl true en { st1 with dt := (implDtd T.text).dtd } else (st1, some (implDtd T.text).code)
      else if (T.kind = 1 ∨ T.kind = 3) ∧ en = false then
        match elemR conFuel s T cl st1 with
        | (st2, .error c) => (st2, some c)
        | (st2, .ok q) => docGo f s q cl hd true st2
      else (st1, some 3)
def verL : List UInt8 := [60, 63, 120, 109, 108, 32, 118, 101, 114, 115, 105, 111, 110, 61, 34, 49, 46, 48, 34, 63, 62]
def encL : List UInt8 := [60, 63, 120, 109, 108, 32, 118, 101, 114, 115, 105, 111, 110, 61, 34, 49, 46, 48, 34, 32, 101, 110, 99, 111, 100, 105, 110, 103, 61, 34, 85, 84, 70, 45, 56, 34, 63, 62]
def st0 : Rs := ⟨⟨[], []⟩, [], [], 0, 0, [], 0⟩
def docR (s : ByteArray) (cl : Bool) : Rs × Option Int :=
  if hasAt s 0 verL = true then docGo (s.size + 1) s 21 cl false false st0
  else if hasAt s 0 encL = true then docGo (s.size + 1) s 38 cl false false st0
  else if cl = false ∧ ((rest s 0).isPrefixOf verL = true ∨ (rest s 0).isPrefixOf encL = true) then (st0, some 4)
  else docGo (s.size + 1) s 0 cl false false st0
structure EOut where
  evs : List Ev
  at1 : Int
  code : Int
def readZ (s : ByteArray) (cl : Bool) : EOut :=
  if 4000 < s.size then ⟨[], 0, 2⟩
  else if 0 ≤ (scanAll ⟨(endsE s.data.toList).toArray⟩).2 then ⟨[], 0, 1⟩
  else match docR ⟨(endsE s.data.toList).toArray⟩ cl with
    | (st, none) => ⟨st.evs, st.pos, 0⟩
    | (st, some c) => ⟨st.evs, st.pos, c⟩
end Go.Proofs.YtlfcmlcpdpkibaaDoor.PlainR

namespace Go.Proofs.YtlfcmlcpdpkibaaDoor.PlainS
open Go.RowKit Plain1 Plain2 Strs Plain3 Plain4 Plain5 Plain6 Plain9 Plain10 Plain11 Plain12 Plain13

/-- The model's search: the colon's place, -1 without one; none, if there are two. -/
def splGo (s : ByteArray) : Nat → Nat → Int → Option Int
  | 0, _, k => some k
  | f + 1, i, k => if i < s.size then (if byteAt s i = 58 then (if 0 ≤ k then none else splGo s f (i + 1) i) else splGo s f (i + 1) k) else some k
theorem spl_end {s : ByteArray} {f i : Nat} {k : Int} (h : ¬ i < s.size) : splGo s f i k = some k := by
  cases f with
  | zero => rfl
  | succ f => unfold splGo; rw [if_neg h]
theorem spl_two {s : ByteArray} {f i : Nat} {k : Int} (h : i < s.size) (hb : byteAt s i = 58) (hk : 0 ≤ k) : splGo s (f + 1) i k = none := by
  conv => lhs; unfold splGo
  rw [if_pos h, if_pos hb, if_pos hk]
theorem spl_one {s : ByteArray} {f i : Nat} {k : Int} (h : i < s.size) (hb : byteAt s i = 58) (hk : ¬ 0 ≤ k) : splGo s (f + 1) i k = splGo s f (i + 1) i := by
  conv => lhs; unfold splGo
  rw [if_pos h, if_pos hb, if_neg hk]
theorem spl_on {s : ByteArray} {f i : Nat} {k : Int} (h : i < s.size) (hb : ¬ byteAt s i = 58) : splGo s (f + 1) i k = splGo s f (i + 1) k := by
  conv => lhs; unfold splGo
  rw [if_pos h, if_neg hb]
def colZ (s : ByteArray) : Option Int := splGo s (s.size + 1) 0 (-1)
/-- A name's two parts, and whether it may be parted. -/
def splitZ (s : ByteArray) : ByteArray × ByteArray × Bool :=
  match colZ s with
  | none => (⟨#[]⟩, ⟨#[]⟩, false)
  | some k => if k < 0 then (⟨#[]⟩, s, nameB s) else (s.extract 0 k.toNat, s.extract (k.toNat + 1) s.size, nameB (s.extract 0 k.toNat) && nameB (s.extract (k.toNat + 1) s.size))
/-- What Split answers. -/
def splOut (s : ByteArray) : ByteArray × ByteArray × Int :=
  if 4000 < s.size then (⟨#[]⟩, ⟨#[]⟩, 2) else if (splitZ s).2.2 = true then ((splitZ s).1, (splitZ s).2.1, 0) else (⟨#[]⟩, ⟨#[]⟩, 3)

theorem col_has {s : ByteArray} {i : Nat} (hi : i < s.size) : hasAt s i [58] = decide (byteAt s i = 58) := by
  unfold hasAt
  rw [rest_cons hi]
  unfold byteAt
  have e : (List.isPrefixOf [58] (s.data.toList.getD i 0 :: rest s (i + 1))) = decide (s.data.toList.getD i 0 = 58) := by
    simp [List.isPrefixOf, Bool.beq_eq_decide_eq, eq_comm]
  first
    | rw [e]
    | (simp only [List.isPrefixOf, Bool.and_true]; rw [Bool.beq_eq_decide_eq])
  apply decide_eq_decide.2
  constructor
  · intro h; rw [h]; rfl
  · intro h; exact UInt8.toNat_inj.1 (by have : ((58 : UInt8).toNat : Int) = 58 := rfl; omega)
theorem spl_fz1 {s : ByteArray} {k : Int} (hk : 0 ≤ k) : ∀ (f i : Nat), s.size < i + f → splGo s f i k = if fz s i [58] = -1 then some k else none
  | 0, i, h => by rw [fz_nil (by simp) (by simp; omega), if_pos rfl]; rfl
  | f + 1, i, h => by
    by_cases hi : i < s.size
    · by_cases hb : byteAt s i = 58
      · rw [spl_two hi hb hk, fz_hit hi (by rw [col_has hi]; exact decide_eq_true hb), if_neg (by omega)]
      · rw [spl_on hi hb, fz_miss hi (by rw [col_has hi]; exact decide_eq_false hb)]
        exact spl_fz1 hk f (i + 1) (by omega)
    · rw [spl_end hi, fz_nil (by simp) (by simp; omega), if_pos rfl]
theorem spl_fz0 {s : ByteArray} : ∀ (f i : Nat), s.size < i + f → splGo s f i (-1) = if fz s i [58] = -1 then some (-1) else if fz s ((fz s i [58]).toNat + 1) [58] = -1 then some (fz s i [58]) else none
  | 0, i, h => by rw [fz_nil (by simp) (by simp; omega), if_pos rfl]; rfl
  | f + 1, i, h => by
    by_cases hi : i < s.size
    · by_cases hb : byteAt s i = 58
      · rw [spl_one hi hb (by omega), fz_hit hi (by rw [col_has hi]; exact decide_eq_true hb), if_neg (by omega), Int.toNat_natCast]
        exact spl_fz1 (by omega) f (i + 1) (by omega)
      · rw [spl_on hi hb, fz_miss hi (by rw [col_has hi]; exact decide_eq_false hb)]
        exact spl_fz0 f (i + 1) (by omega)
    · rw [spl_end hi, fz_nil (by simp) (by simp; omega), if_pos rfl]
/-- No colon. -/
theorem split_no {s : ByteArray} (h : upF s 0 [58] ≠ 0) : splitZ s = (⟨#[]⟩, s, nameB s) ∧ Lib.contains s.data.toList [58] = false := by
  have h0 : fz s 0 [58] = -1 := by unfold upF at h; by_cases h0 : fz s 0 [58] = -1 <;> simp_all
  refine ⟨?_, ?_⟩
  · unfold splitZ colZ
    rw [spl_fz0 _ _ (by omega), if_pos h0]
    rfl
  · have := (fz_index s 0 [58]).1 h0
    unfold rest at this
    rw [List.drop_zero] at this
    unfold Lib.contains
    rw [this]; rfl
/-- A colon: the parts, and whether there is another one. -/
theorem split_yes {s : ByteArray} (h : upF s 0 [58] = 0) : upP s 0 [58] ≤ s.size ∧ (upT s 0 [58]).size ≤ s.size ∧ (s.extract (upP s 0 [58]) s.size).size ≤ s.size ∧ (Lib.cut s.data.toList [58]).2.2 = true ∧ (⟨(Lib.cut s.data.toList [58]).1.toArray⟩ : ByteArray) = upT s 0 [58] ∧ (⟨(Lib.cut s.data.toList [58]).2.1.toArray⟩ : ByteArray) = s.extract (upP s 0 [58]) s.size ∧
    splitZ s = if Lib.contains (s.extract (upP s 0 [58]) s.size).data.toList [58] = true then (⟨#[]⟩, ⟨#[]⟩, false) else (upT s 0 [58], s.extract (upP s 0 [58]) s.size, nameB (upT s 0 [58]) && nameB (s.extract (upP s 0 [58]) s.size)) := by
  have hr : rest s 0 = s.data.toList := by unfold rest; rw [List.drop_zero]
  have hc := cut_yes (s := s) (p := 0) (sg := [58]) (Nat.zero_le _) h
  have hz := upT_size (s := s) (p := 0) (sg := [58]) (Nat.zero_le _) h
  rw [hr] at hc
  rcases fz_spec s 0 [58] (Nat.zero_le _) with h0 | ⟨i, h0, h1, h2, h3, h4⟩
  · unfold upF at h; rw [if_pos h0] at h; cases h
  have hP : upP s 0 [58] = i + 1 := by unfold upP; rw [h0]; rfl
  have hT : upT s 0 [58] = s.extract 0 i := by unfold upT; rw [h0]; rfl
  simp only [List.length_cons, List.length_nil] at h2
  refine ⟨hz.2, hz.1, by rw [hP, ext_sz]; omega, hc.1, hc.2.1, ?_, ?_⟩
  · rw [hP]
    unfold Lib.cut
    rw [hr] at h4
    rw [h4, if_pos (by omega)]
    apply ByteArray.ext
    apply Array.toList_inj.1
    rw [ext_rest]
    unfold rest
    simp
  · unfold splitZ colZ
    rw [spl_fz0 _ _ (by omega), h0, if_neg (by omega), Int.toNat_natCast, hP, hT]
    have hcon : Lib.contains (s.extract (i + 1) s.size).data.toList [58] = true ↔ ¬ fz s (i + 1) [58] = -1 := by
      rw [fz_index, ext_rest]
      unfold Lib.contains
      have := Lib.index_ge (rest s (i + 1)) [58]
      rw [decide_eq_true_iff]
      omega
    by_cases hn : fz s (i + 1) [58] = -1
    · rw [if_pos hn, if_neg (by rw [hcon]; simpa using hn)]
      simp only
      rw [if_neg (by omega), Int.toNat_natCast]
    · rw [if_neg hn, if_pos (hcon.2 hn)]
end Go.Proofs.YtlfcmlcpdpkibaaDoor.PlainS

namespace Go.Proofs.YtlfcmlcpdpkibaaDoor.PlainN
open Go.RowKit Plain1 Strs Strs2 Lists Bytes Plain3 Plain5 Plain6 Plain9 Plain10 Plain11 Plain12 PlainS PlainR Go.Lib

/-- A name with its space, and a value. -/
structure Nm where
  pre : ByteArray
  loc : ByteArray
  spc : ByteArray
  val : ByteArray
structure Nd where
  kind : Int
  name : Nm
  decls : List (ByteArray × ByteArray)
  attrs : List Nm
  text : ByteArray
def eB0 : ByteArray := ⟨#[]⟩
def zNm : Nm := ⟨⟨#[]⟩, ⟨#[]⟩, ⟨#[]⟩, ⟨#[]⟩⟩
def zNd : Nd := ⟨0, zNm, [], [], ⟨#[]⟩⟩
def xmlB : ByteArray := ⟨#[120, 109, 108]⟩
def xmlnsB : ByteArray := ⟨#[120, 109, 108, 110, 115]⟩
/-- http://www.w3.org/XML/1998/namespace -/
def xmlS : ByteArray := ⟨#[104, 116, 116, 112, 58, 47, 47, 119, 119, 119, 46, 119, 51, 46, 111, 114, 103, 47, 88, 77, 76, 47, 49, 57, 57, 56, 47, 110, 97, 109, 101, 115, 112, 97, 99, 101]⟩
/-- http://www.w3.org/2000/xmlns/ -/
def xmlnsS : ByteArray := ⟨#[104, 116, 116, 112, 58, 47, 47, 119, 119, 119, 46, 119, 51, 46, 111, 114, 103, 47, 50, 48, 48, 48, 47, 120, 109, 108, 110, 115, 47]⟩
def sameB (a b : ByteArray) : Bool := a.toList == b.toList
/-- Do events go together? The names that are open, the elements seen. -/
def rowGo : List Ev → List ByteArray → Nat → Bool
  | [], op, el => decide (el = 1) && decide (op.length = 0)
  | e :: l, op, el =>
    if e.kind = 1 then (if op.length = 30 ∨ 60 < e.attrs.length then false else rowGo l (op ++ [e.name]) (if op.length = 0 then el + 1 else el))
    else if e.kind = 2 then (if op.length = 0 then false else if sameB (op.getD (op.length - 1) ⟨#[]⟩) e.name = true then rowGo l (op.take (op.length - 1)) el else false)
    else if e.kind = 3 then (if op.length = 0 then false else rowGo l op el)
    else if e.kind = 4 ∨ e.kind = 5 then rowGo l op el
    else false
/-- What an attribute is: a declaration, or another one. -/
def partZ (a : ByteArray × ByteArray) : (ByteArray × ByteArray) ⊕ Nm :=
  if sameB (splOut a.1).1 xmlnsB = true then .inl ((splOut a.1).2.1, a.2)
  else if sameB a.1 xmlnsB = true then .inl (⟨#[]⟩, a.2)
  else .inr ⟨(splOut a.1).1, (splOut a.1).2.1, ⟨#[]⟩, a.2⟩
def declsZ (l : List (ByteArray × ByteArray)) : List (ByteArray × ByteArray) := l.filterMap fun a => (partZ a).elim some fun _ => none
def othersZ (l : List (ByteArray × ByteArray)) : List Nm := l.filterMap fun a => (partZ a).elim (fun _ => none) some
def wrongZ (e : Ev) : Bool := decide ((splOut e.name).2.2 ≠ 0) || e.attrs.any fun a => decide ((splOut a.1).2.2 ≠ 0)
def declOk (d : ByteArray × ByteArray) : Bool :=
  !(sameB d.1 xmlnsB || sameB d.2 xmlnsS) && (!(!sameB d.1 ⟨#[]⟩ && sameB d.2 ⟨#[]⟩) && !(sameB d.1 xmlB != sameB d.2 xmlS))
/-- The value declared last of a prefix. -/
def lookD (l : List (ByteArray × ByteArray)) (p : ByteArray) : Option ByteArray := (l.reverse.find? fun d => sameB d.1 p).map (·.2)
/-- The space of a prefix: the nearest declaration counts (the last scope is the innermost). -/
def spaceGo (sc : List (List (ByteArray × ByteArray))) (p : ByteArray) : Nat → Option ByteArray
  | 0 => if sameB p xmlB = true then some xmlS else if sameB p ⟨#[]⟩ = true then some ⟨#[]⟩ else none
  | k + 1 => match lookD (sc.getD k []) p with
    | some v => some v
    | none => spaceGo sc p k
def spaceZ (sc : List (List (ByteArray × ByteArray))) (p : ByteArray) : Option ByteArray := spaceGo sc p sc.length
def placeA (sc : List (List (ByteArray × ByteArray))) : List Nm → Option (List Nm)
  | [] => some []
  | a :: l => if sameB a.pre ⟨#[]⟩ = true then (placeA sc l).map (a :: ·) else
    match spaceZ sc a.pre with
    | none => none
    | some v => (placeA sc l).map ({ a with spc := v } :: ·)
def twinB (a b : Nm) : Bool := sameB a.spc b.spc && sameB a.loc b.loc
def twinsGo : List Nm → List Nm → Bool
  | _, [] => false
  | seen, a :: l => seen.any (fun b => twinB a b) || twinsGo (seen ++ [a]) l
/-- The node of a start, with the scopes around it. -/
def startZ (sc : List (List (ByteArray × ByteArray))) (e : Ev) : Except Int Nd :=
  if wrongZ e = true ∨ sameB (splOut e.name).1 xmlnsB = true ∨ (declsZ e.attrs).all declOk = false then .error 3
  else
    match spaceZ (sc ++ [declsZ e.attrs]) (splOut e.name).1 with
    | none => .error 5
    | some v =>
      match placeA (sc ++ [declsZ e.attrs]) (othersZ e.attrs) with
      | none => .error 5
      | some l => if twinsGo [] l = true then .error 6 else .ok ⟨e.kind, ⟨(splOut e.name).1, (splOut e.name).2.1, v, ⟨#[]⟩⟩, declsZ e.attrs, l, ⟨#[]⟩⟩
/-- An open element: its name, what it declares. -/
abbrev Scp := Nm × List (ByteArray × ByteArray)
def hasCol (t : ByteArray) : Bool := decide (fz t 0 [58] ≠ -1)
def nodeZ (st : List Scp) (e : Ev) : List Scp × Except Int Nd :=
  if e.kind = 1 then
    match startZ (st.map (·.2)) e with
    | .error c => (st, .error c)
    | .ok n => (st ++ [(n.name, n.decls)], .ok n)
  else if e.kind = 2 then (st.take (st.length - 1), .ok ⟨e.kind, (st.getD (st.length - 1) (zNm, [])).1, [], [], e.text⟩)
  else if e.kind = 5 then (if hasCol e.name = true then (st, .error 3) else (st, .ok ⟨e.kind, { zNm with loc := e.name }, [], [], e.text⟩))
  else (st, .ok ⟨e.kind, zNm, [], [], e.text⟩)
structure NOut where
  nodes : List Nd
  at1 : Int
  code : Int
def spcGo : List Ev → Nat → List Scp → List Nd → NOut
  | [], _, _, acc => ⟨acc, 0, 0⟩
  | e :: l, i, st, acc =>
    match nodeZ st e with
    | (_, .error c) => ⟨[], i, c⟩
    | (st', .ok n) => spcGo l (i + 1) st' (acc ++ [n])
def spacedZ (l : List Ev) : NOut :=
  if 400 < l.length then ⟨[], 0, 2⟩
  else if rowGo l [] 0 = false then ⟨[], 0, 1⟩
  else spcGo l 0 [] []
end Go.Proofs.YtlfcmlcpdpkibaaDoor.PlainN
