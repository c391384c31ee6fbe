/- Plain mathematics of marks: what a mark tells. Nothing of the program is named here. -/
import Derived.Test.YtpkhdfddbcpciaaDoorPlain9
namespace Go.Proofs.YtpkhdfddbcpciaaDoor.Plain10
open Plain1 Plain2 Strs Plain3 Plain4 Plain5 Plain6 Plain9

/-- What a sign that must stand there tells: 0 and the place behind it; 1: short; 2: something else stands there. -/
def lackZ (s : ByteArray) (p : Nat) (sg : List UInt8) : Nat := if (rest s p).isPrefixOf sg = true then 1 else 2
def mustF (s : ByteArray) (p : Nat) (sg : List UInt8) : Nat := if hasAt s p sg = true then 0 else lackZ s p sg
/-- A text up to a sign: 0, it, the place behind the sign; 1: short. -/
def upF (s : ByteArray) (p : Nat) (sg : List UInt8) : Nat := if fz s p sg = -1 then 1 else 0
def upT (s : ByteArray) (p : Nat) (sg : List UInt8) : ByteArray := s.extract p (fz s p sg).toNat
def upP (s : ByteArray) (p : Nat) (sg : List UInt8) : Nat := (fz s p sg).toNat + sg.length
/-- A name: 0, it, the place behind it; 1: short; 2: none. -/
def nmF (s : ByteArray) (p : Nat) : Nat := if 60 < nameZ s p then 2 else if s.size ≤ p + nameZ s p then 1 else if nameZ s p = 0 then 2 else 0
def nmT (s : ByteArray) (p : Nat) : ByteArray := s.extract p (p + nameZ s p)
def nmP (s : ByteArray) (p : Nat) : Nat := p + nameZ s p
/-- A value: the sign's place that ends it (0), short (1), wrong (2). -/
def valGo (s : ByteArray) (q : Int) : Nat → Nat → Nat × Nat
  | 0, i => (1, i)
  | f + 1, i => if i < s.size then (if byteAt s i = 60 then (2, i) else if byteAt s i = q then (0, i) else valGo s q f (i + 1)) else (1, i)
def quoteB (b : Int) : Bool := decide (b = 34 ∨ b = 39)
def valF (s : ByteArray) (p : Nat) : Nat := if s.size ≤ p then 1 else if quoteB (byteAt s p) = true then (valGo s (byteAt s p) (s.size + 1) (p + 1)).1 else 2
def valE (s : ByteArray) (p : Nat) : Nat := (valGo s (byteAt s p) (s.size + 1) (p + 1)).2
def valT (s : ByteArray) (p : Nat) : ByteArray := s.extract (p + 1) (valE s p)
def valP (s : ByteArray) (p : Nat) : Nat := valE s p + 1
theorem val_end {s : ByteArray} {q : Int} {f i : Nat} (h : ¬ i < s.size) : valGo s q f i = (1, i) := by
  cases f with
  | zero => rfl
  | succ f => unfold valGo; rw [if_neg h]
theorem val_bad {s : ByteArray} {q : Int} {f i : Nat} (h : i < s.size) (hb : byteAt s i = 60) : valGo s q (f + 1) i = (2, i) := by
  unfold valGo; rw [if_pos h, if_pos hb]
theorem val_hit {s : ByteArray} {q : Int} {f i : Nat} (h : i < s.size) (hb : byteAt s i ≠ 60) (hq : byteAt s i = q) : valGo s q (f + 1) i = (0, i) := by
  unfold valGo; rw [if_pos h, if_neg hb, if_pos hq]
theorem val_on {s : ByteArray} {q : Int} {f i : Nat} (h : i < s.size) (hb : byteAt s i ≠ 60) (hq : byteAt s i ≠ q) : valGo s q (f + 1) i = valGo s q f (i + 1) := by
  conv => lhs; unfold valGo
  rw [if_pos h, if_neg hb, if_neg hq]

/-- What is told: fl 0: a mark; 1: short; 2: wrong; 3: an attribute that is there. -/
structure Tk where
  fl : Nat
  kind : Int
  name : ByteArray
  text : ByteArray
  attrs : List (ByteArray × ByteArray)
  pos : Nat
def failT (f : Nat) : Tk := ⟨f, 0, ByteArray.empty, ByteArray.empty, [], 0⟩
def hasZ (l : List (ByteArray × ByteArray)) (n : ByteArray) : Bool := l.any fun a => a.1.toList == n.toList

/-- Attributes and the end of a start, from a place on. -/
def tagGo (s nm : ByteArray) : Nat → Nat → List (ByteArray × ByteArray) → Tk
  | 0, _, _ => failT 1
  | f + 1, p, acc =>
    let q := whiteZ s p
    if s.size ≤ q then failT 1
    else if byteAt s q = 62 then ⟨0, 1, nm, ByteArray.empty, acc, q + 1⟩
    else if byteAt s q = 47 then (if mustF s q [47, 62] = 0 then ⟨0, 3, nm, ByteArray.empty, acc, q + 2⟩ else failT (mustF s q [47, 62]))
    else if q = p then failT 2
    else if nmF s q ≠ 0 then failT (nmF s q)
    else
      let r := whiteZ s (nmP s q)
      if mustF s r [61] ≠ 0 then failT (mustF s r [61])
      else
        let v := whiteZ s (r + 1)
        if valF s v ≠ 0 then failT (valF s v)
        else if hasZ acc (nmT s q) = true then failT 3
        else tagGo s nm f (valP s v) (acc ++ [(nmT s q, valT s v)])
def tagZ (s : ByteArray) (p : Nat) : Tk := if nmF s p ≠ 0 then failT (nmF s p) else tagGo s (nmT s p) (s.size + 1) (nmP s p) []

def xmlB (n : ByteArray) : Bool := decide (n.size = 3) && (decide (byteAt n 0 = 120 ∨ byteAt n 0 = 88) && (decide (byteAt n 1 = 109 ∨ byteAt n 1 = 77) && decide (byteAt n 2 = 108 ∨ byteAt n 2 = 76)))
def piZ (s : ByteArray) (p : Nat) : Tk :=
  if nmF s p ≠ 0 then failT (nmF s p)
  else if xmlB (nmT s p) = true then failT 2
  else
    let q := whiteZ s (nmP s p)
    if nmP s p < q then (if upF s q [63, 62] = 0 then ⟨0, 7, nmT s p, upT s q [63, 62], [], upP s q [63, 62]⟩ else failT (upF s q [63, 62]))
    else if mustF s q [63, 62] = 0 then ⟨0, 7, nmT s p, ByteArray.empty, [], q + 2⟩ else failT (mustF s q [63, 62])
def commentZ (s : ByteArray) (p : Nat) : Tk :=
  if upF s p [45, 45] ≠ 0 then failT (upF s p [45, 45])
  else if mustF s (upP s p [45, 45]) [62] = 0 then ⟨0, 6, ByteArray.empty, upT s p [45, 45], [], upP s p [45, 45] + 1⟩ else failT (mustF s (upP s p [45, 45]) [62])
def cdataZ (s : ByteArray) (p : Nat) : Tk :=
  if upF s p [93, 93, 62] = 0 then ⟨0, 5, ByteArray.empty, upT s p [93, 93, 62], [], upP s p [93, 93, 62]⟩ else failT (upF s p [93, 93, 62])
def endZ (s : ByteArray) (p : Nat) : Tk :=
  if nmF s p ≠ 0 then failT (nmF s p)
  else
    let q := whiteZ s (nmP s p)
    if mustF s q [62] = 0 then ⟨0, 2, nmT s p, ByteArray.empty, [], q + 1⟩ else failT (mustF s q [62])
/-- The place behind a head's text and its bracket (0), or short (1). -/
def subGo (s : ByteArray) : Nat → Nat → Nat × Nat
  | 0, p => (1, p)
  | f + 1, p =>
    if p < s.size then
      (if byteAt s p = 93 then (0, p + 1)
       else if byteAt s p = 34 then (if upF s (p + 1) [34] = 0 then subGo s f (upP s (p + 1) [34]) else (1, p))
       else if byteAt s p = 39 then (if upF s (p + 1) [39] = 0 then subGo s f (upP s (p + 1) [39]) else (1, p))
       else if hasAt s p [60, 33, 45, 45] = true then (if upF s (p + 4) [45, 45, 62] = 0 then subGo s f (upP s (p + 4) [45, 45, 62]) else (1, p))
       else if hasAt s p [60, 63] = true then (if upF s (p + 2) [63, 62] = 0 then subGo s f (upP s (p + 2) [63, 62]) else (1, p))
       else subGo s f (p + 1))
    else (1, p)
def subF (s : ByteArray) (p : Nat) : Nat := (subGo s (s.size + 1) p).1
def subP (s : ByteArray) (p : Nat) : Nat := (subGo s (s.size + 1) p).2
def subT (s : ByteArray) (p : Nat) : ByteArray := s.extract p (subP s p - 1)
def doctypeZ (s : ByteArray) (p : Nat) : Tk :=
  let q := whiteZ s p
  if q = p then failT (if s.size ≤ p then 1 else 2)
  else if nmF s q ≠ 0 then failT (nmF s q)
  else
    let r := whiteZ s (nmP s q)
    if hasAt s r [91] = true then
      (if subF s (r + 1) ≠ 0 then failT (subF s (r + 1))
       else
         let u := whiteZ s (subP s (r + 1))
         if mustF s u [62] = 0 then ⟨0, 8, nmT s q, subT s (r + 1), [], u + 1⟩ else failT (mustF s u [62]))
    else if mustF s r [62] = 0 then ⟨0, 8, nmT s q, ByteArray.empty, [], r + 1⟩ else failT (mustF s r [62])
/-- A mark, at its sign. -/
def markZ (s : ByteArray) (p : Nat) : Tk :=
  if hasAt s p [60, 33, 45, 45] = true then commentZ s (p + 4)
  else if hasAt s p [60, 33, 91, 67, 68, 65, 84, 65, 91] = true then cdataZ s (p + 9)
  else if hasAt s p [60, 33, 68, 79, 67, 84, 89, 80, 69] = true then doctypeZ s (p + 9)
  else if hasAt s p [60, 63] = true then piZ s (p + 2)
  else if hasAt s p [60, 47] = true then endZ s (p + 2)
  else if hasAt s p [60, 33] = true then failT (if (rest s p).isPrefixOf [60, 33, 45, 45] = true ∨ (rest s p).isPrefixOf [60, 33, 91, 67, 68, 65, 84, 65, 91] = true ∨ (rest s p).isPrefixOf [60, 33, 68, 79, 67, 84, 89, 80, 69] = true then 1 else 2)
  else tagZ s (p + 1)
def textE (s : ByteArray) (p : Nat) : Nat := if fz s p [60] = -1 then s.size else (fz s p [60]).toNat
def textZ (s : ByteArray) (p : Nat) (closed : Bool) : Tk :=
  if Lib.index (s.extract p (textE s p)).data.toList [93, 93, 62] ≠ -1 then failT 2
  else if textE s p = s.size ∧ closed = false then failT 1
  else ⟨0, 4, ByteArray.empty, s.extract p (textE s p), [], textE s p⟩
/-- The code that a fault has. -/
def flCode (f : Nat) (closed : Bool) : Int := if f = 3 then 6 else if f = 2 ∨ (f = 1 ∧ closed = true) then 3 else if f = 1 then 4 else 0
structure Out where
  tk : Tk
  at1 : Int
  code : Int
def outOf (t : Tk) (closed : Bool) : Out := if t.fl = 0 then ⟨t, t.pos, 0⟩ else ⟨failT 0, 0, flCode t.fl closed⟩
def codeOut (c : Int) : Out := ⟨failT 0, 0, c⟩
def nextZ (s : ByteArray) (at0 : Int) (closed : Bool) : Out :=
  if 4000 < s.size then codeOut 2
  else if 0 ≤ (scanAll s).2 ∨ fz s 0 [13] ≠ -1 ∨ at0 < 0 ∨ (s.size : Int) < at0 then codeOut 1
  else if at0 = s.size then codeOut 10
  else if 128 ≤ byteAt s at0.toNat ∧ byteAt s at0.toNat < 192 then codeOut 1
  else if byteAt s at0.toNat = 60 then outOf (markZ s at0.toNat) closed
  else outOf (textZ s at0.toNat closed) closed

/-- The model's scanner: its place and what is wrong (0: nothing). -/
structure Sc where
  pos : Nat
  fl : Nat
def Sc.ended (x : Sc) (s : ByteArray) : Sc := if s.size ≤ x.pos ∧ x.fl = 0 then ⟨x.pos, 1⟩ else x
theorem ended_in {x : Sc} {s : ByteArray} (h : x.pos < s.size) : x.ended s = x := by unfold Sc.ended; rw [if_neg (by omega)]
theorem ended_fl {x : Sc} {s : ByteArray} (h : x.fl ≠ 0) : x.ended s = x := by unfold Sc.ended; rw [if_neg (by omega)]
theorem ended_end {x : Sc} {s : ByteArray} (h : s.size ≤ x.pos) (h0 : x.fl = 0) : x.ended s = ⟨x.pos, 1⟩ := by unfold Sc.ended; rw [if_pos ⟨h, h0⟩]
/-- Going over a text that must stand there. -/
def mustGo (s what : ByteArray) : Nat → Nat → Sc → Sc
  | 0, _, x => x
  | f + 1, i, x => if i < what.size ∧ x.fl = 0 then (if s.size ≤ x.pos then x.ended s else if byteAt s x.pos = byteAt what i then mustGo s what f (i + 1) ⟨x.pos + 1, x.fl⟩ else ⟨x.pos, 2⟩) else x
def Sc.must (x : Sc) (s what : ByteArray) : Sc := mustGo s what (what.size + 1) 0 x
theorem must_stop {s what : ByteArray} {f i : Nat} {x : Sc} (h : ¬ (i < what.size ∧ x.fl = 0)) : mustGo s what f i x = x := by
  cases f with
  | zero => rfl
  | succ f => unfold mustGo; rw [if_neg h]
theorem must_end {s what : ByteArray} {f i : Nat} {x : Sc} (h : i < what.size ∧ x.fl = 0) (he : s.size ≤ x.pos) : mustGo s what (f + 1) i x = x.ended s := by
  unfold mustGo; rw [if_pos h, if_pos he]
theorem must_bad {s what : ByteArray} {f i : Nat} {x : Sc} (h : i < what.size ∧ x.fl = 0) (he : ¬ s.size ≤ x.pos) (hb : ¬ byteAt s x.pos = byteAt what i) : mustGo s what (f + 1) i x = ⟨x.pos, 2⟩ := by
  unfold mustGo; rw [if_pos h, if_neg he, if_neg hb]
theorem must_on {s what : ByteArray} {f i : Nat} {x : Sc} (h : i < what.size ∧ x.fl = 0) (he : ¬ s.size ≤ x.pos) (hb : byteAt s x.pos = byteAt what i) : mustGo s what (f + 1) i x = mustGo s what f (i + 1) ⟨x.pos + 1, x.fl⟩ := by
  conv => lhs; unfold mustGo
  rw [if_pos h, if_neg he, if_pos hb]
theorem byte_eq (s t : ByteArray) (p i : Nat) : byteAt s p = byteAt t i ↔ s.data.toList.getD p 0 = t.data.toList.getD i 0 := by
  unfold byteAt
  constructor
  · intro h; apply UInt8.toNat_inj.1; omega
  · intro h; rw [h]
theorem mustGo_Z {s what : ByteArray} : ∀ (f i p : Nat), p ≤ s.size → i ≤ what.size → what.size + 1 ≤ i + f →
    (mustGo s what f i ⟨p, 0⟩).pos ≤ s.size ∧ (mustGo s what f i ⟨p, 0⟩).fl = (if (rest what i).isPrefixOf (rest s p) = true then 0 else if (rest s p).isPrefixOf (rest what i) = true then 1 else 2) ∧
    ((rest what i).isPrefixOf (rest s p) = true → (mustGo s what f i ⟨p, 0⟩).pos = p + (what.size - i))
  | 0, i, p, hp, hi, hf => by omega
  | f + 1, i, p, hp, hi, hf => by
    by_cases hlt : i < what.size
    · by_cases he : s.size ≤ p
      · rw [must_end ⟨hlt, rfl⟩ he, ended_end he rfl, rest_nil (s := s) he, rest_cons hlt]
        simp only [List.isPrefixOf]
        simp; omega
      · have hp' : p < s.size := by omega
        by_cases hb : byteAt s p = byteAt what i
        · rw [must_on ⟨hlt, rfl⟩ he hb]
          have ih := mustGo_Z (s := s) (what := what) f (i + 1) (p + 1) (by omega) (by omega) (by omega)
          rw [rest_cons hlt, rest_cons hp']
          have hc := (byte_eq s what p i).1 hb
          simp only [List.isPrefixOf, hc, beq_self_eq_true, Bool.true_and]
          refine ⟨ih.1, ih.2.1, fun h => ?_⟩
          rw [ih.2.2 h]; omega
        · rw [must_bad ⟨hlt, rfl⟩ he hb, rest_cons hlt, rest_cons hp']
          have hc : ¬ s.data.toList.getD p 0 = what.data.toList.getD i 0 := fun h => hb ((byte_eq s what p i).2 h)
          have hc1 : (what.data.toList.getD i 0 == s.data.toList.getD p 0) = false := beq_eq_false_iff_ne.2 (fun h => hc h.symm)
          have hc2 : (s.data.toList.getD p 0 == what.data.toList.getD i 0) = false := beq_eq_false_iff_ne.2 hc
          simp only [List.isPrefixOf, hc1, hc2, Bool.false_and]
          simp; omega
    · rw [must_stop (fun h => hlt h.1), rest_nil (s := what) (by omega)]
      simp [List.isPrefixOf]
      omega
theorem must_no {x : Sc} {s what : ByteArray} (h : x.fl ≠ 0) : x.must s what = x := must_stop (fun hh => h hh.2)
theorem rest_zero (s : ByteArray) : rest s 0 = s.data.toList := rfl
theorem must_fl {s what : ByteArray} {p : Nat} (hp : p ≤ s.size) : ((Sc.mk p 0).must s what).fl = mustF s p what.data.toList := by
  have := (mustGo_Z (s := s) (what := what) (what.size + 1) 0 p hp (by omega) (by omega)).2.1
  unfold Sc.must; rw [this, rest_zero]; rfl
theorem must_le {s what : ByteArray} {p : Nat} (hp : p ≤ s.size) : ((Sc.mk p 0).must s what).pos ≤ s.size := (mustGo_Z (s := s) (what := what) (what.size + 1) 0 p hp (by omega) (by omega)).1
theorem must_pos {s what : ByteArray} {p : Nat} (hp : p ≤ s.size) (h : mustF s p what.data.toList = 0) : ((Sc.mk p 0).must s what).pos = p + what.data.toList.length := by
  have h3 := (mustGo_Z (s := s) (what := what) (what.size + 1) 0 p hp (by omega) (by omega)).2.2
  unfold mustF at h
  by_cases hh : hasAt s p what.data.toList = true
  · rw [← Lib.size_eq]; exact (h3 hh)
  · rw [if_neg hh] at h; unfold lackZ at h; split at h <;> cases h
theorem must_st {s what : ByteArray} {p : Nat} (hp : p ≤ s.size) : ∃ q, (Sc.mk p 0).must s what = ⟨q, mustF s p what.data.toList⟩ ∧ q ≤ s.size ∧ (mustF s p what.data.toList = 0 → q = p + what.data.toList.length) :=
  ⟨((Sc.mk p 0).must s what).pos, by rw [← must_fl hp], must_le hp, must_pos hp⟩
end Go.Proofs.YtpkhdfddbcpciaaDoor.Plain10
