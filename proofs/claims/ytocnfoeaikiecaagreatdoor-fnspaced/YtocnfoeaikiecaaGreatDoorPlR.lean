import Derived.Lib.Replace
import Derived.Test.YtocnfoeaikiecaaGreatDoorPlD
import Derived.Lib.FieldsP
import Derived.Lib.Join
namespace Go.Proofs.YtocnfoeaikiecaaGreatDoor.Plain7
open Go.Lib
def aZq : List UInt8 → List UInt8
 | [] => []
 | c :: t => if c ≠ 13 then c :: aZq t else if t.head? = some 10 then aZq t else 10 :: aZq t
section
variable {old new : List UInt8}
end
theorem endsE_len (l : List UInt8) : (aZq l).length ≤ l.length := by
 induction l with
 | nil => simp [aZq]
 | cons c t ih =>
  unfold aZq
  split
  · simp; omega
  · split
    · simp; omega
    · simp; omega
theorem cYv {l acc : List UInt8} {k : Nat} (h : aZq l = acc ++ aZq (l.drop k)) (hk : k < l.length) :
 (l.getD k 0 ≠ 13 → aZq l = (acc ++ [l.getD k 0]) ++ aZq (l.drop (k + 1))) ∧ (l.getD k 0 = 13 → k + 1 < l.length → l.getD (k + 1) 0 = 10 → aZq l = acc ++ aZq (l.drop (k + 1))) ∧
 (l.getD k 0 = 13 → (l.length ≤ k + 1 ∨ l.getD (k + 1) 0 ≠ 10) → aZq l = (acc ++ [10]) ++ aZq (l.drop (k + 1))) := by
 have e : l.drop k = l.getD k 0 :: l.drop (k + 1) := by rw [List.drop_eq_getElem_cons hk]; simp [List.getD, hk]
 have hh : (l.drop (k + 1)).head? = l[k + 1]? := by simp
 rw [e] at h
 refine ⟨fun h1 => ?_, fun h1 h2 h3 => ?_, fun h1 h2 => ?_⟩
 · rw [h]; simp only [aZq]; rw [if_pos h1]; simp
 · rw [h]; simp only [aZq]; rw [if_neg (by simpa using h1), if_pos]
   rw [hh]
   simp [List.getD, h2] at h3
   simp [h2, h3]
 · rw [h]; simp only [aZq]; rw [if_neg (by simpa using h1), if_neg]
   · simp
   · rw [hh]
     intro hx
     rcases h2 with h2 | h2
     · rw [List.getElem?_eq_none (by omega)] at hx; cases hx
     · apply h2; simp [List.getD, hx]
def bXs (l : List UInt8) : List Int := l.map fun b => (b.toNat : Int)
theorem strOf_nums (l : List UInt8) : strOfNums (bXs l) = ⟨l.toArray⟩ := by
 unfold strOfNums bXs
 congr 2
 rw [List.map_map]
 apply List.ext_getElem
 · simp
 · intro i h1 h2
   simp
theorem cX7 (l : List UInt8) (c : UInt8) : bXs (l ++ [c]) = bXs l ++ [(c.toNat : Int)] := by simp [bXs]
theorem aWm (x y : UInt8) : (x.toNat : Int) = (y.toNat : Int) ↔ x = y := by
 constructor
 · intro h; exact UInt8.toNat.inj (by omega)
 · intro h; rw [h]
end Go.Proofs.YtocnfoeaikiecaaGreatDoor.Plain7
namespace Go.Proofs.YtocnfoeaikiecaaGreatDoor.PlainR
open Go.RowKit Strs Ents Plain9 Plain10 Plain23 Go.Lib
structure Ev where
 kind : Int
 name : ByteArray
 text : ByteArray
 attrs : List (ByteArray × ByteArray)
structure Rs where
 dt : Dt
 evs : List Ev
 txt : List UInt8
 pos : Nat
 deep : Nat
 wi : List ByteArray
 spent : Nat
def ampE (s : ByteArray) (p : Nat) : Nat := if fz s p [38] = -1 then s.size else (fz s p [38]).toNat
def encB (n : Int) : List UInt8 := (Utf8.encode n).data.toList
def givenZ (nm : ByteArray) : Option UInt8 :=
 if nm.toList == [108, 116] then some 60
 else if nm.toList == [103, 116] then some 62
 else if nm.toList == [97, 109, 112] then some 38
 else if nm.toList == [97, 112, 111, 115] then some 39
 else if nm.toList == [113, 117, 111, 116] then some 34
 else none
def inB (l : List ByteArray) (nm : ByteArray) : Bool := l.any fun x => x.toList == nm.toList
def dJ5 : List UInt8 → Option (List UInt8)
 | [] => some []
 | c :: l => if c = 60 then none else (dJ5 l).map fun r => (if c = 9 ∨ c = 10 then 32 else c) :: r
def entTo (D : Dt) (wi : List ByteArray) (sp : Nat) (nm : ByteArray) : Except Int ByteArray :=
 if (entR D.ents nm).1.size = 0 then .error 5
 else if inB wi nm = true then .error 9
 else if 4000 < sp + (entR D.ents nm).2.size then .error 7
 else .ok (entR D.ents nm).2
abbrev Sg := Rs × List UInt8
def plainP (v : Bool) (σ : Sg) (t : List UInt8) : Option Sg := if v = true then (dJ5 t).map fun l => (σ.1, σ.2 ++ l) else some ({ σ.1 with txt := σ.1.txt ++ t }, σ.2)
def signP (v : Bool) (σ : Sg) (l : List UInt8) : Sg := if v = true then (σ.1, σ.2 ++ l) else ({ σ.1 with txt := σ.1.txt ++ l }, σ.2)
def goIn (σ : Sg) (nm tx : ByteArray) : Sg := ({ σ.1 with wi := nm :: σ.1.wi, spent := σ.1.spent + tx.size }, σ.2)
def goOut (wi : List ByteArray) (σ : Sg) : Sg := ({ σ.1 with wi := wi }, σ.2)
def bY3 (v : Bool) (EN : Sg → ByteArray → Sg × Option Int) : Nat → ByteArray → Nat → Sg → Sg × Option Int
 | 0, _, _, σ => (σ, some 0)
 | n + 1, s, p, σ =>
  if s.size ≤ p then (σ, none)
  else if aQ1 s p ≠ 38 then
   match plainP v σ (s.extract p (ampE s p)).data.toList with
   | none => (σ, some 3)
   | some σ' => bY3 v EN n s (ampE s p) σ'
  else
   match refZ s p with
   | none => (σ, some 3)
   | some (.inl c, q) => bY3 v EN n s q (signP v σ (encB c))
   | some (.inr nm, q) =>
    match givenZ nm with
    | some b => bY3 v EN n s q (signP v σ [b])
    | none =>
     match entTo σ.1.dt σ.1.wi σ.1.spent nm with
     | .error c => (σ, some c)
     | .ok tx =>
      match EN (goIn σ nm tx) tx with
      | (σ2, some c) => (σ2, some c)
      | (σ2, none) => bY3 v EN n s q (goOut σ.1.wi σ2)
def valE : Nat → Sg → ByteArray → Sg × Option Int
 | 0, σ, _ => (σ, some 0)
 | f + 1, σ, tx => bY3 true (valE f) (tx.size + 1) tx 0 σ
def tokZ (s : ByteArray) (p : Nat) (closed : Bool) : Tk := if aQa s p [60] = true then aJf s p else aKs s p closed
def whiteB (t : ByteArray) : Bool := t.data.toList.all fun c => c = 9 ∨ c = 10 ∨ c = 32
end Go.Proofs.YtocnfoeaikiecaaGreatDoor.PlainR
namespace Go.Proofs.YtocnfoeaikiecaaGreatDoor.PlainN
open Go.RowKit Plain9 Plain10 PlainS PlainR Go.Lib
structure Nm where
 pre : ByteArray
 loc : ByteArray
 spc : ByteArray
 val : ByteArray
structure Nd where
 kind : Int
 name : Nm
 decls : List (ByteArray × ByteArray)
 attrs : List Nm
 text : ByteArray
def zNm : Nm := ⟨⟨#[]⟩, ⟨#[]⟩, ⟨#[]⟩, ⟨#[]⟩⟩
def zNd : Nd := ⟨0, zNm, [], [], ⟨#[]⟩⟩
def xmlB : ByteArray := ⟨#[120, 109, 108]⟩
def aJk : ByteArray := ⟨#[120, 109, 108, 110, 115]⟩
def xmlS : ByteArray := ⟨#[104, 116, 116, 112, 58, 47, 47, 119, 119, 119, 46, 119, 51, 46, 111, 114, 103, 47, 88, 77, 76, 47, 49, 57, 57, 56, 47, 110, 97, 109, 101, 115, 112, 97, 99, 101]⟩
def cZ2 : ByteArray := ⟨#[104, 116, 116, 112, 58, 47, 47, 119, 119, 119, 46, 119, 51, 46, 111, 114, 103, 47, 50, 48, 48, 48, 47, 120, 109, 108, 110, 115, 47]⟩
def aQx (a b : ByteArray) : Bool := a.toList == b.toList
def aXr : List Ev → List ByteArray → Nat → Bool
 | [], op, el => decide (el = 1) && decide (op.length = 0)
 | e :: l, op, el =>
  if e.kind = 1 then (if op.length = 30 ∨ 60 < e.attrs.length then false else aXr l (op ++ [e.name]) (if op.length = 0 then el + 1 else el))
  else if e.kind = 2 then (if op.length = 0 then false else if aQx (op.getD (op.length - 1) ⟨#[]⟩) e.name = true then aXr l (op.take (op.length - 1)) el else false)
  else if e.kind = 3 then (if op.length = 0 then false else aXr l op el)
  else if e.kind = 4 ∨ e.kind = 5 then aXr l op el
  else false
def bQf (a : ByteArray × ByteArray) : (ByteArray × ByteArray) ⊕ Nm :=
 if aQx (aQu a.1).1 aJk = true then .inl ((aQu a.1).2.1, a.2)
 else if aQx a.1 aJk = true then .inl (⟨#[]⟩, a.2)
 else .inr ⟨(aQu a.1).1, (aQu a.1).2.1, ⟨#[]⟩, a.2⟩
def aJm (l : List (ByteArray × ByteArray)) : List (ByteArray × ByteArray) := l.filterMap fun a => (bQf a).elim some fun _ => none
def aZt (l : List (ByteArray × ByteArray)) : List Nm := l.filterMap fun a => (bQf a).elim (fun _ => none) some
def aY7 (e : Ev) : Bool := decide ((aQu e.name).2.2 ≠ 0) || e.attrs.any fun a => decide ((aQu a.1).2.2 ≠ 0)
def aZv (d : ByteArray × ByteArray) : Bool :=
 !(aQx d.1 aJk || aQx d.2 cZ2) && (!(!aQx d.1 ⟨#[]⟩ && aQx d.2 ⟨#[]⟩) && !(aQx d.1 xmlB != aQx d.2 xmlS))
def bXk (l : List (ByteArray × ByteArray)) (p : ByteArray) : Option ByteArray := (l.reverse.find? fun d => aQx d.1 p).map (·.2)
def aW7 (sc : List (List (ByteArray × ByteArray))) (p : ByteArray) : Nat → Option ByteArray
 | 0 => if aQx p xmlB = true then some xmlS else if aQx p ⟨#[]⟩ = true then some ⟨#[]⟩ else none
 | k + 1 => match bXk (sc.getD k []) p with
  | some v => some v
  | none => aW7 sc p k
def aZp (sc : List (List (ByteArray × ByteArray))) (p : ByteArray) : Option ByteArray := aW7 sc p sc.length
def aXh (sc : List (List (ByteArray × ByteArray))) : List Nm → Option (List Nm)
 | [] => some []
 | a :: l => if aQx a.pre ⟨#[]⟩ = true then (aXh sc l).map (a :: ·) else
  match aZp sc a.pre with
  | none => none
  | some v => (aXh sc l).map ({ a with spc := v } :: ·)
def bVe (a b : Nm) : Bool := aQx a.spc b.spc && aQx a.loc b.loc
def aJ7 : List Nm → List Nm → Bool
 | _, [] => false
 | seen, a :: l => seen.any (fun b => bVe a b) || aJ7 (seen ++ [a]) l
def aZo (sc : List (List (ByteArray × ByteArray))) (e : Ev) : Except Int Nd :=
 if aY7 e = true ∨ aQx (aQu e.name).1 aJk = true ∨ (aJm e.attrs).all aZv = false then .error 3
 else
  match aZp (sc ++ [aJm e.attrs]) (aQu e.name).1 with
  | none => .error 5
  | some v =>
   match aXh (sc ++ [aJm e.attrs]) (aZt e.attrs) with
   | none => .error 5
   | some l => if aJ7 [] l = true then .error 6 else .ok ⟨e.kind, ⟨(aQu e.name).1, (aQu e.name).2.1, v, ⟨#[]⟩⟩, aJm e.attrs, l, ⟨#[]⟩⟩
abbrev Scp := Nm × List (ByteArray × ByteArray)
def bXz (t : ByteArray) : Bool := decide (fz t 0 [58] ≠ -1)
def aVn (st : List Scp) (e : Ev) : List Scp × Except Int Nd :=
 if e.kind = 1 then
  match aZo (st.map (·.2)) e with
  | .error c => (st, .error c)
  | .ok n => (st ++ [(n.name, n.decls)], .ok n)
 else if e.kind = 2 then (st.take (st.length - 1), .ok ⟨e.kind, (st.getD (st.length - 1) (zNm, [])).1, [], [], e.text⟩)
 else if e.kind = 5 then (if bXz e.name = true then (st, .error 3) else (st, .ok ⟨e.kind, { zNm with loc := e.name }, [], [], e.text⟩))
 else (st, .ok ⟨e.kind, zNm, [], [], e.text⟩)
structure NOut where
 nodes : List Nd
 at1 : Int
 code : Int
def aW6 : List Ev → Nat → List Scp → List Nd → NOut
 | [], _, _, acc => ⟨acc, 0, 0⟩
 | e :: l, i, st, acc =>
  match aVn st e with
  | (_, .error c) => ⟨[], i, c⟩
  | (st', .ok n) => aW6 l (i + 1) st' (acc ++ [n])
def aZr (l : List Ev) : NOut :=
 if 400 < l.length then ⟨[], 0, 2⟩
 else if aXr l [] 0 = false then ⟨[], 0, 1⟩
 else aW6 l 0 [] []
end Go.Proofs.YtocnfoeaikiecaaGreatDoor.PlainN
namespace Go.Proofs.YtocnfoeaikiecaaGreatDoor
open Plain7
def bX3 (s : ByteArray) : List UInt8 := if 4000 < s.size then [] else aZq s.data.toList
end Go.Proofs.YtocnfoeaikiecaaGreatDoor
