import Derived.Test.YtdblemolaojebaaGreatDoorPlD
namespace Go.Proofs.YtdblemolaojebaaGreatDoor.Plain7
open Go.Lib
def bQa : List UInt8 → List UInt8
 | [] => []
 | c :: t => if c ≠ 13 then c :: bQa t else if t.head? = some 10 then bQa t else 10 :: bQa t
section
variable {old new : List UInt8}
theorem rep_eq (h : (old == new) = false) (s : List UInt8) : replaceAll s old new = replaceK old new (count s old) s := by
 unfold replaceAll replace
 rw [h]
 simp [replaceNum]
theorem rep_nil (h : (old == new) = false) (ho : old ≠ []) : replaceAll [] old new = [] := by
 have hi : index [] old = -1 := by
  cases old with
  | nil => exact absurd rfl ho
  | cons a l => rfl
 rw [rep_eq h, count_miss hi]
 rfl
theorem rep_pre (h : (old == new) = false) (ho : old ≠ []) {c : UInt8} {t : List UInt8} (hp : old.isPrefixOf (c :: t) = true) : replaceAll (c :: t) old new = new ++ replaceAll ((c :: t).drop old.length) old new := by
 have hi : index (c :: t) old = ((0 : Nat) : Int) := by unfold index; rw [if_pos hp]; rfl
 rw [rep_eq h, rep_eq h, count_hit ho hi, Nat.add_comm 1, replaceK_hit _ _ _ _ 0 hi]
 simp
theorem bQh (h : (old == new) = false) (ho : old ≠ []) {c : UInt8} {t : List UInt8} (hp : old.isPrefixOf (c :: t) = false) : replaceAll (c :: t) old new = c :: replaceAll t old new := by
 rw [rep_eq h, rep_eq h]
 have hge := index_ge t old
 by_cases hm : index t old = -1
 · have hi : index (c :: t) old = -1 := by unfold index; rw [if_neg (by simp [hp]), if_pos (by simp [hm])]
   rw [count_miss hi, count_miss hm]
   rfl
 · obtain ⟨i, hi⟩ : ∃ i : Nat, index t old = i := ⟨(index t old).toNat, by omega⟩
   have hi' : index (c :: t) old = ((i + 1 : Nat) : Int) := by unfold index; rw [if_neg (by simp [hp]), if_neg (by simp [hm]), hi]; omega
   rw [count_hit ho hi', count_hit ho hi, Nat.add_comm 1, Nat.add_comm 1, replaceK_hit _ _ _ _ (i + 1) hi', replaceK_hit _ _ _ _ i hi]
   simp [Nat.add_right_comm i 1]
end
theorem pre1 (c : UInt8) (t : List UInt8) : [(13 : UInt8)].isPrefixOf (c :: t) = decide (c = 13) := by
 simp [List.isPrefixOf]
 by_cases h : c = 13
 · simp [h]
 · simp [h]; intro e; exact h e.symm
theorem pre2 (c : UInt8) (t : List UInt8) : [(13 : UInt8), 10].isPrefixOf (c :: t) = (decide (c = 13) && decide (t.head? = some 10)) := by
 cases t with
 | nil => simp [List.isPrefixOf]
 | cons d u =>
  apply Bool.eq_iff_iff.2
  simp only [List.isPrefixOf, Bool.and_true, Bool.and_eq_true, beq_iff_eq, decide_eq_true_eq, List.head?_cons, Option.some.injEq]
  exact ⟨fun ⟨a, b⟩ => ⟨a.symm, b.symm⟩, fun ⟨a, b⟩ => ⟨a.symm, b.symm⟩⟩
theorem bZ8 : ∀ (n : Nat) (l : List UInt8), l.length ≤ n → replaceAll (replaceAll l [13, 10] [10]) [13] [10] = bQa l
 | _, [], _ => by rw [rep_nil rfl (by simp), rep_nil rfl (by simp)]; rfl
 | 0, c :: t, h => by simp at h
 | n + 1, c :: t, h => by
  simp at h
  have p1 := fun x => pre1 c x
  have p2 := pre2 c t
  by_cases hc : c = 13
  · subst hc
    by_cases ht : t.head? = some 10
    · obtain ⟨u, rfl⟩ : ∃ u, t = 10 :: u := by
       cases t with
       | nil => simp at ht
       | cons d u => simp at ht; exact ⟨u, by rw [ht]⟩
      rw [rep_pre (old := [13, 10]) (new := [10]) rfl (by simp) (by rw [p2]; simp)]
      simp only [List.length_cons, List.length_nil, List.drop_succ_cons, List.drop_zero, List.cons_append, List.nil_append]
      rw [bQh (old := [13]) (new := [10]) rfl (by simp) (by rw [pre1]; decide), bZ8 n u (by simp at h; omega)]
      simp [bQa]
    · rw [bQh (old := [13, 10]) (new := [10]) rfl (by simp) (by rw [p2]; simp [ht]), rep_pre (old := [13]) (new := [10]) rfl (by simp) (by rw [p1]; simp)]
      simp only [List.length_cons, List.length_nil, List.drop_succ_cons, List.drop_zero, List.cons_append, List.nil_append]
      rw [bZ8 n t (by omega)]
      simp [bQa, ht]
  · rw [bQh (old := [13, 10]) (new := [10]) rfl (by simp) (by rw [p2]; simp [hc]), bQh (old := [13]) (new := [10]) rfl (by simp) (by rw [p1]; simp [hc]), bZ8 n t (by omega)]
    simp [bQa, hc]
theorem rep_len (new : List UInt8) : ∀ (n : Nat) (old l : List UInt8), l.length ≤ n → old ≠ [] → (old == new) = false → new.length ≤ old.length → (replaceAll l old new).length ≤ l.length
 | _, old, [], _, ho, hne, _ => by rw [rep_nil hne ho]; simp
 | 0, _, c :: t, h, _, _, _ => by simp at h
 | n + 1, old, c :: t, h, ho, hne, hl => by
  cases hp : old.isPrefixOf (c :: t) with
  | true =>
   rw [rep_pre hne ho hp, List.length_append]
   have hol : 1 ≤ old.length := by cases old with | nil => exact absurd rfl ho | cons a b => simp
   have hpl : old.length ≤ (c :: t).length := (List.isPrefixOf_iff_prefix.1 hp).length_le
   have := rep_len new n old ((c :: t).drop old.length) (by simp at h ⊢; omega) ho hne hl
   rw [List.length_drop] at this
   omega
  | false =>
   rw [bQh hne ho hp]
   have := rep_len new n old t (by simp at h; omega) ho hne hl
   simp; omega
theorem endsE_len (l : List UInt8) : (bQa l).length ≤ l.length := by
 induction l with
 | nil => simp [bQa]
 | cons c t ih =>
  unfold bQa
  split
  · simp; omega
  · split
    · simp; omega
    · simp; omega
def numsOf (l : List UInt8) : List Int := l.map fun b => (b.toNat : Int)
theorem strOf_nums (l : List UInt8) : strOfNums (numsOf l) = ⟨l.toArray⟩ := by
 unfold strOfNums numsOf
 congr 2
 rw [List.map_map]
 apply List.ext_getElem
 · simp
 · intro i h1 h2
   simp
theorem bJ3 (l : List UInt8) (c : UInt8) : numsOf (l ++ [c]) = numsOf l ++ [(c.toNat : Int)] := by simp [numsOf]
theorem aYz (x y : UInt8) : (x.toNat : Int) = (y.toNat : Int) ↔ x = y := by
 constructor
 · intro h; exact UInt8.toNat.inj (by omega)
 · intro h; rw [h]
end Go.Proofs.YtdblemolaojebaaGreatDoor.Plain7
namespace Go.Proofs.YtdblemolaojebaaGreatDoor.PlainR
open Go.RowKit Strs Ents Plain5 Plain7 Plain9 Plain10 Plain23 Go.Lib
structure Ev where
 kind : Int
 name : ByteArray
 text : ByteArray
 attrs : List (ByteArray × ByteArray)
structure Rs where
 dt : Dt
 evs : List Ev
 txt : List UInt8
 pos : Nat
 deep : Nat
 wi : List ByteArray
 spent : Nat
def ampE (s : ByteArray) (p : Nat) : Nat := if fz s p [38] = -1 then s.size else (fz s p [38]).toNat
def encB (n : Int) : List UInt8 := (Utf8.encode n).data.toList
def aW8 (nm : ByteArray) : Option UInt8 :=
 if nm.toList == [108, 116] then some 60
 else if nm.toList == [103, 116] then some 62
 else if nm.toList == [97, 109, 112] then some 38
 else if nm.toList == [97, 112, 111, 115] then some 39
 else if nm.toList == [113, 117, 111, 116] then some 34
 else none
def inB (l : List ByteArray) (nm : ByteArray) : Bool := l.any fun x => x.toList == nm.toList
def aJ7 : List UInt8 → Option (List UInt8)
 | [] => some []
 | c :: l => if c = 60 then none else (aJ7 l).map fun r => (if c = 9 ∨ c = 10 then 32 else c) :: r
def bQt (D : Dt) (wi : List ByteArray) (sp : Nat) (nm : ByteArray) : Except Int ByteArray :=
 if (entR D.ents nm).1.size = 0 then .error 5
 else if inB wi nm = true then .error 9
 else if 4000 < sp + (entR D.ents nm).2.size then .error 7
 else .ok (entR D.ents nm).2
abbrev Sg := Rs × List UInt8
def aKf (v : Bool) (σ : Sg) (t : List UInt8) : Option Sg := if v = true then (aJ7 t).map fun l => (σ.1, σ.2 ++ l) else some ({ σ.1 with txt := σ.1.txt ++ t }, σ.2)
def aWg (v : Bool) (σ : Sg) (l : List UInt8) : Sg := if v = true then (σ.1, σ.2 ++ l) else ({ σ.1 with txt := σ.1.txt ++ l }, σ.2)
def goIn (σ : Sg) (nm tx : ByteArray) : Sg := ({ σ.1 with wi := nm :: σ.1.wi, spent := σ.1.spent + tx.size }, σ.2)
def goOut (wi : List ByteArray) (σ : Sg) : Sg := ({ σ.1 with wi := wi }, σ.2)
def aX5 (v : Bool) (EN : Sg → ByteArray → Sg × Option Int) : Nat → ByteArray → Nat → Sg → Sg × Option Int
 | 0, _, _, σ => (σ, some 0)
 | n + 1, s, p, σ =>
  if s.size ≤ p then (σ, none)
  else if aQ2 s p ≠ 38 then
   match aKf v σ (s.extract p (ampE s p)).data.toList with
   | none => (σ, some 3)
   | some σ' => aX5 v EN n s (ampE s p) σ'
  else
   match refZ s p with
   | none => (σ, some 3)
   | some (.inl c, q) => aX5 v EN n s q (aWg v σ (encB c))
   | some (.inr nm, q) =>
    match aW8 nm with
    | some b => aX5 v EN n s q (aWg v σ [b])
    | none =>
     match bQt σ.1.dt σ.1.wi σ.1.spent nm with
     | .error c => (σ, some c)
     | .ok tx =>
      match EN (goIn σ nm tx) tx with
      | (σ2, some c) => (σ2, some c)
      | (σ2, none) => aX5 v EN n s q (goOut σ.1.wi σ2)
def valE : Nat → Sg → ByteArray → Sg × Option Int
 | 0, σ, _ => (σ, some 0)
 | f + 1, σ, tx => aX5 true (valE f) (tx.size + 1) tx 0 σ
def aVq : Nat := 4003
def aWy (n : Nat) : Bool := n == 32
def wordsT (s : ByteArray) : ByteArray := ⟨(Lib.join ((Lib.goFieldsP aWy s).map (·.data.toList)) [32]).toArray⟩
def aK9 (st : Rs) (t : ByteArray) (words : Bool) : Rs × Except Int ByteArray :=
 match aX5 true (valE aVq) (t.size + 1) t 0 (st, []) with
 | (σ, some c) => (σ.1, .error c)
 | (σ, none) => (σ.1, .ok (if words = true then wordsT ⟨σ.2.toArray⟩ else ⟨σ.2.toArray⟩))
def aKo : List (ByteArray × ByteArray × Bool) → Rs → List (ByteArray × ByteArray) → Rs × Except Int (List (ByteArray × ByteArray))
 | [], st, acc => (st, .ok acc)
 | a :: l, st, acc =>
  match aK9 st a.2.1 a.2.2 with
  | (st', .error c) => (st', .error c)
  | (st', .ok v) => aKo l st' (acc ++ [(a.1, v)])
def ownA (D : Dt) (nm : ByteArray) (l : List (ByteArray × ByteArray)) : List (ByteArray × ByteArray × Bool) := l.map fun a => (a.1, a.2, (attR D.atts nm a.1).words)
def defA (D : Dt) (nm : ByteArray) (l : List (ByteArray × ByteArray)) : List (ByteArray × ByteArray × Bool) :=
 (D.atts.filter fun a => (a.of.toList == nm.toList) && (a.has && !hasZ l a.nm)).map fun a => (a.nm, a.val, a.words)
def bX6 (st : Rs) (e : Ev) : Rs := { st with evs := (if st.txt = [] then st.evs else st.evs ++ [⟨3, ⟨#[]⟩, ⟨st.txt.toArray⟩, []⟩]) ++ [e], txt := [] }
def tokZ (s : ByteArray) (p : Nat) (closed : Bool) : Tk := if aQ5 s p [60] = true then aJa s p else aWe s p closed
def atZ (st : Rs) (p : Nat) : Rs := if st.wi = [] then { st with pos := p } else st
def aXt (st : Rs) (s : ByteArray) (p : Nat) (closed : Bool) : Rs × Except Int Tk :=
 if p = s.size then (atZ st p, if closed = true then .ok ⟨0, 0, ⟨#[]⟩, ⟨#[]⟩, [], p⟩ else .error 4)
 else if (tokZ s p closed).fl = 0 then (atZ st p, .ok (tokZ s p closed)) else (atZ st p, .error (aZf (tokZ s p closed).fl closed))
def aKd (st : Rs) (T : Tk) : Rs × Option Int :=
 if st.deep = 30 then (st, some 8)
 else
  match aKo (ownA st.dt T.name T.attrs ++ defA st.dt T.name T.attrs) st [] with
  | (st', .error c) => (st', some c)
  | (st', .ok l) => (bX6 st' ⟨1, T.name, ⟨#[]⟩, l⟩, none)
def endR (st : Rs) (nm : ByteArray) : Rs := bX6 st ⟨2, nm, ⟨#[]⟩, []⟩
def bX0 (st : Rs) (T : Tk) : Rs := bX6 st ⟨if T.kind = 7 then 5 else 4, T.name, T.text, []⟩
def aJr (E : Option ByteArray) (T : Tk) : Bool :=
 match E with
 | none => decide (T.kind = 0)
 | some nm => decide (T.kind = 2) && (T.name.toList == nm.toList)
def bJ7 (t : ByteArray) : Bool := decide ((aQv t).2 < 0 ∧ fz t 0 [13] = -1)
def aZ3 : Nat → Option ByteArray → ByteArray → Nat → Bool → Rs → Rs × Except Int Nat
 | 0, _, _, _, _, st => (st, .error 0)
 | f + 1, E, s, p, cl, st =>
  match aXt st s p cl with
  | (st1, .error c) => (st1, .error c)
  | (st1, .ok T) =>
   if aJr E T = true then (st1, .ok T.pos)
   else if T.kind = 1 ∨ T.kind = 3 then
    match aKd st1 T with
    | (st2, some c) => (st2, .error c)
    | (st2, none) =>
     if T.kind = 1 then
      match aZ3 f (some T.name) s T.pos cl { st2 with deep := st2.deep + 1 } with
      | (st3, .error c) => (st3, .error c)
      | (st3, .ok q) => aZ3 f E s q cl (endR { st3 with deep := st2.deep } T.name)
     else aZ3 f E s T.pos cl (endR st2 T.name)
   else if T.kind = 6 ∨ T.kind = 7 then aZ3 f E s T.pos cl (bX0 st1 T)
   else if T.kind = 4 then
    match aX5 false (fun σ tx => if bJ7 tx = false then (σ, some 1) else match aZ3 f none tx 0 true σ.1 with
     | (st3, .error c) => ((st3, σ.2), some c)
     | (st3, .ok _) => ((st3, σ.2), none)) (T.text.size + 1) T.text 0 (st1, []) with
    | (σ, some c) => (σ.1, .error c)
    | (σ, none) => aZ3 f E s T.pos cl σ.1
   else if T.kind = 5 then aZ3 f E s T.pos cl { st1 with txt := st1.txt ++ T.text.data.toList }
   else (st1, .error 3)
def entC (f : Nat) (σ : Sg) (tx : ByteArray) : Sg × Option Int :=
 if bJ7 tx = false then (σ, some 1) else match aZ3 f none tx 0 true σ.1 with
  | (st3, .error c) => ((st3, σ.2), some c)
  | (st3, .ok _) => ((st3, σ.2), none)
def aWa (f : Nat) (s : ByteArray) (T : Tk) (cl : Bool) (st : Rs) : Rs × Except Int Nat :=
 match aKd st T with
 | (st2, some c) => (st2, .error c)
 | (st2, none) =>
  if T.kind = 1 then
   match aZ3 f (some T.name) s T.pos cl { st2 with deep := st2.deep + 1 } with
   | (st3, .error c) => (st3, .error c)
   | (st3, .ok q) => (endR { st3 with deep := st2.deep } T.name, .ok q)
  else (endR st2 T.name, .ok T.pos)
def meas (sp sz p : Nat) : Nat := (4001 - sp) * 5000 + (sz - p) + 1
def aKn : Nat := 4001 * 5000 + 5000
def whiteB (t : ByteArray) : Bool := t.data.toList.all fun c => c = 9 ∨ c = 10 ∨ c = 32
def aV1 : Nat → ByteArray → Nat → Bool → Bool → Bool → Rs → Rs × Option Int
 | 0, _, _, _, _, _, st => (st, some 0)
 | f + 1, s, p, cl, hd, en, st =>
  match aXt st s p cl with
  | (st1, .error c) => (st1, some c)
  | (st1, .ok T) =>
   if T.kind = 0 then (st1, if en = true then none else some 3)
   else if T.kind = 6 ∨ T.kind = 7 then aV1 f s T.pos cl hd en (bX0 st1 T)
   else if T.kind = 4 ∧ whiteB T.text = true then aV1 f s T.pos cl hd en st1
   else if T.kind = 8 ∧ hd = false ∧ en = false then
    if (aZ7 T.text).code = 0 then aV1 f s T.pos cl true en { st1 with dt := (aZ7 T.text).dtd } else (st1, some (aZ7 T.text).code)
   else if (T.kind = 1 ∨ T.kind = 3) ∧ en = false then
    match aWa aKn s T cl st1 with
    | (st2, .error c) => (st2, some c)
    | (st2, .ok q) => aV1 f s q cl hd true st2
   else (st1, some 3)
def verL : List UInt8 := [60, 63, 120, 109, 108, 32, 118, 101, 114, 115, 105, 111, 110, 61, 34, 49, 46, 48, 34, 63, 62]
def encL : List UInt8 := [60, 63, 120, 109, 108, 32, 118, 101, 114, 115, 105, 111, 110, 61, 34, 49, 46, 48, 34, 32, 101, 110, 99, 111, 100, 105, 110, 103, 61, 34, 85, 84, 70, 45, 56, 34, 63, 62]
def st0 : Rs := ⟨⟨[], []⟩, [], [], 0, 0, [], 0⟩
def docR (s : ByteArray) (cl : Bool) : Rs × Option Int :=
 if aQ5 s 0 verL = true then aV1 (s.size + 1) s 21 cl false false st0
 else if aQ5 s 0 encL = true then aV1 (s.size + 1) s 38 cl false false st0
 else if cl = false ∧ ((rest s 0).isPrefixOf verL = true ∨ (rest s 0).isPrefixOf encL = true) then (st0, some 4)
 else aV1 (s.size + 1) s 0 cl false false st0
structure EOut where
 evs : List Ev
 at1 : Int
 code : Int
def bXy (s : ByteArray) (cl : Bool) : EOut :=
 if 4000 < s.size then ⟨[], 0, 2⟩
 else if 0 ≤ (aQv ⟨(bQa s.data.toList).toArray⟩).2 then ⟨[], 0, 1⟩
 else match docR ⟨(bQa s.data.toList).toArray⟩ cl with
  | (st, none) => ⟨st.evs, st.pos, 0⟩
  | (st, some c) => ⟨st.evs, st.pos, c⟩
end Go.Proofs.YtdblemolaojebaaGreatDoor.PlainR
