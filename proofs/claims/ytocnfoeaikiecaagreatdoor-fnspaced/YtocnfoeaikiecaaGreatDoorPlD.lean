import Derived.Test.YtocnfoeaikiecaaGreatDoorPlC
namespace Go.Proofs.YtocnfoeaikiecaaGreatDoor.Plain23
open Go.RowKit Plain1 Strs Ents Plain9 Plain10 Plain11 Go.Lib
def digV (c : UInt8) : Nat := if 48 ≤ c.toNat ∧ c.toNat ≤ 57 then c.toNat - 48 else if 97 ≤ c.toNat ∧ c.toNat ≤ 102 then c.toNat - 87 else if 65 ≤ c.toNat ∧ c.toNat ≤ 70 then c.toNat - 55 else 99
def digs (base : Nat) (l : List UInt8) : List UInt8 := l.takeWhile fun c => decide (digV c < base)
def digX (base : Nat) (l : List UInt8) : Nat := l.foldl (fun n c => base * n + digV c) 0
def aJq (s : ByteArray) (p : Nat) : Nat := if aQa s p [120] = true then 16 else 10
def aZu (s : ByteArray) (p : Nat) : Nat := if aQa s p [120] = true then p + 1 else p
def numD (s : ByteArray) (p : Nat) : List UInt8 := digs (aJq s p) (rest s (aZu s p))
def numV (s : ByteArray) (p : Nat) : Nat := digX (aJq s p) (numD s p)
abbrev cV7 (s : ByteArray) (p : Nat) : Prop := 1 ≤ (numD s p).length ∧ (numD s p).length ≤ 8 ∧ aQa s (aZu s p + (numD s p).length) [59] = true ∧ aZ5 (numV s p) = true
def numZ (s : ByteArray) (p : Nat) : Option (Int × Nat) := if cV7 s p then some ((numV s p : Int), aZu s p + (numD s p).length + 1) else none
abbrev Rf := Int ⊕ ByteArray
def aVw (s : ByteArray) (p : Nat) : Option (ByteArray × Nat) := if nmF s p = 0 ∧ aQa s (nmP s p) [59] = true then some (nmT s p, nmP s p + 1) else none
def refZ (s : ByteArray) (p : Nat) : Option (Rf × Nat) :=
 if aQa s (p + 1) [35] = true then (numZ s (p + 2)).map fun x => (.inl x.1, x.2) else (aVw s (p + 1)).map fun x => (.inr x.1, x.2)
def nums (s : ByteArray) : List Int := s.data.toList.map fun c => (c.toNat : Int)
def aK6 (v : ByteArray) : Nat → Nat → List Int → Option (List Int)
 | 0, _, acc => some acc
 | f + 1, i, acc =>
  if i < v.size then
   if aQ1 v i = 37 then none
   else if aQ1 v i = 38 then
    match refZ v i with
    | none => none
    | some (.inl n, q) => aK6 v f q (acc ++ encodeRuneZ n)
    | some (.inr _, q) => aK6 v f q (acc ++ nums (v.extract i q))
   else aK6 v f (i + 1) (acc ++ [aQ1 v i])
  else some acc
def entO (v : ByteArray) : Option (List Int) := aK6 v (v.size + 1) 0 []
abbrev Df := (ByteArray × ByteArray) ⊕ At5
def gapO (s : ByteArray) (p : Nat) : Option Nat := if p < whiteZ s p then some (whiteZ s p) else none
def aJ6 (s : ByteArray) (p : Nat) : Option (ByteArray × Nat) := if nmF s p = 0 then some (nmT s p, nmP s p) else none
def valO (s : ByteArray) (p : Nat) : Option (ByteArray × Nat) := if valF s p = 0 then some (valT s p, valP s p) else none
def u8 (s : ByteArray) (p : Nat) : UInt8 := s.data.toList.getD p 0
def qtO (s : ByteArray) (p : Nat) : Option (ByteArray × Nat) :=
 if p < s.size ∧ aY2 (aQ1 s p) = true ∧ upF s (p + 1) [u8 s p] = 0 then some (upT s (p + 1) [u8 s p], upP s (p + 1) [u8 s p]) else none
def bQh (s : ByteArray) (p : Nat) (sg : List UInt8) : Option Nat := if aQa s p sg = true then some (p + sg.length) else none
def aJs (s : ByteArray) (p : Nat) : Option (List Df × Nat) :=
 (gapO s p).bind fun a => (aJ6 s a).bind fun n => (gapO s n.2).bind fun b => (qtO s b).bind fun v => (entO v.1).bind fun t => (bQh s (whiteZ s v.2) [62]).bind fun q => some ([.inl (n.1, strOfNums t)], q)
def bVi (k : ByteArray) : Option Bool :=
 if k.data.toList = [67, 68, 65, 84, 65] then some false
 else if k.data.toList = [73, 68] ∨ k.data.toList = [73, 68, 82, 69, 70] ∨ k.data.toList = [78, 77, 84, 79, 75, 69, 78] ∨ k.data.toList = [78, 77, 84, 79, 75, 69, 78, 83] then some true
 else none
def reqL : List UInt8 := [35, 82, 69, 81, 85, 73, 82, 69, 68]
def impL : List UInt8 := [35, 73, 77, 80, 76, 73, 69, 68]
def fixL : List UInt8 := [35, 70, 73, 88, 69, 68]
def defZ (s : ByteArray) (p : Nat) : Option (Bool × ByteArray × Nat) :=
 if aQa s p reqL = true then some (false, ⟨#[]⟩, p + 9)
 else if aQa s p impL = true then some (false, ⟨#[]⟩, p + 8)
 else if aQa s p fixL = true then (gapO s (p + 6)).bind fun a => (valO s a).bind fun v => some (true, v.1, v.2)
 else (valO s p).bind fun v => some (true, v.1, v.2)
def attZ (s o : ByteArray) (p : Nat) : Option (At5 × Nat) :=
 (aJ6 s p).bind fun n => (gapO s n.2).bind fun a => (aJ6 s a).bind fun k => (bVi k.1).bind fun wd => (gapO s k.2).bind fun b => (defZ s b).bind fun d => some (⟨o, n.1, wd, d.1, d.2.1⟩, d.2.2)
def aKp (s o : ByteArray) : Nat → Nat → List At5 → Option (List At5 × Nat)
 | 0, _, _ => none
 | f + 1, p, acc =>
  if aQa s (whiteZ s p) [62] = true then some (acc, whiteZ s p + 1)
  else if whiteZ s p = p then none
  else match attZ s o (whiteZ s p) with
   | none => none
   | some (a, q) => aKp s o f q (acc ++ [a])
def aK8 (s : ByteArray) (p : Nat) : Option (List Df × Nat) :=
 (gapO s p).bind fun a => (aJ6 s a).bind fun n => (aKp s n.1 (s.size + 1) n.2 []).bind fun l => some (l.1.map .inr, l.2)
def aK7 (s : ByteArray) (p : Nat) : Option (List Df × Nat) :=
 (gapO s p).bind fun a => (aJ6 s a).bind fun n => (gapO s n.2).bind fun b => if upF s b [62] = 0 ∧ Lib.index (upT s b [62]).data.toList [60] = -1 then some ([], upP s b [62]) else none
def entL : List UInt8 := [60, 33, 69, 78, 84, 73, 84, 89]
def attL : List UInt8 := [60, 33, 65, 84, 84, 76, 73, 83, 84]
def eleL : List UInt8 := [60, 33, 69, 76, 69, 77, 69, 78, 84]
def aWu (s : ByteArray) (p : Nat) : Option (List Df × Nat) :=
 if aQa s p [60, 33, 45, 45] = true then (if (aXa s (p + 4)).fl = 0 then some ([], (aXa s (p + 4)).pos) else none)
 else if aQa s p [60, 63] = true then (if (piZ s (p + 2)).fl = 0 then some ([], (piZ s (p + 2)).pos) else none)
 else if aQa s p entL = true then aJs s (p + 8)
 else if aQa s p attL = true then aK8 s (p + 9)
 else if aQa s p eleL = true then aK7 s (p + 9)
 else none
structure Dt where
 ents : List (ByteArray × ByteArray)
 atts : List At5
def addD (d : Dt) : Df → Dt
 | .inl e => if (d.ents.find? (aWa e.1)).isSome = true then d else ⟨d.ents ++ [e], d.atts⟩
 | .inr a => if (d.atts.find? (aV1 a.of a.nm)).isSome = true then d else ⟨d.ents, d.atts ++ [a]⟩
def aZe (d : Dt) (l : List Df) : Dt := l.foldl addD d
def bYt (d : Dt) : Bool := decide (40 < d.ents.length ∨ 40 < d.atts.length)
structure DOut where
 dtd : Dt
 at1 : Int
 code : Int
def bVn (at1 code : Int) : DOut := ⟨⟨[], []⟩, at1, code⟩
def implGo (s : ByteArray) : Nat → Nat → Dt → Int → DOut
 | 0, _, _, _ => bVn 0 0
 | f + 1, p, d, fu =>
  if whiteZ s p < s.size then
   match aWu s (whiteZ s p) with
   | none => bVn (whiteZ s p : Int) 3
   | some (l, q) => implGo s f q (aZe d l) (if fu < 0 ∧ bYt (aZe d l) = true then (whiteZ s p : Int) else fu)
  else if fu < 0 then ⟨d, 0, 0⟩ else bVn fu 7
def aY9 (s : ByteArray) : Nat → Nat → Dt → DOut
 | 0, _, _ => bVn 0 0
 | f + 1, p, d =>
  if whiteZ s p < s.size then
   match aWu s (whiteZ s p) with
   | none => bVn (whiteZ s p : Int) 3
   | some (l, q) => if bYt (aZe d l) = true then bVn (whiteZ s p : Int) 7 else aY9 s f q (aZe d l)
  else ⟨d, 0, 0⟩
theorem aJg {s : ByteArray} {p q : Nat} (h : gapO s p = some q) : p < q ∧ q = whiteZ s p ∧ (p ≤ s.size → q ≤ s.size) := by
 unfold gapO at h
 split at h
 · cases h; exact ⟨by assumption, rfl, aQv⟩
 · cases h
theorem aZj {s : ByteArray} {p : Nat} {n : ByteArray × Nat} (h : aJ6 s p = some n) : nmF s p = 0 ∧ n.1 = nmT s p ∧ n.2 = nmP s p ∧ p < n.2 ∧ n.2 < s.size := by
 unfold aJ6 at h
 split at h
 · rename_i h0
   cases h
   have := aZx h0
   exact ⟨h0, rfl, rfl, by simp only; omega, this.2.2.1⟩
 · cases h
theorem bY8 {s : ByteArray} {p : Nat} (h : nmF s p ≠ 0) : aJ6 s p = none := by unfold aJ6; rw [if_neg h]
theorem dXu {s : ByteArray} {p : Nat} (h : nmF s p = 0) : aJ6 s p = some (nmT s p, nmP s p) := by unfold aJ6; rw [if_pos h]
theorem aYp {s : ByteArray} {p : Nat} {n : ByteArray × Nat} (h : valO s p = some n) : valF s p = 0 ∧ n.1 = valT s p ∧ n.2 = valP s p ∧ p + 1 < n.2 ∧ n.2 ≤ s.size := by
 unfold valO at h
 split at h
 · rename_i h0
   cases h
   have := aYo h0
   refine ⟨h0, rfl, rfl, ?_, ?_⟩ <;> simp only [valP] <;> omega
 · cases h
theorem bYb {s : ByteArray} {p q : Nat} {sg : List UInt8} (h : bQh s p sg = some q) : aQa s p sg = true ∧ q = p + sg.length := by
 unfold bQh at h
 split at h
 · rename_i h0; cases h; exact ⟨h0, rfl⟩
 · cases h
theorem cX2 {s : ByteArray} {p : Nat} {n : ByteArray × Nat} (h : qtO s p = some n) : p < s.size ∧ aY2 (aQ1 s p) = true ∧ upF s (p + 1) [u8 s p] = 0 ∧ n.1 = upT s (p + 1) [u8 s p] ∧ n.2 = upP s (p + 1) [u8 s p] ∧ p + 1 < n.2 ∧ n.2 ≤ s.size := by
 unfold qtO at h
 split at h
 · rename_i h0
   cases h
   have := bQc (sg := [u8 s p]) (show p + 1 ≤ s.size by omega) h0.2.2
   refine ⟨h0.1, h0.2.1, h0.2.2, rfl, rfl, ?_, this.1⟩
   have h2 := this.2
   simp only [List.length_cons, List.length_nil] at h2 ⊢
   simp only [upP] at h2 ⊢
   simp only [List.length_cons, List.length_nil] at h2 ⊢
   omega
 · cases h
end Go.Proofs.YtocnfoeaikiecaaGreatDoor.Plain23
namespace Go.Proofs.YtocnfoeaikiecaaGreatDoor.Plain24
open Go.RowKit Strs Ents Plain6 Plain9 Plain10 Plain11 Plain18 Plain19 Plain23 Go.Lib
variable {s u : ByteArray} {t : List UInt8}
theorem bYy (h : Ext s u t) {p q : Nat} (hq : q < s.size) (hg : gapO s p = some q) : gapO u p = some q := by
 obtain ⟨h1, rfl, _⟩ := aJg hg
 unfold gapO
 rw [bXo h hq, if_pos h1]
theorem bV3 (h : Ext s u t) {p : Nat} {n : ByteArray × Nat} (hv : VB s p) (hn : aJ6 s p = some n) : aJ6 u p = some n ∧ VB s n.2 := by
 obtain ⟨h0, h1, h2, _, _⟩ := aZj hn
 have := e_nm h hv (by omega)
 have h3 := this.2 h0
 refine ⟨?_, h2 ▸ nm_VB hv⟩
 unfold aJ6
 rw [if_pos (by rw [this.1]; exact h0), h3.1, h3.2, ← h1, ← h2]
theorem dJj (h : Ext s u t) (h0 : VB s 0) {p : Nat} {n : ByteArray × Nat} (hn : valO s p = some n) : valO u p = some n ∧ VB s n.2 := by
 obtain ⟨h1, h2, h3, _, _⟩ := aYp hn
 have := e_val h (p := p) (by omega)
 have h4 := this.2 h1
 refine ⟨?_, h3 ▸ dZx h0 h1⟩
 unfold valO
 rw [if_pos (by rw [this.1]; exact h1), h4.1, h4.2, ← h2, ← h3]
theorem dKa (h : Ext s u t) {p q : Nat} {sg : List UInt8} (hp : p ≤ s.size) (hm : bQh s p sg = some q) : bQh u p sg = some q := by
 obtain ⟨h1, rfl⟩ := bYb hm
 unfold bQh
 rw [if_pos (bXp h hp h1)]
theorem e_u8h (h : Ext s u t) {i : Nat} (hi : i < s.size) : u8 u i = u8 s i := by
 have h' : u.data.toList = s.data.toList ++ t := h
 unfold u8
 simp only [List.getD]
 rw [h', List.getElem?_append_left (by rw [aVg]; exact hi)]
theorem cX1 {p : Nat} (hq : aY2 (aQ1 s p) = true) : (u8 s p).toNat < 128 := by
 unfold aY2 at hq
 have := of_decide_eq_true hq
 rw [aZ0] at this
 unfold u8
 omega
theorem e_qt (h : Ext s u t) (h0 : VB s 0) {p : Nat} {n : ByteArray × Nat} (hn : qtO s p = some n) : qtO u p = some n ∧ VB s n.2 := by
 obtain ⟨h1, h2, h3, h4, h5, h6, h7⟩ := cX2 hn
 have hu := e_up h (sg := [u8 s p]) (by simp) (show p + 1 ≤ s.size by omega) (by omega)
 refine ⟨?_, ?_⟩
 · unfold qtO
   rw [e_u8h h h1, aKm h h1, if_pos ⟨by have := e_le h; omega, h2, hu.2.1⟩, hu.2.2.1, hu.2.2.2, ← h4, ← h5]
 · rw [h5]
   exact cK5 h0 (by omega) h3 (by simp) (by simpa using cX1 h2)
theorem bJr {p : Nat} {c : UInt8} {sg : List UInt8} (h : aQa s p (c :: sg) = true) : p < s.size := by
 apply Decidable.byContradiction
 intro hn
 unfold aQa at h
 rw [aW2 (by omega)] at h
 simp at h
theorem dZi (h : Ext s u t) (h0 : VB s 0) {p : Nat} {r : List Df × Nat} (hv : VB s p) (hr : aJs s p = some r) : aJs u p = some r ∧ VB s r.2 ∧ p < r.2 ∧ r.2 ≤ s.size := by
 unfold aJs at hr ⊢
 obtain ⟨a, ha, hr⟩ := Option.bind_eq_some_iff.1 hr
 obtain ⟨n, hn, hr⟩ := Option.bind_eq_some_iff.1 hr
 obtain ⟨b, hb, hr⟩ := Option.bind_eq_some_iff.1 hr
 obtain ⟨v, hq, hr⟩ := Option.bind_eq_some_iff.1 hr
 obtain ⟨x, hx, hr⟩ := Option.bind_eq_some_iff.1 hr
 obtain ⟨q, hm, hr⟩ := Option.bind_eq_some_iff.1 hr
 cases hr
 obtain ⟨a1, a2, a3⟩ := aJg ha
 obtain ⟨n1, n2, n3, n4, n5⟩ := aZj hn
 obtain ⟨b1, b2, b3⟩ := aJg hb
 obtain ⟨q1, q2, q3, q4, q5, q6, q7⟩ := cX2 hq
 obtain ⟨m1, m2⟩ := bYb hm
 have hva : VB s a := a2 ▸ aKc h0 hv
 have en := bV3 h hva hn
 have hvb : VB s b := b2 ▸ aKc h0 en.2
 have eq := e_qt h h0 hq
 have hwl := bJr m1
 have hge := aXj s v.2
 rw [bYy h (by omega) ha, Option.bind_some, en.1, Option.bind_some, bYy h (by omega) hb, Option.bind_some, eq.1, Option.bind_some, hx, Option.bind_some, bXo h hwl, dKa h (by omega) hm, Option.bind_some]
 have hroom := aX5 m1 (by omega)
 refine ⟨rfl, ?_, ?_, ?_⟩
 · rw [m2]; exact aZn h0 m1 (by omega) (by simp) (by simp)
 · simp only [List.length_cons, List.length_nil] at m2; simp only; omega
 · simp only; omega
theorem dQb {p : Nat} {d : Bool × ByteArray × Nat} (h : defZ s p = some d) (hp : p ≤ s.size) : p + 2 ≤ d.2.2 ∧ d.2.2 ≤ s.size := by
 unfold defZ at h
 split at h
 · rename_i h1; cases h; have := aX5 h1 hp; simp only [reqL, List.length_cons, List.length_nil] at this; simp only; omega
 split at h
 · rename_i h1; cases h; have := aX5 h1 hp; simp only [impL, List.length_cons, List.length_nil] at this; simp only; omega
 split at h
 · rename_i h1
   have := aX5 h1 hp
   simp only [fixL, List.length_cons, List.length_nil] at this
   obtain ⟨a, ha, h⟩ := Option.bind_eq_some_iff.1 h
   obtain ⟨v, hv, h⟩ := Option.bind_eq_some_iff.1 h
   cases h
   obtain ⟨a1, a2, a3⟩ := aJg ha
   obtain ⟨_, _, _, v4, v5⟩ := aYp hv
   simp only; omega
 · obtain ⟨v, hv, h⟩ := Option.bind_eq_some_iff.1 h
   cases h
   obtain ⟨_, _, _, v4, v5⟩ := aYp hv
   simp only; omega
theorem cXs (h : Ext s u t) {p : Nat} {sg : List UInt8} (hp : p < s.size) (h35 : aQ1 s p ≠ 35) : aQa u p (35 :: sg) = false := by
 cases hc : aQa u p (35 :: sg) with
 | false => rfl
 | true =>
  have := aX6 hc (by have := e_le h; omega)
  rw [aKm h hp] at this
  exact absurd this h35
theorem e_def (h : Ext s u t) (h0 : VB s 0) {p : Nat} {d : Bool × ByteArray × Nat} (hp : p ≤ s.size) (hd : defZ s p = some d) : defZ u p = some d ∧ VB s d.2.2 := by
 unfold defZ at hd
 split at hd
 · rename_i h1
   cases hd
   refine ⟨by unfold defZ; rw [if_pos (bXp h hp h1)], ?_⟩
   exact aZn (sg := reqL) h0 h1 hp (by simp [reqL]) (by simp [reqL])
 split at hd
 · rename_i h1
   cases hd
   have nu : aQa u p reqL = false := by
    cases hc : aQa u p reqL with
    | false => rfl
    | true =>
     have hr := aX5 h1 hp
     simp only [impL, List.length_cons, List.length_nil] at hr
     have a1 := aK2 hc (by have := e_le h; omega) 1 (by simp [reqL])
     have a2 := aK2 h1 hp 1 (by simp [impL])
     rw [aKm h (by omega)] at a1
     rw [a1] at a2
     simp [reqL, impL] at a2
   refine ⟨by unfold defZ; rw [if_neg (by simp [nu]), if_pos (bXp h hp h1)], ?_⟩
   exact aZn (sg := impL) h0 h1 hp (by simp [impL]) (by simp [impL])
 split at hd
 · rename_i h1
   have hr := aX5 h1 hp
   simp only [fixL, List.length_cons, List.length_nil] at hr
   have no : ∀ sg : List UInt8, 1 < sg.length → sg.getD 1 0 ≠ 70 → aQa u p sg = false := by
    intro sg hl hne
    cases hc : aQa u p sg with
    | false => rfl
    | true =>
     have a1 := aK2 hc (by have := e_le h; omega) 1 hl
     have a2 := aK2 h1 hp 1 (by simp [fixL])
     rw [aKm h (by omega)] at a1
     rw [a1] at a2
     refine absurd ?_ hne
     have : ((sg.getD 1 0).toNat : Int) = 70 := by simpa [fixL] using a2
     have h70 : (sg.getD 1 0).toNat = 70 := by omega
     exact UInt8.toNat.inj (by simpa using h70)
   obtain ⟨a, ha, hd⟩ := Option.bind_eq_some_iff.1 hd
   obtain ⟨v, hvv, hd⟩ := Option.bind_eq_some_iff.1 hd
   cases hd
   obtain ⟨a1, a2, a3⟩ := aJg ha
   obtain ⟨_, _, _, v4, v5⟩ := aYp hvv
   have ev := dJj h h0 hvv
   refine ⟨?_, ev.2⟩
   unfold defZ
   rw [if_neg (by simp [no reqL (by simp [reqL]) (by simp [reqL])]), if_neg (by simp [no impL (by simp [impL]) (by simp [impL])]), if_pos (bXp h hp h1), bYy h (by omega) ha, Option.bind_some, ev.1, Option.bind_some]
 · obtain ⟨v, hvv, hd⟩ := Option.bind_eq_some_iff.1 hd
   cases hd
   obtain ⟨v1, _, _, v4, v5⟩ := aYp hvv
   have ev := dJj h h0 hvv
   have h35 : aQ1 s p ≠ 35 := by
    intro e
    unfold valF at v1
    rw [if_neg (by omega), if_neg (by rw [e]; decide)] at v1
    cases v1
   refine ⟨?_, ev.2⟩
   unfold defZ
   rw [if_neg (by simp [cXs h (by omega) h35, reqL]), if_neg (by simp [cXs h (by omega) h35, impL]), if_neg (by simp [cXs h (by omega) (sg := [70, 73, 88, 69, 68]) h35, fixL]), ev.1, Option.bind_some]
theorem dQo {o : ByteArray} {p : Nat} {r : At5 × Nat} (h : attZ s o p = some r) : p + 7 ≤ r.2 ∧ r.2 ≤ s.size ∧ r.1.of = o ∧ 1 ≤ r.1.nm.size := by
 unfold attZ at h
 obtain ⟨n, hn, h⟩ := Option.bind_eq_some_iff.1 h
 obtain ⟨a, ha, h⟩ := Option.bind_eq_some_iff.1 h
 obtain ⟨k, hk, h⟩ := Option.bind_eq_some_iff.1 h
 obtain ⟨wd, hwd, h⟩ := Option.bind_eq_some_iff.1 h
 obtain ⟨b, hb, h⟩ := Option.bind_eq_some_iff.1 h
 obtain ⟨d, hd, h⟩ := Option.bind_eq_some_iff.1 h
 cases h
 obtain ⟨n1, n2, n3, n4, n5⟩ := aZj hn
 obtain ⟨a1, a2, a3⟩ := aJg ha
 obtain ⟨k1, k2, k3, k4, k5⟩ := aZj hk
 obtain ⟨b1, b2, b3⟩ := aJg hb
 have hdp := dQb hd (b3 (by omega))
 have hks : 2 ≤ k.1.size := by
  have hz : k.1.size = k.1.data.toList.length := Lib.size_eq _
  unfold bVi at hwd
  split at hwd
  · rename_i e; rw [hz, e]; simp
  split at hwd
  · rename_i e
    rcases e with e | e | e | e <;> rw [hz, e] <;> simp
  · cases hwd
 have hk2 : a + 2 ≤ k.2 := by
  have hs1 := aZx k1
  have : k.1.size = nameZ s a := by rw [k2]; unfold nmT; rw [aXy (by simp only [nmP] at hs1; omega)]; omega
  rw [k3, hs1.2.2.2]; omega
 refine ⟨by simp only; omega, hdp.2, rfl, ?_⟩
 simp only
 have hs1 := aZx n1
 rw [n2]; unfold nmT
 rw [aXy (by simp only [nmP] at hs1; omega)]; omega
theorem e_att (h : Ext s u t) (h0 : VB s 0) {o : ByteArray} {p : Nat} {r : At5 × Nat} (hv : VB s p) (hr : attZ s o p = some r) : attZ u o p = some r ∧ VB s r.2 := by
 unfold attZ at hr
 obtain ⟨n, hn, hr⟩ := Option.bind_eq_some_iff.1 hr
 obtain ⟨a, ha, hr⟩ := Option.bind_eq_some_iff.1 hr
 obtain ⟨k, hk, hr⟩ := Option.bind_eq_some_iff.1 hr
 obtain ⟨wd, hwd, hr⟩ := Option.bind_eq_some_iff.1 hr
 obtain ⟨b, hb, hr⟩ := Option.bind_eq_some_iff.1 hr
 obtain ⟨d, hd, hr⟩ := Option.bind_eq_some_iff.1 hr
 cases hr
 obtain ⟨n1, n2, n3, n4, n5⟩ := aZj hn
 obtain ⟨a1, a2, a3⟩ := aJg ha
 obtain ⟨k1, k2, k3, k4, k5⟩ := aZj hk
 obtain ⟨b1, b2, b3⟩ := aJg hb
 have hdp := dQb hd (b3 (by omega))
 have en := bV3 h hv hn
 have hva : VB s a := a2 ▸ aKc h0 en.2
 have ek := bV3 h hva hk
 have hvb : VB s b := b2 ▸ aKc h0 ek.2
 have ed := e_def h h0 (b3 (by omega)) hd
 refine ⟨?_, ed.2⟩
 unfold attZ
 rw [en.1, Option.bind_some, bYy h (by omega) ha, Option.bind_some, ek.1, Option.bind_some, hwd, Option.bind_some, bYy h (by omega) hb, Option.bind_some, ed.1, Option.bind_some]
theorem dJn (h : Ext s u t) (h0 : VB s 0) {o : ByteArray} : ∀ (f f' p : Nat) (acc : List At5) (r : List At5 × Nat), f ≤ f' → VB s p → p ≤ s.size → aKp s o f p acc = some r → aKp u o f' p acc = some r ∧ VB s r.2 ∧ p < r.2 ∧ r.2 ≤ s.size
 | 0, _, _, _, _, _, _, _, hr => by cases hr
 | f + 1, 0, _, _, _, hf, _, _, _ => by omega
 | f + 1, f' + 1, p, acc, r, hf, hv, hp, hr => by
  unfold aKp at hr ⊢
  have hge := aXj s p
  have hvw := aKc h0 hv
  split at hr
  · rename_i h1
    cases hr
    have hl := bJr h1
    rw [bXo h hl, if_pos (bXp h (by omega) h1)]
    have hroom := aX5 h1 (by omega)
    simp only [List.length_cons, List.length_nil] at hroom
    exact ⟨rfl, aZn h0 h1 (by omega) (by simp) (by simp), by simp only; omega, by simp only; omega⟩
  · rename_i h1
    split at hr
    · cases hr
    · rename_i h2
      split at hr
      · cases hr
      · rename_i a q hm
        have hpos := dQo hm
        have ea := e_att h h0 hvw hm
        have hl : whiteZ s p < s.size := by simp only at hpos; omega
        have h1' : aQa u (whiteZ s p) [62] = false := by rw [e_one h hl]; simpa using h1
        obtain ⟨i1, i2, i3, i4⟩ := dJn h h0 f f' q (acc ++ [a]) r (by omega) ea.2 hpos.2.1 hr
        rw [bXo h hl, if_neg (by simp [h1']), if_neg h2, ea.1]
        exact ⟨i1, i2, by simp only at hpos; omega, i4⟩
theorem dQ4 (h : Ext s u t) (h0 : VB s 0) {p : Nat} {r : List Df × Nat} (hv : VB s p) (hr : aK8 s p = some r) : aK8 u p = some r ∧ VB s r.2 ∧ p < r.2 ∧ r.2 ≤ s.size := by
 unfold aK8 at hr ⊢
 obtain ⟨a, ha, hr⟩ := Option.bind_eq_some_iff.1 hr
 obtain ⟨n, hn, hr⟩ := Option.bind_eq_some_iff.1 hr
 obtain ⟨l, hl, hr⟩ := Option.bind_eq_some_iff.1 hr
 cases hr
 obtain ⟨a1, a2, a3⟩ := aJg ha
 obtain ⟨n1, n2, n3, n4, n5⟩ := aZj hn
 have hva : VB s a := a2 ▸ aKc h0 hv
 have en := bV3 h hva hn
 have el := dJn h h0 (s.size + 1) (u.size + 1) n.2 [] l (by have := e_le h; omega) en.2 (by omega) hl
 rw [bYy h (by omega) ha, Option.bind_some, en.1, Option.bind_some, el.1, Option.bind_some]
 exact ⟨rfl, el.2.1, by simp only; omega, el.2.2.2⟩
theorem dQ2 (h : Ext s u t) (h0 : VB s 0) {p : Nat} {r : List Df × Nat} (hv : VB s p) (hr : aK7 s p = some r) : aK7 u p = some r ∧ VB s r.2 ∧ p < r.2 ∧ r.2 ≤ s.size := by
 unfold aK7 at hr ⊢
 obtain ⟨a, ha, hr⟩ := Option.bind_eq_some_iff.1 hr
 obtain ⟨n, hn, hr⟩ := Option.bind_eq_some_iff.1 hr
 obtain ⟨b, hb, hr⟩ := Option.bind_eq_some_iff.1 hr
 split at hr
 · rename_i hu
   cases hr
   obtain ⟨a1, a2, a3⟩ := aJg ha
   obtain ⟨n1, n2, n3, n4, n5⟩ := aZj hn
   obtain ⟨b1, b2, b3⟩ := aJg hb
   have hva : VB s a := a2 ▸ aKc h0 hv
   have en := bV3 h hva hn
   have hlt : b < s.size := up_lt (b3 (by omega)) (by rw [hu.1]; omega)
   have eu := e_up h (sg := [62]) (by simp) (b3 (by omega)) (by omega)
   have ul := bQc (sg := [62]) (b3 (by omega)) hu.1
   rw [bYy h (by omega) ha, Option.bind_some, en.1, Option.bind_some, bYy h hlt hb, Option.bind_some, if_pos ⟨eu.2.1, by rw [eu.2.2.1]; exact hu.2⟩, eu.2.2.2]
   refine ⟨rfl, cK5 h0 (b3 (by omega)) hu.1 (by simp) (by simp), ?_, ul.1⟩
   have h2 := ul.2
   simp only [List.length_cons, List.length_nil] at h2
   simp only; omega
 · cases hr
end Go.Proofs.YtocnfoeaikiecaaGreatDoor.Plain24
namespace Go.Proofs.YtocnfoeaikiecaaGreatDoor.Plain25
open Go.RowKit Strs Ents Plain3 Plain6 Plain9 Plain10 Plain11 Plain18 Plain20 Plain23 Plain24 Go.Lib
variable {s u v : ByteArray}
def Sh (s u v : ByteArray) : Prop := v.data.toList = s.data.toList ++ u.data.toList
theorem Sh.ext (h : Sh s u v) : Ext s v u.data.toList := h
theorem bQ7 (h : Sh s u v) : v.size = s.size + u.size := by rw [dJk h.ext, aVg]
theorem cJb (h : Sh s u v) (p : Nat) : rest v (s.size + p) = rest u p := by
 have h' : v.data.toList = s.data.toList ++ u.data.toList := h
 unfold rest
 rw [h', ← aVg s, List.drop_append]
 simp
theorem h_has (h : Sh s u v) (p : Nat) (sg : List UInt8) : aQa v (s.size + p) sg = aQa u p sg := by unfold aQa; rw [cJb h]
theorem h_getD (h : Sh s u v) (p : Nat) : v.data.toList.getD (s.size + p) 0 = u.data.toList.getD p 0 := by
 have h' : v.data.toList = s.data.toList ++ u.data.toList := h
 simp only [List.getD]
 rw [h', List.getElem?_append_right (by rw [aVg]; omega)]
 rw [aVg, Nat.add_sub_cancel_left]
theorem bYs (h : Sh s u v) (p : Nat) : aQ1 v (s.size + p) = aQ1 u p := by rw [aZ0, aZ0, h_getD h]
theorem aK5 (s : ByteArray) (p q : Nat) : (s.extract p q).data.toList = (s.data.toList.drop p).take (q - p) := by
 rw [Lib.extract_data]
theorem bZ3 {a b : ByteArray} (h : a.data.toList = b.data.toList) : a = b := by
 cases a; cases b; simp only [ByteArray.mk.injEq]; exact Array.toList_inj.1 h
theorem h_extr (h : Sh s u v) (p q : Nat) : v.extract (s.size + p) (s.size + q) = u.extract p q := by
 apply bZ3
 rw [aK5, aK5]
 have := cJb h p
 unfold rest at this
 rw [this, show s.size + q - (s.size + p) = q - p by omega]
theorem cY5 (h : Sh s u v) (p : Nat) (sg : List UInt8) : Lib.index (rest v (s.size + p)) sg = Lib.index (rest u p) sg := by rw [cJb h]
theorem h_upF (h : Sh s u v) (p : Nat) (sg : List UInt8) : upF v (s.size + p) sg = upF u p sg := by
 unfold upF
 have a := aJp v (s.size + p) sg
 have b := aJp u p sg
 rw [cY5 h] at a
 by_cases hc : fz u p sg = -1
 · rw [if_pos hc, if_pos (a.2 (b.1 hc))]
 · rw [if_neg hc, if_neg (fun hh => hc (b.2 (a.1 hh)))]
theorem h_fz (h : Sh s u v) {p : Nat} {sg : List UInt8} (hu : upF u p sg = 0) (hp : p ≤ u.size) : (fz v (s.size + p) sg).toNat = s.size + (fz u p sg).toNat := by
 have hc : fz u p sg ≠ -1 := by unfold upF at hu; intro hh; rw [if_pos hh] at hu; cases hu
 have hi : Lib.index (rest u p) sg ≠ -1 := fun hh => hc ((aJp u p sg).2 hh)
 rcases aZa u p sg hp with h1 | ⟨i, h1, h2, _⟩
 · exact absurd h1 hc
 have hv : fz v (s.size + p) sg = ((s.size + p : Nat) : Int) + Lib.index (rest u p) sg := by
  unfold fz; rw [cY5 h, if_neg hi]
 have hu2 : fz u p sg = (p : Int) + Lib.index (rest u p) sg := by
  unfold fz; rw [if_neg hi]
 rw [hv]; rw [h1] at hu2 ⊢
 omega
theorem h_upP (h : Sh s u v) {p : Nat} {sg : List UInt8} (hu : upF u p sg = 0) (hp : p ≤ u.size) : upP v (s.size + p) sg = s.size + upP u p sg := by
 unfold upP; rw [h_fz h hu hp, Nat.add_assoc]
theorem bYr (h : Sh s u v) : ∀ (f f' i : Nat), u.size < i + f → u.size < i + f' → aXz v f (s.size + i) = s.size + aXz u f' i
 | 0, f', i, h1, h2 => by
  have : aXz u f' i = i := aXc (by omega)
  rw [this]; rfl
 | f + 1, 0, i, h1, h2 => by
  rw [aXc (by rw [bQ7 h]; omega)]; rfl
 | f + 1, f' + 1, i, h1, h2 => by
  have hz := bQ7 h
  by_cases hw : i < u.size ∧ whiteB (aQ1 u i) = true
  · rw [aJu hw, aJu (by rw [bYs h]; exact ⟨by omega, hw.2⟩)]
    exact bYr h f f' (i + 1) (by omega) (by omega)
  · rw [aXc hw, aXc (by rw [bYs h]; intro hh; exact hw ⟨by omega, hh.2⟩)]
theorem dVz (h : Sh s u v) (p : Nat) : whiteZ v (s.size + p) = s.size + whiteZ u p := by
 unfold whiteZ
 by_cases hp : p ≤ u.size
 · exact bYr h _ _ p (by have := bQ7 h; omega) (by omega)
 · rw [aXc (by have := bQ7 h; omega), aXc (by omega)]
theorem h_vz (h : Sh s u v) (p : Nat) (x0 : Int) : ∀ n, vz v (s.size + p) x0 n = vz u p x0 n
 | 0 => rfl
 | n + 1 => by unfold vz; rw [h_vz h p x0 n, Nat.add_assoc, bYs h]
theorem dK0 (h : Sh s u v) (p n : Nat) : cQ2 v (s.size + p) n = cQ2 u p n := by
 unfold cQ2
 congr 1
 funext k
 rw [Nat.add_assoc, bYs h]
theorem h_fin (h : Sh s u v) (p : Nat) (x0 : Int) (n : Nat) (low : Int) : fin v (s.size + p) x0 n low = fin u p x0 n low := by
 unfold fin
 rw [h_vz h]
 have hz := bQ7 h
 have hc := dK0 h p n
 simp only [aVu, hc, hz]
 by_cases hl : p + n ≤ u.size
 · simp [show s.size + p + n ≤ s.size + u.size by omega, hl]
 · simp [show ¬ s.size + p + n ≤ s.size + u.size by omega, hl]
theorem cY4 (h : Sh s u v) (p : Nat) : aQm v (s.size + p) = aQm u p := by
 unfold aQm
 rw [bYs h]
 simp only [h_fin h]
theorem cJc (h : Sh s u v) (p : Nat) : ∀ (f f' n : Nat), u.size < p + n + f → u.size < p + n + f' → VB u (p + n) → aZk v (s.size + p) f n = aZk u p f' n
 | 0, f', n, h1, h2, _ => by rw [aXx (f := f') (by omega)]; rfl
 | f + 1, 0, n, h1, h2, _ => by rw [aXx (f := f + 1) (by have := bQ7 h; omega)]; rfl
 | f + 1, f' + 1, n, h1, h2, hv => by
  have hz := bQ7 h
  unfold aZk
  by_cases hp : p + n < u.size
  · rw [if_pos (by omega), if_pos hp]
    have hst : aVy v (s.size + p) n ↔ aVy u p n := by
     unfold aVy
     rw [Nat.add_assoc, cY4 h]
    have hstep := aY1 hv hp
    by_cases hs : aVy u p n
    · rw [if_pos hs, if_pos (hst.2 hs)]
    · rw [if_neg hs, if_neg (fun hh => hs (hst.1 hh))]
      rw [Nat.add_assoc, cY4 h]
      exact cJc h p f f' _ (by omega) (by omega) (by rw [← Nat.add_assoc]; exact hstep.2)
  · rw [if_neg (by omega), if_neg hp]
theorem cXl (h : Sh s u v) {p : Nat} (hv : VB u p) : nameZ v (s.size + p) = nameZ u p := by
 unfold nameZ
 by_cases hp : p ≤ u.size
 · exact cJc h p _ _ 0 (by have := bQ7 h; omega) (by omega) hv
 · rw [aXx (by have := bQ7 h; omega), aXx (by omega)]
theorem h_nmF (h : Sh s u v) {p : Nat} (hv : VB u p) : nmF v (s.size + p) = nmF u p := by
 unfold nmF
 rw [cXl h hv]
 have hz := bQ7 h
 by_cases hc : u.size ≤ p + nameZ u p
 · rw [show (if u.size ≤ p + nameZ u p then (1 : Nat) else if nameZ u p = 0 then 2 else 0) = 1 from if_pos hc, show (if v.size ≤ s.size + p + nameZ u p then (1 : Nat) else if nameZ u p = 0 then 2 else 0) = 1 from if_pos (by omega)]
 · rw [show (if u.size ≤ p + nameZ u p then (1 : Nat) else if nameZ u p = 0 then 2 else 0) = (if nameZ u p = 0 then 2 else 0) from if_neg hc, show (if v.size ≤ s.size + p + nameZ u p then (1 : Nat) else if nameZ u p = 0 then 2 else 0) = (if nameZ u p = 0 then 2 else 0) from if_neg (by omega)]
theorem h_nmP (h : Sh s u v) {p : Nat} (hv : VB u p) : nmP v (s.size + p) = s.size + nmP u p := by unfold nmP; rw [cXl h hv, Nat.add_assoc]
theorem h_nmT (h : Sh s u v) {p : Nat} (hv : VB u p) : nmT v (s.size + p) = nmT u p := by unfold nmT; rw [cXl h hv, Nat.add_assoc, h_extr h]
theorem h_lack (h : Sh s u v) (p : Nat) (sg : List UInt8) : aQp v (s.size + p) sg = aQp u p sg := by
 unfold aQp bXl; rw [h_has h, cJb h]
theorem h_pi (h : Sh s u v) {p : Nat} (hv : VB u p) : (piZ v (s.size + p)).fl = (piZ u p).fl ∧ ((piZ u p).fl = 0 → (piZ v (s.size + p)).pos = s.size + (piZ u p).pos) := by
 unfold piZ
 rw [h_nmF h hv, h_nmT h hv, h_nmP h hv]
 by_cases hc : nmF u p = 0
 · have hs := aZx hc
   rw [if_neg (not_not_intro hc), if_neg (not_not_intro hc)]
   by_cases hx : xmlB (nmT u p) = true
   · rw [if_pos hx, if_pos hx]; exact ⟨rfl, fun hh => by cases hh⟩
   · rw [if_neg hx, if_neg hx]
     simp only
     rw [dVz h]
     by_cases hw : nmP u p < whiteZ u (nmP u p)
     · rw [if_pos hw, if_pos (by omega), h_upF h]
       have hle := aQv (s := u) (p := nmP u p) (by omega)
       by_cases hu : upF u (whiteZ u (nmP u p)) [63, 62] = 0
       · rw [if_pos hu, if_pos hu]; exact ⟨rfl, fun _ => h_upP h hu hle⟩
       · rw [if_neg hu, if_neg hu]; exact ⟨rfl, fun hh => absurd hh hu⟩
     · rw [if_neg hw, if_neg (by omega), h_lack h]
       by_cases hm : aQp u (whiteZ u (nmP u p)) [63, 62] = 0
       · rw [if_pos hm, if_pos hm]; exact ⟨rfl, fun _ => Nat.add_assoc _ _ _⟩
       · rw [if_neg hm, if_neg hm]; exact ⟨rfl, fun hh => absurd hh hm⟩
 · rw [if_pos hc, if_pos hc]; exact ⟨rfl, fun hh => absurd hh hc⟩
theorem cXv {p : Nat} (h0 : VB s 0) (hp : p ≤ s.size) (hf : (aXa s p).fl = 0) : p < (aXa s p).pos ∧ (aXa s p).pos ≤ s.size ∧ VB s (aXa s p).pos := by
 unfold aXa at hf ⊢
 by_cases hc : upF s p [45, 45] = 0
 · rw [if_neg (not_not_intro hc)] at hf ⊢
   by_cases hm : aQp s (upP s p [45, 45]) [62] = 0
   · rw [if_pos hm] at hf ⊢
     have hu := bQc (sg := [45, 45]) hp hc
     have hh := aJ0.1 hm
     have hr := aX5 hh hu.1
     simp only [List.length_cons, List.length_nil] at hr
     have h2 := hu.2
     simp only [List.length_cons, List.length_nil] at h2
     refine ⟨?_, hr, aZn h0 hh hu.1 (by simp) (by simp)⟩
     simp only; omega
   · rw [if_neg hm] at hf; exact absurd hf hm
 · rw [if_pos hc] at hf; exact absurd hf hc
theorem pi_end {p : Nat} (h0 : VB s 0) (hf : (piZ s p).fl = 0) : p < (piZ s p).pos ∧ (piZ s p).pos ≤ s.size ∧ VB s (piZ s p).pos := by
 unfold piZ at hf ⊢
 by_cases hc : nmF s p = 0
 · have hs := aZx hc
   rw [if_neg (not_not_intro hc)] at hf ⊢
   by_cases hx : xmlB (nmT s p) = true
   · rw [if_pos hx] at hf; cases hf
   · rw [if_neg hx] at hf ⊢
     simp only at hf ⊢
     have hle := aQv (s := s) (p := nmP s p) (by omega)
     have hge := aXj s (nmP s p)
     by_cases hw : nmP s p < whiteZ s (nmP s p)
     · rw [if_pos hw] at hf ⊢
       by_cases hu : upF s (whiteZ s (nmP s p)) [63, 62] = 0
       · rw [if_pos hu] at hf ⊢
         have hl := bQc (sg := [63, 62]) hle hu
         have h2 := hl.2
         simp only [List.length_cons, List.length_nil] at h2
         exact ⟨by simp only; omega, hl.1, cK5 h0 hle hu (by simp) (by simp)⟩
       · rw [if_neg hu] at hf; exact absurd hf hu
     · rw [if_neg hw] at hf ⊢
       by_cases hm : aQp s (whiteZ s (nmP s p)) [63, 62] = 0
       · rw [if_pos hm] at hf ⊢
         have hh := aJ0.1 hm
         have hr := aX5 hh hle
         simp only [List.length_cons, List.length_nil] at hr
         exact ⟨by simp only; omega, hr, aZn h0 hh hle (by simp) (by simp)⟩
       · rw [if_neg hm] at hf; exact absurd hf hm
 · rw [if_pos hc] at hf; exact absurd hf hc
theorem aWb {t : List UInt8} (h : Ext s u t) {p : Nat} {a b : List UInt8} (hp : p ≤ s.size) (hb : aQa s p b = true) (k : Nat) (hka : k < a.length) (hkb : k < b.length) (hne : (a.getD k 0).toNat ≠ (b.getD k 0).toNat) : aQa u p a = false := by
 cases hc : aQa u p a with
 | false => rfl
 | true =>
  have hr := aX5 hb hp
  have a1 := aK2 hc (by have := e_le h; omega) k hka
  have a2 := aK2 hb hp k hkb
  rw [aKm h (by omega), a2] at a1
  exact absurd (by omega) hne
theorem dKb {t : List UInt8} (h : Ext s u t) (h0 : VB s 0) {p : Nat} {r : List Df × Nat} (hp : p ≤ s.size) (hr : aWu s p = some r) : aWu u p = some r ∧ VB s r.2 ∧ p < r.2 ∧ r.2 ≤ s.size := by
 unfold aWu at hr
 split at hr
 · rename_i h1
   have hro := aX5 h1 hp
   simp only [List.length_cons, List.length_nil] at hro
   split at hr
   · rename_i hc
     cases hr
     have he := cXv h0 (show p + 4 ≤ s.size by omega) hc
     have e := dQ3 h (p := p + 4) (by omega) (by omega)
     refine ⟨?_, he.2.2, by simp only; omega, he.2.1⟩
     unfold aWu
     rw [if_pos (bXp h hp h1), e, if_pos hc]
   · cases hr
 split at hr
 · rename_i h1
   have hro := aX5 h1 hp
   simp only [List.length_cons, List.length_nil] at hro
   have hv : VB s (p + 2) := aZn h0 h1 hp (by simp) (by simp)
   split at hr
   · rename_i hc
     cases hr
     have he := pi_end h0 hc
     have e := e_pi h (p := p + 2) hv (by omega)
     refine ⟨?_, he.2.2, by simp only; omega, he.2.1⟩
     unfold aWu
     rw [if_neg (by rw [aWb h hp h1 1 (by simp) (by simp) (by simp)]; simp), if_pos (bXp h hp h1), e, if_pos hc]
   · cases hr
 split at hr
 · rename_i h1
   have hv : VB s (p + 8) := aZn h0 h1 hp (by simp [entL]) (by simp [entL])
   obtain ⟨e1, e2, e3, e4⟩ := dZi h h0 hv hr
   refine ⟨?_, e2, by omega, e4⟩
   unfold aWu
   rw [if_neg (by rw [aWb h hp h1 2 (by simp) (by simp [entL]) (by simp [entL])]; simp), if_neg (by rw [aWb h hp h1 1 (by simp) (by simp [entL]) (by simp [entL])]; simp), if_pos (bXp h hp h1), e1]
 split at hr
 · rename_i h1
   have hv : VB s (p + 9) := aZn h0 h1 hp (by simp [attL]) (by simp [attL])
   obtain ⟨e1, e2, e3, e4⟩ := dQ4 h h0 hv hr
   refine ⟨?_, e2, by omega, e4⟩
   unfold aWu
   rw [if_neg (by rw [aWb h hp h1 2 (by simp) (by simp [attL]) (by simp [attL])]; simp), if_neg (by rw [aWb h hp h1 1 (by simp) (by simp [attL]) (by simp [attL])]; simp), if_neg (by rw [aWb h hp h1 2 (by simp [entL]) (by simp [attL]) (by simp [attL, entL])]; simp), if_pos (bXp h hp h1), e1]
 split at hr
 · rename_i h1
   have hv : VB s (p + 9) := aZn h0 h1 hp (by simp [eleL]) (by simp [eleL])
   obtain ⟨e1, e2, e3, e4⟩ := dQ2 h h0 hv hr
   refine ⟨?_, e2, by omega, e4⟩
   unfold aWu
   rw [if_neg (by rw [aWb h hp h1 2 (by simp) (by simp [eleL]) (by simp [eleL])]; simp), if_neg (by rw [aWb h hp h1 1 (by simp) (by simp [eleL]) (by simp [eleL])]; simp), if_neg (by rw [aWb h hp h1 3 (by simp [entL]) (by simp [eleL]) (by simp [eleL, entL])]; simp), if_neg (by rw [aWb h hp h1 2 (by simp [attL]) (by simp [eleL]) (by simp [eleL, attL])]; simp), if_pos (bXp h hp h1), e1]
 · cases hr
end Go.Proofs.YtocnfoeaikiecaaGreatDoor.Plain25
