import Derived.Test.YtmaoefokimjkbaaGreatDoorPlB
import Derived.Test.YtmaoefokimjkbaaGreatDoorPlA
import Derived.Test.YtmaoefokimjkbaaGreatDoorImA
import Derived.Test.YtmaoefokimjkbaaGreatDoorPlC
namespace Go.Proofs.YtmaoefokimjkbaaGreatDoor.Plain23
open Go.RowKit Plain1 Strs Ents Plain5 Plain9 Plain10 Plain11 Go.Lib
def digV (c : UInt8) : Nat := if 48 ≤ c.toNat ∧ c.toNat ≤ 57 then c.toNat - 48 else if 97 ≤ c.toNat ∧ c.toNat ≤ 102 then c.toNat - 87 else if 65 ≤ c.toNat ∧ c.toNat ≤ 70 then c.toNat - 55 else 99
def digs (base : Nat) (l : List UInt8) : List UInt8 := l.takeWhile fun c => decide (digV c < base)
def digX (base : Nat) (l : List UInt8) : Nat := l.foldl (fun n c => base * n + digV c) 0
def numBase (s : ByteArray) (p : Nat) : Nat := if hasAt s p [120] = true then 16 else 10
def numAt (s : ByteArray) (p : Nat) : Nat := if hasAt s p [120] = true then p + 1 else p
def numD (s : ByteArray) (p : Nat) : List UInt8 := digs (numBase s p) (rest s (numAt s p))
def numV (s : ByteArray) (p : Nat) : Nat := digX (numBase s p) (numD s p)
abbrev numOk (s : ByteArray) (p : Nat) : Prop := 1 ≤ (numD s p).length ∧ (numD s p).length ≤ 8 ∧ hasAt s (numAt s p + (numD s p).length) [59] = true ∧ charB (numV s p) = true
def numZ (s : ByteArray) (p : Nat) : Option (Int × Nat) := if numOk s p then some ((numV s p : Int), numAt s p + (numD s p).length + 1) else none
abbrev Rf := Int ⊕ ByteArray
def namedZ (s : ByteArray) (p : Nat) : Option (ByteArray × Nat) := if nmF s p = 0 ∧ hasAt s (nmP s p) [59] = true then some (nmT s p, nmP s p + 1) else none
def refZ (s : ByteArray) (p : Nat) : Option (Rf × Nat) :=
 if hasAt s (p + 1) [35] = true then (numZ s (p + 2)).map fun x => (.inl x.1, x.2) else (namedZ s (p + 1)).map fun x => (.inr x.1, x.2)
def nums (s : ByteArray) : List Int := s.data.toList.map fun c => (c.toNat : Int)
def entGo (v : ByteArray) : Nat → Nat → List Int → Option (List Int)
 | 0, _, acc => some acc
 | f + 1, i, acc =>
  if i < v.size then
   if byteAt v i = 37 then none
   else if byteAt v i = 38 then
    match refZ v i with
    | none => none
    | some (.inl n, q) => entGo v f q (acc ++ encodeRuneZ n)
    | some (.inr _, q) => entGo v f q (acc ++ nums (v.extract i q))
   else entGo v f (i + 1) (acc ++ [byteAt v i])
  else some acc
def entO (v : ByteArray) : Option (List Int) := entGo v (v.size + 1) 0 []
abbrev Df := (ByteArray × ByteArray) ⊕ At5
def gapO (s : ByteArray) (p : Nat) : Option Nat := if p < whiteZ s p then some (whiteZ s p) else none
def nameO (s : ByteArray) (p : Nat) : Option (ByteArray × Nat) := if nmF s p = 0 then some (nmT s p, nmP s p) else none
def valO (s : ByteArray) (p : Nat) : Option (ByteArray × Nat) := if valF s p = 0 then some (valT s p, valP s p) else none
def u8 (s : ByteArray) (p : Nat) : UInt8 := s.data.toList.getD p 0
def qtO (s : ByteArray) (p : Nat) : Option (ByteArray × Nat) :=
 if p < s.size ∧ quoteB (byteAt s p) = true ∧ upF s (p + 1) [u8 s p] = 0 then some (upT s (p + 1) [u8 s p], upP s (p + 1) [u8 s p]) else none
def mustO (s : ByteArray) (p : Nat) (sg : List UInt8) : Option Nat := if hasAt s p sg = true then some (p + sg.length) else none
def entityZ (s : ByteArray) (p : Nat) : Option (List Df × Nat) :=
 (gapO s p).bind fun a => (nameO s a).bind fun n => (gapO s n.2).bind fun b => (qtO s b).bind fun v => (entO v.1).bind fun t => (mustO s (whiteZ s v.2) [62]).bind fun q => some ([.inl (n.1, strOfNums t)], q)
def kindZ (k : ByteArray) : Option Bool :=
 if k.data.toList = [67, 68, 65, 84, 65] then some false
 else if k.data.toList = [73, 68] ∨ k.data.toList = [73, 68, 82, 69, 70] ∨ k.data.toList = [78, 77, 84, 79, 75, 69, 78] ∨ k.data.toList = [78, 77, 84, 79, 75, 69, 78, 83] then some true
 else none
def reqL : List UInt8 := [35, 82, 69, 81, 85, 73, 82, 69, 68]
def impL : List UInt8 := [35, 73, 77, 80, 76, 73, 69, 68]
def fixL : List UInt8 := [35, 70, 73, 88, 69, 68]
def defZ (s : ByteArray) (p : Nat) : Option (Bool × ByteArray × Nat) :=
 if hasAt s p reqL = true then some (false, ⟨#[]⟩, p + 9)
 else if hasAt s p impL = true then some (false, ⟨#[]⟩, p + 8)
 else if hasAt s p fixL = true then (gapO s (p + 6)).bind fun a => (valO s a).bind fun v => some (true, v.1, v.2)
 else (valO s p).bind fun v => some (true, v.1, v.2)
def attZ (s o : ByteArray) (p : Nat) : Option (At5 × Nat) :=
 (nameO s p).bind fun n => (gapO s n.2).bind fun a => (nameO s a).bind fun k => (kindZ k.1).bind fun wd => (gapO s k.2).bind fun b => (defZ s b).bind fun d => some (⟨o, n.1, wd, d.1, d.2.1⟩, d.2.2)
def attsGo (s o : ByteArray) : Nat → Nat → List At5 → Option (List At5 × Nat)
 | 0, _, _ => none
 | f + 1, p, acc =>
  if hasAt s (whiteZ s p) [62] = true then some (acc, whiteZ s p + 1)
  else if whiteZ s p = p then none
  else match attZ s o (whiteZ s p) with
   | none => none
   | some (a, q) => attsGo s o f q (acc ++ [a])
def attlistZ (s : ByteArray) (p : Nat) : Option (List Df × Nat) :=
 (gapO s p).bind fun a => (nameO s a).bind fun n => (attsGo s n.1 (s.size + 1) n.2 []).bind fun l => some (l.1.map .inr, l.2)
def elementZ (s : ByteArray) (p : Nat) : Option (List Df × Nat) :=
 (gapO s p).bind fun a => (nameO s a).bind fun n => (gapO s n.2).bind fun b => if upF s b [62] = 0 ∧ Lib.index (upT s b [62]).data.toList [60] = -1 then some ([], upP s b [62]) else none
def entL : List UInt8 := [60, 33, 69, 78, 84, 73, 84, 89]
def attL : List UInt8 := [60, 33, 65, 84, 84, 76, 73, 83, 84]
def eleL : List UInt8 := [60, 33, 69, 76, 69, 77, 69, 78, 84]
def markO (s : ByteArray) (p : Nat) : Option (List Df × Nat) :=
 if hasAt s p [60, 33, 45, 45] = true then (if (commentZ s (p + 4)).fl = 0 then some ([], (commentZ s (p + 4)).pos) else none)
 else if hasAt s p [60, 63] = true then (if (piZ s (p + 2)).fl = 0 then some ([], (piZ s (p + 2)).pos) else none)
 else if hasAt s p entL = true then entityZ s (p + 8)
 else if hasAt s p attL = true then attlistZ s (p + 9)
 else if hasAt s p eleL = true then elementZ s (p + 9)
 else none
structure Dt where
 ents : List (ByteArray × ByteArray)
 atts : List At5
def addD (d : Dt) : Df → Dt
 | .inl e => if (d.ents.find? (isEnt e.1)).isSome = true then d else ⟨d.ents ++ [e], d.atts⟩
 | .inr a => if (d.atts.find? (isAtt a.of a.nm)).isSome = true then d else ⟨d.ents, d.atts ++ [a]⟩
def addAll (d : Dt) (l : List Df) : Dt := l.foldl addD d
def fullB (d : Dt) : Bool := decide (40 < d.ents.length ∨ 40 < d.atts.length)
structure DOut where
 dtd : Dt
 at1 : Int
 code : Int
def dFail (at1 code : Int) : DOut := ⟨⟨[], []⟩, at1, code⟩
def implGo (s : ByteArray) : Nat → Nat → Dt → Int → DOut
 | 0, _, _, _ => dFail 0 0
 | f + 1, p, d, fu =>
  if whiteZ s p < s.size then
   match markO s (whiteZ s p) with
   | none => dFail (whiteZ s p : Int) 3
   | some (l, q) => implGo s f q (addAll d l) (if fu < 0 ∧ fullB (addAll d l) = true then (whiteZ s p : Int) else fu)
  else if fu < 0 then ⟨d, 0, 0⟩ else dFail fu 7
abbrev headOk (s : ByteArray) : Prop := (scanAll s).2 < 0 ∧ fz s 0 [13] = -1
def implDtd (s : ByteArray) : DOut := if 4000 < s.size then dFail 0 2 else if headOk s then implGo s (s.size + 1) 0 ⟨[], []⟩ (-1) else dFail 0 1
theorem gap_some {s : ByteArray} {p q : Nat} (h : gapO s p = some q) : p < q ∧ q = whiteZ s p ∧ (p ≤ s.size → q ≤ s.size) := by
 unfold gapO at h
 split at h
 · cases h; exact ⟨by assumption, rfl, whiteZ_le⟩
 · cases h
theorem name_some {s : ByteArray} {p : Nat} {n : ByteArray × Nat} (h : nameO s p = some n) : nmF s p = 0 ∧ n.1 = nmT s p ∧ n.2 = nmP s p ∧ p < n.2 ∧ n.2 < s.size := by
 unfold nameO at h
 split at h
 · rename_i h0
   cases h
   have := nm_spec h0
   exact ⟨h0, rfl, rfl, by simp only; omega, this.2.2.1⟩
 · cases h
theorem name_none {s : ByteArray} {p : Nat} (h : nmF s p ≠ 0) : nameO s p = none := by unfold nameO; rw [if_neg h]
theorem name_yes {s : ByteArray} {p : Nat} (h : nmF s p = 0) : nameO s p = some (nmT s p, nmP s p) := by unfold nameO; rw [if_pos h]
theorem val_some {s : ByteArray} {p : Nat} {n : ByteArray × Nat} (h : valO s p = some n) : valF s p = 0 ∧ n.1 = valT s p ∧ n.2 = valP s p ∧ p + 1 < n.2 ∧ n.2 ≤ s.size := by
 unfold valO at h
 split at h
 · rename_i h0
   cases h
   have := val_spec h0
   refine ⟨h0, rfl, rfl, ?_, ?_⟩ <;> simp only [valP] <;> omega
 · cases h
theorem must_some {s : ByteArray} {p q : Nat} {sg : List UInt8} (h : mustO s p sg = some q) : hasAt s p sg = true ∧ q = p + sg.length := by
 unfold mustO at h
 split at h
 · rename_i h0; cases h; exact ⟨h0, rfl⟩
 · cases h
theorem qt_some {s : ByteArray} {p : Nat} {n : ByteArray × Nat} (h : qtO s p = some n) : p < s.size ∧ quoteB (byteAt s p) = true ∧ upF s (p + 1) [u8 s p] = 0 ∧ n.1 = upT s (p + 1) [u8 s p] ∧ n.2 = upP s (p + 1) [u8 s p] ∧ p + 1 < n.2 ∧ n.2 ≤ s.size := by
 unfold qtO at h
 split at h
 · rename_i h0
   cases h
   have := up_le (sg := [u8 s p]) (show p + 1 ≤ s.size by omega) h0.2.2
   refine ⟨h0.1, h0.2.1, h0.2.2, rfl, rfl, ?_, this.1⟩
   have h2 := this.2
   simp only [List.length_cons, List.length_nil] at h2 ⊢
   simp only [upP] at h2 ⊢
   simp only [List.length_cons, List.length_nil] at h2 ⊢
   omega
 · cases h
end Go.Proofs.YtmaoefokimjkbaaGreatDoor.Plain23
namespace Go.Proofs.YtmaoefokimjkbaaGreatDoor.Plain24
open Go.RowKit Strs Ents Plain6 Plain9 Plain10 Plain11 Plain18 Plain19 Plain23 Go.Lib
variable {s u : ByteArray} {t : List UInt8}
theorem e_gap (h : Ext s u t) {p q : Nat} (hq : q < s.size) (hg : gapO s p = some q) : gapO u p = some q := by
 obtain ⟨h1, rfl, _⟩ := gap_some hg
 unfold gapO
 rw [e_white h hq, if_pos h1]
theorem e_nameO (h : Ext s u t) {p : Nat} {n : ByteArray × Nat} (hv : VB s p) (hn : nameO s p = some n) : nameO u p = some n ∧ VB s n.2 := by
 obtain ⟨h0, h1, h2, _, _⟩ := name_some hn
 have := e_nm h hv (by omega)
 have h3 := this.2 h0
 refine ⟨?_, h2 ▸ nm_VB hv⟩
 unfold nameO
 rw [if_pos (by rw [this.1]; exact h0), h3.1, h3.2, ← h1, ← h2]
theorem e_valO (h : Ext s u t) (h0 : VB s 0) {p : Nat} {n : ByteArray × Nat} (hn : valO s p = some n) : valO u p = some n ∧ VB s n.2 := by
 obtain ⟨h1, h2, h3, _, _⟩ := val_some hn
 have := e_val h (p := p) (by omega)
 have h4 := this.2 h1
 refine ⟨?_, h3 ▸ val_VB h0 h1⟩
 unfold valO
 rw [if_pos (by rw [this.1]; exact h1), h4.1, h4.2, ← h2, ← h3]
theorem e_mustO (h : Ext s u t) {p q : Nat} {sg : List UInt8} (hp : p ≤ s.size) (hm : mustO s p sg = some q) : mustO u p sg = some q := by
 obtain ⟨h1, rfl⟩ := must_some hm
 unfold mustO
 rw [if_pos (e_has h hp h1)]
theorem e_u8h (h : Ext s u t) {i : Nat} (hi : i < s.size) : u8 u i = u8 s i := by
 have h' : u.data.toList = s.data.toList ++ t := h
 unfold u8
 simp only [List.getD]
 rw [h', List.getElem?_append_left (by rw [sz_list]; exact hi)]
theorem quote_small {p : Nat} (hq : quoteB (byteAt s p) = true) : (u8 s p).toNat < 128 := by
 unfold quoteB at hq
 have := of_decide_eq_true hq
 rw [byteAt_head] at this
 unfold u8
 omega
theorem e_qt (h : Ext s u t) (h0 : VB s 0) {p : Nat} {n : ByteArray × Nat} (hn : qtO s p = some n) : qtO u p = some n ∧ VB s n.2 := by
 obtain ⟨h1, h2, h3, h4, h5, h6, h7⟩ := qt_some hn
 have hu := e_up h (sg := [u8 s p]) (by simp) (show p + 1 ≤ s.size by omega) (by omega)
 refine ⟨?_, ?_⟩
 · unfold qtO
   rw [e_u8h h h1, e_byte h h1, if_pos ⟨by have := e_le h; omega, h2, hu.2.1⟩, hu.2.2.1, hu.2.2.2, ← h4, ← h5]
 · rw [h5]
   exact up_VB h0 (by omega) h3 (by simp) (by simpa using quote_small h2)
theorem has_lt {p : Nat} {c : UInt8} {sg : List UInt8} (h : hasAt s p (c :: sg) = true) : p < s.size := by
 apply Decidable.byContradiction
 intro hn
 unfold hasAt at h
 rw [rest_nil (by omega)] at h
 simp at h
theorem e_entity (h : Ext s u t) (h0 : VB s 0) {p : Nat} {r : List Df × Nat} (hv : VB s p) (hr : entityZ s p = some r) : entityZ u p = some r ∧ VB s r.2 ∧ p < r.2 ∧ r.2 ≤ s.size := by
 unfold entityZ at hr ⊢
 obtain ⟨a, ha, hr⟩ := Option.bind_eq_some_iff.1 hr
 obtain ⟨n, hn, hr⟩ := Option.bind_eq_some_iff.1 hr
 obtain ⟨b, hb, hr⟩ := Option.bind_eq_some_iff.1 hr
 obtain ⟨v, hq, hr⟩ := Option.bind_eq_some_iff.1 hr
 obtain ⟨x, hx, hr⟩ := Option.bind_eq_some_iff.1 hr
 obtain ⟨q, hm, hr⟩ := Option.bind_eq_some_iff.1 hr
 cases hr
 obtain ⟨a1, a2, a3⟩ := gap_some ha
 obtain ⟨n1, n2, n3, n4, n5⟩ := name_some hn
 obtain ⟨b1, b2, b3⟩ := gap_some hb
 obtain ⟨q1, q2, q3, q4, q5, q6, q7⟩ := qt_some hq
 obtain ⟨m1, m2⟩ := must_some hm
 have hva : VB s a := a2 ▸ whiteZ_VB h0 hv
 have en := e_nameO h hva hn
 have hvb : VB s b := b2 ▸ whiteZ_VB h0 en.2
 have eq := e_qt h h0 hq
 have hwl := has_lt m1
 have hge := whiteZ_ge s v.2
 rw [e_gap h (by omega) ha, Option.bind_some, en.1, Option.bind_some, e_gap h (by omega) hb, Option.bind_some, eq.1, Option.bind_some, hx, Option.bind_some, e_white h hwl, e_mustO h (by omega) hm, Option.bind_some]
 have hroom := has_room m1 (by omega)
 refine ⟨rfl, ?_, ?_, ?_⟩
 · rw [m2]; exact VB_sign h0 m1 (by omega) (by simp) (by simp)
 · simp only [List.length_cons, List.length_nil] at m2; simp only; omega
 · simp only; omega
theorem def_pos {p : Nat} {d : Bool × ByteArray × Nat} (h : defZ s p = some d) (hp : p ≤ s.size) : p + 2 ≤ d.2.2 ∧ d.2.2 ≤ s.size := by
 unfold defZ at h
 split at h
 · rename_i h1; cases h; have := has_room h1 hp; simp only [reqL, List.length_cons, List.length_nil] at this; simp only; omega
 split at h
 · rename_i h1; cases h; have := has_room h1 hp; simp only [impL, List.length_cons, List.length_nil] at this; simp only; omega
 split at h
 · rename_i h1
   have := has_room h1 hp
   simp only [fixL, List.length_cons, List.length_nil] at this
   obtain ⟨a, ha, h⟩ := Option.bind_eq_some_iff.1 h
   obtain ⟨v, hv, h⟩ := Option.bind_eq_some_iff.1 h
   cases h
   obtain ⟨a1, a2, a3⟩ := gap_some ha
   obtain ⟨_, _, _, v4, v5⟩ := val_some hv
   simp only; omega
 · obtain ⟨v, hv, h⟩ := Option.bind_eq_some_iff.1 h
   cases h
   obtain ⟨_, _, _, v4, v5⟩ := val_some hv
   simp only; omega
theorem e_sharp (h : Ext s u t) {p : Nat} {sg : List UInt8} (hp : p < s.size) (h35 : byteAt s p ≠ 35) : hasAt u p (35 :: sg) = false := by
 cases hc : hasAt u p (35 :: sg) with
 | false => rfl
 | true =>
  have := byteAt_of_cons hc (by have := e_le h; omega)
  rw [e_byte h hp] at this
  exact absurd this h35
theorem e_def (h : Ext s u t) (h0 : VB s 0) {p : Nat} {d : Bool × ByteArray × Nat} (hp : p ≤ s.size) (hd : defZ s p = some d) : defZ u p = some d ∧ VB s d.2.2 := by
 unfold defZ at hd
 split at hd
 · rename_i h1
   cases hd
   refine ⟨by unfold defZ; rw [if_pos (e_has h hp h1)], ?_⟩
   exact VB_sign (sg := reqL) h0 h1 hp (by simp [reqL]) (by simp [reqL])
 split at hd
 · rename_i h1
   cases hd
   have nu : hasAt u p reqL = false := by
    cases hc : hasAt u p reqL with
    | false => rfl
    | true =>
     have hr := has_room h1 hp
     simp only [impL, List.length_cons, List.length_nil] at hr
     have a1 := has_byte hc (by have := e_le h; omega) 1 (by simp [reqL])
     have a2 := has_byte h1 hp 1 (by simp [impL])
     rw [e_byte h (by omega)] at a1
     rw [a1] at a2
     simp [reqL, impL] at a2
   refine ⟨by unfold defZ; rw [if_neg (by simp [nu]), if_pos (e_has h hp h1)], ?_⟩
   exact VB_sign (sg := impL) h0 h1 hp (by simp [impL]) (by simp [impL])
 split at hd
 · rename_i h1
   have hr := has_room h1 hp
   simp only [fixL, List.length_cons, List.length_nil] at hr
   have no : ∀ sg : List UInt8, 1 < sg.length → sg.getD 1 0 ≠ 70 → hasAt u p sg = false := by
    intro sg hl hne
    cases hc : hasAt u p sg with
    | false => rfl
    | true =>
     have a1 := has_byte hc (by have := e_le h; omega) 1 hl
     have a2 := has_byte h1 hp 1 (by simp [fixL])
     rw [e_byte h (by omega)] at a1
     rw [a1] at a2
     refine absurd ?_ hne
     have : ((sg.getD 1 0).toNat : Int) = 70 := by simpa [fixL] using a2
     have h70 : (sg.getD 1 0).toNat = 70 := by omega
     exact UInt8.toNat.inj (by simpa using h70)
   obtain ⟨a, ha, hd⟩ := Option.bind_eq_some_iff.1 hd
   obtain ⟨v, hvv, hd⟩ := Option.bind_eq_some_iff.1 hd
   cases hd
   obtain ⟨a1, a2, a3⟩ := gap_some ha
   obtain ⟨_, _, _, v4, v5⟩ := val_some hvv
   have ev := e_valO h h0 hvv
   refine ⟨?_, ev.2⟩
   unfold defZ
   rw [if_neg (by simp [no reqL (by simp [reqL]) (by simp [reqL])]), if_neg (by simp [no impL (by simp [impL]) (by simp [impL])]), if_pos (e_has h hp h1), e_gap h (by omega) ha, Option.bind_some, ev.1, Option.bind_some]
 · obtain ⟨v, hvv, hd⟩ := Option.bind_eq_some_iff.1 hd
   cases hd
   obtain ⟨v1, _, _, v4, v5⟩ := val_some hvv
   have ev := e_valO h h0 hvv
   have h35 : byteAt s p ≠ 35 := by
    intro e
    unfold valF at v1
    rw [if_neg (by omega), if_neg (by rw [e]; decide)] at v1
    cases v1
   refine ⟨?_, ev.2⟩
   unfold defZ
   rw [if_neg (by simp [e_sharp h (by omega) h35, reqL]), if_neg (by simp [e_sharp h (by omega) h35, impL]), if_neg (by simp [e_sharp h (by omega) (sg := [70, 73, 88, 69, 68]) h35, fixL]), ev.1, Option.bind_some]
theorem att_pos {o : ByteArray} {p : Nat} {r : At5 × Nat} (h : attZ s o p = some r) : p + 7 ≤ r.2 ∧ r.2 ≤ s.size ∧ r.1.of = o ∧ 1 ≤ r.1.nm.size := by
 unfold attZ at h
 obtain ⟨n, hn, h⟩ := Option.bind_eq_some_iff.1 h
 obtain ⟨a, ha, h⟩ := Option.bind_eq_some_iff.1 h
 obtain ⟨k, hk, h⟩ := Option.bind_eq_some_iff.1 h
 obtain ⟨wd, hwd, h⟩ := Option.bind_eq_some_iff.1 h
 obtain ⟨b, hb, h⟩ := Option.bind_eq_some_iff.1 h
 obtain ⟨d, hd, h⟩ := Option.bind_eq_some_iff.1 h
 cases h
 obtain ⟨n1, n2, n3, n4, n5⟩ := name_some hn
 obtain ⟨a1, a2, a3⟩ := gap_some ha
 obtain ⟨k1, k2, k3, k4, k5⟩ := name_some hk
 obtain ⟨b1, b2, b3⟩ := gap_some hb
 have hdp := def_pos hd (b3 (by omega))
 have hks : 2 ≤ k.1.size := by
  have hz : k.1.size = k.1.data.toList.length := Lib.size_eq _
  unfold kindZ at hwd
  split at hwd
  · rename_i e; rw [hz, e]; simp
  split at hwd
  · rename_i e
    rcases e with e | e | e | e <;> rw [hz, e] <;> simp
  · cases hwd
 have hk2 : a + 2 ≤ k.2 := by
  have hs1 := nm_spec k1
  have : k.1.size = nameZ s a := by rw [k2]; unfold nmT; rw [ext_size (by simp only [nmP] at hs1; omega)]; omega
  rw [k3, hs1.2.2.2]; omega
 refine ⟨by simp only; omega, hdp.2, rfl, ?_⟩
 simp only
 have hs1 := nm_spec n1
 rw [n2]; unfold nmT
 rw [ext_size (by simp only [nmP] at hs1; omega)]; omega
theorem e_att (h : Ext s u t) (h0 : VB s 0) {o : ByteArray} {p : Nat} {r : At5 × Nat} (hv : VB s p) (hr : attZ s o p = some r) : attZ u o p = some r ∧ VB s r.2 := by
 unfold attZ at hr
 obtain ⟨n, hn, hr⟩ := Option.bind_eq_some_iff.1 hr
 obtain ⟨a, ha, hr⟩ := Option.bind_eq_some_iff.1 hr
 obtain ⟨k, hk, hr⟩ := Option.bind_eq_some_iff.1 hr
 obtain ⟨wd, hwd, hr⟩ := Option.bind_eq_some_iff.1 hr
 obtain ⟨b, hb, hr⟩ := Option.bind_eq_some_iff.1 hr
 obtain ⟨d, hd, hr⟩ := Option.bind_eq_some_iff.1 hr
 cases hr
 obtain ⟨n1, n2, n3, n4, n5⟩ := name_some hn
 obtain ⟨a1, a2, a3⟩ := gap_some ha
 obtain ⟨k1, k2, k3, k4, k5⟩ := name_some hk
 obtain ⟨b1, b2, b3⟩ := gap_some hb
 have hdp := def_pos hd (b3 (by omega))
 have en := e_nameO h hv hn
 have hva : VB s a := a2 ▸ whiteZ_VB h0 en.2
 have ek := e_nameO h hva hk
 have hvb : VB s b := b2 ▸ whiteZ_VB h0 ek.2
 have ed := e_def h h0 (b3 (by omega)) hd
 refine ⟨?_, ed.2⟩
 unfold attZ
 rw [en.1, Option.bind_some, e_gap h (by omega) ha, Option.bind_some, ek.1, Option.bind_some, hwd, Option.bind_some, e_gap h (by omega) hb, Option.bind_some, ed.1, Option.bind_some]
theorem e_atts (h : Ext s u t) (h0 : VB s 0) {o : ByteArray} : ∀ (f f' p : Nat) (acc : List At5) (r : List At5 × Nat), f ≤ f' → VB s p → p ≤ s.size → attsGo s o f p acc = some r → attsGo u o f' p acc = some r ∧ VB s r.2 ∧ p < r.2 ∧ r.2 ≤ s.size
 | 0, _, _, _, _, _, _, _, hr => by cases hr
 | f + 1, 0, _, _, _, hf, _, _, _ => by omega
 | f + 1, f' + 1, p, acc, r, hf, hv, hp, hr => by
  unfold attsGo at hr ⊢
  have hge := whiteZ_ge s p
  have hvw := whiteZ_VB h0 hv
  split at hr
  · rename_i h1
    cases hr
    have hl := has_lt h1
    rw [e_white h hl, if_pos (e_has h (by omega) h1)]
    have hroom := has_room h1 (by omega)
    simp only [List.length_cons, List.length_nil] at hroom
    exact ⟨rfl, VB_sign h0 h1 (by omega) (by simp) (by simp), by simp only; omega, by simp only; omega⟩
  · rename_i h1
    split at hr
    · cases hr
    · rename_i h2
      split at hr
      · cases hr
      · rename_i a q hm
        have hpos := att_pos hm
        have ea := e_att h h0 hvw hm
        have hl : whiteZ s p < s.size := by simp only at hpos; omega
        have h1' : hasAt u (whiteZ s p) [62] = false := by rw [e_one h hl]; simpa using h1
        obtain ⟨i1, i2, i3, i4⟩ := e_atts h h0 f f' q (acc ++ [a]) r (by omega) ea.2 hpos.2.1 hr
        rw [e_white h hl, if_neg (by simp [h1']), if_neg h2, ea.1]
        exact ⟨i1, i2, by simp only at hpos; omega, i4⟩
theorem e_attlist (h : Ext s u t) (h0 : VB s 0) {p : Nat} {r : List Df × Nat} (hv : VB s p) (hr : attlistZ s p = some r) : attlistZ u p = some r ∧ VB s r.2 ∧ p < r.2 ∧ r.2 ≤ s.size := by
 unfold attlistZ at hr ⊢
 obtain ⟨a, ha, hr⟩ := Option.bind_eq_some_iff.1 hr
 obtain ⟨n, hn, hr⟩ := Option.bind_eq_some_iff.1 hr
 obtain ⟨l, hl, hr⟩ := Option.bind_eq_some_iff.1 hr
 cases hr
 obtain ⟨a1, a2, a3⟩ := gap_some ha
 obtain ⟨n1, n2, n3, n4, n5⟩ := name_some hn
 have hva : VB s a := a2 ▸ whiteZ_VB h0 hv
 have en := e_nameO h hva hn
 have el := e_atts h h0 (s.size + 1) (u.size + 1) n.2 [] l (by have := e_le h; omega) en.2 (by omega) hl
 rw [e_gap h (by omega) ha, Option.bind_some, en.1, Option.bind_some, el.1, Option.bind_some]
 exact ⟨rfl, el.2.1, by simp only; omega, el.2.2.2⟩
theorem e_element (h : Ext s u t) (h0 : VB s 0) {p : Nat} {r : List Df × Nat} (hv : VB s p) (hr : elementZ s p = some r) : elementZ u p = some r ∧ VB s r.2 ∧ p < r.2 ∧ r.2 ≤ s.size := by
 unfold elementZ at hr ⊢
 obtain ⟨a, ha, hr⟩ := Option.bind_eq_some_iff.1 hr
 obtain ⟨n, hn, hr⟩ := Option.bind_eq_some_iff.1 hr
 obtain ⟨b, hb, hr⟩ := Option.bind_eq_some_iff.1 hr
 split at hr
 · rename_i hu
   cases hr
   obtain ⟨a1, a2, a3⟩ := gap_some ha
   obtain ⟨n1, n2, n3, n4, n5⟩ := name_some hn
   obtain ⟨b1, b2, b3⟩ := gap_some hb
   have hva : VB s a := a2 ▸ whiteZ_VB h0 hv
   have en := e_nameO h hva hn
   have hlt : b < s.size := up_lt (b3 (by omega)) (by rw [hu.1]; omega)
   have eu := e_up h (sg := [62]) (by simp) (b3 (by omega)) (by omega)
   have ul := up_le (sg := [62]) (b3 (by omega)) hu.1
   rw [e_gap h (by omega) ha, Option.bind_some, en.1, Option.bind_some, e_gap h hlt hb, Option.bind_some, if_pos ⟨eu.2.1, by rw [eu.2.2.1]; exact hu.2⟩, eu.2.2.2]
   refine ⟨rfl, up_VB h0 (b3 (by omega)) hu.1 (by simp) (by simp), ?_, ul.1⟩
   have h2 := ul.2
   simp only [List.length_cons, List.length_nil] at h2
   simp only; omega
 · cases hr
end Go.Proofs.YtmaoefokimjkbaaGreatDoor.Plain24
namespace Go.Proofs.YtmaoefokimjkbaaGreatDoor.Plain25
open Go.RowKit Strs Ents Plain3 Plain6 Plain9 Plain10 Plain11 Plain18 Plain20 Plain23 Plain24 Go.Lib
variable {s u v : ByteArray}
def Sh (s u v : ByteArray) : Prop := v.data.toList = s.data.toList ++ u.data.toList
theorem Sh.ext (h : Sh s u v) : Ext s v u.data.toList := h
theorem h_size (h : Sh s u v) : v.size = s.size + u.size := by rw [e_size h.ext, sz_list]
theorem h_rest (h : Sh s u v) (p : Nat) : rest v (s.size + p) = rest u p := by
 have h' : v.data.toList = s.data.toList ++ u.data.toList := h
 unfold rest
 rw [h', ← sz_list s, List.drop_append]
 simp
theorem h_has (h : Sh s u v) (p : Nat) (sg : List UInt8) : hasAt v (s.size + p) sg = hasAt u p sg := by unfold hasAt; rw [h_rest h]
theorem h_getD (h : Sh s u v) (p : Nat) : v.data.toList.getD (s.size + p) 0 = u.data.toList.getD p 0 := by
 have h' : v.data.toList = s.data.toList ++ u.data.toList := h
 simp only [List.getD]
 rw [h', List.getElem?_append_right (by rw [sz_list]; omega)]
 rw [sz_list, Nat.add_sub_cancel_left]
theorem h_byte (h : Sh s u v) (p : Nat) : byteAt v (s.size + p) = byteAt u p := by rw [byteAt_head, byteAt_head, h_getD h]
theorem h_u8 (h : Sh s u v) (p : Nat) : u8 v (s.size + p) = u8 u p := h_getD h p
theorem ext_list (s : ByteArray) (p q : Nat) : (s.extract p q).data.toList = (s.data.toList.drop p).take (q - p) := by
 rw [Lib.extract_data]
theorem ba_ext {a b : ByteArray} (h : a.data.toList = b.data.toList) : a = b := by
 cases a; cases b; simp only [ByteArray.mk.injEq]; exact Array.toList_inj.1 h
theorem h_extr (h : Sh s u v) (p q : Nat) : v.extract (s.size + p) (s.size + q) = u.extract p q := by
 apply ba_ext
 rw [ext_list, ext_list]
 have := h_rest h p
 unfold rest at this
 rw [this, show s.size + q - (s.size + p) = q - p by omega]
theorem h_index (h : Sh s u v) (p : Nat) (sg : List UInt8) : Lib.index (rest v (s.size + p)) sg = Lib.index (rest u p) sg := by rw [h_rest h]
theorem h_upF (h : Sh s u v) (p : Nat) (sg : List UInt8) : upF v (s.size + p) sg = upF u p sg := by
 unfold upF
 have a := fz_index v (s.size + p) sg
 have b := fz_index u p sg
 rw [h_index h] at a
 by_cases hc : fz u p sg = -1
 · rw [if_pos hc, if_pos (a.2 (b.1 hc))]
 · rw [if_neg hc, if_neg (fun hh => hc (b.2 (a.1 hh)))]
theorem h_fz (h : Sh s u v) {p : Nat} {sg : List UInt8} (hu : upF u p sg = 0) (hp : p ≤ u.size) : (fz v (s.size + p) sg).toNat = s.size + (fz u p sg).toNat := by
 have hc : fz u p sg ≠ -1 := by unfold upF at hu; intro hh; rw [if_pos hh] at hu; cases hu
 have hi : Lib.index (rest u p) sg ≠ -1 := fun hh => hc ((fz_index u p sg).2 hh)
 rcases fz_spec u p sg hp with h1 | ⟨i, h1, h2, _⟩
 · exact absurd h1 hc
 have hv : fz v (s.size + p) sg = ((s.size + p : Nat) : Int) + Lib.index (rest u p) sg := by
  unfold fz; rw [h_index h, if_neg hi]
 have hu2 : fz u p sg = (p : Int) + Lib.index (rest u p) sg := by
  unfold fz; rw [if_neg hi]
 rw [hv]; rw [h1] at hu2 ⊢
 omega
theorem h_upT (h : Sh s u v) {p : Nat} {sg : List UInt8} (hu : upF u p sg = 0) (hp : p ≤ u.size) : upT v (s.size + p) sg = upT u p sg := by
 unfold upT; rw [h_fz h hu hp, h_extr h]
theorem h_upP (h : Sh s u v) {p : Nat} {sg : List UInt8} (hu : upF u p sg = 0) (hp : p ≤ u.size) : upP v (s.size + p) sg = s.size + upP u p sg := by
 unfold upP; rw [h_fz h hu hp, Nat.add_assoc]
theorem h_whiteGo (h : Sh s u v) : ∀ (f f' i : Nat), u.size < i + f → u.size < i + f' → whiteGo v f (s.size + i) = s.size + whiteGo u f' i
 | 0, f', i, h1, h2 => by
  have : whiteGo u f' i = i := whiteGo_stop (by omega)
  rw [this]; rfl
 | f + 1, 0, i, h1, h2 => by
  rw [whiteGo_stop (by rw [h_size h]; omega)]; rfl
 | f + 1, f' + 1, i, h1, h2 => by
  have hz := h_size h
  by_cases hw : i < u.size ∧ whiteB (byteAt u i) = true
  · rw [whiteGo_on hw, whiteGo_on (by rw [h_byte h]; exact ⟨by omega, hw.2⟩)]
    exact h_whiteGo h f f' (i + 1) (by omega) (by omega)
  · rw [whiteGo_stop hw, whiteGo_stop (by rw [h_byte h]; intro hh; exact hw ⟨by omega, hh.2⟩)]
theorem h_white (h : Sh s u v) (p : Nat) : whiteZ v (s.size + p) = s.size + whiteZ u p := by
 unfold whiteZ
 by_cases hp : p ≤ u.size
 · exact h_whiteGo h _ _ p (by have := h_size h; omega) (by omega)
 · rw [whiteGo_stop (by have := h_size h; omega), whiteGo_stop (by omega)]
theorem h_vz (h : Sh s u v) (p : Nat) (x0 : Int) : ∀ n, vz v (s.size + p) x0 n = vz u p x0 n
 | 0 => rfl
 | n + 1 => by unfold vz; rw [h_vz h p x0 n, Nat.add_assoc, h_byte h]
theorem h_conts (h : Sh s u v) (p n : Nat) : contsB v (s.size + p) n = contsB u p n := by
 unfold contsB
 congr 1
 funext k
 rw [Nat.add_assoc, h_byte h]
theorem h_fin (h : Sh s u v) (p : Nat) (x0 : Int) (n : Nat) (low : Int) : fin v (s.size + p) x0 n low = fin u p x0 n low := by
 unfold fin
 rw [h_vz h]
 have hz := h_size h
 have hc := h_conts h p n
 simp only [conts, hc, hz]
 by_cases hl : p + n ≤ u.size
 · simp [show s.size + p + n ≤ s.size + u.size by omega, hl]
 · simp [show ¬ s.size + p + n ≤ s.size + u.size by omega, hl]
theorem h_rune (h : Sh s u v) (p : Nat) : runeZ v (s.size + p) = runeZ u p := by
 unfold runeZ
 rw [h_byte h]
 simp only [h_fin h]
theorem h_nameGo (h : Sh s u v) (p : Nat) : ∀ (f f' n : Nat), u.size < p + n + f → u.size < p + n + f' → VB u (p + n) → nameGo v (s.size + p) f n = nameGo u p f' n
 | 0, f', n, h1, h2, _ => by rw [nameGo_end (f := f') (by omega)]; rfl
 | f + 1, 0, n, h1, h2, _ => by rw [nameGo_end (f := f + 1) (by have := h_size h; omega)]; rfl
 | f + 1, f' + 1, n, h1, h2, hv => by
  have hz := h_size h
  unfold nameGo
  by_cases hp : p + n < u.size
  · rw [if_pos (by omega), if_pos hp]
    have hst : stops v (s.size + p) n ↔ stops u p n := by
     unfold stops
     rw [Nat.add_assoc, h_rune h]
    have hstep := VB_step hv hp
    by_cases hs : stops u p n
    · rw [if_pos hs, if_pos (hst.2 hs)]
    · rw [if_neg hs, if_neg (fun hh => hs (hst.1 hh))]
      rw [Nat.add_assoc, h_rune h]
      exact h_nameGo h p f f' _ (by omega) (by omega) (by rw [← Nat.add_assoc]; exact hstep.2)
  · rw [if_neg (by omega), if_neg hp]
theorem h_nameZ (h : Sh s u v) {p : Nat} (hv : VB u p) : nameZ v (s.size + p) = nameZ u p := by
 unfold nameZ
 by_cases hp : p ≤ u.size
 · exact h_nameGo h p _ _ 0 (by have := h_size h; omega) (by omega) hv
 · rw [nameGo_end (by have := h_size h; omega), nameGo_end (by omega)]
theorem h_nmF (h : Sh s u v) {p : Nat} (hv : VB u p) : nmF v (s.size + p) = nmF u p := by
 unfold nmF
 rw [h_nameZ h hv]
 have hz := h_size h
 by_cases hc : u.size ≤ p + nameZ u p
 · rw [show (if u.size ≤ p + nameZ u p then (1 : Nat) else if nameZ u p = 0 then 2 else 0) = 1 from if_pos hc, show (if v.size ≤ s.size + p + nameZ u p then (1 : Nat) else if nameZ u p = 0 then 2 else 0) = 1 from if_pos (by omega)]
 · rw [show (if u.size ≤ p + nameZ u p then (1 : Nat) else if nameZ u p = 0 then 2 else 0) = (if nameZ u p = 0 then 2 else 0) from if_neg hc, show (if v.size ≤ s.size + p + nameZ u p then (1 : Nat) else if nameZ u p = 0 then 2 else 0) = (if nameZ u p = 0 then 2 else 0) from if_neg (by omega)]
theorem h_nmP (h : Sh s u v) {p : Nat} (hv : VB u p) : nmP v (s.size + p) = s.size + nmP u p := by unfold nmP; rw [h_nameZ h hv, Nat.add_assoc]
theorem h_nmT (h : Sh s u v) {p : Nat} (hv : VB u p) : nmT v (s.size + p) = nmT u p := by unfold nmT; rw [h_nameZ h hv, Nat.add_assoc, h_extr h]
theorem h_valGo (h : Sh s u v) {q : Int} : ∀ (f f' i : Nat), u.size < i + f → u.size < i + f' → valGo v q f (s.size + i) = ((valGo u q f' i).1, s.size + (valGo u q f' i).2)
 | 0, f', i, h1, h2 => by rw [val_end (f := f') (by omega)]; rfl
 | f + 1, 0, i, h1, h2 => by rw [val_end (f := f + 1) (by have := h_size h; omega)]; rfl
 | f + 1, f' + 1, i, h1, h2 => by
  have hz := h_size h
  by_cases hi : i < u.size
  · by_cases hb : byteAt u i = 60
    · rw [val_bad hi hb, val_bad (by omega) (by rw [h_byte h]; exact hb)]
    · by_cases hq : byteAt u i = q
      · rw [val_hit hi hb hq, val_hit (by omega) (by rw [h_byte h]; exact hb) (by rw [h_byte h]; exact hq)]
      · rw [val_on hi hb hq, val_on (by omega) (by rw [h_byte h]; exact hb) (by rw [h_byte h]; exact hq)]
        exact h_valGo h f f' (i + 1) (by omega) (by omega)
  · rw [val_end hi, val_end (by omega)]
theorem h_valF (h : Sh s u v) (p : Nat) : valF v (s.size + p) = valF u p := by
 unfold valF
 have hz := h_size h
 by_cases hp : u.size ≤ p
 · rw [if_pos hp, if_pos (by omega)]
 · rw [if_neg hp, if_neg (by omega), h_byte h, Nat.add_assoc, h_valGo h (v.size + 1) (u.size + 1) (p + 1) (by omega) (by omega)]
theorem h_valE (h : Sh s u v) (p : Nat) : valE v (s.size + p) = s.size + valE u p := by
 unfold valE
 have hz := h_size h
 rw [h_byte h, Nat.add_assoc, h_valGo h (v.size + 1) (u.size + 1) (p + 1) (by omega) (by omega)]
theorem h_gap (h : Sh s u v) (p : Nat) : gapO v (s.size + p) = (gapO u p).map (s.size + ·) := by
 unfold gapO
 rw [h_white h]
 by_cases hc : p < whiteZ u p
 · rw [if_pos hc, if_pos (by omega)]; rfl
 · rw [if_neg hc, if_neg (by omega)]; rfl
theorem h_nameO (h : Sh s u v) {p : Nat} (hv : VB u p) : nameO v (s.size + p) = (nameO u p).map fun n => (n.1, s.size + n.2) := by
 unfold nameO
 rw [h_nmF h hv, h_nmT h hv, h_nmP h hv]
 by_cases hc : nmF u p = 0
 · rw [if_pos hc, if_pos hc]; rfl
 · rw [if_neg hc, if_neg hc]; rfl
theorem h_valO (h : Sh s u v) (p : Nat) : valO v (s.size + p) = (valO u p).map fun n => (n.1, s.size + n.2) := by
 unfold valO
 rw [h_valF h]
 by_cases hc : valF u p = 0
 · rw [if_pos hc, if_pos hc]
   unfold valT valP
   rw [h_valE h, Nat.add_assoc, h_extr h]; rfl
 · rw [if_neg hc, if_neg hc]; rfl
theorem h_qt (h : Sh s u v) (p : Nat) : qtO v (s.size + p) = (qtO u p).map fun n => (n.1, s.size + n.2) := by
 unfold qtO
 rw [h_byte h, h_u8 h, Nat.add_assoc, h_upF h]
 have hz := h_size h
 by_cases hc : p < u.size ∧ quoteB (byteAt u p) = true ∧ upF u (p + 1) [u8 u p] = 0
 · rw [if_pos hc, if_pos ⟨by omega, hc.2⟩, h_upT h hc.2.2 (by omega), h_upP h hc.2.2 (by omega)]; rfl
 · rw [if_neg hc, if_neg (fun hh => hc ⟨by omega, hh.2⟩)]; rfl
theorem h_mustO (h : Sh s u v) (p : Nat) (sg : List UInt8) : mustO v (s.size + p) sg = (mustO u p sg).map (s.size + ·) := by
 unfold mustO
 rw [h_has h]
 by_cases hc : hasAt u p sg = true
 · rw [if_pos hc, if_pos hc, Nat.add_assoc]; rfl
 · rw [if_neg hc, if_neg hc]; rfl
abbrev shift {α : Type} (k : Nat) (r : Option (α × Nat)) : Option (α × Nat) := r.map fun n => (n.1, k + n.2)
theorem h_entity (h : Sh s u v) (h0 : VB u 0) {p : Nat} (hv : VB u p) : entityZ v (s.size + p) = shift s.size (entityZ u p) := by
 unfold entityZ
 rw [h_gap h]
 cases ha : gapO u p with
 | none => rfl
 | some a =>
 have hva : VB u a := (gap_some ha).2.1 ▸ whiteZ_VB h0 hv
 simp only [Option.map_some, Option.bind_some]
 rw [h_nameO h hva]
 cases hn : nameO u a with
 | none => rfl
 | some n =>
 simp only [Option.map_some, Option.bind_some]
 rw [h_gap h]
 cases hb : gapO u n.2 with
 | none => rfl
 | some b =>
 simp only [Option.map_some, Option.bind_some]
 rw [h_qt h]
 cases hq : qtO u b with
 | none => rfl
 | some q =>
 simp only [Option.map_some, Option.bind_some]
 cases hx : entO q.1 with
 | none => rfl
 | some x =>
 simp only [Option.bind_some]
 rw [h_white h, h_mustO h]
 cases hm : mustO u (whiteZ u q.2) [62] with
 | none => rfl
 | some m => rfl
theorem h_def (h : Sh s u v) (p : Nat) : defZ v (s.size + p) = (defZ u p).map fun d => (d.1, d.2.1, s.size + d.2.2) := by
 unfold defZ
 rw [h_has h, h_has h, h_has h]
 split
 · rw [Nat.add_assoc]; rfl
 split
 · rw [Nat.add_assoc]; rfl
 split
 · rw [Nat.add_assoc, h_gap h]
   cases ha : gapO u (p + 6) with
   | none => rfl
   | some a =>
   simp only [Option.map_some, Option.bind_some]
   rw [h_valO h]
   cases hb : valO u a <;> rfl
 · rw [h_valO h]
   cases hb : valO u p <;> rfl
theorem h_att (h : Sh s u v) (h0 : VB u 0) {o : ByteArray} {p : Nat} (hv : VB u p) : attZ v o (s.size + p) = shift s.size (attZ u o p) := by
 unfold attZ
 rw [h_nameO h hv]
 cases hn : nameO u p with
 | none => rfl
 | some n =>
 simp only [Option.map_some, Option.bind_some]
 have hvn : VB u n.2 := (name_some hn).2.2.1 ▸ nm_VB hv
 rw [h_gap h]
 cases ha : gapO u n.2 with
 | none => rfl
 | some a =>
 have hva : VB u a := (gap_some ha).2.1 ▸ whiteZ_VB h0 hvn
 simp only [Option.map_some, Option.bind_some]
 rw [h_nameO h hva]
 cases hk : nameO u a with
 | none => rfl
 | some k =>
 simp only [Option.map_some, Option.bind_some]
 cases hw : kindZ k.1 with
 | none => rfl
 | some wd =>
 simp only [Option.bind_some]
 rw [h_gap h]
 cases hb : gapO u k.2 with
 | none => rfl
 | some b =>
 simp only [Option.map_some, Option.bind_some]
 rw [h_def h]
 cases hd : defZ u b <;> rfl
theorem att_VB (h0 : VB u 0) {o : ByteArray} {p : Nat} {r : At5 × Nat} (hv : VB u p) (hr : attZ u o p = some r) : VB u r.2 :=
 (e_att (s := u) (u := u) (t := []) (by unfold Ext; simp) h0 hv hr).2
theorem h_atts (h : Sh s u v) (h0 : VB u 0) {o : ByteArray} : ∀ (f f' p : Nat) (acc : List At5), u.size < p + f → u.size < p + f' → VB u p → p ≤ u.size → attsGo v o f (s.size + p) acc = shift s.size (attsGo u o f' p acc)
 | 0, _, _, _, h1, _, _, h3 => by omega
 | _ + 1, 0, _, _, _, h2, _, h3 => by omega
 | f + 1, f' + 1, p, acc, h1, h2, hv, hp => by
  unfold attsGo
  rw [h_white h, h_has h]
  split
  · rw [Nat.add_assoc]; rfl
  · by_cases hw : whiteZ u p = p
    · rw [if_pos hw, if_pos (by omega)]; rfl
    · rw [if_neg hw, if_neg (by omega), h_att h h0 (whiteZ_VB h0 hv)]
      cases ha : attZ u o (whiteZ u p) with
      | none => rfl
      | some a =>
       have hpos := att_pos ha
       have hge := whiteZ_ge u p
       exact h_atts h h0 f f' a.2 (acc ++ [a.1]) (by omega) (by omega) (att_VB h0 (whiteZ_VB h0 hv) ha) hpos.2.1
theorem h_attlist (h : Sh s u v) (h0 : VB u 0) {p : Nat} (hv : VB u p) : attlistZ v (s.size + p) = shift s.size (attlistZ u p) := by
 unfold attlistZ
 rw [h_gap h]
 cases ha : gapO u p with
 | none => rfl
 | some a =>
 have hva : VB u a := (gap_some ha).2.1 ▸ whiteZ_VB h0 hv
 simp only [Option.map_some, Option.bind_some]
 rw [h_nameO h hva]
 cases hn : nameO u a with
 | none => rfl
 | some n =>
 have hvn : VB u n.2 := (name_some hn).2.2.1 ▸ nm_VB hva
 have hns := (name_some hn).2.2.2.2
 simp only [Option.map_some, Option.bind_some]
 rw [h_atts h h0 (v.size + 1) (u.size + 1) n.2 [] (by have := h_size h; omega) (by omega) hvn (by omega)]
 cases hl : attsGo u n.1 (u.size + 1) n.2 [] <;> rfl
theorem h_element (h : Sh s u v) (h0 : VB u 0) {p : Nat} (hv : VB u p) : elementZ v (s.size + p) = shift s.size (elementZ u p) := by
 unfold elementZ
 rw [h_gap h]
 cases ha : gapO u p with
 | none => rfl
 | some a =>
 have hva : VB u a := (gap_some ha).2.1 ▸ whiteZ_VB h0 hv
 simp only [Option.map_some, Option.bind_some]
 rw [h_nameO h hva]
 cases hn : nameO u a with
 | none => rfl
 | some n =>
 simp only [Option.map_some, Option.bind_some]
 rw [h_gap h]
 cases hb : gapO u n.2 with
 | none => rfl
 | some b =>
 simp only [Option.map_some, Option.bind_some]
 have hbl := (gap_some hb).2.2 (by have := (name_some hn).2.2.2.2; omega)
 rw [h_upF h]
 by_cases hc : upF u b [62] = 0
 · rw [h_upT h hc hbl, h_upP h hc hbl]
   split <;> rfl
 · rw [if_neg (fun hh => hc hh.1), if_neg (fun hh => hc hh.1)]; rfl
theorem h_lack (h : Sh s u v) (p : Nat) (sg : List UInt8) : mustF v (s.size + p) sg = mustF u p sg := by
 unfold mustF lackZ; rw [h_has h, h_rest h]
theorem h_comment (h : Sh s u v) {p : Nat} (hp : p ≤ u.size) : (commentZ v (s.size + p)).fl = (commentZ u p).fl ∧ ((commentZ u p).fl = 0 → (commentZ v (s.size + p)).pos = s.size + (commentZ u p).pos) := by
 unfold commentZ
 rw [h_upF h]
 by_cases hc : upF u p [45, 45] = 0
 · rw [if_neg (not_not_intro hc), if_neg (not_not_intro hc), h_upP h hc hp, h_lack h]
   by_cases hm : mustF u (upP u p [45, 45]) [62] = 0
   · rw [if_pos hm, if_pos hm]; exact ⟨rfl, fun _ => Nat.add_assoc _ _ _⟩
   · rw [if_neg hm, if_neg hm]; exact ⟨rfl, fun hh => absurd hh hm⟩
 · rw [if_pos hc, if_pos hc]; exact ⟨rfl, fun hh => absurd hh hc⟩
theorem h_pi (h : Sh s u v) {p : Nat} (hv : VB u p) : (piZ v (s.size + p)).fl = (piZ u p).fl ∧ ((piZ u p).fl = 0 → (piZ v (s.size + p)).pos = s.size + (piZ u p).pos) := by
 unfold piZ
 rw [h_nmF h hv, h_nmT h hv, h_nmP h hv]
 by_cases hc : nmF u p = 0
 · have hs := nm_spec hc
   rw [if_neg (not_not_intro hc), if_neg (not_not_intro hc)]
   by_cases hx : xmlB (nmT u p) = true
   · rw [if_pos hx, if_pos hx]; exact ⟨rfl, fun hh => by cases hh⟩
   · rw [if_neg hx, if_neg hx]
     simp only
     rw [h_white h]
     by_cases hw : nmP u p < whiteZ u (nmP u p)
     · rw [if_pos hw, if_pos (by omega), h_upF h]
       have hle := whiteZ_le (s := u) (p := nmP u p) (by omega)
       by_cases hu : upF u (whiteZ u (nmP u p)) [63, 62] = 0
       · rw [if_pos hu, if_pos hu]; exact ⟨rfl, fun _ => h_upP h hu hle⟩
       · rw [if_neg hu, if_neg hu]; exact ⟨rfl, fun hh => absurd hh hu⟩
     · rw [if_neg hw, if_neg (by omega), h_lack h]
       by_cases hm : mustF u (whiteZ u (nmP u p)) [63, 62] = 0
       · rw [if_pos hm, if_pos hm]; exact ⟨rfl, fun _ => Nat.add_assoc _ _ _⟩
       · rw [if_neg hm, if_neg hm]; exact ⟨rfl, fun hh => absurd hh hm⟩
 · rw [if_pos hc, if_pos hc]; exact ⟨rfl, fun hh => absurd hh hc⟩
theorem h_mark (h : Sh s u v) (h0 : VB u 0) {p : Nat} (hp : p ≤ u.size) : markO v (s.size + p) = shift s.size (markO u p) := by
 unfold markO
 rw [h_has h, h_has h, h_has h, h_has h, h_has h]
 have hvb : ∀ (c : UInt8) (sg : List UInt8), hasAt u p (c :: sg) = true → ((c :: sg).getD sg.length 0).toNat < 128 → VB u (p + (c :: sg).length) := by
  intro c sg hh ha
  exact VB_sign h0 hh hp (by simp) (by simpa using ha)
 split
 · rename_i h1
   have hr := has_room h1 hp
   simp only [List.length_cons, List.length_nil] at hr
   obtain ⟨c1, c2⟩ := h_comment h (p := p + 4) (by omega)
   rw [Nat.add_assoc]
   by_cases hc : (commentZ u (p + 4)).fl = 0
   · rw [if_pos hc, if_pos (by rw [c1]; exact hc), c2 hc]; rfl
   · rw [if_neg hc, if_neg (by rw [c1]; exact hc)]; rfl
 split
 · rename_i h1
   obtain ⟨c1, c2⟩ := h_pi h (p := p + 2) (hvb _ _ h1 (by simp))
   rw [Nat.add_assoc]
   by_cases hc : (piZ u (p + 2)).fl = 0
   · rw [if_pos hc, if_pos (by rw [c1]; exact hc), c2 hc]; rfl
   · rw [if_neg hc, if_neg (by rw [c1]; exact hc)]; rfl
 split
 · rename_i h1
   rw [Nat.add_assoc]
   exact h_entity h h0 (hvb _ _ h1 (by simp))
 split
 · rename_i h1
   rw [Nat.add_assoc]
   exact h_attlist h h0 (hvb _ _ h1 (by simp))
 split
 · rename_i h1
   rw [Nat.add_assoc]
   exact h_element h h0 (hvb _ _ h1 (by simp))
 · rfl
theorem comment_end {p : Nat} (h0 : VB s 0) (hp : p ≤ s.size) (hf : (commentZ s p).fl = 0) : p < (commentZ s p).pos ∧ (commentZ s p).pos ≤ s.size ∧ VB s (commentZ s p).pos := by
 unfold commentZ at hf ⊢
 by_cases hc : upF s p [45, 45] = 0
 · rw [if_neg (not_not_intro hc)] at hf ⊢
   by_cases hm : mustF s (upP s p [45, 45]) [62] = 0
   · rw [if_pos hm] at hf ⊢
     have hu := up_le (sg := [45, 45]) hp hc
     have hh := must_has.1 hm
     have hr := has_room hh hu.1
     simp only [List.length_cons, List.length_nil] at hr
     have h2 := hu.2
     simp only [List.length_cons, List.length_nil] at h2
     refine ⟨?_, hr, VB_sign h0 hh hu.1 (by simp) (by simp)⟩
     simp only; omega
   · rw [if_neg hm] at hf; exact absurd hf hm
 · rw [if_pos hc] at hf; exact absurd hf hc
theorem pi_end {p : Nat} (h0 : VB s 0) (hf : (piZ s p).fl = 0) : p < (piZ s p).pos ∧ (piZ s p).pos ≤ s.size ∧ VB s (piZ s p).pos := by
 unfold piZ at hf ⊢
 by_cases hc : nmF s p = 0
 · have hs := nm_spec hc
   rw [if_neg (not_not_intro hc)] at hf ⊢
   by_cases hx : xmlB (nmT s p) = true
   · rw [if_pos hx] at hf; cases hf
   · rw [if_neg hx] at hf ⊢
     simp only at hf ⊢
     have hle := whiteZ_le (s := s) (p := nmP s p) (by omega)
     have hge := whiteZ_ge s (nmP s p)
     by_cases hw : nmP s p < whiteZ s (nmP s p)
     · rw [if_pos hw] at hf ⊢
       by_cases hu : upF s (whiteZ s (nmP s p)) [63, 62] = 0
       · rw [if_pos hu] at hf ⊢
         have hl := up_le (sg := [63, 62]) hle hu
         have h2 := hl.2
         simp only [List.length_cons, List.length_nil] at h2
         exact ⟨by simp only; omega, hl.1, up_VB h0 hle hu (by simp) (by simp)⟩
       · rw [if_neg hu] at hf; exact absurd hf hu
     · rw [if_neg hw] at hf ⊢
       by_cases hm : mustF s (whiteZ s (nmP s p)) [63, 62] = 0
       · rw [if_pos hm] at hf ⊢
         have hh := must_has.1 hm
         have hr := has_room hh hle
         simp only [List.length_cons, List.length_nil] at hr
         exact ⟨by simp only; omega, hr, VB_sign h0 hh hle (by simp) (by simp)⟩
       · rw [if_neg hm] at hf; exact absurd hf hm
 · rw [if_pos hc] at hf; exact absurd hf hc
theorem has_pre {p : Nat} {a b : List UInt8} (h : hasAt s p (a ++ b) = true) : hasAt s p a = true := by
 unfold hasAt at h ⊢
 rw [List.isPrefixOf_iff_prefix] at h ⊢
 exact (List.prefix_append a b).trans h
theorem e_hasNe {t : List UInt8} (h : Ext s u t) {p : Nat} {a b : List UInt8} (hp : p ≤ s.size) (hb : hasAt s p b = true) (k : Nat) (hka : k < a.length) (hkb : k < b.length) (hne : (a.getD k 0).toNat ≠ (b.getD k 0).toNat) : hasAt u p a = false := by
 cases hc : hasAt u p a with
 | false => rfl
 | true =>
  have hr := has_room hb hp
  have a1 := has_byte hc (by have := e_le h; omega) k hka
  have a2 := has_byte hb hp k hkb
  rw [e_byte h (by omega), a2] at a1
  exact absurd (by omega) hne
theorem e_markO {t : List UInt8} (h : Ext s u t) (h0 : VB s 0) {p : Nat} {r : List Df × Nat} (hp : p ≤ s.size) (hr : markO s p = some r) : markO u p = some r ∧ VB s r.2 ∧ p < r.2 ∧ r.2 ≤ s.size := by
 unfold markO at hr
 split at hr
 · rename_i h1
   have hro := has_room h1 hp
   simp only [List.length_cons, List.length_nil] at hro
   split at hr
   · rename_i hc
     cases hr
     have he := comment_end h0 (show p + 4 ≤ s.size by omega) hc
     have e := e_comment h (p := p + 4) (by omega) (by omega)
     refine ⟨?_, he.2.2, by simp only; omega, he.2.1⟩
     unfold markO
     rw [if_pos (e_has h hp h1), e, if_pos hc]
   · cases hr
 split at hr
 · rename_i h1
   have hro := has_room h1 hp
   simp only [List.length_cons, List.length_nil] at hro
   have hv : VB s (p + 2) := VB_sign h0 h1 hp (by simp) (by simp)
   split at hr
   · rename_i hc
     cases hr
     have he := pi_end h0 hc
     have e := e_pi h (p := p + 2) hv (by omega)
     refine ⟨?_, he.2.2, by simp only; omega, he.2.1⟩
     unfold markO
     rw [if_neg (by rw [e_hasNe h hp h1 1 (by simp) (by simp) (by simp)]; simp), if_pos (e_has h hp h1), e, if_pos hc]
   · cases hr
 split at hr
 · rename_i h1
   have hv : VB s (p + 8) := VB_sign h0 h1 hp (by simp [entL]) (by simp [entL])
   obtain ⟨e1, e2, e3, e4⟩ := e_entity h h0 hv hr
   refine ⟨?_, e2, by omega, e4⟩
   unfold markO
   rw [if_neg (by rw [e_hasNe h hp h1 2 (by simp) (by simp [entL]) (by simp [entL])]; simp), if_neg (by rw [e_hasNe h hp h1 1 (by simp) (by simp [entL]) (by simp [entL])]; simp), if_pos (e_has h hp h1), e1]
 split at hr
 · rename_i h1
   have hv : VB s (p + 9) := VB_sign h0 h1 hp (by simp [attL]) (by simp [attL])
   obtain ⟨e1, e2, e3, e4⟩ := e_attlist h h0 hv hr
   refine ⟨?_, e2, by omega, e4⟩
   unfold markO
   rw [if_neg (by rw [e_hasNe h hp h1 2 (by simp) (by simp [attL]) (by simp [attL])]; simp), if_neg (by rw [e_hasNe h hp h1 1 (by simp) (by simp [attL]) (by simp [attL])]; simp), if_neg (by rw [e_hasNe h hp h1 2 (by simp [entL]) (by simp [attL]) (by simp [attL, entL])]; simp), if_pos (e_has h hp h1), e1]
 split at hr
 · rename_i h1
   have hv : VB s (p + 9) := VB_sign h0 h1 hp (by simp [eleL]) (by simp [eleL])
   obtain ⟨e1, e2, e3, e4⟩ := e_element h h0 hv hr
   refine ⟨?_, e2, by omega, e4⟩
   unfold markO
   rw [if_neg (by rw [e_hasNe h hp h1 2 (by simp) (by simp [eleL]) (by simp [eleL])]; simp), if_neg (by rw [e_hasNe h hp h1 1 (by simp) (by simp [eleL]) (by simp [eleL])]; simp), if_neg (by rw [e_hasNe h hp h1 3 (by simp [entL]) (by simp [eleL]) (by simp [eleL, entL])]; simp), if_neg (by rw [e_hasNe h hp h1 2 (by simp [attL]) (by simp [eleL]) (by simp [eleL, attL])]; simp), if_pos (e_has h hp h1), e1]
 · cases hr
end Go.Proofs.YtmaoefokimjkbaaGreatDoor.Plain25
