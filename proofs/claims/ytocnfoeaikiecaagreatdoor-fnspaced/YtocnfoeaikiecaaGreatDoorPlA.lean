import Derived.Below
import Derived.WalkSmall
import Derived.Lib.RuneBytes
namespace Go.Proofs.YtocnfoeaikiecaaGreatDoor
open Go.RowKit in
theorem bAl {w : World} {o : Obj} : Below w.heap.size w (w.alloc o) := (Below.refl _ _).alloc (Nat.le_refl _) _
theorem gLt {α : Type _} {xs : Array α} {i : Nat} {a : α} (h : xs[i]? = some a) : i < xs.size := (Array.getElem?_eq_some_iff.1 h).1
end Go.Proofs.YtocnfoeaikiecaaGreatDoor
namespace Go.Proofs.YtocnfoeaikiecaaGreatDoor
theorem nmE {α : Type} (a : α) : ∃ x, a = x := ⟨a, rfl⟩
end Go.Proofs.YtocnfoeaikiecaaGreatDoor
namespace Go.Proofs.YtocnfoeaikiecaaGreatDoor.Plain1
def aZ5 (n : Int) : Bool :=
 decide (n = 9 ∨ n = 10 ∨ n = 13 ∨ (32 ≤ n ∧ n ≤ 55295) ∨ (57344 ≤ n ∧ n ≤ 65533) ∨ (65536 ≤ n ∧ n ≤ 1114111))
theorem aJn (n : Int) : aZ5 n = true ↔ (n = 9 ∨ n = 10 ∨ n = 13 ∨ (32 ≤ n ∧ n ≤ 55295) ∨ (57344 ≤ n ∧ n ≤ 65533) ∨ (65536 ≤ n ∧ n ≤ 1114111)) := by
 unfold aZ5; exact decide_eq_true_iff
theorem aXd {a b : Bool} (h : a = b) : Ending.returned (.bool a) = .returned (.bool b) := by rw [h]
end Go.Proofs.YtocnfoeaikiecaaGreatDoor.Plain1
namespace Go.Proofs.YtocnfoeaikiecaaGreatDoor.Strs
open Go.RowKit
def aQ1 (s : ByteArray) (p : Nat) : Int := ((s.data.toList.getD p 0).toNat : Int)
theorem aXn (s : ByteArray) (p : Nat) : 0 ≤ aQ1 s p ∧ aQ1 s p ≤ 255 := by
 unfold aQ1
 have := (s.data.toList.getD p 0).toNat_lt
 omega
theorem cQ5 (s : ByteArray) (p : Nat) (h : p < s.size) : aQ1 s p = ((s[p]'h).toNat : Int) := by
 unfold aQ1
 have h' : p < s.data.size := h
 rw [List.getD_eq_getElem?_getD, Array.getElem?_toList, Array.getElem?_eq_getElem h']
 rfl
theorem aWk (s : ByteArray) (p : Nat) (h : p < s.size) : ((s.get! p).toNat : Int) = aQ1 s p := by
 rw [cQ5 s p h]
 simp [ByteArray.get!, getElem!_pos, h]
 rfl
section
variable {P : Program}
theorem aQ8 (w : World) (t : TypeId) (s : ByteArray) (p : Nat) (hp : p < s.size) (ht : P.underlying t = some .string) :
 (Instr.index t (.string s) (.int .i64 (p : Int))).run P w = .ok (.int .u8 (aQ1 s p)) w := by
 rw [run_index_string (w := w) t s .i64 p ht, dif_pos (by omega), cQ5 s p hp]
 simp
theorem aQf {ops : Array Oper} {rest : List Oper} {o : Oper} {a : Act} {w : World} {Q : Exit → Act → World → Prop} (hgd : o.guard = none) (t : TypeId) (x i : Operand) (ho : o.op = .index t x i)
 (s : ByteArray) (p : Nat) (q : Int) (b : Int) (hx : a.eval x = .string s) (hi : a.eval i = .int .i64 q) (hq : q = (p : Int)) (hp : p < s.size) (ht : P.underlying t = some .string) (hb : aQ1 s p = b)
 (h : wpList P ops Q rest (a.put o.dst (.int .u8 b)) w) : wpList P ops Q (o :: rest) a w := by
 refine wpList_plain hgd fun K hK => ?_
 subst hq hb
 unfold Oper.wp execOp
 simp only [ho, hx, hi, Sem.run_bind, Sem.run_pure, aQ8 w t s p hp ht, Result.andThen_ok]
 exact hK _ _ h
theorem aKb {ops : Array Oper} {rest : List Oper} {o : Oper} {a : Act} {w : World} {Q : Exit → Act → World → Prop} (t : TypeId) (x i : Operand) (ho : o.op = .index t x i)
 (s : ByteArray) (p : Nat) (q : Int) (b : Int) (hx : a.eval x = .string s) (hi : a.eval i = .int .i64 q) (hq : q = (p : Int)) (hp : p < s.size) (ht : P.underlying t = some .string) (hb : aQ1 s p = b)
 (hw : Region.wanted o (yielded ops a.tmps) = true) (h : wpList P ops Q rest (a.put o.dst (.int .u8 b)) w) : wpList P ops Q (o :: rest) a w := by
 refine wpList_step fun K hK => ?_
 rw [if_pos hw]
 subst hq hb
 unfold Oper.wp execOp
 simp only [ho, hx, hi, Sem.run_bind, Sem.run_pure, aQ8 w t s p hp ht, Result.andThen_ok]
 exact hK _ _ h
end
end Go.Proofs.YtocnfoeaikiecaaGreatDoor.Strs
namespace Go.Proofs.YtocnfoeaikiecaaGreatDoor.Lists
open Go.RowKit
def Ints (k : IntKind) (w : World) (a : Option Addr) (l : List Int) : Prop :=
 ∃ b off, (0 < l.length → a = some ⟨b, off, none⟩) ∧ ∀ i, i < l.length → w.cell? ⟨b, off + i, none⟩ = some (.int k (l.getD i 0))
theorem aQk {w : World} {b o : Nat} {v : Value} (h : w.cell? ⟨b, o, none⟩ = some v) : b < w.heap.size := by
 by_cases hb : b < w.heap.size
 · exact hb
 · have : w.heap[b]? = none := by simp; omega
   simp [World.cell?, this] at h
theorem Ints.below {k : IntKind} {w w' : World} {a : Option Addr} {l : List Int} {B : Nat} (h : Ints k w a l) (hb : Below B w w') (hB : w.heap.size ≤ B) : Ints k w' a l := by
 obtain ⟨b, off, ha, hc⟩ := h
 exact ⟨b, off, ha, fun i hi => (hb.cell (p := ⟨b, off + i, none⟩) (Nat.lt_of_lt_of_le (aQk (hc i hi)) hB)).trans (hc i hi)⟩
theorem Ints.nil (k : IntKind) (w : World) (a : Option Addr) : Ints k w a [] := ⟨0, 0, by simp, by simp⟩
theorem aJw {w : World} {base size n : Nat} {e : TypeId} {v : Value} {xs : List Value} (h : w.ownsRow base e size v n xs) : (v = .slice none 0 0 ∧ n = 0) ∨ ∃ g cap, v = .slice (some ⟨g, 0, none⟩) n cap := by
 rcases h.2 with h' | ⟨g, cap, _, h', _⟩
 · exact .inl h'
 · exact .inr ⟨g, cap, h'⟩
end Go.Proofs.YtocnfoeaikiecaaGreatDoor.Lists
namespace Go.Proofs.YtocnfoeaikiecaaGreatDoor.Plain2
def aQl : List (Int × Int) := [(58, 58), (65, 90), (95, 95), (97, 122), (192, 214), (216, 246), (248, 767), (880, 893), (895, 8191), (8204, 8205), (8304, 8591), (11264, 12271), (12289, 55295), (63744, 64975), (65008, 65533), (65536, 983039)]
def aZd : List (Int × Int) := [(45, 46), (48, 57), (183, 183), (768, 879), (8255, 8256)]
def bZ8 (l : List (Int × Int)) : Array Value := (l.flatMap fun z => [Value.int .i64 z.1, .int .i64 z.2]).toArray
def aQi : Array Value := bZ8 aQl
def aXg : Array Value := bZ8 aZd
def loOf (l : List (Int × Int)) (k : Nat) : Int := (l.getD k (0, 0)).1
def hiOf (l : List (Int × Int)) (k : Nat) : Int := (l.getD k (0, 0)).2
def inTo (l : List (Int × Int)) (k : Nat) (n : Int) : Bool := (l.take k).any fun z => decide (z.1 ≤ n ∧ n ≤ z.2)
theorem bJo (l : List (Int × Int)) (n : Int) : inTo l 0 n = false := by simp [inTo]
theorem bJp (l : List (Int × Int)) (k : Nat) (n : Int) (h : k < l.length) :
 inTo l (k + 1) n = (inTo l k n || decide (loOf l k ≤ n ∧ n ≤ hiOf l k)) := by
 unfold inTo loOf hiOf
 rw [List.take_succ_eq_append_getElem h]
 rw [List.any_append]
 simp [List.getD, h]
theorem bJq {l : List (Int × Int)} {k : Nat} {n : Int} (h : inTo l k n = true) : inTo l l.length n = true := by
 unfold inTo at *
 rw [List.take_length]
 rw [List.any_eq_true] at *
 obtain ⟨x, hx, hn⟩ := h
 exact ⟨x, List.mem_of_mem_take hx, hn⟩
def aJ2 (n : Int) : Bool := inTo aQl 16 n
def aVz (n : Int) : Bool := inTo aZd 5 n || aJ2 n
def bJh : List Int := [192, 214, 216, 246, 248, 767, 880, 893, 895, 8191, 8204, 8205, 8304, 8591, 11264, 12271, 12289, 55295, 63744, 64975, 65008, 65533, 65536, 983039]
def aKj : List (Int × Int) := aQl.drop 4
theorem cJz {n : Int} (h : n < 128) : aJ2 n = decide (n = 58 ∨ n = 95 ∨ (65 ≤ n ∧ n ≤ 90) ∨ (97 ≤ n ∧ n ≤ 122)) := by
 rw [Bool.eq_iff_iff]; simp [aJ2, inTo, aQl]; omega
theorem cQr {n : Int} (h : 128 ≤ n) : aJ2 n = inTo aKj 12 n := by
 rw [Bool.eq_iff_iff]; simp [aJ2, inTo, aQl, aKj]; omega
theorem cZp (n : Int) : aVz n = (aJ2 n || decide (n = 45 ∨ n = 46 ∨ (48 ≤ n ∧ n ≤ 57) ∨ n = 183 ∨ (768 ≤ n ∧ n ≤ 879) ∨ n = 8255 ∨ n = 8256)) := by
 unfold aVz
 rw [Bool.or_comm]
 congr 1
 rw [Bool.eq_iff_iff]; simp [inTo, aZd]; omega
end Go.Proofs.YtocnfoeaikiecaaGreatDoor.Plain2
namespace Go.Proofs.YtocnfoeaikiecaaGreatDoor.Plain3
open Plain1 Strs
def vz (s : ByteArray) (pos : Nat) (x0 : Int) : Nat → Int
 | 0 => x0
 | k + 1 => 64 * vz s pos x0 k + aQ1 s (pos + (k + 1)) - 128
def aQw (s : ByteArray) (p : Nat) : Prop := 128 ≤ aQ1 s p ∧ aQ1 s p < 192
def cQ2 (s : ByteArray) (pos n : Nat) : Bool := (List.range n).all fun k => k == 0 || (decide (128 ≤ aQ1 s (pos + k)) && decide (aQ1 s (pos + k) < 192))
abbrev aVu (s : ByteArray) (pos n : Nat) : Prop := cQ2 s pos n = true
theorem aZ1 {s : ByteArray} {pos n : Nat} : aVu s pos n ↔ ∀ k, k < n → 1 ≤ k → aQw s (pos + k) := by
 unfold aVu cQ2 aQw
 rw [List.all_eq_true]
 constructor
 · intro h k hk h1
   have := h k (List.mem_range.2 hk)
   simp at this
   rcases this with h0 | h0
   · omega
   · exact h0
 · intro h k hk
   have hk' := List.mem_range.1 hk
   by_cases h0 : k = 0
   · simp [h0]
   · have := h k hk' (by omega)
     simp [this.1, this.2]
def fin (s : ByteArray) (pos : Nat) (x0 : Int) (n : Nat) (low : Int) : Int × Nat :=
 if pos + n ≤ s.size ∧ aVu s pos n ∧ low ≤ vz s pos x0 (n - 1) ∧ aZ5 (vz s pos x0 (n - 1)) = true then (vz s pos x0 (n - 1), n) else (0, 0)
def aQm (s : ByteArray) (pos : Nat) : Int × Nat :=
 if aQ1 s pos < 128 then fin s pos (aQ1 s pos) 1 0
 else if 192 ≤ aQ1 s pos ∧ aQ1 s pos < 224 then fin s pos (aQ1 s pos - 192) 2 128
 else if 224 ≤ aQ1 s pos ∧ aQ1 s pos < 240 then fin s pos (aQ1 s pos - 224) 3 2048
 else if 240 ≤ aQ1 s pos ∧ aQ1 s pos < 248 then fin s pos (aQ1 s pos - 240) 4 65536
 else (0, 0)
theorem bV0 {s : ByteArray} {pos n : Nat} {x0 low : Int} (h : s.size < pos + n) : fin s pos x0 n low = (0, 0) := by
 unfold fin; rw [if_neg (by rintro ⟨h1, _⟩; omega)]
theorem bW3 {s : ByteArray} {pos n k : Nat} {x0 low : Int} (h1 : 1 ≤ k) (h2 : k < n) (h : ¬ aQw s (pos + k)) : fin s pos x0 n low = (0, 0) := by
 unfold fin; rw [if_neg (by rintro ⟨_, hc, _⟩; exact h (aZ1.1 hc k h2 h1))]
theorem bW2 {s : ByteArray} {pos n : Nat} {x0 low : Int} (h : vz s pos x0 (n - 1) < low) : fin s pos x0 n low = (0, 0) := by
 unfold fin; rw [if_neg (by rintro ⟨_, _, h3, _⟩; omega)]
theorem bX1 {s : ByteArray} {pos n : Nat} {x0 low : Int} (h : aZ5 (vz s pos x0 (n - 1)) = false) : fin s pos x0 n low = (0, 0) := by
 unfold fin; rw [if_neg (by rintro ⟨_, _, _, h4⟩; rw [h] at h4; cases h4)]
theorem aJ5 {s : ByteArray} {pos n : Nat} {x0 low : Int} (h1 : pos + n ≤ s.size) (h2 : aVu s pos n) (h3 : low ≤ vz s pos x0 (n - 1)) (h4 : aZ5 (vz s pos x0 (n - 1)) = true) : fin s pos x0 n low = (vz s pos x0 (n - 1), n) := by
 unfold fin; rw [if_pos ⟨h1, h2, h3, h4⟩]
theorem aJi {s : ByteArray} {pos j : Nat} (h : aVu s pos j) (hj : aQw s (pos + j)) : aVu s pos (j + 1) := by
 refine aZ1.2 (fun k hk h1 => ?_)
 by_cases e : k = j
 · subst e; exact hj
 · exact aZ1.1 h k (by omega) h1
theorem aVb (s : ByteArray) (pos : Nat) : aVu s pos 1 := aZ1.2 (fun k hk h1 => by omega)
theorem cQh (s : ByteArray) (pos : Nat) (x0 : Int) (j : Nat) (h : 1 ≤ j) : vz s pos x0 (j + 1 - 1) = 64 * vz s pos x0 (j - 1) + aQ1 s (pos + j) - 128 := by
 obtain ⟨k, rfl⟩ : ∃ k, j = k + 1 := ⟨j - 1, by omega⟩
 simp [vz]
def Bd (j : Nat) (x : Int) : Prop := 0 ≤ x ∧ (j = 1 → x ≤ 127) ∧ (j = 2 → x ≤ 8191) ∧ (j = 3 → x ≤ 524287) ∧ x ≤ 33554431
theorem cZ0 {j : Nat} {x b : Int} (h : Bd j x) (h1 : 1 ≤ j) (h2 : j ≤ 3) (b0 : 128 ≤ b) (b1 : b < 192) : Bd (j + 1) (64 * x + b - 128) := by
 unfold Bd at *; omega
theorem aJ4 {a b : Int × Nat} (h : a = b) : Ending.returned (.tuple #[.int .i64 a.1, .int .i64 (a.2 : Int)]) = .returned (.tuple #[.int .i64 b.1, .int .i64 (b.2 : Int)]) := by rw [h]
end Go.Proofs.YtocnfoeaikiecaaGreatDoor.Plain3
namespace Go.Proofs.YtocnfoeaikiecaaGreatDoor.Plain4
open Plain1 Strs Plain3
def decP (b0 b1 b2 b3 : Nat) (c1 c2 c3 : Bool) : Nat × Nat :=
 if b0 < 0x80 then (b0, 1)
 else if b0 / 32 == 6 && c1 then
  (if (b0 % 32) * 64 + b1 % 64 ≥ 0x80 then ((b0 % 32) * 64 + b1 % 64, 2) else (Utf8.runeError, 1))
 else if b0 / 16 == 14 && c1 && c2 then
  (if (b0 % 16) * 4096 + (b1 % 64) * 64 + b2 % 64 ≥ 0x800 && Utf8.valid (((b0 % 16) * 4096 + (b1 % 64) * 64 + b2 % 64 : Nat) : Int) then ((b0 % 16) * 4096 + (b1 % 64) * 64 + b2 % 64, 3) else (Utf8.runeError, 1))
 else if b0 / 8 == 30 && c1 && c2 && c3 then
  (if (b0 % 8) * 262144 + (b1 % 64) * 4096 + (b2 % 64) * 64 + b3 % 64 ≥ 0x10000 && Utf8.valid (((b0 % 8) * 262144 + (b1 % 64) * 4096 + (b2 % 64) * 64 + b3 % 64 : Nat) : Int) then ((b0 % 8) * 262144 + (b1 % 64) * 4096 + (b2 % 64) * 64 + b3 % 64, 4) else (Utf8.runeError, 1))
 else (Utf8.runeError, 1)
theorem bWc (s : ByteArray) (pos k : Nat) : (decide (pos + k < s.size) && (s.get! (pos + k)).toNat / 64 == 2) = true ↔ pos + k < s.size ∧ aQw s (pos + k) := by
 by_cases h : pos + k < s.size
 · have e := aWk s (pos + k) h
   unfold aQw
   simp [h]
   omega
 · simp [h]
theorem aYj (s : ByteArray) (pos : Nat) (hp : pos < s.size) : ∃ (b0 b1 b2 b3 : Nat) (c1 c2 c3 : Bool), Utf8.decode s pos = decP b0 b1 b2 b3 c1 c2 c3 ∧ (b0 : Int) = aQ1 s pos ∧
 (pos + 1 < s.size → (b1 : Int) = aQ1 s (pos + 1)) ∧ (pos + 2 < s.size → (b2 : Int) = aQ1 s (pos + 2)) ∧ (pos + 3 < s.size → (b3 : Int) = aQ1 s (pos + 3)) ∧
 (c1 = true ↔ pos + 1 < s.size ∧ aQw s (pos + 1)) ∧ (c2 = true ↔ pos + 2 < s.size ∧ aQw s (pos + 2)) ∧ (c3 = true ↔ pos + 3 < s.size ∧ aQw s (pos + 3)) :=
 ⟨_, _, _, _, _, _, _, rfl, aWk s pos hp, aWk s (pos + 1), aWk s (pos + 2), aWk s (pos + 3), bWc s pos 1, bWc s pos 2, bWc s pos 3⟩
theorem vz1 (s : ByteArray) (pos : Nat) (a : Int) : vz s pos a 1 = 64 * a + aQ1 s (pos + 1) - 128 := rfl
theorem vz2 (s : ByteArray) (pos : Nat) (a : Int) : vz s pos a 2 = 64 * (64 * a + aQ1 s (pos + 1) - 128) + aQ1 s (pos + 2) - 128 := rfl
theorem vz3 (s : ByteArray) (pos : Nat) (a : Int) : vz s pos a 3 = 64 * (64 * (64 * a + aQ1 s (pos + 1) - 128) + aQ1 s (pos + 2) - 128) + aQ1 s (pos + 3) - 128 := rfl
def err : Nat × Nat := (65533, 1)
theorem cJp {s : ByteArray} {pos : Nat} : aVu s pos 2 ↔ aQw s (pos + 1) :=
 ⟨fun h => aZ1.1 h 1 (by omega) (by omega), fun h => aJi (aVb _ _) h⟩
theorem cQ3 {s : ByteArray} {pos : Nat} : aVu s pos 3 ↔ aQw s (pos + 1) ∧ aQw s (pos + 2) :=
 ⟨fun h => ⟨aZ1.1 h 1 (by omega) (by omega), aZ1.1 h 2 (by omega) (by omega)⟩, fun h => aJi (aJi (aVb _ _) h.1) h.2⟩
theorem dQe {s : ByteArray} {pos : Nat} : aVu s pos 4 ↔ aQw s (pos + 1) ∧ aQw s (pos + 2) ∧ aQw s (pos + 3) :=
 ⟨fun h => ⟨aZ1.1 h 1 (by omega) (by omega), aZ1.1 h 2 (by omega) (by omega), aZ1.1 h 3 (by omega) (by omega)⟩, fun h => aJi (aJi (aJi (aVb _ _) h.1) h.2.1) h.2.2⟩
def cQf (d : Nat × Nat) (s : ByteArray) (pos : Nat) (x0 : Int) (n : Nat) (low : Int) : Prop :=
 (pos + n ≤ s.size ∧ aVu s pos n ∧ low ≤ vz s pos x0 (n - 1) ∧ Utf8.valid (vz s pos x0 (n - 1)) = true ∧ (d.1 : Int) = vz s pos x0 (n - 1) ∧ d.2 = n) ∨
 (¬ (pos + n ≤ s.size ∧ aVu s pos n ∧ low ≤ vz s pos x0 (n - 1) ∧ Utf8.valid (vz s pos x0 (n - 1)) = true) ∧ d = err)
theorem aV2 (r : Int) : Utf8.valid r = true ↔ ((0 ≤ r ∧ r < 55296) ∨ (57344 ≤ r ∧ r ≤ 1114111)) := by
 unfold Utf8.valid; simp
theorem agree1 {s : ByteArray} {pos : Nat} (hp : pos < s.size) (h : aQ1 s pos < 128) : cQf (Utf8.decode s pos) s pos (aQ1 s pos) 1 0 := by
 obtain ⟨b0, b1, b2, b3, c1, c2, c3, e, e0, -⟩ := aYj s pos hp
 rw [e]
 have hb := (aXn s pos).1
 have hd : decP b0 b1 b2 b3 c1 c2 c3 = (b0, 1) := by unfold decP; rw [if_pos (by omega)]
 rw [hd]
 exact .inl ⟨by omega, aVb _ _, hb, (aV2 _).2 (by rw [show vz s pos (aQ1 s pos) (1 - 1) = aQ1 s pos from rfl]; omega), e0, rfl⟩
theorem agree2 {s : ByteArray} {pos : Nat} (hp : pos < s.size) (h0 : 192 ≤ aQ1 s pos) (h1 : aQ1 s pos < 224) : cQf (Utf8.decode s pos) s pos (aQ1 s pos - 192) 2 128 := by
 obtain ⟨b0, b1, b2, b3, c1, c2, c3, e, e0, e1, -, -, k1, -, -⟩ := aYj s pos hp
 rw [e]
 unfold cQf
 simp only [show 2 - 1 = 1 from rfl, vz1, cJp, aV2, err]
 unfold decP
 rw [if_neg (by omega)]
 by_cases hc : c1 = true
 · obtain ⟨q1, q2⟩ := k1.1 hc
   have e1' := e1 q1
   have q3 := q2
   unfold aQw at q3
   rw [if_pos (by rw [hc]; simp; omega)]
   by_cases hl : 128 ≤ 64 * (aQ1 s pos - 192) + aQ1 s (pos + 1) - 128
   · rw [if_pos (by omega)]
     exact .inl ⟨by omega, q2, hl, by omega, by simp only []; omega, rfl⟩
   · rw [if_neg (by omega)]
     exact .inr ⟨by omega, rfl⟩
 · rw [if_neg (by simp [hc]), if_neg (by simp [hc]), if_neg (by simp [hc])]
   refine .inr ⟨fun x => hc (k1.2 ⟨by omega, x.2.1⟩), rfl⟩
theorem agree3 {s : ByteArray} {pos : Nat} (hp : pos < s.size) (h0 : 224 ≤ aQ1 s pos) (h1 : aQ1 s pos < 240) : cQf (Utf8.decode s pos) s pos (aQ1 s pos - 224) 3 2048 := by
 obtain ⟨b0, b1, b2, b3, c1, c2, c3, e, e0, e1, e2, -, k1, k2, -⟩ := aYj s pos hp
 rw [e]
 unfold cQf
 simp only [show 3 - 1 = 2 from rfl, vz2, cQ3, aV2, err]
 unfold decP
 rw [if_neg (by omega), if_neg (by simp; omega)]
 by_cases hc : c1 = true ∧ c2 = true
 · obtain ⟨q1, q2⟩ := k1.1 hc.1
   obtain ⟨r1, r2⟩ := k2.1 hc.2
   have e1' := e1 q1
   have e2' := e2 r1
   have q3 := q2
   have r3 := r2
   unfold aQw at q3 r3
   rw [if_pos (by rw [hc.1, hc.2]; simp; omega)]
   have ev : (((b0 % 16) * 4096 + (b1 % 64) * 64 + b2 % 64 : Nat) : Int) = 64 * (64 * (aQ1 s pos - 224) + aQ1 s (pos + 1) - 128) + aQ1 s (pos + 2) - 128 := by omega
   by_cases hl : 2048 ≤ 64 * (64 * (aQ1 s pos - 224) + aQ1 s (pos + 1) - 128) + aQ1 s (pos + 2) - 128 ∧ Utf8.valid (64 * (64 * (aQ1 s pos - 224) + aQ1 s (pos + 1) - 128) + aQ1 s (pos + 2) - 128) = true
   · rw [if_pos (by rw [ev, hl.2]; simp; omega)]
     exact .inl ⟨by omega, ⟨q2, r2⟩, hl.1, (aV2 _).1 hl.2, ev, rfl⟩
   · rw [if_neg (by rw [ev]; simp only [Bool.and_eq_true, decide_eq_true_eq]; rintro ⟨x, y⟩; exact hl ⟨by omega, y⟩)]
     exact .inr ⟨fun x => hl ⟨x.2.2.1, (aV2 _).2 x.2.2.2⟩, rfl⟩
 · have hcf : (c1 && c2) = false := by
    cases c1 <;> cases c2 <;> simp_all
   rw [if_neg (by rw [Bool.and_assoc, hcf]; simp), if_neg (by simp; omega)]
   refine .inr ⟨fun x => hc ⟨k1.2 ⟨by omega, x.2.1.1⟩, k2.2 ⟨by omega, x.2.1.2⟩⟩, rfl⟩
theorem agree4 {s : ByteArray} {pos : Nat} (hp : pos < s.size) (h0 : 240 ≤ aQ1 s pos) (h1 : aQ1 s pos < 248) : cQf (Utf8.decode s pos) s pos (aQ1 s pos - 240) 4 65536 := by
 obtain ⟨b0, b1, b2, b3, c1, c2, c3, e, e0, e1, e2, e3, k1, k2, k3⟩ := aYj s pos hp
 rw [e]
 unfold cQf
 simp only [show 4 - 1 = 3 from rfl, vz3, dQe, aV2, err]
 unfold decP
 rw [if_neg (by omega), if_neg (by simp; omega), if_neg (by simp; omega)]
 by_cases hc : c1 = true ∧ c2 = true ∧ c3 = true
 · obtain ⟨q1, q2⟩ := k1.1 hc.1
   obtain ⟨r1, r2⟩ := k2.1 hc.2.1
   obtain ⟨t1, t2⟩ := k3.1 hc.2.2
   have e1' := e1 q1
   have e2' := e2 r1
   have e3' := e3 t1
   have q3 := q2
   have r3 := r2
   have t3 := t2
   unfold aQw at q3 r3 t3
   rw [if_pos (by rw [hc.1, hc.2.1, hc.2.2]; simp; omega)]
   have ev : (((b0 % 8) * 262144 + (b1 % 64) * 4096 + (b2 % 64) * 64 + b3 % 64 : Nat) : Int) = 64 * (64 * (64 * (aQ1 s pos - 240) + aQ1 s (pos + 1) - 128) + aQ1 s (pos + 2) - 128) + aQ1 s (pos + 3) - 128 := by omega
   by_cases hl : 65536 ≤ 64 * (64 * (64 * (aQ1 s pos - 240) + aQ1 s (pos + 1) - 128) + aQ1 s (pos + 2) - 128) + aQ1 s (pos + 3) - 128 ∧ Utf8.valid (64 * (64 * (64 * (aQ1 s pos - 240) + aQ1 s (pos + 1) - 128) + aQ1 s (pos + 2) - 128) + aQ1 s (pos + 3) - 128) = true
   · rw [if_pos (by rw [ev, hl.2]; simp; omega)]
     exact .inl ⟨by omega, ⟨q2, r2, t2⟩, hl.1, (aV2 _).1 hl.2, ev, rfl⟩
   · rw [if_neg (by rw [ev]; simp only [Bool.and_eq_true, decide_eq_true_eq]; rintro ⟨x, y⟩; exact hl ⟨by omega, y⟩)]
     exact .inr ⟨fun x => hl ⟨x.2.2.1, (aV2 _).2 x.2.2.2⟩, rfl⟩
 · have hcf : (c1 && c2 && c3) = false := by
    cases c1 <;> cases c2 <;> cases c3 <;> simp_all
   rw [if_neg (by rw [Bool.and_assoc, Bool.and_assoc, ← Bool.and_assoc c1, hcf]; simp)]
   refine .inr ⟨fun x => hc ⟨k1.2 ⟨by omega, x.2.1.1⟩, k2.2 ⟨by omega, x.2.1.2.1⟩, k3.2 ⟨by omega, x.2.1.2.2⟩⟩, rfl⟩
theorem cVt {s : ByteArray} {pos : Nat} (hp : pos < s.size) (h : (128 ≤ aQ1 s pos ∧ aQ1 s pos < 192) ∨ 248 ≤ aQ1 s pos) : Utf8.decode s pos = err := by
 obtain ⟨b0, b1, b2, b3, c1, c2, c3, e, e0, -⟩ := aYj s pos hp
 rw [e]
 unfold decP err
 rw [if_neg (by omega), if_neg (by simp; omega), if_neg (by simp; omega), if_neg (by simp; omega)]
 rfl
theorem cVo {r : Int} (h : aZ5 r = true) : Utf8.valid r = true := by
 rw [aJn] at h; rw [aV2]; omega
theorem bX2 {d : Nat × Nat} {s : ByteArray} {pos n : Nat} {x0 low : Int} (hn : 1 ≤ n) (h : cQf d s pos x0 n low) :
 ((fin s pos x0 n low).2 ≠ 0 ∧ (d.1 : Int) = (fin s pos x0 n low).1 ∧ d.2 = (fin s pos x0 n low).2 ∧ aZ5 (d.1 : Int) = true) ∨ ((fin s pos x0 n low) = (0, 0) ∧ (d = err ∨ aZ5 (d.1 : Int) = false)) := by
 rcases h with ⟨a, b, c, v, e1, e2⟩ | ⟨hno, he⟩
 · by_cases hch : aZ5 (vz s pos x0 (n - 1)) = true
   · rw [aJ5 a b c hch]
     exact .inl ⟨by simp only []; omega, e1, e2, by rw [e1]; exact hch⟩
   · have hch' : aZ5 (vz s pos x0 (n - 1)) = false := by simpa using hch
     rw [bX1 hch']
     exact .inr ⟨rfl, .inr (by rw [e1]; exact hch')⟩
 · refine .inr ⟨?_, .inl he⟩
   unfold fin
   rw [if_neg]
   rintro ⟨a, b, c, v⟩
   exact hno ⟨a, b, c, cVo v⟩
theorem bVy {s : ByteArray} {pos : Nat} (hp : pos < s.size) :
 ((aQm s pos).2 ≠ 0 ∧ ((Utf8.decode s pos).1 : Int) = (aQm s pos).1 ∧ (Utf8.decode s pos).2 = (aQm s pos).2 ∧ aZ5 ((Utf8.decode s pos).1 : Int) = true) ∨ (aQm s pos = (0, 0) ∧ (Utf8.decode s pos = err ∨ aZ5 ((Utf8.decode s pos).1 : Int) = false)) := by
 unfold aQm
 by_cases c1 : aQ1 s pos < 128
 · rw [if_pos c1]; exact bX2 (by omega) (agree1 hp c1)
 rw [if_neg c1]
 by_cases c2 : 192 ≤ aQ1 s pos ∧ aQ1 s pos < 224
 · rw [if_pos c2]; exact bX2 (by omega) (agree2 hp c2.1 c2.2)
 rw [if_neg c2]
 by_cases c3 : 224 ≤ aQ1 s pos ∧ aQ1 s pos < 240
 · rw [if_pos c3]; exact bX2 (by omega) (agree3 hp c3.1 c3.2)
 rw [if_neg c3]
 by_cases c4 : 240 ≤ aQ1 s pos ∧ aQ1 s pos < 248
 · rw [if_pos c4]; exact bX2 (by omega) (agree4 hp c4.1 c4.2)
 rw [if_neg c4]
 exact .inr ⟨rfl, .inl (cVt hp (by omega))⟩
def fffd (s : ByteArray) (pos : Nat) : Prop := pos + 3 ≤ s.size ∧ aQ1 s pos = 239 ∧ aQ1 s (pos + 1) = 191 ∧ aQ1 s (pos + 2) = 189
theorem cW0 {s : ByteArray} {pos : Nat} (h : fffd s pos) : aQm s pos = (65533, 3) := by
 obtain ⟨a, b0, b1, b2⟩ := h
 unfold aQm
 rw [b0, if_neg (by omega), if_neg (by omega), if_pos (by omega)]
 have e : vz s pos (239 - 224) 2 = 65533 := by rw [vz2, b1, b2]; rfl
 rw [aJ5 a (cQ3.2 ⟨by unfold aQw; omega, by unfold aQw; omega⟩) (by rw [show 3 - 1 = 2 from rfl, e]; omega) (by rw [show 3 - 1 = 2 from rfl, e]; rfl)]
 rw [show 3 - 1 = 2 from rfl, e]
theorem bYv {s : ByteArray} {pos : Nat} (h : (aQm s pos).2 ≠ 0) (hr : (aQm s pos).1 = 65533) : fffd s pos := by
 have hb := aXn s pos
 unfold aQm at h hr
 by_cases c1 : aQ1 s pos < 128
 · rw [if_pos c1] at h hr
   unfold fin at h hr
   split at h
   · rename_i hh; rw [if_pos hh, show vz s pos (aQ1 s pos) (1 - 1) = aQ1 s pos from rfl] at hr; simp only [] at hr; omega
   · simp at h
 rw [if_neg c1] at h hr
 by_cases c2 : 192 ≤ aQ1 s pos ∧ aQ1 s pos < 224
 · rw [if_pos c2] at h hr
   unfold fin at h hr
   split at h
   · rename_i hh; rw [if_pos hh] at hr
     have g := cJp.1 hh.2.1
     unfold aQw at g
     simp only [show 2 - 1 = 1 from rfl, vz1] at hr
     omega
   · simp at h
 rw [if_neg c2] at h hr
 by_cases c3 : 224 ≤ aQ1 s pos ∧ aQ1 s pos < 240
 · rw [if_pos c3] at h hr
   unfold fin at h hr
   split at h
   · rename_i hh; rw [if_pos hh] at hr
     have g := cQ3.1 hh.2.1
     unfold aQw at g
     simp only [show 3 - 1 = 2 from rfl, vz2] at hr
     exact ⟨hh.1, by omega, by omega, by omega⟩
   · simp at h
 rw [if_neg c3] at h hr
 by_cases c4 : 240 ≤ aQ1 s pos ∧ aQ1 s pos < 248
 · rw [if_pos c4] at h hr
   unfold fin at h hr
   split at h
   · rename_i hh; rw [if_pos hh] at hr
     have := hh.2.2.1
     simp only [] at hr
     omega
   · simp at h
 rw [if_neg c4] at h
 simp at h
end Go.Proofs.YtocnfoeaikiecaaGreatDoor.Plain4
namespace Go.Proofs.YtocnfoeaikiecaaGreatDoor.Plain5
open Plain3
def scan (s : ByteArray) : Nat → Nat → List Int → List Int × Int
 | 0, _, acc => (acc, -1)
 | f + 1, i, acc => if i < s.size then (if (aQm s i).2 = 0 then ([], (i : Int)) else scan s f (i + (aQm s i).2) (acc ++ [(aQm s i).1])) else (acc, -1)
def aX4 (s : ByteArray) : List Int × Int := scan s (s.size + 1) 0 []
theorem aWq {s : ByteArray} {f i : Nat} {acc : List Int} (h : s.size ≤ i) : scan s f i acc = (acc, -1) := by
 cases f with
 | zero => rfl
 | succ f => unfold scan; rw [if_neg (by omega)]
theorem aW0 {s : ByteArray} {f i : Nat} {acc : List Int} (hi : i < s.size) (h : (aQm s i).2 = 0) : scan s (f + 1) i acc = ([], (i : Int)) := by
 unfold scan; rw [if_pos hi, if_pos h]
theorem aVl {s : ByteArray} {f i : Nat} {acc : List Int} (hi : i < s.size) (h : (aQm s i).2 ≠ 0) : scan s (f + 1) i acc = scan s f (i + (aQm s i).2) (acc ++ [(aQm s i).1]) := by
 conv => lhs; unfold scan
 rw [if_pos hi, if_neg h]
theorem cJe {s : ByteArray} {pos n : Nat} {x0 low : Int} (h : (fin s pos x0 n low).2 ≠ 0) : pos + (fin s pos x0 n low).2 ≤ s.size := by
 unfold fin at h ⊢
 split at h
 · rename_i hh; rw [if_pos hh]; exact hh.1
 · simp at h
theorem aWr {s : ByteArray} {pos : Nat} (h : (aQm s pos).2 ≠ 0) : pos + (aQm s pos).2 ≤ s.size := by
 unfold aQm at h ⊢
 split at h
 · rename_i c; rw [if_pos c]; exact cJe h
 rename_i c1; rw [if_neg c1]
 split at h
 · rename_i c; rw [if_pos c]; exact cJe h
 rename_i c2; rw [if_neg c2]
 split at h
 · rename_i c; rw [if_pos c]; exact cJe h
 rename_i c3; rw [if_neg c3]
 split at h
 · rename_i c; rw [if_pos c]; exact cJe h
 · simp at h
def bVh (s : ByteArray) : List Int := if 4000 < s.size then [] else (aX4 s).1
def rAt (s : ByteArray) : Int := if 4000 < s.size then 0 else if 0 ≤ (aX4 s).2 then (aX4 s).2 else 0
def bY0 (s : ByteArray) : Int := if 4000 < s.size then 2 else if 0 ≤ (aX4 s).2 then 3 else 0
theorem bWs {s : ByteArray} : ∀ (f i : Nat) (acc : List Int), 0 ≤ (scan s f i acc).2 → (scan s f i acc).1 = []
 | 0, i, acc, h => by simp [scan] at h
 | f + 1, i, acc, h => by
  by_cases hi : i < s.size
  · by_cases hb : (aQm s i).2 = 0
    · rw [aW0 hi hb]
    · rw [aVl hi hb] at h ⊢; exact bWs f _ _ h
  · rw [aWq (by omega)] at h; simp at h
theorem cZk {s : ByteArray} : ∀ (f i : Nat) (acc : List Int), i ≤ s.size → (scan s f i acc).1.length + i ≤ acc.length + s.size
 | 0, i, acc, h => by simp [scan]; omega
 | f + 1, i, acc, h => by
  by_cases hi : i < s.size
  · by_cases hb : (aQm s i).2 = 0
    · rw [aW0 hi hb]; simp; omega
    · rw [aVl hi hb]
      have := aWr hb
      have := cZk f (i + (aQm s i).2) (acc ++ [(aQm s i).1]) this
      simp at this
      omega
  · rw [aWq (by omega)]; simp only []; omega
theorem cWc (s : ByteArray) : (bVh s).length ≤ 4000 := by
 unfold bVh
 split
 · simp
 · have := cZk (s := s) (s.size + 1) 0 [] (Nat.zero_le _)
   simp at this
   unfold aX4
   omega
end Go.Proofs.YtocnfoeaikiecaaGreatDoor.Plain5
namespace Go.Proofs.YtocnfoeaikiecaaGreatDoor.Plain6
open Plain2 Plain3 Plain5
abbrev aVy (s : ByteArray) (p : Nat) (n : Nat) : Prop := (aQm s (p + n)).2 = 0 ∨ (n = 0 ∧ aJ2 (aQm s (p + n)).1 = false) ∨ aVz (aQm s (p + n)).1 = false
def aZk (s : ByteArray) (p : Nat) : Nat → Nat → Nat
 | 0, n => n
 | f + 1, n => if p + n < s.size then (if aVy s p n then n else aZk s p f (n + (aQm s (p + n)).2)) else n
def nameZ (s : ByteArray) (p : Nat) : Nat := aZk s p (s.size + 1) 0
theorem aXx {s : ByteArray} {p f n : Nat} (h : s.size ≤ p + n) : aZk s p f n = n := by
 cases f with
 | zero => rfl
 | succ f => unfold aZk; rw [if_neg (by omega)]
theorem aZm {s : ByteArray} {p f n : Nat} (h : p + n < s.size) (hs : aVy s p n) : aZk s p (f + 1) n = n := by
 unfold aZk; rw [if_pos h, if_pos hs]
theorem aVo {s : ByteArray} {p f n : Nat} (h : p + n < s.size) (hs : ¬ aVy s p n) : aZk s p (f + 1) n = aZk s p f (n + (aQm s (p + n)).2) := by
 conv => lhs; unfold aZk
 rw [if_pos h, if_neg hs]
def aVm (s : ByteArray) : Nat → Nat → Option (List Int)
 | 0, _ => some []
 | f + 1, i => if i < s.size then (if (aQm s i).2 = 0 then none else (aVm s f (i + (aQm s i).2)).map ((aQm s i).1 :: ·)) else some []
theorem bWu {s : ByteArray} : ∀ (f i : Nat) (acc : List Int), (∃ l, aVm s f i = some l ∧ scan s f i acc = (acc ++ l, -1)) ∨ (aVm s f i = none ∧ 0 ≤ (scan s f i acc).2)
 | 0, i, acc => .inl ⟨[], rfl, by simp [scan]⟩
 | f + 1, i, acc => by
  by_cases hi : i < s.size
  · by_cases hb : (aQm s i).2 = 0
    · right
      rw [aW0 hi hb]
      refine ⟨?_, by simp only []; omega⟩
      unfold aVm; rw [if_pos hi, if_pos hb]
    · rw [aVl hi hb]
      have hR : aVm s (f + 1) i = (aVm s f (i + (aQm s i).2)).map ((aQm s i).1 :: ·) := by
       conv => lhs; unfold aVm
       rw [if_pos hi, if_neg hb]
      rw [hR]
      rcases bWu f (i + (aQm s i).2) (acc ++ [(aQm s i).1]) with ⟨l, h1, h2⟩ | ⟨h1, h2⟩
      · left; rw [h1, h2]; exact ⟨_, rfl, by simp⟩
      · right; rw [h1]; exact ⟨rfl, h2⟩
  · left
    rw [aWq (by omega)]
    refine ⟨[], ?_, by simp⟩
    unfold aVm; rw [if_neg hi]
def bKs (n : Nat) (l : List Int) : Bool := l.all aVz && (n != 0 || aJ2 (l.headD 0))
theorem cJx {c : Int} (h : aJ2 c = true) : aVz c = true := by unfold aVz; rw [h]; simp
theorem dJa {s : ByteArray} (h1 : 1 ≤ s.size) : ∀ (f n : Nat), n ≤ s.size → s.size < n + f → (aZk s 0 f n = s.size ↔ ∃ l, aVm s f n = some l ∧ bKs n l = true)
 | 0, n, hn, hf => by omega
 | f + 1, n, hn, hf => by
  by_cases hi : n < s.size
  · have hi' : 0 + n < s.size := by omega
    by_cases hb : (aQm s n).2 = 0
    · rw [aZm hi' (by unfold aVy; rw [Nat.zero_add]; exact .inl hb)]
      have hR : aVm s (f + 1) n = none := by unfold aVm; rw [if_pos hi, if_pos hb]
      rw [hR]
      constructor
      · intro h; omega
      · rintro ⟨l, h, _⟩; cases h
    · have hR : aVm s (f + 1) n = (aVm s f (n + (aQm s n).2)).map ((aQm s n).1 :: ·) := by
       conv => lhs; unfold aVm
       rw [if_pos hi, if_neg hb]
      have hle := aWr hb
      by_cases hs : aVy s 0 n
      · rw [aZm hi' hs, hR]
        constructor
        · intro h; omega
        · rintro ⟨l, h, hl⟩
          exfalso
          unfold aVy at hs
          rw [Nat.zero_add] at hs
          cases hr : aVm s f (n + (aQm s n).2) with
          | none => rw [hr] at h; cases h
          | some l' =>
           rw [hr] at h
           simp at h
           subst h
           simp [bKs] at hl
           rcases hs with hs | ⟨h0, hs⟩ | hs
           · exact hb hs
           · rcases hl.2 with h | h
             · exact h h0
             · rw [hs] at h; cases h
           · rw [hl.1.1] at hs; cases hs
      · rw [aVo hi' hs, hR, Nat.zero_add]
        rw [dJa h1 f (n + (aQm s n).2) hle (by omega)]
        unfold aVy at hs
        rw [Nat.zero_add] at hs
        have hp : aVz (aQm s n).1 = true := by
         cases h : aVz (aQm s n).1 with
         | true => rfl
         | false => exact absurd (.inr (.inr h)) hs
        constructor
        · rintro ⟨l, h, hl⟩
          rw [h]
          refine ⟨_, rfl, ?_⟩
          simp [bKs] at hl ⊢
          refine ⟨⟨hp, hl.1⟩, ?_⟩
          by_cases h0 : n = 0
          · right
            cases h : aJ2 (aQm s n).1 with
            | true => rfl
            | false => exact absurd (.inr (.inl ⟨h0, h⟩)) hs
          · exact .inl h0
        · rintro ⟨l, h, hl⟩
          cases hr : aVm s f (n + (aQm s n).2) with
          | none => rw [hr] at h; cases h
          | some l' =>
           rw [hr] at h
           simp at h
           subst h
           refine ⟨l', rfl, ?_⟩
           simp [bKs] at hl ⊢
           exact ⟨hl.1.2, .inl (by omega)⟩
  · rw [aXx (by omega)]
    have hR : aVm s (f + 1) n = some [] := by unfold aVm; rw [if_neg hi]
    rw [hR]
    constructor
    · intro h
      refine ⟨[], rfl, ?_⟩
      simp [bKs]
      omega
    · intro _; omega
def aV6 (s : ByteArray) : Bool := decide (1 ≤ s.size ∧ s.size ≤ 60) && decide ((aX4 s).2 < 0) && bKs 0 (aX4 s).1
theorem cVb {s : ByteArray} (h1 : 1 ≤ s.size) (h2 : s.size ≤ 60) : aV6 s = decide (nameZ s 0 = s.size) := by
 apply Bool.eq_iff_iff.2
 simp only [aV6, Bool.and_eq_true, decide_eq_true_eq]
 unfold nameZ
 rw [dJa h1 (s.size + 1) 0 (by omega) (by omega)]
 have hR := bWu (s := s) (s.size + 1) 0 []
 unfold aX4
 rcases hR with ⟨l, e1, e2⟩ | ⟨e1, e2⟩
 · rw [e1, e2]
   simp
   omega
 · rw [e1]
   constructor
   · rintro ⟨⟨_, h⟩, _⟩; omega
   · rintro ⟨l, h, _⟩; cases h
theorem bJg {s : ByteArray} (h : s.size < 1) : aV6 s = false := by unfold aV6; rw [decide_eq_false (by omega)]; rfl
theorem aWi {s : ByteArray} (h : 60 < s.size) : aV6 s = false := by unfold aV6; rw [decide_eq_false (by omega)]; rfl
theorem cKx {s : ByteArray} (h1 : 1 ≤ s.size) (h : (aX4 s).2 < 0) : 1 ≤ (aX4 s).1.length := by
 unfold aX4 at h ⊢
 have hi : 0 < s.size := by omega
 by_cases hb : (aQm s 0).2 = 0
 · rw [aW0 hi hb] at h; simp at h
 · rw [aVl hi hb] at h ⊢
   rcases bWu (s := s) s.size (0 + (aQm s 0).2) ([] ++ [(aQm s 0).1]) with ⟨l, _, e2⟩ | ⟨_, e2⟩
   · rw [e2]; simp
   · omega
end Go.Proofs.YtocnfoeaikiecaaGreatDoor.Plain6
namespace Go.Proofs.YtocnfoeaikiecaaGreatDoor.Bytes
open Go.RowKit Lists Go.Lib
def aX8 (l : List Int) : List Int := l.flatMap encodeRuneZ
theorem bV1 (l : List Int) (c : Int) : aX8 (l ++ [c]) = aX8 l ++ encodeRuneZ c := by simp [aX8]
theorem aJb (c : Int) : 1 ≤ (encodeRuneZ c).length ∧ (encodeRuneZ c).length ≤ 4 := by
 unfold encodeRuneZ; split <;> (try split) <;> (try split) <;> (try split) <;> simp
theorem bZj {P : Program} {w : World} {B : Nat} {e src dst : TypeId} {v : Value} {n : Nat} {xs : List Int} (hs : P.underlying src = some (.slice e)) (he : P.underlying e = some (.int .u8)) (hd : P.underlying dst = some .string)
 (h : w.ownsRow B e 1 v n (xs.map (Value.int .u8))) : (convert src dst v).run P w = .ok (.string (strOfNums xs)) w := by
 have hl : xs.length = n := by have := h.1; simpa using this
 rcases aJw h with ⟨rfl, hn⟩ | ⟨g, cap, rfl⟩
 · have : xs = [] := List.eq_nil_of_length_eq_zero (by omega)
   subst this
   exact run_convert_bytes_nil w src e hs he 0 0 dst hd
 · refine run_convert_bytes_arg w src e hs he g 0 n cap xs hl (fun i hi => ?_) dst hd
   rw [Nat.zero_add, h.cellAt i (by omega)]
   simp [List.getD, show i < xs.length by omega]
end Go.Proofs.YtocnfoeaikiecaaGreatDoor.Bytes
namespace Go.Proofs.YtocnfoeaikiecaaGreatDoor.Strs2
open Go.RowKit
section
variable {P : Program}
theorem aKx (w : World) (t : TypeId) (s : ByteArray) (p q : Nat) (z1 z2 : Int) (h1 : z1 = p) (h2 : z2 = q) (hpq : p ≤ q) (hq : q ≤ s.size) (ht : P.underlying t = some .string) :
 (Instr.slice t (.string s) (some (.int .i64 z1)) (some (.int .i64 z2)) none).run P w = .ok (.string (s.extract p q)) w := by
 subst h1 h2
 rw [run_slice_string w t s .i64 .i64 _ _ ht (by omega) (by omega) (by omega)]
 simp
theorem dX5 (w : World) (t : TypeId) (s : ByteArray) (p : Nat) (z1 : Int) (h1 : z1 = p) (hq : p ≤ s.size) (ht : P.underlying t = some .string) :
 (Instr.slice t (.string s) (some (.int .i64 z1)) none none).run P w = .ok (.string (s.extract p s.size)) w := by
 subst h1
 rw [run_slice_string_from_if w t s .i64 _ ht, if_pos (by omega)]
 simp
theorem cKg (w : World) (t : TypeId) (s : ByteArray) (q : Nat) (z1 : Int) (h1 : z1 = q) (hq : q ≤ s.size) (ht : P.underlying t = some .string) :
 (Instr.slice t (.string s) none (some (.int .i64 z1)) none).run P w = .ok (.string (s.extract 0 q)) w := by
 subst h1
 rw [run_slice_string_to_if w t s .i64 _ ht, if_pos (by omega)]
 simp
end
theorem aXt {z : Int} (h0 : -1000000000 ≤ z) (h1 : z ≤ 1000000000) : IntKind.i64.wrap z = z := by
 rw [IntKind.wrap_i64]; omega
end Go.Proofs.YtocnfoeaikiecaaGreatDoor.Strs2
namespace Go.Proofs.YtocnfoeaikiecaaGreatDoor.Ents
open Go.RowKit Lists
def aZ2 (w : World) (a : Option Addr) (l : List (ByteArray × ByteArray)) : Prop :=
 ∃ b off, (0 < l.length → a = some ⟨b, off, none⟩) ∧ ∀ i (h : i < l.length), w.cell? ⟨b, off + i * 2, none⟩ = some (.string (l[i]'h).1) ∧ w.cell? ⟨b, off + i * 2 + 1, none⟩ = some (.string (l[i]'h).2)
structure At5 where
 of : ByteArray
 nm : ByteArray
 words : Bool
 has : Bool
 val : ByteArray
def aWl (w : World) (a : Option Addr) (l : List At5) : Prop :=
 ∃ b off, (0 < l.length → a = some ⟨b, off, none⟩) ∧ ∀ i (h : i < l.length), w.cell? ⟨b, off + i * 5, none⟩ = some (.string (l[i]'h).of) ∧ w.cell? ⟨b, off + i * 5 + 1, none⟩ = some (.string (l[i]'h).nm) ∧
  w.cell? ⟨b, off + i * 5 + 2, none⟩ = some (.bool (l[i]'h).words) ∧ w.cell? ⟨b, off + i * 5 + 3, none⟩ = some (.bool (l[i]'h).has) ∧ w.cell? ⟨b, off + i * 5 + 4, none⟩ = some (.string (l[i]'h).val)
theorem aKn {w w' : World} (h : ∀ k, k < w.heap.size → w'.heap[k]? = w.heap[k]?) {b o : Nat} {v : Value} (hc : w.cell? ⟨b, o, none⟩ = some v) : w'.cell? ⟨b, o, none⟩ = some v := by
 have := h b (aQk hc)
 rw [World.cell?_of_block (a := ⟨b, o, none⟩) this]; exact hc
theorem aZ2.keep {w w' : World} {a : Option Addr} {l : List (ByteArray × ByteArray)} (h : aZ2 w a l) (hk : ∀ k, k < w.heap.size → w'.heap[k]? = w.heap[k]?) : aZ2 w' a l := by
 obtain ⟨b, off, h1, h2⟩ := h
 exact ⟨b, off, h1, fun i hi => ⟨aKn hk (h2 i hi).1, aKn hk (h2 i hi).2⟩⟩
theorem aWl.keep {w w' : World} {a : Option Addr} {l : List At5} (h : aWl w a l) (hk : ∀ k, k < w.heap.size → w'.heap[k]? = w.heap[k]?) : aWl w' a l := by
 obtain ⟨b, off, h1, h2⟩ := h
 exact ⟨b, off, h1, fun i hi => ⟨aKn hk (h2 i hi).1, aKn hk (h2 i hi).2.1, aKn hk (h2 i hi).2.2.1, aKn hk (h2 i hi).2.2.2.1, aKn hk (h2 i hi).2.2.2.2⟩⟩
theorem aZ2.grown {w w' : World} {a : Option Addr} {l : List (ByteArray × ByteArray)} (h : aZ2 w a l) (hg : w.grownBy w' none) : aZ2 w' a l := h.keep fun k hk => hg.block k hk (by simp)
theorem aWl.grown {w w' : World} {a : Option Addr} {l : List At5} (h : aWl w a l) (hg : w.grownBy w' none) : aWl w' a l := h.keep fun k hk => hg.block k hk (by simp)
theorem aZ2.below {w w' : World} {a : Option Addr} {l : List (ByteArray × ByteArray)} (h : aZ2 w a l) (hg : Below w.heap.size w w') : aZ2 w' a l := h.keep fun k hk => hg.block k hk
theorem aWl.below {w w' : World} {a : Option Addr} {l : List At5} (h : aWl w a l) (hg : Below w.heap.size w w') : aWl w' a l := h.keep fun k hk => hg.block k hk
theorem bJu {w w' : World} (h : w.grownBy w' none) : Below w.heap.size w w' := ⟨h.os, h.tape, h.output, h.size, fun k hk => h.block k hk (by simp)⟩
theorem below_grown {w w' : World} (h : Below w.heap.size w w') : w.grownBy w' none := ⟨h.os, h.tape, h.output, h.size, fun k hk _ => h.block k hk⟩
theorem find_hit {α : Type} {l : List α} {p : α → Bool} {k : Nat} (hk : k < l.length) (h0 : (l.take k).find? p = none) (h1 : p (l[k]'hk) = true) : l.find? p = some (l[k]'hk) := by
 have e : l = l.take k ++ (l[k]'hk) :: l.drop (k + 1) := by simp
 conv => lhs; rw [e]
 rw [List.find?_append, h0, List.find?_cons_of_pos h1]
 rfl
theorem cXn {α : Type} {l : List α} {p : α → Bool} {k : Nat} (hk : k < l.length) (h0 : (l.take k).find? p = none) (h1 : p (l[k]'hk) = false) : (l.take (k + 1)).find? p = none := by
 rw [List.take_succ_eq_append_getElem hk, List.find?_append, h0]
 simp [h1]
theorem find_end {α : Type} {l : List α} {p : α → Bool} {k : Nat} (hk : l.length ≤ k) (h0 : (l.take k).find? p = none) : l.find? p = none := by
 rw [List.take_of_length_le hk] at h0; exact h0
def aWa (n : ByteArray) (e : ByteArray × ByteArray) : Bool := e.1.toList == n.toList
def aV1 (o n : ByteArray) (e : At5) : Bool := (e.of.toList == o.toList) && (e.nm.toList == n.toList)
def zAtt : At5 := ⟨⟨#[]⟩, ⟨#[]⟩, false, false, ⟨#[]⟩⟩
def entR (l : List (ByteArray × ByteArray)) (n : ByteArray) : ByteArray × ByteArray := if 4000 < n.size then (⟨#[]⟩, ⟨#[]⟩) else (l.find? (aWa n)).getD (⟨#[]⟩, ⟨#[]⟩)
def attR (l : List At5) (o n : ByteArray) : At5 := if 4000 < o.size ∨ 4000 < n.size then zAtt else (l.find? (aV1 o n)).getD zAtt
theorem dZb {l : List (ByteArray × ByteArray)} {n : ByteArray} (h : 4000 < n.size) : entR l n = (⟨#[]⟩, ⟨#[]⟩) := by unfold entR; rw [if_pos h]
theorem dK6 {l : List (ByteArray × ByteArray)} {n : ByteArray} {k : Nat} (h : ¬ 4000 < n.size) (hk : k < l.length) (h0 : (l.take k).find? (aWa n) = none) (h1 : aWa n (l[k]'hk) = true) : entR l n = l[k]'hk := by
 unfold entR; rw [if_neg h, find_hit hk h0 h1]; rfl
theorem dZa {l : List (ByteArray × ByteArray)} {n : ByteArray} {k : Nat} (h : ¬ 4000 < n.size) (hk : l.length ≤ k) (h0 : (l.take k).find? (aWa n) = none) : entR l n = (⟨#[]⟩, ⟨#[]⟩) := by
 unfold entR; rw [if_neg h, find_end hk h0]; rfl
theorem dZt {l : List At5} {o n : ByteArray} (h : 4000 < o.size ∨ 4000 < n.size) : attR l o n = zAtt := by unfold attR; rw [if_pos h]
theorem dKj {l : List At5} {o n : ByteArray} {k : Nat} (h : ¬ (4000 < o.size ∨ 4000 < n.size)) (hk : k < l.length) (h0 : (l.take k).find? (aV1 o n) = none) (h1 : aV1 o n (l[k]'hk) = true) : attR l o n = l[k]'hk := by
 unfold attR; rw [if_neg h, find_hit hk h0 h1]; rfl
theorem dZs {l : List At5} {o n : ByteArray} {k : Nat} (h : ¬ (4000 < o.size ∨ 4000 < n.size)) (hk : l.length ≤ k) (h0 : (l.take k).find? (aV1 o n) = none) : attR l o n = zAtt := by
 unfold attR; rw [if_neg h, find_end hk h0]; rfl
end Go.Proofs.YtocnfoeaikiecaaGreatDoor.Ents
