import Derived.Below
import Derived.WalkSmall
import Derived.Lib.RuneBytes
namespace Go.Proofs.YtdblemolaojebaaGreatDoor
open Go.RowKit in
theorem bAl {w : World} {o : Obj} : Below w.heap.size w (w.alloc o) := (Below.refl _ _).alloc (Nat.le_refl _) _
theorem gLt {α : Type _} {xs : Array α} {i : Nat} {a : α} (h : xs[i]? = some a) : i < xs.size := (Array.getElem?_eq_some_iff.1 h).1
end Go.Proofs.YtdblemolaojebaaGreatDoor
namespace Go.Proofs.YtdblemolaojebaaGreatDoor.Plain1
def aZq (n : Int) : Bool :=
 decide (n = 9 ∨ n = 10 ∨ n = 13 ∨ (32 ≤ n ∧ n ≤ 55295) ∨ (57344 ≤ n ∧ n ≤ 65533) ∨ (65536 ≤ n ∧ n ≤ 1114111))
theorem aJi (n : Int) : aZq n = true ↔ (n = 9 ∨ n = 10 ∨ n = 13 ∨ (32 ≤ n ∧ n ≤ 55295) ∨ (57344 ≤ n ∧ n ≤ 65533) ∨ (65536 ≤ n ∧ n ≤ 1114111)) := by
 unfold aZq; exact decide_eq_true_iff
theorem aVc {a b : Bool} (h : a = b) : Ending.returned (.bool a) = .returned (.bool b) := by rw [h]
end Go.Proofs.YtdblemolaojebaaGreatDoor.Plain1
namespace Go.Proofs.YtdblemolaojebaaGreatDoor.Strs
open Go.RowKit
def aQ2 (s : ByteArray) (p : Nat) : Int := ((s.data.toList.getD p 0).toNat : Int)
theorem bQz (s : ByteArray) (p : Nat) : 0 ≤ aQ2 s p ∧ aQ2 s p ≤ 255 := by
 unfold aQ2
 have := (s.data.toList.getD p 0).toNat_lt
 omega
theorem byteAt_eq (s : ByteArray) (p : Nat) (h : p < s.size) : aQ2 s p = ((s[p]'h).toNat : Int) := by
 unfold aQ2
 have h' : p < s.data.size := h
 rw [List.getD_eq_getElem?_getD, Array.getElem?_toList, Array.getElem?_eq_getElem h']
 rfl
theorem aK6 (s : ByteArray) (p : Nat) (h : p < s.size) : ((s.get! p).toNat : Int) = aQ2 s p := by
 rw [byteAt_eq s p h]
 simp [ByteArray.get!, getElem!_pos, h]
 rfl
section
variable {P : Program}
theorem aXl (w : World) (t : TypeId) (s : ByteArray) (p : Nat) (hp : p < s.size) (ht : P.underlying t = some .string) :
 (Instr.index t (.string s) (.int .i64 (p : Int))).run P w = .ok (.int .u8 (aQ2 s p)) w := by
 rw [run_index_string (w := w) t s .i64 p ht, dif_pos (by omega), byteAt_eq s p hp]
 simp
end
end Go.Proofs.YtdblemolaojebaaGreatDoor.Strs
namespace Go.Proofs.YtdblemolaojebaaGreatDoor.Lists
open Go.RowKit
def Ints (k : IntKind) (w : World) (a : Option Addr) (l : List Int) : Prop :=
 ∃ b off, (0 < l.length → a = some ⟨b, off, none⟩) ∧ ∀ i, i < l.length → w.cell? ⟨b, off + i, none⟩ = some (.int k (l.getD i 0))
theorem aQf {w : World} {b o : Nat} {v : Value} (h : w.cell? ⟨b, o, none⟩ = some v) : b < w.heap.size := by
 by_cases hb : b < w.heap.size
 · exact hb
 · have : w.heap[b]? = none := by simp; omega
   simp [World.cell?, this] at h
theorem Ints.below {k : IntKind} {w w' : World} {a : Option Addr} {l : List Int} {B : Nat} (h : Ints k w a l) (hb : Below B w w') (hB : w.heap.size ≤ B) : Ints k w' a l := by
 obtain ⟨b, off, ha, hc⟩ := h
 exact ⟨b, off, ha, fun i hi => (hb.cell (p := ⟨b, off + i, none⟩) (Nat.lt_of_lt_of_le (aQf (hc i hi)) hB)).trans (hc i hi)⟩
theorem Ints.nil (k : IntKind) (w : World) (a : Option Addr) : Ints k w a [] := ⟨0, 0, by simp, by simp⟩
theorem aZm {w : World} {base size n : Nat} {e : TypeId} {v : Value} {xs : List Value} (h : w.ownsRow base e size v n xs) : (v = .slice none 0 0 ∧ n = 0) ∨ ∃ g cap, v = .slice (some ⟨g, 0, none⟩) n cap := by
 rcases h.2 with h' | ⟨g, cap, _, h', _⟩
 · exact .inl h'
 · exact .inr ⟨g, cap, h'⟩
theorem ints_of_owns {k : IntKind} {w : World} {B : Nat} {e : TypeId} {v : Value} {n : Nat} {l : List Int} (h : w.ownsRow B e 1 v n (l.map (Value.int k))) : ∃ a cap, v = .slice a l.length cap ∧ Ints k w a l := by
 have hl : l.length = n := by have := h.1; simpa using this
 rcases aZm h with ⟨rfl, hn⟩ | ⟨g, cap, rfl⟩
 · have : l = [] := List.eq_nil_of_length_eq_zero (by omega)
   subst this
   exact ⟨none, 0, rfl, Ints.nil _ _ _⟩
 · refine ⟨some ⟨g, 0, none⟩, cap, by rw [hl], g, 0, fun _ => rfl, fun i hi => ?_⟩
   rw [Nat.zero_add, h.cellAt i (by omega)]
   simp [List.getD, hi]
end Go.Proofs.YtdblemolaojebaaGreatDoor.Lists
namespace Go.Proofs.YtdblemolaojebaaGreatDoor.Plain2
def aQl : List (Int × Int) := [(58, 58), (65, 90), (95, 95), (97, 122), (192, 214), (216, 246), (248, 767), (880, 893), (895, 8191), (8204, 8205), (8304, 8591), (11264, 12271), (12289, 55295), (63744, 64975), (65008, 65533), (65536, 983039)]
def aZb : List (Int × Int) := [(45, 46), (48, 57), (183, 183), (768, 879), (8255, 8256)]
def bZ3 (l : List (Int × Int)) : Array Value := (l.flatMap fun z => [Value.int .i64 z.1, .int .i64 z.2]).toArray
def aQg : Array Value := bZ3 aQl
def aXr : Array Value := bZ3 aZb
def loOf (l : List (Int × Int)) (k : Nat) : Int := (l.getD k (0, 0)).1
def hiOf (l : List (Int × Int)) (k : Nat) : Int := (l.getD k (0, 0)).2
def inTo (l : List (Int × Int)) (k : Nat) (n : Int) : Bool := (l.take k).any fun z => decide (z.1 ≤ n ∧ n ≤ z.2)
theorem inTo_zero (l : List (Int × Int)) (n : Int) : inTo l 0 n = false := by simp [inTo]
theorem inTo_succ (l : List (Int × Int)) (k : Nat) (n : Int) (h : k < l.length) :
 inTo l (k + 1) n = (inTo l k n || decide (loOf l k ≤ n ∧ n ≤ hiOf l k)) := by
 unfold inTo loOf hiOf
 rw [List.take_succ_eq_append_getElem h]
 rw [List.any_append]
 simp [List.getD, h]
theorem inTo_mono {l : List (Int × Int)} {k : Nat} {n : Int} (h : inTo l k n = true) : inTo l l.length n = true := by
 unfold inTo at *
 rw [List.take_length]
 rw [List.any_eq_true] at *
 obtain ⟨x, hx, hn⟩ := h
 exact ⟨x, List.mem_of_mem_take hx, hn⟩
def aW2 (n : Int) : Bool := inTo aQl 16 n
def aWj (n : Int) : Bool := inTo aZb 5 n || aW2 n
end Go.Proofs.YtdblemolaojebaaGreatDoor.Plain2
namespace Go.Proofs.YtdblemolaojebaaGreatDoor.Plain3
open Plain1 Strs
def vz (s : ByteArray) (pos : Nat) (x0 : Int) : Nat → Int
 | 0 => x0
 | k + 1 => 64 * vz s pos x0 k + aQ2 s (pos + (k + 1)) - 128
def aX1 (s : ByteArray) (p : Nat) : Prop := 128 ≤ aQ2 s p ∧ aQ2 s p < 192
def contsB (s : ByteArray) (pos n : Nat) : Bool := (List.range n).all fun k => k == 0 || (decide (128 ≤ aQ2 s (pos + k)) && decide (aQ2 s (pos + k) < 192))
abbrev aWq (s : ByteArray) (pos n : Nat) : Prop := contsB s pos n = true
theorem aXy {s : ByteArray} {pos n : Nat} : aWq s pos n ↔ ∀ k, k < n → 1 ≤ k → aX1 s (pos + k) := by
 unfold aWq contsB aX1
 rw [List.all_eq_true]
 constructor
 · intro h k hk h1
   have := h k (List.mem_range.2 hk)
   simp at this
   rcases this with h0 | h0
   · omega
   · exact h0
 · intro h k hk
   have hk' := List.mem_range.1 hk
   by_cases h0 : k = 0
   · simp [h0]
   · have := h k hk' (by omega)
     simp [this.1, this.2]
def fin (s : ByteArray) (pos : Nat) (x0 : Int) (n : Nat) (low : Int) : Int × Nat :=
 if pos + n ≤ s.size ∧ aWq s pos n ∧ low ≤ vz s pos x0 (n - 1) ∧ aZq (vz s pos x0 (n - 1)) = true then (vz s pos x0 (n - 1), n) else (0, 0)
def aQo (s : ByteArray) (pos : Nat) : Int × Nat :=
 if aQ2 s pos < 128 then fin s pos (aQ2 s pos) 1 0
 else if 192 ≤ aQ2 s pos ∧ aQ2 s pos < 224 then fin s pos (aQ2 s pos - 192) 2 128
 else if 224 ≤ aQ2 s pos ∧ aQ2 s pos < 240 then fin s pos (aQ2 s pos - 224) 3 2048
 else if 240 ≤ aQ2 s pos ∧ aQ2 s pos < 248 then fin s pos (aQ2 s pos - 240) 4 65536
 else (0, 0)
theorem fin_char {s : ByteArray} {pos n : Nat} {x0 low : Int} (h : aZq (vz s pos x0 (n - 1)) = false) : fin s pos x0 n low = (0, 0) := by
 unfold fin; rw [if_neg (by rintro ⟨_, _, _, h4⟩; rw [h] at h4; cases h4)]
theorem aVf {s : ByteArray} {pos n : Nat} {x0 low : Int} (h1 : pos + n ≤ s.size) (h2 : aWq s pos n) (h3 : low ≤ vz s pos x0 (n - 1)) (h4 : aZq (vz s pos x0 (n - 1)) = true) : fin s pos x0 n low = (vz s pos x0 (n - 1), n) := by
 unfold fin; rw [if_pos ⟨h1, h2, h3, h4⟩]
theorem aK7 {s : ByteArray} {pos j : Nat} (h : aWq s pos j) (hj : aX1 s (pos + j)) : aWq s pos (j + 1) := by
 refine aXy.2 (fun k hk h1 => ?_)
 by_cases e : k = j
 · subst e; exact hj
 · exact aXy.1 h k (by omega) h1
theorem aY8 (s : ByteArray) (pos : Nat) : aWq s pos 1 := aXy.2 (fun k hk h1 => by omega)
theorem vz_step (s : ByteArray) (pos : Nat) (x0 : Int) (j : Nat) (h : 1 ≤ j) : vz s pos x0 (j + 1 - 1) = 64 * vz s pos x0 (j - 1) + aQ2 s (pos + j) - 128 := by
 obtain ⟨k, rfl⟩ : ∃ k, j = k + 1 := ⟨j - 1, by omega⟩
 simp [vz]
end Go.Proofs.YtdblemolaojebaaGreatDoor.Plain3
namespace Go.Proofs.YtdblemolaojebaaGreatDoor.Plain4
open Plain1 Strs Plain3
def decP (b0 b1 b2 b3 : Nat) (c1 c2 c3 : Bool) : Nat × Nat :=
 if b0 < 0x80 then (b0, 1)
 else if b0 / 32 == 6 && c1 then
  (if (b0 % 32) * 64 + b1 % 64 ≥ 0x80 then ((b0 % 32) * 64 + b1 % 64, 2) else (Utf8.runeError, 1))
 else if b0 / 16 == 14 && c1 && c2 then
  (if (b0 % 16) * 4096 + (b1 % 64) * 64 + b2 % 64 ≥ 0x800 && Utf8.valid (((b0 % 16) * 4096 + (b1 % 64) * 64 + b2 % 64 : Nat) : Int) then ((b0 % 16) * 4096 + (b1 % 64) * 64 + b2 % 64, 3) else (Utf8.runeError, 1))
 else if b0 / 8 == 30 && c1 && c2 && c3 then
  (if (b0 % 8) * 262144 + (b1 % 64) * 4096 + (b2 % 64) * 64 + b3 % 64 ≥ 0x10000 && Utf8.valid (((b0 % 8) * 262144 + (b1 % 64) * 4096 + (b2 % 64) * 64 + b3 % 64 : Nat) : Int) then ((b0 % 8) * 262144 + (b1 % 64) * 4096 + (b2 % 64) * 64 + b3 % 64, 4) else (Utf8.runeError, 1))
 else (Utf8.runeError, 1)
theorem bWg (s : ByteArray) (pos k : Nat) : (decide (pos + k < s.size) && (s.get! (pos + k)).toNat / 64 == 2) = true ↔ pos + k < s.size ∧ aX1 s (pos + k) := by
 by_cases h : pos + k < s.size
 · have e := aK6 s (pos + k) h
   unfold aX1
   simp [h]
   omega
 · simp [h]
theorem aY7 (s : ByteArray) (pos : Nat) (hp : pos < s.size) : ∃ (b0 b1 b2 b3 : Nat) (c1 c2 c3 : Bool), Utf8.decode s pos = decP b0 b1 b2 b3 c1 c2 c3 ∧ (b0 : Int) = aQ2 s pos ∧
 (pos + 1 < s.size → (b1 : Int) = aQ2 s (pos + 1)) ∧ (pos + 2 < s.size → (b2 : Int) = aQ2 s (pos + 2)) ∧ (pos + 3 < s.size → (b3 : Int) = aQ2 s (pos + 3)) ∧
 (c1 = true ↔ pos + 1 < s.size ∧ aX1 s (pos + 1)) ∧ (c2 = true ↔ pos + 2 < s.size ∧ aX1 s (pos + 2)) ∧ (c3 = true ↔ pos + 3 < s.size ∧ aX1 s (pos + 3)) :=
 ⟨_, _, _, _, _, _, _, rfl, aK6 s pos hp, aK6 s (pos + 1), aK6 s (pos + 2), aK6 s (pos + 3), bWg s pos 1, bWg s pos 2, bWg s pos 3⟩
theorem vz1 (s : ByteArray) (pos : Nat) (a : Int) : vz s pos a 1 = 64 * a + aQ2 s (pos + 1) - 128 := rfl
theorem vz2 (s : ByteArray) (pos : Nat) (a : Int) : vz s pos a 2 = 64 * (64 * a + aQ2 s (pos + 1) - 128) + aQ2 s (pos + 2) - 128 := rfl
theorem vz3 (s : ByteArray) (pos : Nat) (a : Int) : vz s pos a 3 = 64 * (64 * (64 * a + aQ2 s (pos + 1) - 128) + aQ2 s (pos + 2) - 128) + aQ2 s (pos + 3) - 128 := rfl
def err : Nat × Nat := (65533, 1)
theorem conts2 {s : ByteArray} {pos : Nat} : aWq s pos 2 ↔ aX1 s (pos + 1) :=
 ⟨fun h => aXy.1 h 1 (by omega) (by omega), fun h => aK7 (aY8 _ _) h⟩
theorem conts3 {s : ByteArray} {pos : Nat} : aWq s pos 3 ↔ aX1 s (pos + 1) ∧ aX1 s (pos + 2) :=
 ⟨fun h => ⟨aXy.1 h 1 (by omega) (by omega), aXy.1 h 2 (by omega) (by omega)⟩, fun h => aK7 (aK7 (aY8 _ _) h.1) h.2⟩
theorem conts4 {s : ByteArray} {pos : Nat} : aWq s pos 4 ↔ aX1 s (pos + 1) ∧ aX1 s (pos + 2) ∧ aX1 s (pos + 3) :=
 ⟨fun h => ⟨aXy.1 h 1 (by omega) (by omega), aXy.1 h 2 (by omega) (by omega), aXy.1 h 3 (by omega) (by omega)⟩, fun h => aK7 (aK7 (aK7 (aY8 _ _) h.1) h.2.1) h.2.2⟩
def Agree (d : Nat × Nat) (s : ByteArray) (pos : Nat) (x0 : Int) (n : Nat) (low : Int) : Prop :=
 (pos + n ≤ s.size ∧ aWq s pos n ∧ low ≤ vz s pos x0 (n - 1) ∧ Utf8.valid (vz s pos x0 (n - 1)) = true ∧ (d.1 : Int) = vz s pos x0 (n - 1) ∧ d.2 = n) ∨
 (¬ (pos + n ≤ s.size ∧ aWq s pos n ∧ low ≤ vz s pos x0 (n - 1) ∧ Utf8.valid (vz s pos x0 (n - 1)) = true) ∧ d = err)
theorem aJt (r : Int) : Utf8.valid r = true ↔ ((0 ≤ r ∧ r < 55296) ∨ (57344 ≤ r ∧ r ≤ 1114111)) := by
 unfold Utf8.valid; simp
theorem agree1 {s : ByteArray} {pos : Nat} (hp : pos < s.size) (h : aQ2 s pos < 128) : Agree (Utf8.decode s pos) s pos (aQ2 s pos) 1 0 := by
 obtain ⟨b0, b1, b2, b3, c1, c2, c3, e, e0, -⟩ := aY7 s pos hp
 rw [e]
 have hb := (bQz s pos).1
 have hd : decP b0 b1 b2 b3 c1 c2 c3 = (b0, 1) := by unfold decP; rw [if_pos (by omega)]
 rw [hd]
 exact .inl ⟨by omega, aY8 _ _, hb, (aJt _).2 (by rw [show vz s pos (aQ2 s pos) (1 - 1) = aQ2 s pos from rfl]; omega), e0, rfl⟩
theorem agree2 {s : ByteArray} {pos : Nat} (hp : pos < s.size) (h0 : 192 ≤ aQ2 s pos) (h1 : aQ2 s pos < 224) : Agree (Utf8.decode s pos) s pos (aQ2 s pos - 192) 2 128 := by
 obtain ⟨b0, b1, b2, b3, c1, c2, c3, e, e0, e1, -, -, k1, -, -⟩ := aY7 s pos hp
 rw [e]
 unfold Agree
 simp only [show 2 - 1 = 1 from rfl, vz1, conts2, aJt, err]
 unfold decP
 rw [if_neg (by omega)]
 by_cases hc : c1 = true
 · obtain ⟨q1, q2⟩ := k1.1 hc
   have e1' := e1 q1
   have q3 := q2
   unfold aX1 at q3
   rw [if_pos (by rw [hc]; simp; omega)]
   by_cases hl : 128 ≤ 64 * (aQ2 s pos - 192) + aQ2 s (pos + 1) - 128
   · rw [if_pos (by omega)]
     exact .inl ⟨by omega, q2, hl, by omega, by simp only []; omega, rfl⟩
   · rw [if_neg (by omega)]
     exact .inr ⟨by omega, rfl⟩
 · rw [if_neg (by simp [hc]), if_neg (by simp [hc]), if_neg (by simp [hc])]
   refine .inr ⟨fun x => hc (k1.2 ⟨by omega, x.2.1⟩), rfl⟩
theorem agree3 {s : ByteArray} {pos : Nat} (hp : pos < s.size) (h0 : 224 ≤ aQ2 s pos) (h1 : aQ2 s pos < 240) : Agree (Utf8.decode s pos) s pos (aQ2 s pos - 224) 3 2048 := by
 obtain ⟨b0, b1, b2, b3, c1, c2, c3, e, e0, e1, e2, -, k1, k2, -⟩ := aY7 s pos hp
 rw [e]
 unfold Agree
 simp only [show 3 - 1 = 2 from rfl, vz2, conts3, aJt, err]
 unfold decP
 rw [if_neg (by omega), if_neg (by simp; omega)]
 by_cases hc : c1 = true ∧ c2 = true
 · obtain ⟨q1, q2⟩ := k1.1 hc.1
   obtain ⟨r1, r2⟩ := k2.1 hc.2
   have e1' := e1 q1
   have e2' := e2 r1
   have q3 := q2
   have r3 := r2
   unfold aX1 at q3 r3
   rw [if_pos (by rw [hc.1, hc.2]; simp; omega)]
   have ev : (((b0 % 16) * 4096 + (b1 % 64) * 64 + b2 % 64 : Nat) : Int) = 64 * (64 * (aQ2 s pos - 224) + aQ2 s (pos + 1) - 128) + aQ2 s (pos + 2) - 128 := by omega
   by_cases hl : 2048 ≤ 64 * (64 * (aQ2 s pos - 224) + aQ2 s (pos + 1) - 128) + aQ2 s (pos + 2) - 128 ∧ Utf8.valid (64 * (64 * (aQ2 s pos - 224) + aQ2 s (pos + 1) - 128) + aQ2 s (pos + 2) - 128) = true
   · rw [if_pos (by rw [ev, hl.2]; simp; omega)]
     exact .inl ⟨by omega, ⟨q2, r2⟩, hl.1, (aJt _).1 hl.2, ev, rfl⟩
   · rw [if_neg (by rw [ev]; simp only [Bool.and_eq_true, decide_eq_true_eq]; rintro ⟨x, y⟩; exact hl ⟨by omega, y⟩)]
     exact .inr ⟨fun x => hl ⟨x.2.2.1, (aJt _).2 x.2.2.2⟩, rfl⟩
 · have hcf : (c1 && c2) = false := by
    cases c1 <;> cases c2 <;> simp_all
   rw [if_neg (by rw [Bool.and_assoc, hcf]; simp), if_neg (by simp; omega)]
   refine .inr ⟨fun x => hc ⟨k1.2 ⟨by omega, x.2.1.1⟩, k2.2 ⟨by omega, x.2.1.2⟩⟩, rfl⟩
theorem agree4 {s : ByteArray} {pos : Nat} (hp : pos < s.size) (h0 : 240 ≤ aQ2 s pos) (h1 : aQ2 s pos < 248) : Agree (Utf8.decode s pos) s pos (aQ2 s pos - 240) 4 65536 := by
 obtain ⟨b0, b1, b2, b3, c1, c2, c3, e, e0, e1, e2, e3, k1, k2, k3⟩ := aY7 s pos hp
 rw [e]
 unfold Agree
 simp only [show 4 - 1 = 3 from rfl, vz3, conts4, aJt, err]
 unfold decP
 rw [if_neg (by omega), if_neg (by simp; omega), if_neg (by simp; omega)]
 by_cases hc : c1 = true ∧ c2 = true ∧ c3 = true
 · obtain ⟨q1, q2⟩ := k1.1 hc.1
   obtain ⟨r1, r2⟩ := k2.1 hc.2.1
   obtain ⟨t1, t2⟩ := k3.1 hc.2.2
   have e1' := e1 q1
   have e2' := e2 r1
   have e3' := e3 t1
   have q3 := q2
   have r3 := r2
   have t3 := t2
   unfold aX1 at q3 r3 t3
   rw [if_pos (by rw [hc.1, hc.2.1, hc.2.2]; simp; omega)]
   have ev : (((b0 % 8) * 262144 + (b1 % 64) * 4096 + (b2 % 64) * 64 + b3 % 64 : Nat) : Int) = 64 * (64 * (64 * (aQ2 s pos - 240) + aQ2 s (pos + 1) - 128) + aQ2 s (pos + 2) - 128) + aQ2 s (pos + 3) - 128 := by omega
   by_cases hl : 65536 ≤ 64 * (64 * (64 * (aQ2 s pos - 240) + aQ2 s (pos + 1) - 128) + aQ2 s (pos + 2) - 128) + aQ2 s (pos + 3) - 128 ∧ Utf8.valid (64 * (64 * (64 * (aQ2 s pos - 240) + aQ2 s (pos + 1) - 128) + aQ2 s (pos + 2) - 128) + aQ2 s (pos + 3) - 128) = true
   · rw [if_pos (by rw [ev, hl.2]; simp; omega)]
     exact .inl ⟨by omega, ⟨q2, r2, t2⟩, hl.1, (aJt _).1 hl.2, ev, rfl⟩
   · rw [if_neg (by rw [ev]; simp only [Bool.and_eq_true, decide_eq_true_eq]; rintro ⟨x, y⟩; exact hl ⟨by omega, y⟩)]
     exact .inr ⟨fun x => hl ⟨x.2.2.1, (aJt _).2 x.2.2.2⟩, rfl⟩
 · have hcf : (c1 && c2 && c3) = false := by
    cases c1 <;> cases c2 <;> cases c3 <;> simp_all
   rw [if_neg (by rw [Bool.and_assoc, Bool.and_assoc, ← Bool.and_assoc c1, hcf]; simp)]
   refine .inr ⟨fun x => hc ⟨k1.2 ⟨by omega, x.2.1.1⟩, k2.2 ⟨by omega, x.2.1.2.1⟩, k3.2 ⟨by omega, x.2.1.2.2⟩⟩, rfl⟩
theorem agree_none {s : ByteArray} {pos : Nat} (hp : pos < s.size) (h : (128 ≤ aQ2 s pos ∧ aQ2 s pos < 192) ∨ 248 ≤ aQ2 s pos) : Utf8.decode s pos = err := by
 obtain ⟨b0, b1, b2, b3, c1, c2, c3, e, e0, -⟩ := aY7 s pos hp
 rw [e]
 unfold decP err
 rw [if_neg (by omega), if_neg (by simp; omega), if_neg (by simp; omega), if_neg (by simp; omega)]
 rfl
theorem char_valid {r : Int} (h : aZq r = true) : Utf8.valid r = true := by
 rw [aJi] at h; rw [aJt]; omega
theorem bQs {d : Nat × Nat} {s : ByteArray} {pos n : Nat} {x0 low : Int} (hn : 1 ≤ n) (h : Agree d s pos x0 n low) :
 ((fin s pos x0 n low).2 ≠ 0 ∧ (d.1 : Int) = (fin s pos x0 n low).1 ∧ d.2 = (fin s pos x0 n low).2 ∧ aZq (d.1 : Int) = true) ∨ ((fin s pos x0 n low) = (0, 0) ∧ (d = err ∨ aZq (d.1 : Int) = false)) := by
 rcases h with ⟨a, b, c, v, e1, e2⟩ | ⟨hno, he⟩
 · by_cases hch : aZq (vz s pos x0 (n - 1)) = true
   · rw [aVf a b c hch]
     exact .inl ⟨by simp only []; omega, e1, e2, by rw [e1]; exact hch⟩
   · have hch' : aZq (vz s pos x0 (n - 1)) = false := by simpa using hch
     rw [fin_char hch']
     exact .inr ⟨rfl, .inr (by rw [e1]; exact hch')⟩
 · refine .inr ⟨?_, .inl he⟩
   unfold fin
   rw [if_neg]
   rintro ⟨a, b, c, v⟩
   exact hno ⟨a, b, c, char_valid v⟩
theorem bVl {s : ByteArray} {pos : Nat} (hp : pos < s.size) :
 ((aQo s pos).2 ≠ 0 ∧ ((Utf8.decode s pos).1 : Int) = (aQo s pos).1 ∧ (Utf8.decode s pos).2 = (aQo s pos).2 ∧ aZq ((Utf8.decode s pos).1 : Int) = true) ∨ (aQo s pos = (0, 0) ∧ (Utf8.decode s pos = err ∨ aZq ((Utf8.decode s pos).1 : Int) = false)) := by
 unfold aQo
 by_cases c1 : aQ2 s pos < 128
 · rw [if_pos c1]; exact bQs (by omega) (agree1 hp c1)
 rw [if_neg c1]
 by_cases c2 : 192 ≤ aQ2 s pos ∧ aQ2 s pos < 224
 · rw [if_pos c2]; exact bQs (by omega) (agree2 hp c2.1 c2.2)
 rw [if_neg c2]
 by_cases c3 : 224 ≤ aQ2 s pos ∧ aQ2 s pos < 240
 · rw [if_pos c3]; exact bQs (by omega) (agree3 hp c3.1 c3.2)
 rw [if_neg c3]
 by_cases c4 : 240 ≤ aQ2 s pos ∧ aQ2 s pos < 248
 · rw [if_pos c4]; exact bQs (by omega) (agree4 hp c4.1 c4.2)
 rw [if_neg c4]
 exact .inr ⟨rfl, .inl (agree_none hp (by omega))⟩
def fffd (s : ByteArray) (pos : Nat) : Prop := pos + 3 ≤ s.size ∧ aQ2 s pos = 239 ∧ aQ2 s (pos + 1) = 191 ∧ aQ2 s (pos + 2) = 189
theorem rune_fffd {s : ByteArray} {pos : Nat} (h : fffd s pos) : aQo s pos = (65533, 3) := by
 obtain ⟨a, b0, b1, b2⟩ := h
 unfold aQo
 rw [b0, if_neg (by omega), if_neg (by omega), if_pos (by omega)]
 have e : vz s pos (239 - 224) 2 = 65533 := by rw [vz2, b1, b2]; rfl
 rw [aVf a (conts3.2 ⟨by unfold aX1; omega, by unfold aX1; omega⟩) (by rw [show 3 - 1 = 2 from rfl, e]; omega) (by rw [show 3 - 1 = 2 from rfl, e]; rfl)]
 rw [show 3 - 1 = 2 from rfl, e]
theorem fffd_of_rune {s : ByteArray} {pos : Nat} (h : (aQo s pos).2 ≠ 0) (hr : (aQo s pos).1 = 65533) : fffd s pos := by
 have hb := bQz s pos
 unfold aQo at h hr
 by_cases c1 : aQ2 s pos < 128
 · rw [if_pos c1] at h hr
   unfold fin at h hr
   split at h
   · rename_i hh; rw [if_pos hh, show vz s pos (aQ2 s pos) (1 - 1) = aQ2 s pos from rfl] at hr; simp only [] at hr; omega
   · simp at h
 rw [if_neg c1] at h hr
 by_cases c2 : 192 ≤ aQ2 s pos ∧ aQ2 s pos < 224
 · rw [if_pos c2] at h hr
   unfold fin at h hr
   split at h
   · rename_i hh; rw [if_pos hh] at hr
     have g := conts2.1 hh.2.1
     unfold aX1 at g
     simp only [show 2 - 1 = 1 from rfl, vz1] at hr
     omega
   · simp at h
 rw [if_neg c2] at h hr
 by_cases c3 : 224 ≤ aQ2 s pos ∧ aQ2 s pos < 240
 · rw [if_pos c3] at h hr
   unfold fin at h hr
   split at h
   · rename_i hh; rw [if_pos hh] at hr
     have g := conts3.1 hh.2.1
     unfold aX1 at g
     simp only [show 3 - 1 = 2 from rfl, vz2] at hr
     exact ⟨hh.1, by omega, by omega, by omega⟩
   · simp at h
 rw [if_neg c3] at h hr
 by_cases c4 : 240 ≤ aQ2 s pos ∧ aQ2 s pos < 248
 · rw [if_pos c4] at h hr
   unfold fin at h hr
   split at h
   · rename_i hh; rw [if_pos hh] at hr
     have := hh.2.2.1
     simp only [] at hr
     omega
   · simp at h
 rw [if_neg c4] at h
 simp at h
end Go.Proofs.YtdblemolaojebaaGreatDoor.Plain4
namespace Go.Proofs.YtdblemolaojebaaGreatDoor.Plain5
open Plain3
def scan (s : ByteArray) : Nat → Nat → List Int → List Int × Int
 | 0, _, acc => (acc, -1)
 | f + 1, i, acc => if i < s.size then (if (aQo s i).2 = 0 then ([], (i : Int)) else scan s f (i + (aQo s i).2) (acc ++ [(aQo s i).1])) else (acc, -1)
def aQv (s : ByteArray) : List Int × Int := scan s (s.size + 1) 0 []
theorem aWh {s : ByteArray} {f i : Nat} {acc : List Int} (h : s.size ≤ i) : scan s f i acc = (acc, -1) := by
 cases f with
 | zero => rfl
 | succ f => unfold scan; rw [if_neg (by omega)]
theorem aKs {s : ByteArray} {f i : Nat} {acc : List Int} (hi : i < s.size) (h : (aQo s i).2 = 0) : scan s (f + 1) i acc = ([], (i : Int)) := by
 unfold scan; rw [if_pos hi, if_pos h]
theorem aVh {s : ByteArray} {f i : Nat} {acc : List Int} (hi : i < s.size) (h : (aQo s i).2 ≠ 0) : scan s (f + 1) i acc = scan s f (i + (aQo s i).2) (acc ++ [(aQo s i).1]) := by
 conv => lhs; unfold scan
 rw [if_pos hi, if_neg h]
theorem fin_le {s : ByteArray} {pos n : Nat} {x0 low : Int} (h : (fin s pos x0 n low).2 ≠ 0) : pos + (fin s pos x0 n low).2 ≤ s.size := by
 unfold fin at h ⊢
 split at h
 · rename_i hh; rw [if_pos hh]; exact hh.1
 · simp at h
theorem bXa {s : ByteArray} {pos : Nat} (h : (aQo s pos).2 ≠ 0) : pos + (aQo s pos).2 ≤ s.size := by
 unfold aQo at h ⊢
 split at h
 · rename_i c; rw [if_pos c]; exact fin_le h
 rename_i c1; rw [if_neg c1]
 split at h
 · rename_i c; rw [if_pos c]; exact fin_le h
 rename_i c2; rw [if_neg c2]
 split at h
 · rename_i c; rw [if_pos c]; exact fin_le h
 rename_i c3; rw [if_neg c3]
 split at h
 · rename_i c; rw [if_pos c]; exact fin_le h
 · simp at h
def bV0 (s : ByteArray) : List Int := if 4000 < s.size then [] else (aQv s).1
def rAt (s : ByteArray) : Int := if 4000 < s.size then 0 else if 0 ≤ (aQv s).2 then (aQv s).2 else 0
def bQj (s : ByteArray) : Int := if 4000 < s.size then 2 else if 0 ≤ (aQv s).2 then 3 else 0
theorem scan_list {s : ByteArray} : ∀ (f i : Nat) (acc : List Int), 0 ≤ (scan s f i acc).2 → (scan s f i acc).1 = []
 | 0, i, acc, h => by simp [scan] at h
 | f + 1, i, acc, h => by
  by_cases hi : i < s.size
  · by_cases hb : (aQo s i).2 = 0
    · rw [aKs hi hb]
    · rw [aVh hi hb] at h ⊢; exact scan_list f _ _ h
  · rw [aWh (by omega)] at h; simp at h
theorem scan_at {s : ByteArray} : ∀ (f i : Nat) (acc : List Int), -1 ≤ (scan s f i acc).2 ∧ (scan s f i acc).2 < s.size + 1
 | 0, i, acc => by simp [scan]; omega
 | f + 1, i, acc => by
  by_cases hi : i < s.size
  · by_cases hb : (aQo s i).2 = 0
    · rw [aKs hi hb]; simp only []; omega
    · rw [aVh hi hb]; exact scan_at f _ _
  · rw [aWh (by omega)]; simp only []; omega
theorem scan_len {s : ByteArray} : ∀ (f i : Nat) (acc : List Int), i ≤ s.size → (scan s f i acc).1.length + i ≤ acc.length + s.size
 | 0, i, acc, h => by simp [scan]; omega
 | f + 1, i, acc, h => by
  by_cases hi : i < s.size
  · by_cases hb : (aQo s i).2 = 0
    · rw [aKs hi hb]; simp; omega
    · rw [aVh hi hb]
      have := bXa hb
      have := scan_len f (i + (aQo s i).2) (acc ++ [(aQo s i).1]) this
      simp at this
      omega
  · rw [aWh (by omega)]; simp only []; omega
theorem rList_len (s : ByteArray) : (bV0 s).length ≤ 4000 := by
 unfold bV0
 split
 · simp
 · have := scan_len (s := s) (s.size + 1) 0 [] (Nat.zero_le _)
   simp at this
   unfold aQv
   omega
end Go.Proofs.YtdblemolaojebaaGreatDoor.Plain5
namespace Go.Proofs.YtdblemolaojebaaGreatDoor.Plain6
open Plain2 Plain3 Plain5
abbrev aY1 (s : ByteArray) (p : Nat) (n : Nat) : Prop := (aQo s (p + n)).2 = 0 ∨ (n = 0 ∧ aW2 (aQo s (p + n)).1 = false) ∨ aWj (aQo s (p + n)).1 = false
def aZc (s : ByteArray) (p : Nat) : Nat → Nat → Nat
 | 0, n => n
 | f + 1, n => if p + n < s.size then (if aY1 s p n then n else aZc s p f (n + (aQo s (p + n)).2)) else n
def aXw (s : ByteArray) (p : Nat) : Nat := aZc s p (s.size + 1) 0
theorem aZn {s : ByteArray} {p f n : Nat} (h : s.size ≤ p + n) : aZc s p f n = n := by
 cases f with
 | zero => rfl
 | succ f => unfold aZc; rw [if_neg (by omega)]
theorem aV8 {s : ByteArray} {p f n : Nat} (h : p + n < s.size) (hs : aY1 s p n) : aZc s p (f + 1) n = n := by
 unfold aZc; rw [if_pos h, if_pos hs]
theorem aW4 {s : ByteArray} {p f n : Nat} (h : p + n < s.size) (hs : ¬ aY1 s p n) : aZc s p (f + 1) n = aZc s p f (n + (aQo s (p + n)).2) := by
 conv => lhs; unfold aZc
 rw [if_pos h, if_neg hs]
def aYm (s : ByteArray) : Nat → Nat → Option (List Int)
 | 0, _ => some []
 | f + 1, i => if i < s.size then (if (aQo s i).2 = 0 then none else (aYm s f (i + (aQo s i).2)).map ((aQo s i).1 :: ·)) else some []
theorem scan_R {s : ByteArray} : ∀ (f i : Nat) (acc : List Int), (∃ l, aYm s f i = some l ∧ scan s f i acc = (acc ++ l, -1)) ∨ (aYm s f i = none ∧ 0 ≤ (scan s f i acc).2)
 | 0, i, acc => .inl ⟨[], rfl, by simp [scan]⟩
 | f + 1, i, acc => by
  by_cases hi : i < s.size
  · by_cases hb : (aQo s i).2 = 0
    · right
      rw [aKs hi hb]
      refine ⟨?_, by simp only []; omega⟩
      unfold aYm; rw [if_pos hi, if_pos hb]
    · rw [aVh hi hb]
      have hR : aYm s (f + 1) i = (aYm s f (i + (aQo s i).2)).map ((aQo s i).1 :: ·) := by
       conv => lhs; unfold aYm
       rw [if_pos hi, if_neg hb]
      rw [hR]
      rcases scan_R f (i + (aQo s i).2) (acc ++ [(aQo s i).1]) with ⟨l, h1, h2⟩ | ⟨h1, h2⟩
      · left; rw [h1, h2]; exact ⟨_, rfl, by simp⟩
      · right; rw [h1]; exact ⟨rfl, h2⟩
  · left
    rw [aWh (by omega)]
    refine ⟨[], ?_, by simp⟩
    unfold aYm; rw [if_neg hi]
def nameL (n : Nat) (l : List Int) : Bool := l.all aWj && (n != 0 || aW2 (l.headD 0))
theorem start_part {c : Int} (h : aW2 c = true) : aWj c = true := by unfold aWj; rw [h]; simp
def aYn (s : ByteArray) : Bool := decide (1 ≤ s.size ∧ s.size ≤ 60) && decide ((aQv s).2 < 0) && nameL 0 (aQv s).1
theorem nameB_empty {s : ByteArray} (h : s.size < 1) : aYn s = false := by unfold aYn; rw [decide_eq_false (by omega)]; rfl
theorem nameB_long {s : ByteArray} (h : 60 < s.size) : aYn s = false := by unfold aYn; rw [decide_eq_false (by omega)]; rfl
theorem scan_some {s : ByteArray} (h1 : 1 ≤ s.size) (h : (aQv s).2 < 0) : 1 ≤ (aQv s).1.length := by
 unfold aQv at h ⊢
 have hi : 0 < s.size := by omega
 by_cases hb : (aQo s 0).2 = 0
 · rw [aKs hi hb] at h; simp at h
 · rw [aVh hi hb] at h ⊢
   rcases scan_R (s := s) s.size (0 + (aQo s 0).2) ([] ++ [(aQo s 0).1]) with ⟨l, _, e2⟩ | ⟨_, e2⟩
   · rw [e2]; simp
   · omega
end Go.Proofs.YtdblemolaojebaaGreatDoor.Plain6
namespace Go.Proofs.YtdblemolaojebaaGreatDoor.Bytes
open Go.RowKit Lists Go.Lib
def aXd (l : List Int) : List Int := l.flatMap encodeRuneZ
theorem bJo (l : List Int) (c : Int) : aXd (l ++ [c]) = aXd l ++ encodeRuneZ c := by simp [aXd]
theorem aKk (c : Int) : 1 ≤ (encodeRuneZ c).length ∧ (encodeRuneZ c).length ≤ 4 := by
 unfold encodeRuneZ; split <;> (try split) <;> (try split) <;> (try split) <;> simp
theorem bZb {P : Program} {w : World} {B : Nat} {e src dst : TypeId} {v : Value} {n : Nat} {xs : List Int} (hs : P.underlying src = some (.slice e)) (he : P.underlying e = some (.int .u8)) (hd : P.underlying dst = some .string)
 (h : w.ownsRow B e 1 v n (xs.map (Value.int .u8))) : (convert src dst v).run P w = .ok (.string (strOfNums xs)) w := by
 have hl : xs.length = n := by have := h.1; simpa using this
 rcases aZm h with ⟨rfl, hn⟩ | ⟨g, cap, rfl⟩
 · have : xs = [] := List.eq_nil_of_length_eq_zero (by omega)
   subst this
   exact run_convert_bytes_nil w src e hs he 0 0 dst hd
 · refine run_convert_bytes_arg w src e hs he g 0 n cap xs hl (fun i hi => ?_) dst hd
   rw [Nat.zero_add, h.cellAt i (by omega)]
   simp [List.getD, show i < xs.length by omega]
end Go.Proofs.YtdblemolaojebaaGreatDoor.Bytes
namespace Go.Proofs.YtdblemolaojebaaGreatDoor.Strs2
open Go.RowKit
section
variable {P : Program}
theorem aYd (w : World) (t : TypeId) (s : ByteArray) (p q : Nat) (z1 z2 : Int) (h1 : z1 = p) (h2 : z2 = q) (hpq : p ≤ q) (hq : q ≤ s.size) (ht : P.underlying t = some .string) :
 (Instr.slice t (.string s) (some (.int .i64 z1)) (some (.int .i64 z2)) none).run P w = .ok (.string (s.extract p q)) w := by
 subst h1 h2
 rw [run_slice_string w t s .i64 .i64 _ _ ht (by omega) (by omega) (by omega)]
 simp
theorem aZh (w : World) (t : TypeId) (s : ByteArray) (p : Nat) (z1 : Int) (h1 : z1 = p) (hq : p ≤ s.size) (ht : P.underlying t = some .string) :
 (Instr.slice t (.string s) (some (.int .i64 z1)) none none).run P w = .ok (.string (s.extract p s.size)) w := by
 subst h1
 rw [run_slice_string_from_if w t s .i64 _ ht, if_pos (by omega)]
 simp
theorem sub_to (w : World) (t : TypeId) (s : ByteArray) (q : Nat) (z1 : Int) (h1 : z1 = q) (hq : q ≤ s.size) (ht : P.underlying t = some .string) :
 (Instr.slice t (.string s) none (some (.int .i64 z1)) none).run P w = .ok (.string (s.extract 0 q)) w := by
 subst h1
 rw [run_slice_string_to_if w t s .i64 _ ht, if_pos (by omega)]
 simp
end
theorem aZ2 {z : Int} (h0 : -1000000000 ≤ z) (h1 : z ≤ 1000000000) : IntKind.i64.wrap z = z := by
 rw [IntKind.wrap_i64]; omega
end Go.Proofs.YtdblemolaojebaaGreatDoor.Strs2
