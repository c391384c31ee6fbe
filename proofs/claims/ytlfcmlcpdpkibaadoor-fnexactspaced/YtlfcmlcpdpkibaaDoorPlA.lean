/- Plain mathematics of the first layer's characters: which numbers are characters. Nothing of the program is named here. -/
/- A text's bytes as plain numbers: a law for the walk at an index into a text. Nothing of the program is named here. -/
/- Lists of integers in memory: what a slice of int64 reads as, and how that is kept. Nothing of the program is named here. -/
/- Plain mathematics of the first layer's names: with which numbers a name may begin or go on; tables of ranges. Nothing of the program is named here. -/
/- Plain mathematics of UTF-8: the character at a place of a text, as the model reads it. Nothing of the program is named here. -/
/- Plain mathematics of UTF-8: the model's reading of the character at a place against the language's own decoding. Nothing of the program is named here. -/
/- Plain mathematics: the characters of a text, one behind the other, or the place of the first byte that is none's. Nothing of the program is named here. -/
/- Plain mathematics of names: how many bytes from a place on are a name; whether a text is one. Nothing of the program is named here. -/
/- Bytes and texts: a row of bytes turned into a text; the UTF-8 of a list of characters. Nothing of the program is named here. -/
/- A text's parts: facts for the walk at 's[i:j]' and 's[i:]'. Nothing of the program is named here. -/
import Derived.WalkKit
import Derived.WalkSmall
import Derived.Laws.OwnMore
import Derived.Laws.BytesArg
import Derived.Lib.RuneBytes
import Derived.Laws.Strings3
import Derived.Laws.BitsLemmas
namespace Go.Proofs.YtlfcmlcpdpkibaaDoor.Plain1

/-- The numbers that are characters. -/
def charB (n : Int) : Bool :=
  decide (n = 9 ∨ n = 10 ∨ n = 13 ∨ (32 ≤ n ∧ n ≤ 55295) ∨ (57344 ≤ n ∧ n ≤ 65533) ∨ (65536 ≤ n ∧ n ≤ 1114111))

theorem charB_yes {n : Int} (h : n = 9 ∨ n = 10 ∨ n = 13 ∨ (32 ≤ n ∧ n ≤ 55295) ∨ (57344 ≤ n ∧ n ≤ 65533) ∨ (65536 ≤ n ∧ n ≤ 1114111)) : charB n = true := by
  unfold charB; exact decide_eq_true h
theorem charB_no {n : Int} (h : ¬ (n = 9 ∨ n = 10 ∨ n = 13 ∨ (32 ≤ n ∧ n ≤ 55295) ∨ (57344 ≤ n ∧ n ≤ 65533) ∨ (65536 ≤ n ∧ n ≤ 1114111))) : charB n = false := by
  unfold charB; exact decide_eq_false h
theorem charB_iff (n : Int) : charB n = true ↔ (n = 9 ∨ n = 10 ∨ n = 13 ∨ (32 ≤ n ∧ n ≤ 55295) ∨ (57344 ≤ n ∧ n ≤ 65533) ∨ (65536 ≤ n ∧ n ≤ 1114111)) := by
  unfold charB; exact decide_eq_true_iff

theorem ret_bool {a b : Bool} (h : a = b) : Ending.returned (.bool a) = .returned (.bool b) := by rw [h]
theorem ret_int {k : IntKind} {a b : Int} (h : a = b) : Ending.returned (.int k a) = .returned (.int k b) := by rw [h]
end Go.Proofs.YtlfcmlcpdpkibaaDoor.Plain1

namespace Go.Proofs.YtlfcmlcpdpkibaaDoor.Strs
open Go.RowKit

def byteAt (s : ByteArray) (p : Nat) : Int := ((s.data.toList.getD p 0).toNat : Int)
theorem byteAt_bd (s : ByteArray) (p : Nat) : 0 ≤ byteAt s p ∧ byteAt s p ≤ 255 := by
  unfold byteAt
  have := (s.data.toList.getD p 0).toNat_lt
  omega
theorem byteAt_eq (s : ByteArray) (p : Nat) (h : p < s.size) : byteAt s p = ((s[p]'h).toNat : Int) := by
  unfold byteAt
  have h' : p < s.data.size := h
  rw [List.getD_eq_getElem?_getD, Array.getElem?_toList, Array.getElem?_eq_getElem h']
  rfl
theorem get_byteAt (s : ByteArray) (p : Nat) (h : p < s.size) : ((s.get! p).toNat : Int) = byteAt s p := by
  rw [byteAt_eq s p h]
  simp [ByteArray.get!, getElem!_pos, h]
  rfl

section
variable {P : Program}
theorem run_index_byte (w : World) (t : TypeId) (s : ByteArray) (p : Nat) (hp : p < s.size) (ht : P.underlying t = some .string) :
    (Instr.index t (.string s) (.int .i64 (p : Int))).run P w = .ok (.int .u8 (byteAt s p)) w := by
  rw [run_index_string (w := w) t s .i64 p ht, dif_pos (by omega), byteAt_eq s p hp]
  simp

theorem wpList_index_byte {ops : Array Oper} {rest : List Oper} {o : Oper} {a : Act} {w : World} {Q : Exit → Act → World → Prop} (hgd : o.guard = none) (t : TypeId) (x i : Operand) (ho : o.op = .index t x i)
    (s : ByteArray) (p : Nat) (q : Int) (b : Int) (hx : a.eval x = .string s) (hi : a.eval i = .int .i64 q) (hq : q = (p : Int)) (hp : p < s.size) (ht : P.underlying t = some .string) (hb : byteAt s p = b)
    (h : wpList P ops Q rest (a.put o.dst (.int .u8 b)) w) : wpList P ops Q (o :: rest) a w := by
  refine wpList_plain hgd fun K hK => ?_
  subst hq hb
  unfold Oper.wp execOp
  simp only [ho, hx, hi, Sem.run_bind, Sem.run_pure, run_index_byte w t s p hp ht, Result.andThen_ok]
  exact hK _ _ h
/-- The same at an operation that hangs on another one's answer. -/
theorem wpList_index_byte_g {ops : Array Oper} {rest : List Oper} {o : Oper} {a : Act} {w : World} {Q : Exit → Act → World → Prop} (t : TypeId) (x i : Operand) (ho : o.op = .index t x i)
    (s : ByteArray) (p : Nat) (q : Int) (b : Int) (hx : a.eval x = .string s) (hi : a.eval i = .int .i64 q) (hq : q = (p : Int)) (hp : p < s.size) (ht : P.underlying t = some .string) (hb : byteAt s p = b)
    (hw : Region.wanted o (yielded ops a.tmps) = true) (h : wpList P ops Q rest (a.put o.dst (.int .u8 b)) w) : wpList P ops Q (o :: rest) a w := by
  refine wpList_step fun K hK => ?_
  rw [if_pos hw]
  subst hq hb
  unfold Oper.wp execOp
  simp only [ho, hx, hi, Sem.run_bind, Sem.run_pure, run_index_byte w t s p hp ht, Result.andThen_ok]
  exact hK _ _ h
end
end Go.Proofs.YtlfcmlcpdpkibaaDoor.Strs

namespace Go.Proofs.YtlfcmlcpdpkibaaDoor.Lists
open Go.RowKit

/-- A slice that begins at 'a' and has as many elements as l reads as l. -/
def Ints (k : IntKind) (w : World) (a : Option Addr) (l : List Int) : Prop :=
  ∃ b off, (0 < l.length → a = some ⟨b, off, none⟩) ∧ ∀ i, i < l.length → w.cell? ⟨b, off + i, none⟩ = some (.int k (l.getD i 0))

theorem block_lt {w : World} {b o : Nat} {v : Value} (h : w.cell? ⟨b, o, none⟩ = some v) : b < w.heap.size := by
  by_cases hb : b < w.heap.size
  · exact hb
  · have : w.heap[b]? = none := by simp; omega
    simp [World.cell?, this] at h

theorem Ints.below {k : IntKind} {w w' : World} {a : Option Addr} {l : List Int} {B : Nat} (h : Ints k w a l) (hb : Below B w w') (hB : w.heap.size ≤ B) : Ints k w' a l := by
  obtain ⟨b, off, ha, hc⟩ := h
  exact ⟨b, off, ha, fun i hi => (hb.cell (p := ⟨b, off + i, none⟩) (Nat.lt_of_lt_of_le (block_lt (hc i hi)) hB)).trans (hc i hi)⟩

theorem Ints.nil (k : IntKind) (w : World) (a : Option Addr) : Ints k w a [] := ⟨0, 0, by simp, by simp⟩

theorem owns_forms {w : World} {base size n : Nat} {e : TypeId} {v : Value} {xs : List Value} (h : w.ownsRow base e size v n xs) : (v = .slice none 0 0 ∧ n = 0) ∨ ∃ g cap, v = .slice (some ⟨g, 0, none⟩) n cap := by
  rcases h.2 with h' | ⟨g, cap, _, h', _⟩
  · exact .inl h'
  · exact .inr ⟨g, cap, h'⟩

/-- A row that the call owns reads as the list it holds. -/
theorem ints_of_owns {k : IntKind} {w : World} {B : Nat} {e : TypeId} {v : Value} {n : Nat} {l : List Int} (h : w.ownsRow B e 1 v n (l.map (Value.int k))) : ∃ a cap, v = .slice a l.length cap ∧ Ints k w a l := by
  have hl : l.length = n := by have := h.1; simpa using this
  rcases owns_forms h with ⟨rfl, hn⟩ | ⟨g, cap, rfl⟩
  · have : l = [] := List.eq_nil_of_length_eq_zero (by omega)
    subst this
    exact ⟨none, 0, rfl, Ints.nil _ _ _⟩
  · refine ⟨some ⟨g, 0, none⟩, cap, by rw [hl], g, 0, fun _ => rfl, fun i hi => ?_⟩
    rw [Nat.zero_add, h.cellAt i (by omega)]
    simp [List.getD, hi]
theorem ints_at_owns {k : IntKind} {w : World} {B : Nat} {e : TypeId} {a : Option Addr} {n c : Nat} {l : List Int} (h : w.ownsRow B e 1 (.slice a n c) n (l.map (Value.int k))) : Ints k w a l := by
  obtain ⟨a', c', hv, hA⟩ := ints_of_owns h
  simp only [Value.slice.injEq] at hv
  rw [hv.1]
  exact hA
end Go.Proofs.YtlfcmlcpdpkibaaDoor.Lists

namespace Go.Proofs.YtlfcmlcpdpkibaaDoor.Plain2

def startsL : List (Int × Int) := [(58, 58), (65, 90), (95, 95), (97, 122), (192, 214), (216, 246), (248, 767), (880, 893), (895, 8191), (8204, 8205), (8304, 8591), (11264, 12271), (12289, 55295), (63744, 64975), (65008, 65533), (65536, 983039)]
def partsL : List (Int × Int) := [(45, 46), (48, 57), (183, 183), (768, 879), (8255, 8256)]
def tabCells (l : List (Int × Int)) : Array Value := (l.flatMap fun z => [Value.int .i64 z.1, .int .i64 z.2]).toArray
def startCells : Array Value := tabCells startsL
def partCells : Array Value := tabCells partsL
def loOf (l : List (Int × Int)) (k : Nat) : Int := (l.getD k (0, 0)).1
def hiOf (l : List (Int × Int)) (k : Nat) : Int := (l.getD k (0, 0)).2
/-- Some range of the first k holds n. -/
def inTo (l : List (Int × Int)) (k : Nat) (n : Int) : Bool := (l.take k).any fun z => decide (z.1 ≤ n ∧ n ≤ z.2)
theorem inTo_zero (l : List (Int × Int)) (n : Int) : inTo l 0 n = false := by simp [inTo]
theorem inTo_succ (l : List (Int × Int)) (k : Nat) (n : Int) (h : k < l.length) :
    inTo l (k + 1) n = (inTo l k n || decide (loOf l k ≤ n ∧ n ≤ hiOf l k)) := by
  unfold inTo loOf hiOf
  rw [List.take_succ_eq_append_getElem h]
  rw [List.any_append]
  simp [List.getD, h]
theorem inTo_mono {l : List (Int × Int)} {k : Nat} {n : Int} (h : inTo l k n = true) : inTo l l.length n = true := by
  unfold inTo at *
  rw [List.take_length]
  rw [List.any_eq_true] at *
  obtain ⟨x, hx, hn⟩ := h
  exact ⟨x, List.mem_of_mem_take hx, hn⟩

def startB (n : Int) : Bool := inTo startsL 16 n
def partB (n : Int) : Bool := inTo partsL 5 n || startB n

/-- The second text's own table of ranges beyond the letters below 128. -/
def modelL : List Int := [192, 214, 216, 246, 248, 767, 880, 893, 895, 8191, 8204, 8205, 8304, 8591, 11264, 12271, 12289, 55295, 63744, 64975, 65008, 65533, 65536, 983039]
def modelP : List (Int × Int) := startsL.drop 4
theorem startB_low {n : Int} (h : n < 128) : startB n = decide (n = 58 ∨ n = 95 ∨ (65 ≤ n ∧ n ≤ 90) ∨ (97 ≤ n ∧ n ≤ 122)) := by
  rw [Bool.eq_iff_iff]; simp [startB, inTo, startsL]; omega
theorem startB_high {n : Int} (h : 128 ≤ n) : startB n = inTo modelP 12 n := by
  rw [Bool.eq_iff_iff]; simp [startB, inTo, startsL, modelP]; omega
theorem partB_eq (n : Int) : partB n = (startB n || decide (n = 45 ∨ n = 46 ∨ (48 ≤ n ∧ n ≤ 57) ∨ n = 183 ∨ (768 ≤ n ∧ n ≤ 879) ∨ n = 8255 ∨ n = 8256)) := by
  unfold partB
  rw [Bool.or_comm]
  congr 1
  rw [Bool.eq_iff_iff]; simp [inTo, partsL]; omega
end Go.Proofs.YtlfcmlcpdpkibaaDoor.Plain2

namespace Go.Proofs.YtlfcmlcpdpkibaaDoor.Plain3
open Plain1 Strs

/-- k bytes that go on, taken in behind what the first byte gives. -/
def vz (s : ByteArray) (pos : Nat) (x0 : Int) : Nat → Int
  | 0 => x0
  | k + 1 => 64 * vz s pos x0 k + byteAt s (pos + (k + 1)) - 128
def goesOn (s : ByteArray) (p : Nat) : Prop := 128 ≤ byteAt s p ∧ byteAt s p < 192
def contsB (s : ByteArray) (pos n : Nat) : Bool := (List.range n).all fun k => k == 0 || (decide (128 ≤ byteAt s (pos + k)) && decide (byteAt s (pos + k) < 192))
abbrev conts (s : ByteArray) (pos n : Nat) : Prop := contsB s pos n = true
theorem conts_iff {s : ByteArray} {pos n : Nat} : conts s pos n ↔ ∀ k, k < n → 1 ≤ k → goesOn s (pos + k) := by
  unfold conts contsB goesOn
  rw [List.all_eq_true]
  constructor
  · intro h k hk h1
    have := h k (List.mem_range.2 hk)
    simp at this
    rcases this with h0 | h0
    · omega
    · exact h0
  · intro h k hk
    have hk' := List.mem_range.1 hk
    by_cases h0 : k = 0
    · simp [h0]
    · have := h k hk' (by omega)
      simp [this.1, this.2]
def fin (s : ByteArray) (pos : Nat) (x0 : Int) (n : Nat) (low : Int) : Int × Nat :=
  if pos + n ≤ s.size ∧ conts s pos n ∧ low ≤ vz s pos x0 (n - 1) ∧ charB (vz s pos x0 (n - 1)) = true then (vz s pos x0 (n - 1), n) else (0, 0)
/-- The character at a place, and how many bytes it has: 0, if there is none. -/
def runeZ (s : ByteArray) (pos : Nat) : Int × Nat :=
  if byteAt s pos < 128 then fin s pos (byteAt s pos) 1 0
  else if 192 ≤ byteAt s pos ∧ byteAt s pos < 224 then fin s pos (byteAt s pos - 192) 2 128
  else if 224 ≤ byteAt s pos ∧ byteAt s pos < 240 then fin s pos (byteAt s pos - 224) 3 2048
  else if 240 ≤ byteAt s pos ∧ byteAt s pos < 248 then fin s pos (byteAt s pos - 240) 4 65536
  else (0, 0)

theorem fin_short {s : ByteArray} {pos n : Nat} {x0 low : Int} (h : s.size < pos + n) : fin s pos x0 n low = (0, 0) := by
  unfold fin; rw [if_neg (by rintro ⟨h1, _⟩; omega)]
theorem fin_cont {s : ByteArray} {pos n k : Nat} {x0 low : Int} (h1 : 1 ≤ k) (h2 : k < n) (h : ¬ goesOn s (pos + k)) : fin s pos x0 n low = (0, 0) := by
  unfold fin; rw [if_neg (by rintro ⟨_, hc, _⟩; exact h (conts_iff.1 hc k h2 h1))]
theorem fin_low {s : ByteArray} {pos n : Nat} {x0 low : Int} (h : vz s pos x0 (n - 1) < low) : fin s pos x0 n low = (0, 0) := by
  unfold fin; rw [if_neg (by rintro ⟨_, _, h3, _⟩; omega)]
theorem fin_char {s : ByteArray} {pos n : Nat} {x0 low : Int} (h : charB (vz s pos x0 (n - 1)) = false) : fin s pos x0 n low = (0, 0) := by
  unfold fin; rw [if_neg (by rintro ⟨_, _, _, h4⟩; rw [h] at h4; cases h4)]
theorem fin_good {s : ByteArray} {pos n : Nat} {x0 low : Int} (h1 : pos + n ≤ s.size) (h2 : conts s pos n) (h3 : low ≤ vz s pos x0 (n - 1)) (h4 : charB (vz s pos x0 (n - 1)) = true) : fin s pos x0 n low = (vz s pos x0 (n - 1), n) := by
  unfold fin; rw [if_pos ⟨h1, h2, h3, h4⟩]
theorem conts_snoc {s : ByteArray} {pos j : Nat} (h : conts s pos j) (hj : goesOn s (pos + j)) : conts s pos (j + 1) := by
  refine conts_iff.2 (fun k hk h1 => ?_)
  by_cases e : k = j
  · subst e; exact hj
  · exact conts_iff.1 h k (by omega) h1
theorem conts_one (s : ByteArray) (pos : Nat) : conts s pos 1 := conts_iff.2 (fun k hk h1 => by omega)
theorem vz_step (s : ByteArray) (pos : Nat) (x0 : Int) (j : Nat) (h : 1 ≤ j) : vz s pos x0 (j + 1 - 1) = 64 * vz s pos x0 (j - 1) + byteAt s (pos + j) - 128 := by
  obtain ⟨k, rfl⟩ : ∃ k, j = k + 1 := ⟨j - 1, by omega⟩
  simp [vz]
/-- How great it may be behind j - 1 such bytes. -/
def Bd (j : Nat) (x : Int) : Prop := 0 ≤ x ∧ (j = 1 → x ≤ 127) ∧ (j = 2 → x ≤ 8191) ∧ (j = 3 → x ≤ 524287) ∧ x ≤ 33554431
theorem Bd_step {j : Nat} {x b : Int} (h : Bd j x) (h1 : 1 ≤ j) (h2 : j ≤ 3) (b0 : 128 ≤ b) (b1 : b < 192) : Bd (j + 1) (64 * x + b - 128) := by
  unfold Bd at *; omega
theorem ret_two {a b : Int × Nat} (h : a = b) : Ending.returned (.tuple #[.int .i64 a.1, .int .i64 (a.2 : Int)]) = .returned (.tuple #[.int .i64 b.1, .int .i64 (b.2 : Int)]) := by rw [h]
end Go.Proofs.YtlfcmlcpdpkibaaDoor.Plain3

namespace Go.Proofs.YtlfcmlcpdpkibaaDoor.Plain4
open Plain1 Strs Plain3

/-- The language's decoding over plain numbers: four bytes, and whether the second, third and fourth are there and go on. -/
def decP (b0 b1 b2 b3 : Nat) (c1 c2 c3 : Bool) : Nat × Nat :=
  if b0 < 0x80 then (b0, 1)
  else if b0 / 32 == 6 && c1 then
    (if (b0 % 32) * 64 + b1 % 64 ≥ 0x80 then ((b0 % 32) * 64 + b1 % 64, 2) else (Utf8.runeError, 1))
  else if b0 / 16 == 14 && c1 && c2 then
    (if (b0 % 16) * 4096 + (b1 % 64) * 64 + b2 % 64 ≥ 0x800 && Utf8.valid (((b0 % 16) * 4096 + (b1 % 64) * 64 + b2 % 64 : Nat) : Int) then ((b0 % 16) * 4096 + (b1 % 64) * 64 + b2 % 64, 3) else (Utf8.runeError, 1))
  else if b0 / 8 == 30 && c1 && c2 && c3 then
    (if (b0 % 8) * 262144 + (b1 % 64) * 4096 + (b2 % 64) * 64 + b3 % 64 ≥ 0x10000 && Utf8.valid (((b0 % 8) * 262144 + (b1 % 64) * 4096 + (b2 % 64) * 64 + b3 % 64 : Nat) : Int) then ((b0 % 8) * 262144 + (b1 % 64) * 4096 + (b2 % 64) * 64 + b3 % 64, 4) else (Utf8.runeError, 1))
  else (Utf8.runeError, 1)

theorem cont_iff (s : ByteArray) (pos k : Nat) : (decide (pos + k < s.size) && (s.get! (pos + k)).toNat / 64 == 2) = true ↔ pos + k < s.size ∧ goesOn s (pos + k) := by
  by_cases h : pos + k < s.size
  · have e := get_byteAt s (pos + k) h
    unfold goesOn
    simp [h]
    omega
  · simp [h]

theorem decode_eq (s : ByteArray) (pos : Nat) (hp : pos < s.size) : ∃ (b0 b1 b2 b3 : Nat) (c1 c2 c3 : Bool), Utf8.decode s pos = decP b0 b1 b2 b3 c1 c2 c3 ∧ (b0 : Int) = byteAt s pos ∧
    (pos + 1 < s.size → (b1 : Int) = byteAt s (pos + 1)) ∧ (pos + 2 < s.size → (b2 : Int) = byteAt s (pos + 2)) ∧ (pos + 3 < s.size → (b3 : Int) = byteAt s (pos + 3)) ∧
    (c1 = true ↔ pos + 1 < s.size ∧ goesOn s (pos + 1)) ∧ (c2 = true ↔ pos + 2 < s.size ∧ goesOn s (pos + 2)) ∧ (c3 = true ↔ pos + 3 < s.size ∧ goesOn s (pos + 3)) :=
  ⟨_, _, _, _, _, _, _, rfl, get_byteAt s pos hp, get_byteAt s (pos + 1), get_byteAt s (pos + 2), get_byteAt s (pos + 3), cont_iff s pos 1, cont_iff s pos 2, cont_iff s pos 3⟩

theorem vz1 (s : ByteArray) (pos : Nat) (a : Int) : vz s pos a 1 = 64 * a + byteAt s (pos + 1) - 128 := rfl
theorem vz2 (s : ByteArray) (pos : Nat) (a : Int) : vz s pos a 2 = 64 * (64 * a + byteAt s (pos + 1) - 128) + byteAt s (pos + 2) - 128 := rfl
theorem vz3 (s : ByteArray) (pos : Nat) (a : Int) : vz s pos a 3 = 64 * (64 * (64 * a + byteAt s (pos + 1) - 128) + byteAt s (pos + 2) - 128) + byteAt s (pos + 3) - 128 := rfl

/-- The error of the decoding. -/
def err : Nat × Nat := (65533, 1)

theorem conts2 {s : ByteArray} {pos : Nat} : conts s pos 2 ↔ goesOn s (pos + 1) :=
  ⟨fun h => conts_iff.1 h 1 (by omega) (by omega), fun h => conts_snoc (conts_one _ _) h⟩
theorem conts3 {s : ByteArray} {pos : Nat} : conts s pos 3 ↔ goesOn s (pos + 1) ∧ goesOn s (pos + 2) :=
  ⟨fun h => ⟨conts_iff.1 h 1 (by omega) (by omega), conts_iff.1 h 2 (by omega) (by omega)⟩, fun h => conts_snoc (conts_snoc (conts_one _ _) h.1) h.2⟩
theorem conts4 {s : ByteArray} {pos : Nat} : conts s pos 4 ↔ goesOn s (pos + 1) ∧ goesOn s (pos + 2) ∧ goesOn s (pos + 3) :=
  ⟨fun h => ⟨conts_iff.1 h 1 (by omega) (by omega), conts_iff.1 h 2 (by omega) (by omega), conts_iff.1 h 3 (by omega) (by omega)⟩, fun h => conts_snoc (conts_snoc (conts_snoc (conts_one _ _) h.1) h.2.1) h.2.2⟩

/-- What holds of the decoding at a place, by the class of the first byte: it gives the number that the model gives, or the error. -/
def Agree (d : Nat × Nat) (s : ByteArray) (pos : Nat) (x0 : Int) (n : Nat) (low : Int) : Prop :=
  (pos + n ≤ s.size ∧ conts s pos n ∧ low ≤ vz s pos x0 (n - 1) ∧ Utf8.valid (vz s pos x0 (n - 1)) = true ∧ (d.1 : Int) = vz s pos x0 (n - 1) ∧ d.2 = n) ∨
  (¬ (pos + n ≤ s.size ∧ conts s pos n ∧ low ≤ vz s pos x0 (n - 1) ∧ Utf8.valid (vz s pos x0 (n - 1)) = true) ∧ d = err)

theorem valid_iff (r : Int) : Utf8.valid r = true ↔ ((0 ≤ r ∧ r < 55296) ∨ (57344 ≤ r ∧ r ≤ 1114111)) := by
  unfold Utf8.valid; simp

theorem agree1 {s : ByteArray} {pos : Nat} (hp : pos < s.size) (h : byteAt s pos < 128) : Agree (Utf8.decode s pos) s pos (byteAt s pos) 1 0 := by
  obtain ⟨b0, b1, b2, b3, c1, c2, c3, e, e0, -⟩ := decode_eq s pos hp
  rw [e]
  have hb := (byteAt_bd s pos).1
  have hd : decP b0 b1 b2 b3 c1 c2 c3 = (b0, 1) := by unfold decP; rw [if_pos (by omega)]
  rw [hd]
  exact .inl ⟨by omega, conts_one _ _, hb, (valid_iff _).2 (by rw [show vz s pos (byteAt s pos) (1 - 1) = byteAt s pos from rfl]; omega), e0, rfl⟩

theorem agree2 {s : ByteArray} {pos : Nat} (hp : pos < s.size) (h0 : 192 ≤ byteAt s pos) (h1 : byteAt s pos < 224) : Agree (Utf8.decode s pos) s pos (byteAt s pos - 192) 2 128 := by
  obtain ⟨b0, b1, b2, b3, c1, c2, c3, e, e0, e1, -, -, k1, -, -⟩ := decode_eq s pos hp
  rw [e]
  unfold Agree
  simp only [show 2 - 1 = 1 from rfl, vz1, conts2, valid_iff, err]
  unfold decP
  rw [if_neg (by omega)]
  by_cases hc : c1 = true
  · obtain ⟨q1, q2⟩ := k1.1 hc
    have e1' := e1 q1
    have q3 := q2
    unfold goesOn at q3
    rw [if_pos (by rw [hc]; simp; omega)]
    by_cases hl : 128 ≤ 64 * (byteAt s pos - 192) + byteAt s (pos + 1) - 128
    · rw [if_pos (by omega)]
      exact .inl ⟨by omega, q2, hl, by omega, by simp only []; omega, rfl⟩
    · rw [if_neg (by omega)]
      exact .inr ⟨by omega, rfl⟩
  · rw [if_neg (by simp [hc]), if_neg (by simp [hc]), if_neg (by simp [hc])]
    refine .inr ⟨fun x => hc (k1.2 ⟨by omega, x.2.1⟩), rfl⟩

theorem agree3 {s : ByteArray} {pos : Nat} (hp : pos < s.size) (h0 : 224 ≤ byteAt s pos) (h1 : byteAt s pos < 240) : Agree (Utf8.decode s pos) s pos (byteAt s pos - 224) 3 2048 := by
  obtain ⟨b0, b1, b2, b3, c1, c2, c3, e, e0, e1, e2, -, k1, k2, -⟩ := decode_eq s pos hp
  rw [e]
  unfold Agree
  simp only [show 3 - 1 = 2 from rfl, vz2, conts3, valid_iff, err]
  unfold decP
  rw [if_neg (by omega), if_neg (by simp; omega)]
  by_cases hc : c1 = true ∧ c2 = true
  · obtain ⟨q1, q2⟩ := k1.1 hc.1
    obtain ⟨r1, r2⟩ := k2.1 hc.2
    have e1' := e1 q1
    have e2' := e2 r1
    have q3 := q2
    have r3 := r2
    unfold goesOn at q3 r3
    rw [if_pos (by rw [hc.1, hc.2]; simp; omega)]
    have ev : (((b0 % 16) * 4096 + (b1 % 64) * 64 + b2 % 64 : Nat) : Int) = 64 * (64 * (byteAt s pos - 224) + byteAt s (pos + 1) - 128) + byteAt s (pos + 2) - 128 := by omega
    by_cases hl : 2048 ≤ 64 * (64 * (byteAt s pos - 224) + byteAt s (pos + 1) - 128) + byteAt s (pos + 2) - 128 ∧ Utf8.valid (64 * (64 * (byteAt s pos - 224) + byteAt s (pos + 1) - 128) + byteAt s (pos + 2) - 128) = true
    · rw [if_pos (by rw [ev, hl.2]; simp; omega)]
      exact .inl ⟨by omega, ⟨q2, r2⟩, hl.1, (valid_iff _).1 hl.2, ev, rfl⟩
    · rw [if_neg (by rw [ev]; simp only [Bool.and_eq_true, decide_eq_true_eq]; rintro ⟨x, y⟩; exact hl ⟨by omega, y⟩)]
      exact .inr ⟨fun x => hl ⟨x.2.2.1, (valid_iff _).2 x.2.2.2⟩, rfl⟩
  · have hcf : (c1 && c2) = false := by
      cases c1 <;> cases c2 <;> simp_all
    rw [if_neg (by rw [Bool.and_assoc, hcf]; simp), if_neg (by simp; omega)]
    refine .inr ⟨fun x => hc ⟨k1.2 ⟨by omega, x.2.1.1⟩, k2.2 ⟨by omega, x.2.1.2⟩⟩, rfl⟩

theorem agree4 {s : ByteArray} {pos : Nat} (hp : pos < s.size) (h0 : 240 ≤ byteAt s pos) (h1 : byteAt s pos < 248) : Agree (Utf8.decode s pos) s pos (byteAt s pos - 240) 4 65536 := by
  obtain ⟨b0, b1, b2, b3, c1, c2, c3, e, e0, e1, e2, e3, k1, k2, k3⟩ := decode_eq s pos hp
  rw [e]
  unfold Agree
  simp only [show 4 - 1 = 3 from rfl, vz3, conts4, valid_iff, err]
  unfold decP
  rw [if_neg (by omega), if_neg (by simp; omega), if_neg (by simp; omega)]
  by_cases hc : c1 = true ∧ c2 = true ∧ c3 = true
  · obtain ⟨q1, q2⟩ := k1.1 hc.1
    obtain ⟨r1, r2⟩ := k2.1 hc.2.1
    obtain ⟨t1, t2⟩ := k3.1 hc.2.2
    have e1' := e1 q1
    have e2' := e2 r1
    have e3' := e3 t1
    have q3 := q2
    have r3 := r2
    have t3 := t2
    unfold goesOn at q3 r3 t3
    rw [if_pos (by rw [hc.1, hc.2.1, hc.2.2]; simp; omega)]
    have ev : (((b0 % 8) * 262144 + (b1 % 64) * 4096 + (b2 % 64) * 64 + b3 % 64 : Nat) : Int) = 64 * (64 * (64 * (byteAt s pos - 240) + byteAt s (pos + 1) - 128) + byteAt s (pos + 2) - 128) + byteAt s (pos + 3) - 128 := by omega
    by_cases hl : 65536 ≤ 64 * (64 * (64 * (byteAt s pos - 240) + byteAt s (pos + 1) - 128) + byteAt s (pos + 2) - 128) + byteAt s (pos + 3) - 128 ∧ Utf8.valid (64 * (64 * (64 * (byteAt s pos - 240) + byteAt s (pos + 1) - 128) + byteAt s (pos + 2) - 128) + byteAt s (pos + 3) - 128) = true
    · rw [if_pos (by rw [ev, hl.2]; simp; omega)]
      exact .inl ⟨by omega, ⟨q2, r2, t2⟩, hl.1, (valid_iff _).1 hl.2, ev, rfl⟩
    · rw [if_neg (by rw [ev]; simp only [Bool.and_eq_true, decide_eq_true_eq]; rintro ⟨x, y⟩; exact hl ⟨by omega, y⟩)]
      exact .inr ⟨fun x => hl ⟨x.2.2.1, (valid_iff _).2 x.2.2.2⟩, rfl⟩
  · have hcf : (c1 && c2 && c3) = false := by
      cases c1 <;> cases c2 <;> cases c3 <;> simp_all
    rw [if_neg (by rw [Bool.and_assoc, Bool.and_assoc, ← Bool.and_assoc c1, hcf]; simp)]
    refine .inr ⟨fun x => hc ⟨k1.2 ⟨by omega, x.2.1.1⟩, k2.2 ⟨by omega, x.2.1.2.1⟩, k3.2 ⟨by omega, x.2.1.2.2⟩⟩, rfl⟩

theorem agree_none {s : ByteArray} {pos : Nat} (hp : pos < s.size) (h : (128 ≤ byteAt s pos ∧ byteAt s pos < 192) ∨ 248 ≤ byteAt s pos) : Utf8.decode s pos = err := by
  obtain ⟨b0, b1, b2, b3, c1, c2, c3, e, e0, -⟩ := decode_eq s pos hp
  rw [e]
  unfold decP err
  rw [if_neg (by omega), if_neg (by simp; omega), if_neg (by simp; omega), if_neg (by simp; omega)]
  rfl

theorem char_valid {r : Int} (h : charB r = true) : Utf8.valid r = true := by
  rw [charB_iff] at h; rw [valid_iff]; omega

/-- By a class: the model's answer against the decoding. -/
theorem fin_agree {d : Nat × Nat} {s : ByteArray} {pos n : Nat} {x0 low : Int} (hn : 1 ≤ n) (h : Agree d s pos x0 n low) :
    ((fin s pos x0 n low).2 ≠ 0 ∧ (d.1 : Int) = (fin s pos x0 n low).1 ∧ d.2 = (fin s pos x0 n low).2 ∧ charB (d.1 : Int) = true) ∨ ((fin s pos x0 n low) = (0, 0) ∧ (d = err ∨ charB (d.1 : Int) = false)) := by
  rcases h with ⟨a, b, c, v, e1, e2⟩ | ⟨hno, he⟩
  · by_cases hch : charB (vz s pos x0 (n - 1)) = true
    · rw [fin_good a b c hch]
      exact .inl ⟨by simp only []; omega, e1, e2, by rw [e1]; exact hch⟩
    · have hch' : charB (vz s pos x0 (n - 1)) = false := by simpa using hch
      rw [fin_char hch']
      exact .inr ⟨rfl, .inr (by rw [e1]; exact hch')⟩
  · refine .inr ⟨?_, .inl he⟩
    unfold fin
    rw [if_neg]
    rintro ⟨a, b, c, v⟩
    exact hno ⟨a, b, c, char_valid v⟩

theorem rune_agree {s : ByteArray} {pos : Nat} (hp : pos < s.size) :
    ((runeZ s pos).2 ≠ 0 ∧ ((Utf8.decode s pos).1 : Int) = (runeZ s pos).1 ∧ (Utf8.decode s pos).2 = (runeZ s pos).2 ∧ charB ((Utf8.decode s pos).1 : Int) = true) ∨ (runeZ s pos = (0, 0) ∧ (Utf8.decode s pos = err ∨ charB ((Utf8.decode s pos).1 : Int) = false)) := by
  unfold runeZ
  by_cases c1 : byteAt s pos < 128
  · rw [if_pos c1]; exact fin_agree (by omega) (agree1 hp c1)
  rw [if_neg c1]
  by_cases c2 : 192 ≤ byteAt s pos ∧ byteAt s pos < 224
  · rw [if_pos c2]; exact fin_agree (by omega) (agree2 hp c2.1 c2.2)
  rw [if_neg c2]
  by_cases c3 : 224 ≤ byteAt s pos ∧ byteAt s pos < 240
  · rw [if_pos c3]; exact fin_agree (by omega) (agree3 hp c3.1 c3.2)
  rw [if_neg c3]
  by_cases c4 : 240 ≤ byteAt s pos ∧ byteAt s pos < 248
  · rw [if_pos c4]; exact fin_agree (by omega) (agree4 hp c4.1 c4.2)
  rw [if_neg c4]
  exact .inr ⟨rfl, .inl (agree_none hp (by omega))⟩

/-- The three bytes of U+FFFD stand there. -/
def fffd (s : ByteArray) (pos : Nat) : Prop := pos + 3 ≤ s.size ∧ byteAt s pos = 239 ∧ byteAt s (pos + 1) = 191 ∧ byteAt s (pos + 2) = 189
theorem rune_fffd {s : ByteArray} {pos : Nat} (h : fffd s pos) : runeZ s pos = (65533, 3) := by
  obtain ⟨a, b0, b1, b2⟩ := h
  unfold runeZ
  rw [b0, if_neg (by omega), if_neg (by omega), if_pos (by omega)]
  have e : vz s pos (239 - 224) 2 = 65533 := by rw [vz2, b1, b2]; rfl
  rw [fin_good a (conts3.2 ⟨by unfold goesOn; omega, by unfold goesOn; omega⟩) (by rw [show 3 - 1 = 2 from rfl, e]; omega) (by rw [show 3 - 1 = 2 from rfl, e]; rfl)]
  rw [show 3 - 1 = 2 from rfl, e]
theorem fffd_of_rune {s : ByteArray} {pos : Nat} (h : (runeZ s pos).2 ≠ 0) (hr : (runeZ s pos).1 = 65533) : fffd s pos := by
  have hb := byteAt_bd s pos
  unfold runeZ at h hr
  by_cases c1 : byteAt s pos < 128
  · rw [if_pos c1] at h hr
    unfold fin at h hr
    split at h
    · rename_i hh; rw [if_pos hh, show vz s pos (byteAt s pos) (1 - 1) = byteAt s pos from rfl] at hr; simp only [] at hr; omega
    · simp at h
  rw [if_neg c1] at h hr
  by_cases c2 : 192 ≤ byteAt s pos ∧ byteAt s pos < 224
  · rw [if_pos c2] at h hr
    unfold fin at h hr
    split at h
    · rename_i hh; rw [if_pos hh] at hr
      have g := conts2.1 hh.2.1
      unfold goesOn at g
      simp only [show 2 - 1 = 1 from rfl, vz1] at hr
      omega
    · simp at h
  rw [if_neg c2] at h hr
  by_cases c3 : 224 ≤ byteAt s pos ∧ byteAt s pos < 240
  · rw [if_pos c3] at h hr
    unfold fin at h hr
    split at h
    · rename_i hh; rw [if_pos hh] at hr
      have g := conts3.1 hh.2.1
      unfold goesOn at g
      simp only [show 3 - 1 = 2 from rfl, vz2] at hr
      exact ⟨hh.1, by omega, by omega, by omega⟩
    · simp at h
  rw [if_neg c3] at h hr
  by_cases c4 : 240 ≤ byteAt s pos ∧ byteAt s pos < 248
  · rw [if_pos c4] at h hr
    unfold fin at h hr
    split at h
    · rename_i hh; rw [if_pos hh] at hr
      have := hh.2.2.1
      simp only [] at hr
      omega
    · simp at h
  rw [if_neg c4] at h
  simp at h
end Go.Proofs.YtlfcmlcpdpkibaaDoor.Plain4

namespace Go.Proofs.YtlfcmlcpdpkibaaDoor.Plain5
open Plain1 Strs Plain3 Plain4

def scan (s : ByteArray) : Nat → Nat → List Int → List Int × Int
  | 0, _, acc => (acc, -1)
  | f + 1, i, acc => if i < s.size then (if (runeZ s i).2 = 0 then ([], (i : Int)) else scan s f (i + (runeZ s i).2) (acc ++ [(runeZ s i).1])) else (acc, -1)
def scanAll (s : ByteArray) : List Int × Int := scan s (s.size + 1) 0 []

theorem scan_end {s : ByteArray} {f i : Nat} {acc : List Int} (h : s.size ≤ i) : scan s f i acc = (acc, -1) := by
  cases f with
  | zero => rfl
  | succ f => unfold scan; rw [if_neg (by omega)]
theorem scan_bad {s : ByteArray} {f i : Nat} {acc : List Int} (hi : i < s.size) (h : (runeZ s i).2 = 0) : scan s (f + 1) i acc = ([], (i : Int)) := by
  unfold scan; rw [if_pos hi, if_pos h]
theorem scan_good {s : ByteArray} {f i : Nat} {acc : List Int} (hi : i < s.size) (h : (runeZ s i).2 ≠ 0) : scan s (f + 1) i acc = scan s f (i + (runeZ s i).2) (acc ++ [(runeZ s i).1]) := by
  conv => lhs; unfold scan
  rw [if_pos hi, if_neg h]

theorem fin_le {s : ByteArray} {pos n : Nat} {x0 low : Int} (h : (fin s pos x0 n low).2 ≠ 0) : pos + (fin s pos x0 n low).2 ≤ s.size := by
  unfold fin at h ⊢
  split at h
  · rename_i hh; rw [if_pos hh]; exact hh.1
  · simp at h
theorem rune_le {s : ByteArray} {pos : Nat} (h : (runeZ s pos).2 ≠ 0) : pos + (runeZ s pos).2 ≤ s.size := by
  unfold runeZ at h ⊢
  split at h
  · rename_i c; rw [if_pos c]; exact fin_le h
  rename_i c1; rw [if_neg c1]
  split at h
  · rename_i c; rw [if_pos c]; exact fin_le h
  rename_i c2; rw [if_neg c2]
  split at h
  · rename_i c; rw [if_pos c]; exact fin_le h
  rename_i c3; rw [if_neg c3]
  split at h
  · rename_i c; rw [if_pos c]; exact fin_le h
  · simp at h

/-- What Runes answers: the list, the place, the code. -/
def rList (s : ByteArray) : List Int := if 4000 < s.size then [] else (scanAll s).1
def rAt (s : ByteArray) : Int := if 4000 < s.size then 0 else if 0 ≤ (scanAll s).2 then (scanAll s).2 else 0
def rCode (s : ByteArray) : Int := if 4000 < s.size then 2 else if 0 ≤ (scanAll s).2 then 3 else 0
theorem scan_list {s : ByteArray} : ∀ (f i : Nat) (acc : List Int), 0 ≤ (scan s f i acc).2 → (scan s f i acc).1 = []
  | 0, i, acc, h => by simp [scan] at h
  | f + 1, i, acc, h => by
    by_cases hi : i < s.size
    · by_cases hb : (runeZ s i).2 = 0
      · rw [scan_bad hi hb]
      · rw [scan_good hi hb] at h ⊢; exact scan_list f _ _ h
    · rw [scan_end (by omega)] at h; simp at h
theorem scan_at {s : ByteArray} : ∀ (f i : Nat) (acc : List Int), -1 ≤ (scan s f i acc).2 ∧ (scan s f i acc).2 < s.size + 1
  | 0, i, acc => by simp [scan]; omega
  | f + 1, i, acc => by
    by_cases hi : i < s.size
    · by_cases hb : (runeZ s i).2 = 0
      · rw [scan_bad hi hb]; simp only []; omega
      · rw [scan_good hi hb]; exact scan_at f _ _
    · rw [scan_end (by omega)]; simp only []; omega
theorem scan_len {s : ByteArray} : ∀ (f i : Nat) (acc : List Int), i ≤ s.size → (scan s f i acc).1.length + i ≤ acc.length + s.size
  | 0, i, acc, h => by simp [scan]; omega
  | f + 1, i, acc, h => by
    by_cases hi : i < s.size
    · by_cases hb : (runeZ s i).2 = 0
      · rw [scan_bad hi hb]; simp; omega
      · rw [scan_good hi hb]
        have := rune_le hb
        have := scan_len f (i + (runeZ s i).2) (acc ++ [(runeZ s i).1]) this
        simp at this
        omega
    · rw [scan_end (by omega)]; simp only []; omega
theorem rList_len (s : ByteArray) : (rList s).length ≤ 4000 := by
  unfold rList
  split
  · simp
  · have := scan_len (s := s) (s.size + 1) 0 [] (Nat.zero_le _)
    simp at this
    unfold scanAll
    omega
end Go.Proofs.YtlfcmlcpdpkibaaDoor.Plain5

namespace Go.Proofs.YtlfcmlcpdpkibaaDoor.Plain6
open Plain1 Plain2 Strs Plain3 Plain4 Plain5

abbrev stops (s : ByteArray) (p : Nat) (n : Nat) : Prop := (runeZ s (p + n)).2 = 0 ∨ (n = 0 ∧ startB (runeZ s (p + n)).1 = false) ∨ partB (runeZ s (p + n)).1 = false
def nameGo (s : ByteArray) (p : Nat) : Nat → Nat → Nat
  | 0, n => n
  | f + 1, n => if p + n < s.size then (if stops s p n then n else nameGo s p f (n + (runeZ s (p + n)).2)) else n
/-- How many bytes of a text from a place on are a name. -/
def nameZ (s : ByteArray) (p : Nat) : Nat := nameGo s p (s.size + 1) 0

theorem nameGo_end {s : ByteArray} {p f n : Nat} (h : s.size ≤ p + n) : nameGo s p f n = n := by
  cases f with
  | zero => rfl
  | succ f => unfold nameGo; rw [if_neg (by omega)]
theorem nameGo_stop {s : ByteArray} {p f n : Nat} (h : p + n < s.size) (hs : stops s p n) : nameGo s p (f + 1) n = n := by
  unfold nameGo; rw [if_pos h, if_pos hs]
theorem nameGo_on {s : ByteArray} {p f n : Nat} (h : p + n < s.size) (hs : ¬ stops s p n) : nameGo s p (f + 1) n = nameGo s p f (n + (runeZ s (p + n)).2) := by
  conv => lhs; unfold nameGo
  rw [if_pos h, if_neg hs]

/-- The characters from a place on, if all are. -/
def scanR (s : ByteArray) : Nat → Nat → Option (List Int)
  | 0, _ => some []
  | f + 1, i => if i < s.size then (if (runeZ s i).2 = 0 then none else (scanR s f (i + (runeZ s i).2)).map ((runeZ s i).1 :: ·)) else some []
theorem scan_R {s : ByteArray} : ∀ (f i : Nat) (acc : List Int), (∃ l, scanR s f i = some l ∧ scan s f i acc = (acc ++ l, -1)) ∨ (scanR s f i = none ∧ 0 ≤ (scan s f i acc).2)
  | 0, i, acc => .inl ⟨[], rfl, by simp [scan]⟩
  | f + 1, i, acc => by
    by_cases hi : i < s.size
    · by_cases hb : (runeZ s i).2 = 0
      · right
        rw [scan_bad hi hb]
        refine ⟨?_, by simp only []; omega⟩
        unfold scanR; rw [if_pos hi, if_pos hb]
      · rw [scan_good hi hb]
        have hR : scanR s (f + 1) i = (scanR s f (i + (runeZ s i).2)).map ((runeZ s i).1 :: ·) := by
          conv => lhs; unfold scanR
          rw [if_pos hi, if_neg hb]
        rw [hR]
        rcases scan_R f (i + (runeZ s i).2) (acc ++ [(runeZ s i).1]) with ⟨l, h1, h2⟩ | ⟨h1, h2⟩
        · left; rw [h1, h2]; exact ⟨_, rfl, by simp⟩
        · right; rw [h1]; exact ⟨rfl, h2⟩
    · left
      rw [scan_end (by omega)]
      refine ⟨[], ?_, by simp⟩
      unfold scanR; rw [if_neg hi]

/-- A list that a name is made of, from its byte n on. -/
def nameL (n : Nat) (l : List Int) : Bool := l.all partB && (n != 0 || startB (l.headD 0))
theorem start_part {c : Int} (h : startB c = true) : partB c = true := by unfold partB; rw [h]; simp

theorem name_R {s : ByteArray} (h1 : 1 ≤ s.size) : ∀ (f n : Nat), n ≤ s.size → s.size < n + f → (nameGo s 0 f n = s.size ↔ ∃ l, scanR s f n = some l ∧ nameL n l = true)
  | 0, n, hn, hf => by omega
  | f + 1, n, hn, hf => by
    by_cases hi : n < s.size
    · have hi' : 0 + n < s.size := by omega
      by_cases hb : (runeZ s n).2 = 0
      · rw [nameGo_stop hi' (by unfold stops; rw [Nat.zero_add]; exact .inl hb)]
        have hR : scanR s (f + 1) n = none := by unfold scanR; rw [if_pos hi, if_pos hb]
        rw [hR]
        constructor
        · intro h; omega
        · rintro ⟨l, h, _⟩; cases h
      · have hR : scanR s (f + 1) n = (scanR s f (n + (runeZ s n).2)).map ((runeZ s n).1 :: ·) := by
          conv => lhs; unfold scanR
          rw [if_pos hi, if_neg hb]
        have hle := rune_le hb
        by_cases hs : stops s 0 n
        · rw [nameGo_stop hi' hs, hR]
          constructor
          · intro h; omega
          · rintro ⟨l, h, hl⟩
            exfalso
            unfold stops at hs
            rw [Nat.zero_add] at hs
            cases hr : scanR s f (n + (runeZ s n).2) with
            | none => rw [hr] at h; cases h
            | some l' =>
              rw [hr] at h
              simp at h
              subst h
              simp [nameL] at hl
              rcases hs with hs | ⟨h0, hs⟩ | hs
              · exact hb hs
              · rcases hl.2 with h | h
                · exact h h0
                · rw [hs] at h; cases h
              · rw [hl.1.1] at hs; cases hs
        · rw [nameGo_on hi' hs, hR, Nat.zero_add]
          rw [name_R h1 f (n + (runeZ s n).2) hle (by omega)]
          unfold stops at hs
          rw [Nat.zero_add] at hs
          have hp : partB (runeZ s n).1 = true := by
            cases h : partB (runeZ s n).1 with
            | true => rfl
            | false => exact absurd (.inr (.inr h)) hs
          constructor
          · rintro ⟨l, h, hl⟩
            rw [h]
            refine ⟨_, rfl, ?_⟩
            simp [nameL] at hl ⊢
            refine ⟨⟨hp, hl.1⟩, ?_⟩
            by_cases h0 : n = 0
            · right
              cases h : startB (runeZ s n).1 with
              | true => rfl
              | false => exact absurd (.inr (.inl ⟨h0, h⟩)) hs
            · exact .inl h0
          · rintro ⟨l, h, hl⟩
            cases hr : scanR s f (n + (runeZ s n).2) with
            | none => rw [hr] at h; cases h
            | some l' =>
              rw [hr] at h
              simp at h
              subst h
              refine ⟨l', rfl, ?_⟩
              simp [nameL] at hl ⊢
              exact ⟨hl.1.2, .inl (by omega)⟩
    · rw [nameGo_end (by omega)]
      have hR : scanR s (f + 1) n = some [] := by unfold scanR; rw [if_neg hi]
      rw [hR]
      constructor
      · intro h
        refine ⟨[], rfl, ?_⟩
        simp [nameL]
        omega
      · intro _; omega

/-- Is a text a name? -/
def nameB (s : ByteArray) : Bool := decide (1 ≤ s.size ∧ s.size ≤ 60) && decide ((scanAll s).2 < 0) && nameL 0 (scanAll s).1
theorem nameB_spec {s : ByteArray} (h1 : 1 ≤ s.size) (h2 : s.size ≤ 60) : nameB s = decide (nameZ s 0 = s.size) := by
  apply Bool.eq_iff_iff.2
  simp only [nameB, Bool.and_eq_true, decide_eq_true_eq]
  unfold nameZ
  rw [name_R h1 (s.size + 1) 0 (by omega) (by omega)]
  have hR := scan_R (s := s) (s.size + 1) 0 []
  unfold scanAll
  rcases hR with ⟨l, e1, e2⟩ | ⟨e1, e2⟩
  · rw [e1, e2]
    simp
    omega
  · rw [e1]
    constructor
    · rintro ⟨⟨_, h⟩, _⟩; omega
    · rintro ⟨l, h, _⟩; cases h
theorem nameB_empty {s : ByteArray} (h : s.size < 1) : nameB s = false := by unfold nameB; rw [decide_eq_false (by omega)]; rfl
theorem nameB_long {s : ByteArray} (h : 60 < s.size) : nameB s = false := by unfold nameB; rw [decide_eq_false (by omega)]; rfl
/-- A text that has bytes, all of them characters', has a character. -/
theorem scan_some {s : ByteArray} (h1 : 1 ≤ s.size) (h : (scanAll s).2 < 0) : 1 ≤ (scanAll s).1.length := by
  unfold scanAll at h ⊢
  have hi : 0 < s.size := by omega
  by_cases hb : (runeZ s 0).2 = 0
  · rw [scan_bad hi hb] at h; simp at h
  · rw [scan_good hi hb] at h ⊢
    rcases scan_R (s := s) s.size (0 + (runeZ s 0).2) ([] ++ [(runeZ s 0).1]) with ⟨l, _, e2⟩ | ⟨_, e2⟩
    · rw [e2]; simp
    · omega
end Go.Proofs.YtlfcmlcpdpkibaaDoor.Plain6

namespace Go.Proofs.YtlfcmlcpdpkibaaDoor.Bytes
open Go.RowKit Plain1 Lists Go.Lib

def encAll (l : List Int) : List Int := l.flatMap encodeRuneZ
/-- What Utf answers, byte by byte. -/
def utfZ (l : List Int) : List Int := if l.length ≤ 400 ∧ l.all charB = true then encAll l else []

theorem encAll_snoc (l : List Int) (c : Int) : encAll (l ++ [c]) = encAll l ++ encodeRuneZ c := by simp [encAll]
theorem encodeRuneZ_len (c : Int) : 1 ≤ (encodeRuneZ c).length ∧ (encodeRuneZ c).length ≤ 4 := by
  unfold encodeRuneZ; split <;> (try split) <;> (try split) <;> (try split) <;> simp
theorem encAll_len (l : List Int) : (encAll l).length ≤ 4 * l.length := by
  induction l with
  | nil => simp [encAll]
  | cons c l ih =>
    have := (encodeRuneZ_len c).2
    simp [encAll] at ih ⊢
    omega
theorem take_snoc_getD (l : List Int) (k : Nat) (h : k < l.length) : l.take (k + 1) = l.take k ++ [l.getD k 0] := by
  rw [List.take_succ_eq_append_getElem h]; simp [List.getD, h]
theorem all_snoc {l : List Int} {k : Nat} (h : k < l.length) (ha : (l.take k).all charB = true) (hc : charB (l.getD k 0) = true) : (l.take (k + 1)).all charB = true := by
  rw [take_snoc_getD l k h, List.all_append, ha]; simp only [List.all_cons, List.all_nil, hc]; rfl
theorem utfZ_long {l : List Int} (h : 400 < l.length) : utfZ l = [] := by unfold utfZ; rw [if_neg (by omega)]
theorem utfZ_bad {l : List Int} {k : Nat} (h : k < l.length) (hc : charB (l.getD k 0) = false) : utfZ l = [] := by
  unfold utfZ
  rw [if_neg]
  rintro ⟨_, ha⟩
  rw [List.all_eq_true] at ha
  have := ha l[k] (List.getElem_mem h)
  simp [List.getD, h] at hc
  rw [hc] at this
  cases this
theorem utfZ_good {l : List Int} (h : l.length ≤ 400) (ha : l.all charB = true) : utfZ l = encAll l := by unfold utfZ; rw [if_pos ⟨h, ha⟩]

theorem conv_own {P : Program} {w : World} {B : Nat} {e src dst : TypeId} {v : Value} {n : Nat} {xs : List Int} (hs : P.underlying src = some (.slice e)) (he : P.underlying e = some (.int .u8)) (hd : P.underlying dst = some .string)
    (h : w.ownsRow B e 1 v n (xs.map (Value.int .u8))) : (convert src dst v).run P w = .ok (.string (strOfNums xs)) w := by
  have hl : xs.length = n := by have := h.1; simpa using this
  rcases owns_forms h with ⟨rfl, hn⟩ | ⟨g, cap, rfl⟩
  · have : xs = [] := List.eq_nil_of_length_eq_zero (by omega)
    subst this
    exact run_convert_bytes_nil w src e hs he 0 0 dst hd
  · refine run_convert_bytes_arg w src e hs he g 0 n cap xs hl (fun i hi => ?_) dst hd
    rw [Nat.zero_add, h.cellAt i (by omega)]
    simp [List.getD, show i < xs.length by omega]

theorem encBytes (r : Int) : runeCells r = (encodeRuneZ r).map (Value.int .u8) := rfl
theorem ret_str {a b : List Int} (h : a = b) : Ending.returned (.string (strOfNums a)) = .returned (.string (strOfNums b)) := by rw [h]
theorem str_nil : strOfNums [] = ByteArray.empty := rfl
end Go.Proofs.YtlfcmlcpdpkibaaDoor.Bytes

namespace Go.Proofs.YtlfcmlcpdpkibaaDoor.Strs2
open Go.RowKit Strs

section
variable {P : Program}
theorem sub_text (w : World) (t : TypeId) (s : ByteArray) (p q : Nat) (z1 z2 : Int) (h1 : z1 = p) (h2 : z2 = q) (hpq : p ≤ q) (hq : q ≤ s.size) (ht : P.underlying t = some .string) :
    (Instr.slice t (.string s) (some (.int .i64 z1)) (some (.int .i64 z2)) none).run P w = .ok (.string (s.extract p q)) w := by
  subst h1 h2
  rw [run_slice_string w t s .i64 .i64 _ _ ht (by omega) (by omega) (by omega)]
  simp
theorem sub_from (w : World) (t : TypeId) (s : ByteArray) (p : Nat) (z1 : Int) (h1 : z1 = p) (hq : p ≤ s.size) (ht : P.underlying t = some .string) :
    (Instr.slice t (.string s) (some (.int .i64 z1)) none none).run P w = .ok (.string (s.extract p s.size)) w := by
  subst h1
  rw [run_slice_string_from_if w t s .i64 _ ht, if_pos (by omega)]
  simp
theorem sub_to (w : World) (t : TypeId) (s : ByteArray) (q : Nat) (z1 : Int) (h1 : z1 = q) (hq : q ≤ s.size) (ht : P.underlying t = some .string) :
    (Instr.slice t (.string s) none (some (.int .i64 z1)) none).run P w = .ok (.string (s.extract 0 q)) w := by
  subst h1
  rw [run_slice_string_to_if w t s .i64 _ ht, if_pos (by omega)]
  simp
end
theorem wrapSm {z : Int} (h0 : -1000000000 ≤ z) (h1 : z ≤ 1000000000) : IntKind.i64.wrap z = z := by
  rw [IntKind.wrap_i64]; omega
end Go.Proofs.YtlfcmlcpdpkibaaDoor.Strs2
