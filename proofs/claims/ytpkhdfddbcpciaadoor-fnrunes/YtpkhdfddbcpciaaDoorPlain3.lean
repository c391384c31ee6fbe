/- Plain mathematics of UTF-8: the character at a place of a text, as the model reads it. Nothing of the program is named here. -/
import Derived.Test.YtpkhdfddbcpciaaDoorPlain1
import Derived.Test.YtpkhdfddbcpciaaDoorStrs
namespace Go.Proofs.YtpkhdfddbcpciaaDoor.Plain3
open Plain1 Strs

/-- k bytes that go on, taken in behind what the first byte gives. -/
def vz (s : ByteArray) (pos : Nat) (x0 : Int) : Nat → Int
  | 0 => x0
  | k + 1 => 64 * vz s pos x0 k + byteAt s (pos + (k + 1)) - 128
def goesOn (s : ByteArray) (p : Nat) : Prop := 128 ≤ byteAt s p ∧ byteAt s p < 192
def contsB (s : ByteArray) (pos n : Nat) : Bool := (List.range n).all fun k => k == 0 || (decide (128 ≤ byteAt s (pos + k)) && decide (byteAt s (pos + k) < 192))
abbrev conts (s : ByteArray) (pos n : Nat) : Prop := contsB s pos n = true
theorem conts_iff {s : ByteArray} {pos n : Nat} : conts s pos n ↔ ∀ k, k < n → 1 ≤ k → goesOn s (pos + k) := by
  unfold conts contsB goesOn
  rw [List.all_eq_true]
  constructor
  · intro h k hk h1
    have := h k (List.mem_range.2 hk)
    simp at this
    rcases this with h0 | h0
    · omega
    · exact h0
  · intro h k hk
    have hk' := List.mem_range.1 hk
    by_cases h0 : k = 0
    · simp [h0]
    · have := h k hk' (by omega)
      simp [this.1, this.2]
def fin (s : ByteArray) (pos : Nat) (x0 : Int) (n : Nat) (low : Int) : Int × Nat :=
  if pos + n ≤ s.size ∧ conts s pos n ∧ low ≤ vz s pos x0 (n - 1) ∧ charB (vz s pos x0 (n - 1)) = true then (vz s pos x0 (n - 1), n) else (0, 0)
/-- The character at a place, and how many bytes it has: 0, if there is none. -/
def runeZ (s : ByteArray) (pos : Nat) : Int × Nat :=
  if byteAt s pos < 128 then fin s pos (byteAt s pos) 1 0
  else if 192 ≤ byteAt s pos ∧ byteAt s pos < 224 then fin s pos (byteAt s pos - 192) 2 128
  else if 224 ≤ byteAt s pos ∧ byteAt s pos < 240 then fin s pos (byteAt s pos - 224) 3 2048
  else if 240 ≤ byteAt s pos ∧ byteAt s pos < 248 then fin s pos (byteAt s pos - 240) 4 65536
  else (0, 0)

theorem fin_short {s : ByteArray} {pos n : Nat} {x0 low : Int} (h : s.size < pos + n) : fin s pos x0 n low = (0, 0) := by
  unfold fin; rw [if_neg (by rintro ⟨h1, _⟩; omega)]
theorem fin_cont {s : ByteArray} {pos n k : Nat} {x0 low : Int} (h1 : 1 ≤ k) (h2 : k < n) (h : ¬ goesOn s (pos + k)) : fin s pos x0 n low = (0, 0) := by
  unfold fin; rw [if_neg (by rintro ⟨_, hc, _⟩; exact h (conts_iff.1 hc k h2 h1))]
theorem fin_low {s : ByteArray} {pos n : Nat} {x0 low : Int} (h : vz s pos x0 (n - 1) < low) : fin s pos x0 n low = (0, 0) := by
  unfold fin; rw [if_neg (by rintro ⟨_, _, h3, _⟩; omega)]
theorem fin_char {s : ByteArray} {pos n : Nat} {x0 low : Int} (h : charB (vz s pos x0 (n - 1)) = false) : fin s pos x0 n low = (0, 0) := by
  unfold fin; rw [if_neg (by rintro ⟨_, _, _, h4⟩; rw [h] at h4; cases h4)]
theorem fin_good {s : ByteArray} {pos n : Nat} {x0 low : Int} (h1 : pos + n ≤ s.size) (h2 : conts s pos n) (h3 : low ≤ vz s pos x0 (n - 1)) (h4 : charB (vz s pos x0 (n - 1)) = true) : fin s pos x0 n low = (vz s pos x0 (n - 1), n) := by
  unfold fin; rw [if_pos ⟨h1, h2, h3, h4⟩]
theorem conts_snoc {s : ByteArray} {pos j : Nat} (h : conts s pos j) (hj : goesOn s (pos + j)) : conts s pos (j + 1) := by
  refine conts_iff.2 (fun k hk h1 => ?_)
  by_cases e : k = j
  · subst e; exact hj
  · exact conts_iff.1 h k (by omega) h1
theorem conts_one (s : ByteArray) (pos : Nat) : conts s pos 1 := conts_iff.2 (fun k hk h1 => by omega)
theorem vz_step (s : ByteArray) (pos : Nat) (x0 : Int) (j : Nat) (h : 1 ≤ j) : vz s pos x0 (j + 1 - 1) = 64 * vz s pos x0 (j - 1) + byteAt s (pos + j) - 128 := by
  obtain ⟨k, rfl⟩ : ∃ k, j = k + 1 := ⟨j - 1, by omega⟩
  simp [vz]
/-- How great it may be behind j - 1 such bytes. -/
def Bd (j : Nat) (x : Int) : Prop := 0 ≤ x ∧ (j = 1 → x ≤ 127) ∧ (j = 2 → x ≤ 8191) ∧ (j = 3 → x ≤ 524287) ∧ x ≤ 33554431
theorem Bd_step {j : Nat} {x b : Int} (h : Bd j x) (h1 : 1 ≤ j) (h2 : j ≤ 3) (b0 : 128 ≤ b) (b1 : b < 192) : Bd (j + 1) (64 * x + b - 128) := by
  unfold Bd at *; omega
theorem ret_two {a b : Int × Nat} (h : a = b) : Ending.returned (.tuple #[.int .i64 a.1, .int .i64 (a.2 : Int)]) = .returned (.tuple #[.int .i64 b.1, .int .i64 (b.2 : Int)]) := by rw [h]
end Go.Proofs.YtpkhdfddbcpciaaDoor.Plain3
