/- Plain mathematics of the first layer's names: with which numbers a name may begin or go on; tables of ranges. Nothing of the program is named here. -/
import Derived.WalkKit
namespace Go.Proofs.YtpkhdfddbcpciaaDoor.Plain2

def startsL : List (Int × Int) := [(58, 58), (65, 90), (95, 95), (97, 122), (192, 214), (216, 246), (248, 767), (880, 893), (895, 8191), (8204, 8205), (8304, 8591), (11264, 12271), (12289, 55295), (63744, 64975), (65008, 65533), (65536, 983039)]
def partsL : List (Int × Int) := [(45, 46), (48, 57), (183, 183), (768, 879), (8255, 8256)]
def tabCells (l : List (Int × Int)) : Array Value := (l.flatMap fun z => [Value.int .i64 z.1, .int .i64 z.2]).toArray
def startCells : Array Value := tabCells startsL
def partCells : Array Value := tabCells partsL
def loOf (l : List (Int × Int)) (k : Nat) : Int := (l.getD k (0, 0)).1
def hiOf (l : List (Int × Int)) (k : Nat) : Int := (l.getD k (0, 0)).2
/-- Some range of the first k holds n. -/
def inTo (l : List (Int × Int)) (k : Nat) (n : Int) : Bool := (l.take k).any fun z => decide (z.1 ≤ n ∧ n ≤ z.2)
theorem inTo_zero (l : List (Int × Int)) (n : Int) : inTo l 0 n = false := by simp [inTo]
theorem inTo_succ (l : List (Int × Int)) (k : Nat) (n : Int) (h : k < l.length) :
    inTo l (k + 1) n = (inTo l k n || decide (loOf l k ≤ n ∧ n ≤ hiOf l k)) := by
  unfold inTo loOf hiOf
  rw [List.take_succ_eq_append_getElem h]
  rw [List.any_append]
  simp [List.getD, h]
theorem inTo_mono {l : List (Int × Int)} {k : Nat} {n : Int} (h : inTo l k n = true) : inTo l l.length n = true := by
  unfold inTo at *
  rw [List.take_length]
  rw [List.any_eq_true] at *
  obtain ⟨x, hx, hn⟩ := h
  exact ⟨x, List.mem_of_mem_take hx, hn⟩

def startB (n : Int) : Bool := inTo startsL 16 n
def partB (n : Int) : Bool := inTo partsL 5 n || startB n

/-- The second text's own table of ranges beyond the letters below 128. -/
def modelL : List Int := [192, 214, 216, 246, 248, 767, 880, 893, 895, 8191, 8204, 8205, 8304, 8591, 11264, 12271, 12289, 55295, 63744, 64975, 65008, 65533, 65536, 983039]
def modelP : List (Int × Int) := startsL.drop 4
theorem startB_low {n : Int} (h : n < 128) : startB n = decide (n = 58 ∨ n = 95 ∨ (65 ≤ n ∧ n ≤ 90) ∨ (97 ≤ n ∧ n ≤ 122)) := by
  rw [Bool.eq_iff_iff]; simp [startB, inTo, startsL]; omega
theorem startB_high {n : Int} (h : 128 ≤ n) : startB n = inTo modelP 12 n := by
  rw [Bool.eq_iff_iff]; simp [startB, inTo, startsL, modelP]; omega
theorem partB_eq (n : Int) : partB n = (startB n || decide (n = 45 ∨ n = 46 ∨ (48 ≤ n ∧ n ≤ 57) ∨ n = 183 ∨ (768 ≤ n ∧ n ≤ 879) ∨ n = 8255 ∨ n = 8256)) := by
  unfold partB
  rw [Bool.or_comm]
  congr 1
  rw [Bool.eq_iff_iff]; simp [inTo, partsL]; omega
end Go.Proofs.YtpkhdfddbcpciaaDoor.Plain2
