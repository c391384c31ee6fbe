/- Plain mathematics of the escapes: what stands in the place of a byte of a text or of a value. Nothing of the program is named here. -/
import Derived.Test.YtpkhdfddbcpciabStrs
import Derived.Test.YtpkhdfddbcpciabPlain7
import Derived.Lib.AppendStr
namespace Go.Proofs.Ytpkhdfddbcpciab.PlainE
open Go.Lib Strs Plain7

def signS (v : Bool) (b : Int) : ByteArray :=
  if b = 38 then ⟨#[38, 97, 109, 112, 59]⟩
  else if b = 60 then ⟨#[38, 108, 116, 59]⟩
  else if b = 62 ∧ v = false then ⟨#[38, 103, 116, 59]⟩
  else if b = 34 ∧ v = true then ⟨#[38, 113, 117, 111, 116, 59]⟩
  else if b = 13 then ⟨#[38, 35, 120, 68, 59]⟩
  else if b = 9 ∧ v = true then ⟨#[38, 35, 120, 57, 59]⟩
  else if b = 10 ∧ v = true then ⟨#[38, 35, 120, 65, 59]⟩
  else ⟨#[]⟩
theorem sign_len (v : Bool) (b : Int) : (signS v b).size ≤ 6 := by
  unfold signS
  repeat' split
  all_goals decide
def pieceE (v : Bool) (c : UInt8) : List UInt8 := if (signS v (c.toNat : Int)).size = 0 then [c] else (signS v (c.toNat : Int)).data.toList
theorem piece_len (v : Bool) (c : UInt8) : (pieceE v c).length ≤ 6 := by
  have := sign_len v (c.toNat : Int)
  unfold pieceE
  split
  · simp
  · have e : (signS v (c.toNat : Int)).data.toList.length = (signS v (c.toNat : Int)).size := Array.length_toList
    omega
def escE (v : Bool) (l : List UInt8) : List UInt8 := l.flatMap (pieceE v)
theorem cells_nums (s : ByteArray) : strCells s = (numsOf s.data.toList).map (Value.int .u8) := by
  unfold strCells numsOf
  rw [List.map_map]
  rfl
theorem esc_take (v : Bool) (s : ByteArray) (k : Nat) (h : k < s.size) : escE v (s.data.toList.take (k + 1)) = escE v (s.data.toList.take k) ++ pieceE v (s.data.toList.getD k 0) := by
  have hk : k < s.data.toList.length := by simpa using h
  have e : s.data.toList.getD k 0 = s.data.toList[k] := by rw [List.getD_eq_getElem?_getD, List.getElem?_eq_getElem hk]; rfl
  rw [List.take_succ_eq_append_getElem hk, e]
  unfold escE
  rw [List.flatMap_append, List.flatMap_singleton]
theorem esc_len (v : Bool) (l : List UInt8) : (escE v l).length ≤ 6 * l.length := by
  induction l with
  | nil => simp [escE]
  | cons c l ih =>
    have := piece_len v c
    simp [escE] at ih ⊢
    omega
theorem nums_app (a b : List UInt8) : numsOf (a ++ b) = numsOf a ++ numsOf b := by simp [numsOf]
def escOf (v : Bool) (s : ByteArray) : List UInt8 := if 4000 < s.size then [] else escE v s.data.toList
end Go.Proofs.Ytpkhdfddbcpciab.PlainE
