/- A text's bytes as plain numbers: a law for the walk at an index into a text. Nothing of the program is named here. -/
import Derived.WalkKit
namespace Go.Proofs.YtgjfdcncbblkgaaGreatDoor.Strs
open Go.RowKit

def byteAt (s : ByteArray) (p : Nat) : Int := ((s.data.toList.getD p 0).toNat : Int)
theorem byteAt_bd (s : ByteArray) (p : Nat) : 0 ≤ byteAt s p ∧ byteAt s p ≤ 255 := by
  unfold byteAt
  have := (s.data.toList.getD p 0).toNat_lt
  omega
theorem byteAt_eq (s : ByteArray) (p : Nat) (h : p < s.size) : byteAt s p = ((s[p]'h).toNat : Int) := by
  unfold byteAt
  have h' : p < s.data.size := h
  rw [List.getD_eq_getElem?_getD, Array.getElem?_toList, Array.getElem?_eq_getElem h']
  rfl
theorem get_byteAt (s : ByteArray) (p : Nat) (h : p < s.size) : ((s.get! p).toNat : Int) = byteAt s p := by
  rw [byteAt_eq s p h]
  simp [ByteArray.get!, getElem!_pos, h]
  rfl

section
variable {P : Program}
theorem run_index_byte (w : World) (t : TypeId) (s : ByteArray) (p : Nat) (hp : p < s.size) (ht : P.underlying t = some .string) :
    (Instr.index t (.string s) (.int .i64 (p : Int))).run P w = .ok (.int .u8 (byteAt s p)) w := by
  rw [run_index_string (w := w) t s .i64 p ht, dif_pos (by omega), byteAt_eq s p hp]
  simp

theorem wpList_index_byte {ops : Array Oper} {rest : List Oper} {o : Oper} {a : Act} {w : World} {Q : Exit → Act → World → Prop} (hgd : o.guard = none) (t : TypeId) (x i : Operand) (ho : o.op = .index t x i)
    (s : ByteArray) (p : Nat) (q : Int) (b : Int) (hx : a.eval x = .string s) (hi : a.eval i = .int .i64 q) (hq : q = (p : Int)) (hp : p < s.size) (ht : P.underlying t = some .string) (hb : byteAt s p = b)
    (h : wpList P ops Q rest (a.put o.dst (.int .u8 b)) w) : wpList P ops Q (o :: rest) a w := by
  refine wpList_plain hgd fun K hK => ?_
  subst hq hb
  unfold Oper.wp execOp
  simp only [ho, hx, hi, Sem.run_bind, Sem.run_pure, run_index_byte w t s p hp ht, Result.andThen_ok]
  exact hK _ _ h
/-- The same at an operation that hangs on another one's answer. -/
theorem wpList_index_byte_g {ops : Array Oper} {rest : List Oper} {o : Oper} {a : Act} {w : World} {Q : Exit → Act → World → Prop} (t : TypeId) (x i : Operand) (ho : o.op = .index t x i)
    (s : ByteArray) (p : Nat) (q : Int) (b : Int) (hx : a.eval x = .string s) (hi : a.eval i = .int .i64 q) (hq : q = (p : Int)) (hp : p < s.size) (ht : P.underlying t = some .string) (hb : byteAt s p = b)
    (hw : Region.wanted o (yielded ops a.tmps) = true) (h : wpList P ops Q rest (a.put o.dst (.int .u8 b)) w) : wpList P ops Q (o :: rest) a w := by
  refine wpList_step fun K hK => ?_
  rw [if_pos hw]
  subst hq hb
  unfold Oper.wp execOp
  simp only [ho, hx, hi, Sem.run_bind, Sem.run_pure, run_index_byte w t s p hp ht, Result.andThen_ok]
  exact hK _ _ h
end
end Go.Proofs.YtgjfdcncbblkgaaGreatDoor.Strs
