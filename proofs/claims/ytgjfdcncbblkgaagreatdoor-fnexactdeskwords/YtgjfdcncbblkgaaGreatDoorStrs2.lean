/- A text's parts: facts for the walk at 's[i:j]' and 's[i:]'. Nothing of the program is named here. -/
import Derived.Test.YtgjfdcncbblkgaaGreatDoorStrs
import Derived.Laws.Strings3
import Derived.Laws.BitsLemmas
namespace Go.Proofs.YtgjfdcncbblkgaaGreatDoor.Strs2
open Go.RowKit Strs

section
variable {P : Program}
theorem sub_text (w : World) (t : TypeId) (s : ByteArray) (p q : Nat) (z1 z2 : Int) (h1 : z1 = p) (h2 : z2 = q) (hpq : p ≤ q) (hq : q ≤ s.size) (ht : P.underlying t = some .string) :
    (Instr.slice t (.string s) (some (.int .i64 z1)) (some (.int .i64 z2)) none).run P w = .ok (.string (s.extract p q)) w := by
  subst h1 h2
  rw [run_slice_string w t s .i64 .i64 _ _ ht (by omega) (by omega) (by omega)]
  simp
theorem sub_from (w : World) (t : TypeId) (s : ByteArray) (p : Nat) (z1 : Int) (h1 : z1 = p) (hq : p ≤ s.size) (ht : P.underlying t = some .string) :
    (Instr.slice t (.string s) (some (.int .i64 z1)) none none).run P w = .ok (.string (s.extract p s.size)) w := by
  subst h1
  rw [run_slice_string_from_if w t s .i64 _ ht, if_pos (by omega)]
  simp
theorem sub_to (w : World) (t : TypeId) (s : ByteArray) (q : Nat) (z1 : Int) (h1 : z1 = q) (hq : q ≤ s.size) (ht : P.underlying t = some .string) :
    (Instr.slice t (.string s) none (some (.int .i64 z1)) none).run P w = .ok (.string (s.extract 0 q)) w := by
  subst h1
  rw [run_slice_string_to_if w t s .i64 _ ht, if_pos (by omega)]
  simp
end
theorem wrapSm {z : Int} (h0 : -1000000000 ≤ z) (h1 : z ≤ 1000000000) : IntKind.i64.wrap z = z := by
  rw [IntKind.wrap_i64]; omega
end Go.Proofs.YtgjfdcncbblkgaaGreatDoor.Strs2
