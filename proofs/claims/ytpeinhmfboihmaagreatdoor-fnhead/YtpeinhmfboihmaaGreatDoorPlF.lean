/- Plain mathematics of the head: the text of an entity step by step. Nothing of the program is named here. -/
import Derived.Test.YtpeinhmfboihmaaGreatDoorPlE
import Derived.Lib.AppendStr
namespace Go.Proofs.YtpeinhmfboihmaaGreatDoor.Plain29
open Go.RowKit Plain1 Plain2 Strs Strs2 Lists Bytes Ents Plain3 Plain5 Plain6 Plain9 Plain10 Plain11 Plain12 Plain23 Plain24 Plain25 Plain26 Plain27 Plain28 Go.Lib
theorem ent_end {s : ByteArray} {f i : Nat} {acc : List Int} (h : ¬ i < s.size) : entGo s f i acc = some acc := by
  cases f with
  | zero => rfl
  | succ f => unfold entGo; rw [if_neg h]
theorem ent_pct {s : ByteArray} {f i : Nat} {acc : List Int} (h : i < s.size) (hb : byteAt s i = 37) : entGo s (f + 1) i acc = none := by unfold entGo; rw [if_pos h, if_pos hb]
theorem ent_on {s : ByteArray} {f i : Nat} {acc : List Int} (h : i < s.size) (hb : byteAt s i ≠ 37) (hb2 : byteAt s i ≠ 38) : entGo s (f + 1) i acc = entGo s f (i + 1) (acc ++ [byteAt s i]) := by
  conv => lhs; unfold entGo
  rw [if_pos h, if_neg hb, if_neg hb2]
theorem ent_chr {s : ByteArray} {f i q : Nat} {n : Int} {acc : List Int} (h : i < s.size) (hb : byteAt s i = 38) (hr : refZ s i = some (.inl n, q)) : entGo s (f + 1) i acc = entGo s f q (acc ++ encodeRuneZ n) := by
  conv => lhs; unfold entGo
  rw [if_pos h, if_neg (by rw [hb]; decide), if_pos hb, hr]
theorem ent_nam {s : ByteArray} {f i q : Nat} {b : ByteArray} {acc : List Int} (h : i < s.size) (hb : byteAt s i = 38) (hr : refZ s i = some (.inr b, q)) : entGo s (f + 1) i acc = entGo s f q (acc ++ nums (s.extract i q)) := by
  conv => lhs; unfold entGo
  rw [if_pos h, if_neg (by rw [hb]; decide), if_pos hb, hr]
theorem ent_bad {s : ByteArray} {f i : Nat} {acc : List Int} (h : i < s.size) (hb : byteAt s i = 38) (hr : refZ s i = none) : entGo s (f + 1) i acc = none := by
  unfold entGo
  rw [if_pos h, if_neg (by rw [hb]; decide), if_pos hb, hr]
theorem nums_cells (s : ByteArray) : strCells s = (nums s).map (Value.int .u8) := by
  unfold strCells nums; rw [List.map_map]; rfl
theorem nums_len (s : ByteArray) : (nums s).length = s.size := by unfold nums; rw [List.length_map]; exact (Lib.size_eq s).symm
end Go.Proofs.YtpeinhmfboihmaaGreatDoor.Plain29
