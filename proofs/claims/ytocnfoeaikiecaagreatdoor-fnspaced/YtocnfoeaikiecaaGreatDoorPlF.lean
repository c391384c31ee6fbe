import Derived.Test.YtocnfoeaikiecaaGreatDoorPlE
namespace Go.Proofs.YtocnfoeaikiecaaGreatDoor.Plain29
open Go.RowKit Strs Plain23 Go.Lib
theorem cXq {s : ByteArray} {f i : Nat} {acc : List Int} (h : ¬ i < s.size) : aK6 s f i acc = some acc := by
 cases f with
 | zero => rfl
 | succ f => unfold aK6; rw [if_neg h]
theorem cYo {s : ByteArray} {f i : Nat} {acc : List Int} (h : i < s.size) (hb : aQ1 s i = 37) : aK6 s (f + 1) i acc = none := by unfold aK6; rw [if_pos h, if_pos hb]
theorem dJi {s : ByteArray} {f i : Nat} {acc : List Int} (h : i < s.size) (hb : aQ1 s i ≠ 37) (hb2 : aQ1 s i ≠ 38) : aK6 s (f + 1) i acc = aK6 s f (i + 1) (acc ++ [aQ1 s i]) := by
 conv => lhs; unfold aK6
 rw [if_pos h, if_neg hb, if_neg hb2]
theorem cYr {s : ByteArray} {f i q : Nat} {n : Int} {acc : List Int} (h : i < s.size) (hb : aQ1 s i = 38) (hr : refZ s i = some (.inl n, q)) : aK6 s (f + 1) i acc = aK6 s f q (acc ++ encodeRuneZ n) := by
 conv => lhs; unfold aK6
 rw [if_pos h, if_neg (by rw [hb]; decide), if_pos hb, hr]
theorem cYp {s : ByteArray} {f i q : Nat} {b : ByteArray} {acc : List Int} (h : i < s.size) (hb : aQ1 s i = 38) (hr : refZ s i = some (.inr b, q)) : aK6 s (f + 1) i acc = aK6 s f q (acc ++ nums (s.extract i q)) := by
 conv => lhs; unfold aK6
 rw [if_pos h, if_neg (by rw [hb]; decide), if_pos hb, hr]
theorem cYs {s : ByteArray} {f i : Nat} {acc : List Int} (h : i < s.size) (hb : aQ1 s i = 38) (hr : refZ s i = none) : aK6 s (f + 1) i acc = none := by
 unfold aK6
 rw [if_pos h, if_neg (by rw [hb]; decide), if_pos hb, hr]
theorem bQ0 (s : ByteArray) : strCells s = (nums s).map (Value.int .u8) := by
 unfold strCells nums; rw [List.map_map]; rfl
theorem aK1 (s : ByteArray) : (nums s).length = s.size := by unfold nums; rw [List.length_map]; exact (Lib.size_eq s).symm
end Go.Proofs.YtocnfoeaikiecaaGreatDoor.Plain29
namespace Go.Proofs.YtocnfoeaikiecaaGreatDoor.Plain30
open Go.RowKit Plain23 Go.Lib Go.Maps
variable {κ : ByteArray × ByteArray → Lit} {V : Df → Value}
end Go.Proofs.YtocnfoeaikiecaaGreatDoor.Plain30
namespace Go.Proofs.YtocnfoeaikiecaaGreatDoor.Plain31
open Go.RowKit Plain6 Plain9 Plain10 Plain23 Plain30 Go.Lib
variable {s : ByteArray}
theorem cWo {p : Nat} {n : ByteArray × Nat} (h : aJ6 s p = some n) : 1 ≤ n.1.size ∧ n.1.size ≤ s.size := by
 obtain ⟨h0, h1, h2, h3, h4⟩ := aZj h
 have hp : nmP s p = p + nameZ s p := rfl
 have hz : n.1.size = nameZ s p := by
  rw [h1]
  show (s.extract p (p + nameZ s p)).size = _
  rw [aXy (by omega)]; omega
 omega
end Go.Proofs.YtocnfoeaikiecaaGreatDoor.Plain31
