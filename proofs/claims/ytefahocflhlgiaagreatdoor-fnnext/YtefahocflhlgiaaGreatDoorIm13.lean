/- The program's scanner: a start. -/
import Derived.Test.YtefahocflhlgiaaGreatDoorIm12
namespace Go.Proofs.YtefahocflhlgiaaGreatDoor
open Go.RowKit Plain1 Plain2 Strs Strs2 Lists Plain3 Plain5 Plain6 Plain9 Plain10 Plain11 Plain12 Plain13 Plain14 Plain15

/-- A frame of startMark: its pointers; the rest is whatever it is. -/
def Sh (g r k b : Nat) (a : Act) : Prop := ∃ u : Nat → Value, a = ⟨#[.pointer (some ⟨g, 0, none⟩), u 1, .pointer (some ⟨r, 0, none⟩), u 3, .pointer (some ⟨k, 0, none⟩), .pointer (some ⟨b, 0, none⟩), u 6, u 7, u 8, u 9, u 10, u 11, u 12, u 13, u 14, u 15, u 16, u 17, u 18, u 19, u 20, u 21, u 22, u 23, u 24, u 25, u 26, u 27, u 28, u 29, u 30, u 31, u 32, u 33, u 34, u 35, u 36, u 37, u 38, u 39, u 40, u 41, u 42, u 43, u 44, u 45, u 46, u 47, u 48, u 49, u 50, u 51, u 52, u 53, u 54, u 55, u 56, u 57, u 58, u 59, u 60, u 61, u 62, u 63, u 64, u 65, u 66, u 67, u 68, u 69, u 70, u 71, u 72, u 73, u 74, u 75, u 76, u 77, u 78, u 79, u 80, u 81, u 82, u 83, u 84, u 85], []⟩
theorem expand86 (t : Array Value) (h : t.size = 86) : t = ((List.range 86).map fun i => t.getD i undef).toArray := by
  apply Array.ext
  · simp [h]
  · intro i h1 h2
    simp [Array.getD, h1]
theorem lit86 (u : Nat → Value) : ((List.range 86).map u).toArray = #[u 0, u 1, u 2, u 3, u 4, u 5, u 6, u 7, u 8, u 9, u 10, u 11, u 12, u 13, u 14, u 15, u 16, u 17, u 18, u 19, u 20, u 21, u 22, u 23, u 24, u 25, u 26, u 27, u 28, u 29, u 30, u 31, u 32, u 33, u 34, u 35, u 36, u 37, u 38, u 39, u 40, u 41, u 42, u 43, u 44, u 45, u 46, u 47, u 48, u 49, u 50, u 51, u 52, u 53, u 54, u 55, u 56, u 57, u 58, u 59, u 60, u 61, u 62, u 63, u 64, u 65, u 66, u 67, u 68, u 69, u 70, u 71, u 72, u 73, u 74, u 75, u 76, u 77, u 78, u 79, u 80, u 81, u 82, u 83, u 84, u 85] := rfl
theorem sh_of {g r k b : Nat} (t : Array Value) (hs : t.size = 86) (h0 : t.getD 0 undef = .pointer (some ⟨g, 0, none⟩)) (h2 : t.getD 2 undef = .pointer (some ⟨r, 0, none⟩)) (h4 : t.getD 4 undef = .pointer (some ⟨k, 0, none⟩)) (h5 : t.getD 5 undef = .pointer (some ⟨b, 0, none⟩)) : Sh g r k b ⟨t, []⟩ := by
  refine ⟨fun i => t.getD i undef, ?_⟩
  rw [← h0, ← h2, ← h4, ← h5]
  exact congrArg (fun x => Act.mk x []) ((expand86 t hs).trans (lit86 fun i => t.getD i undef))
theorem strs_new2 (W : World) (t t' : ByteArray) : StrsAt (W.alloc (.cells #[.string t, .string t'] 9)) (some ⟨W.heap.size, 0, none⟩) [t, t'] := by
  refine ⟨W.heap.size, fun _ => rfl, fun i hi => ?_⟩
  unfold World.cell?
  rw [heap_alloc_new]
  match i, hi with
  | 0, _ => rfl
  | 1, _ => rfl
theorem lack_end (s : ByteArray) (q : Nat) : lackF s q [⟨#[47, 62]⟩, ⟨#[62]⟩] = endL s q := by
  unfold lackF endL
  cases h1 : (rest s q).isPrefixOf [47, 62] <;> cases h2 : (rest s q).isPrefixOf [62] <;> simp [h1, h2]
theorem endL_12 (s : ByteArray) (q : Nat) : endL s q ≠ 0 := by unfold endL; split <;> simp
end Go.Proofs.YtefahocflhlgiaaGreatDoor
