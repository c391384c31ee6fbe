/- The library's EqualFold at a name and 'xml': it tells whether the name is xml, in whatever capitals. -/
import Derived.Test.YtefahocflhlgiaaGreatDoorIm14
namespace Go.Proofs.YtefahocflhlgiaaGreatDoor
open Go.RowKit Plain1 Plain2 Strs Strs2 Lists Plain3 Plain5 Plain6 Plain9 Plain10 Plain11 Plain12 Plain13 Plain14

/-- A frame of EqualFold where it comes to a byte that is no ASCII. -/
def ShF (n : ByteArray) (k : Nat) (a : Act) : Prop := ∃ u : Nat → Value, a = ⟨#[.string n, .string ⟨#[120, 109, 108]⟩, u 2, u 3, u 4, .int .i64 (k : Int), u 6, u 7, u 8, u 9, u 10, u 11, u 12, u 13, u 14, u 15, u 16, u 17, u 18, u 19, u 20, u 21, u 22, u 23, u 24, u 25, u 26, u 27, u 28, u 29, u 30, u 31, u 32, u 33, u 34, u 35, u 36, u 37, u 38, u 39, u 40, u 41, u 42, u 43, u 44, u 45, u 46, u 47, u 48, u 49, u 50, u 51, u 52, u 53, u 54, u 55, u 56, u 57, u 58, u 59, u 60, u 61, u 62, u 63, u 64, u 65, u 66, u 67, u 68, u 69, u 70, u 71, u 72, u 73, u 74, u 75, u 76, u 77, u 78, u 79, u 80, u 81, u 82, u 83, u 84, u 85, u 86, u 87, u 88, u 89, u 90, u 91, u 92, u 93, u 94, u 95, u 96, u 97, u 98, u 99, u 100, u 101, u 102, u 103, u 104, u 105, u 106, u 107, u 108, u 109, u 110, u 111, u 112, u 113, u 114, u 115, u 116, u 117, u 118, u 119, u 120, u 121, u 122], []⟩
theorem expand123 (t : Array Value) (h : t.size = 123) : t = ((List.range 123).map fun i => t.getD i undef).toArray := by
  apply Array.ext
  · simp [h]
  · intro i h1 h2
    simp [Array.getD, h1]
theorem lit123 (u : Nat → Value) : ((List.range 123).map u).toArray = #[u 0, u 1, u 2, u 3, u 4, u 5, u 6, u 7, u 8, u 9, u 10, u 11, u 12, u 13, u 14, u 15, u 16, u 17, u 18, u 19, u 20, u 21, u 22, u 23, u 24, u 25, u 26, u 27, u 28, u 29, u 30, u 31, u 32, u 33, u 34, u 35, u 36, u 37, u 38, u 39, u 40, u 41, u 42, u 43, u 44, u 45, u 46, u 47, u 48, u 49, u 50, u 51, u 52, u 53, u 54, u 55, u 56, u 57, u 58, u 59, u 60, u 61, u 62, u 63, u 64, u 65, u 66, u 67, u 68, u 69, u 70, u 71, u 72, u 73, u 74, u 75, u 76, u 77, u 78, u 79, u 80, u 81, u 82, u 83, u 84, u 85, u 86, u 87, u 88, u 89, u 90, u 91, u 92, u 93, u 94, u 95, u 96, u 97, u 98, u 99, u 100, u 101, u 102, u 103, u 104, u 105, u 106, u 107, u 108, u 109, u 110, u 111, u 112, u 113, u 114, u 115, u 116, u 117, u 118, u 119, u 120, u 121, u 122] := rfl
theorem shF_of {n : ByteArray} {k : Nat} (t : Array Value) (hs : t.size = 123) (h0 : t.getD 0 undef = .string n) (h1 : t.getD 1 undef = .string ⟨#[120, 109, 108]⟩) (h5 : t.getD 5 undef = .int .i64 (k : Int)) : ShF n k ⟨t, []⟩ := by
  refine ⟨fun i => t.getD i undef, ?_⟩
  rw [← h0, ← h1, ← h5]
  exact congrArg (fun x => Act.mk x []) ((expand123 t hs).trans (lit123 fun i => t.getD i undef))
def fdL : List Int := [120, 109, 108]
def okF (n : ByteArray) (j : Nat) : Prop := byteAt n j = fdL.getD j 0 ∨ byteAt n j = fdL.getD j 0 - 32
theorem decode_big {s : ByteArray} {pos : Nat} (hp : pos < s.size) (hb : 128 ≤ byteAt s pos) : 128 ≤ (Utf8.decode s pos).1 := by
  have hb0 : 128 ≤ (s.get! (pos + 0)).toNat := by
    rw [Nat.add_zero]
    have := get_byteAt s pos hp
    omega
  unfold Utf8.decode
  simp only []
  rw [if_neg (by omega)]
  split
  · split
    · rename_i h; simpa using h
    · simp [Utf8.runeError]
  · split
    · split
      · rename_i h
        simp only [Bool.and_eq_true, decide_eq_true_eq] at h
        simp only; omega
      · simp [Utf8.runeError]
    · split
      · split
        · rename_i h
          simp only [Bool.and_eq_true, decide_eq_true_eq] at h
          simp only; omega
        · simp [Utf8.runeError]
      · simp [Utf8.runeError]
theorem xml_no {n : ByteArray} {j : Nat} (hj : j < 3) (h : ¬ okF n j) : xmlB n = false := by
  unfold okF fdL at h
  unfold xmlB
  match j, hj with
  | 0, _ => simp at h; simp; intro _ h1; omega
  | 1, _ => simp at h; simp; intro _ _ h1; omega
  | 2, _ => simp at h; simp; intro _ _ _ ; omega
theorem xml_end {n : ByteArray} {k : Nat} (hk : ∀ j, j < k → okF n j) (hM : k = n.size ∨ k = 3) (h3 : k ≤ 3) (hn : k ≤ n.size) : xmlB n = decide (n.size = 3) := by
  unfold xmlB
  by_cases h : n.size = 3
  · have hk3 : k = 3 := by omega
    subst hk3
    have a0 := hk 0 (by omega)
    have a1 := hk 1 (by omega)
    have a2 := hk 2 (by omega)
    unfold okF fdL at a0 a1 a2
    simp at a0 a1 a2
    simp [h]
    omega
  · simp [h]

set_option maxRecDepth 100000 in
theorem dec_x (w : World) : Calls Tryz.prog 111 #[.string ⟨#[120, 109, 108]⟩] w fun e w' => e = .returned (.tuple #[.int .i32 120, .int .i64 1]) ∧ w' = w := by
  go_enter Tryz.func111, Tryz.ntmps111
  go_wp2
  go_ret2
  exact ⟨rfl, rfl⟩
set_option maxRecDepth 100000 in
theorem dec_m (w : World) : Calls Tryz.prog 111 #[.string ⟨#[109, 108]⟩] w fun e w' => e = .returned (.tuple #[.int .i32 109, .int .i64 1]) ∧ w' = w := by
  go_enter Tryz.func111, Tryz.ntmps111
  go_wp2
  go_ret2
  exact ⟨rfl, rfl⟩
set_option maxRecDepth 100000 in
theorem dec_l (w : World) : Calls Tryz.prog 111 #[.string ⟨#[108]⟩] w fun e w' => e = .returned (.tuple #[.int .i32 108, .int .i64 1]) ∧ w' = w := by
  go_enter Tryz.func111, Tryz.ntmps111
  go_wp2
  go_ret2
  exact ⟨rfl, rfl⟩
set_option maxRecDepth 100000 in
theorem fold_at (i : Nat) (z : Int) (w : World) (hi : i < 128) (hz0 : 0 ≤ z) (hz : z < 128) (h : w.cell? ⟨2, i, none⟩ = some (.int .u16 z)) :
    Calls Tryz.prog 112 #[.int .i32 (i : Int)] w fun e w' => e = .returned (.int .i32 z) ∧ w' = w := by
  go_enter Tryz.func112, Tryz.ntmps112
  go_wp2
  go_ret
  exact ⟨rfl, rfl⟩
end Go.Proofs.YtefahocflhlgiaaGreatDoor
