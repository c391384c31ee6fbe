/- The contract of the program's CharRight: it returns whether its number is a character, and leaves the world as it was. -/
/- The contract of impl.NameStart and of the method has: a loop over a table of ranges. -/
/- The contract of impl.NamePart: a loop over a table of ranges, then NameStart. -/
/- The contracts of the program's broken and Runes: the characters of a text, by a range over it. -/
/- The contract of the program's Runes: the characters of a text, by a range over it. -/
/- The contract of the program's NameRight. -/
/- The contract of the program's Split. -/
import Derived.Test.YtlfcmlcpdpkibaaDoorProg
import Derived.Test.YtlfcmlcpdpkibaaDoorPlA
import Derived.WalkKit
import Derived.Laws.Rows
import Derived.Test.YtlfcmlcpdpkibaaDoorShelfH
import Derived.WalkSpells
import Derived.WalkSmall
import Derived.Laws.RangeAny
import Derived.Lib.OthersKept
import Derived.Test.YtlfcmlcpdpkibaaDoorPlK
import Derived.Test.YtlfcmlcpdpkibaaDoorPlB
import Derived.Below
import Derived.Test.YtlfcmlcpdpkibaaDoorShelfN
namespace Go.Proofs.YtlfcmlcpdpkibaaDoor
open Go.RowKit Plain1

theorem implChar_any (n : Int) (w : World) :
    Calls Tryd.prog 76 #[.int .i64 n] w fun e w' => e = .returned (.bool (charB n)) ∧ w' = w := by
  go_enter Tryd.func76, Tryd.ntmps76
  go_wp2
  all_goals
    go_ret
    exact ⟨ret_bool (by rw [Bool.eq_iff_iff, charB_iff]; simp at *; omega), rfl⟩
end Go.Proofs.YtlfcmlcpdpkibaaDoor

namespace Go.Proofs.YtlfcmlcpdpkibaaDoor
open Go.RowKit Plain1 Plain2

theorem has_any (n lo hi : Int) (w : World) :
    Calls Tryd.prog 77 #[.agg #[.int .i64 lo, .int .i64 hi], .int .i64 n] w fun e w' => e = .returned (.bool (decide (lo ≤ n ∧ n ≤ hi))) ∧ Below w.heap.size w w' := by
  go_enter Tryd.func77, Tryd.ntmps77
  go_wp2
  all_goals
    go_ret
    exact ⟨ret_bool (by rw [Bool.eq_iff_iff]; simp at *; omega), (Below.refl _ _).alloc (Nat.le_refl _) _⟩

theorem idxS0 (w : World) : (Instr.index 127 (.agg startCells) (.int .i64 0)).run Tryd.prog w = .ok (.agg #[.int .i64 (loOf startsL 0), .int .i64 (hiOf startsL 0)]) w := by kernel_rfl
theorem idxS1 (w : World) : (Instr.index 127 (.agg startCells) (.int .i64 1)).run Tryd.prog w = .ok (.agg #[.int .i64 (loOf startsL 1), .int .i64 (hiOf startsL 1)]) w := by kernel_rfl
theorem idxS2 (w : World) : (Instr.index 127 (.agg startCells) (.int .i64 2)).run Tryd.prog w = .ok (.agg #[.int .i64 (loOf startsL 2), .int .i64 (hiOf startsL 2)]) w := by kernel_rfl
theorem idxS3 (w : World) : (Instr.index 127 (.agg startCells) (.int .i64 3)).run Tryd.prog w = .ok (.agg #[.int .i64 (loOf startsL 3), .int .i64 (hiOf startsL 3)]) w := by kernel_rfl
theorem idxS4 (w : World) : (Instr.index 127 (.agg startCells) (.int .i64 4)).run Tryd.prog w = .ok (.agg #[.int .i64 (loOf startsL 4), .int .i64 (hiOf startsL 4)]) w := by kernel_rfl
theorem idxS5 (w : World) : (Instr.index 127 (.agg startCells) (.int .i64 5)).run Tryd.prog w = .ok (.agg #[.int .i64 (loOf startsL 5), .int .i64 (hiOf startsL 5)]) w := by kernel_rfl
theorem idxS6 (w : World) : (Instr.index 127 (.agg startCells) (.int .i64 6)).run Tryd.prog w = .ok (.agg #[.int .i64 (loOf startsL 6), .int .i64 (hiOf startsL 6)]) w := by kernel_rfl
theorem idxS7 (w : World) : (Instr.index 127 (.agg startCells) (.int .i64 7)).run Tryd.prog w = .ok (.agg #[.int .i64 (loOf startsL 7), .int .i64 (hiOf startsL 7)]) w := by kernel_rfl
theorem idxS8 (w : World) : (Instr.index 127 (.agg startCells) (.int .i64 8)).run Tryd.prog w = .ok (.agg #[.int .i64 (loOf startsL 8), .int .i64 (hiOf startsL 8)]) w := by kernel_rfl
theorem idxS9 (w : World) : (Instr.index 127 (.agg startCells) (.int .i64 9)).run Tryd.prog w = .ok (.agg #[.int .i64 (loOf startsL 9), .int .i64 (hiOf startsL 9)]) w := by kernel_rfl
theorem idxS10 (w : World) : (Instr.index 127 (.agg startCells) (.int .i64 10)).run Tryd.prog w = .ok (.agg #[.int .i64 (loOf startsL 10), .int .i64 (hiOf startsL 10)]) w := by kernel_rfl
theorem idxS11 (w : World) : (Instr.index 127 (.agg startCells) (.int .i64 11)).run Tryd.prog w = .ok (.agg #[.int .i64 (loOf startsL 11), .int .i64 (hiOf startsL 11)]) w := by kernel_rfl
theorem idxS12 (w : World) : (Instr.index 127 (.agg startCells) (.int .i64 12)).run Tryd.prog w = .ok (.agg #[.int .i64 (loOf startsL 12), .int .i64 (hiOf startsL 12)]) w := by kernel_rfl
theorem idxS13 (w : World) : (Instr.index 127 (.agg startCells) (.int .i64 13)).run Tryd.prog w = .ok (.agg #[.int .i64 (loOf startsL 13), .int .i64 (hiOf startsL 13)]) w := by kernel_rfl
theorem idxS14 (w : World) : (Instr.index 127 (.agg startCells) (.int .i64 14)).run Tryd.prog w = .ok (.agg #[.int .i64 (loOf startsL 14), .int .i64 (hiOf startsL 14)]) w := by kernel_rfl
theorem idxS15 (w : World) : (Instr.index 127 (.agg startCells) (.int .i64 15)).run Tryd.prog w = .ok (.agg #[.int .i64 (loOf startsL 15), .int .i64 (hiOf startsL 15)]) w := by kernel_rfl
theorem idxStart (k : Nat) (hk : k < 16) (w : World) : (Instr.index 127 (.agg startCells) (.int .i64 (k : Int))).run Tryd.prog w = .ok (.agg #[.int .i64 (loOf startsL k), .int .i64 (hiOf startsL k)]) w := by
  have h : k = 0 ∨ k = 1 ∨ k = 2 ∨ k = 3 ∨ k = 4 ∨ k = 5 ∨ k = 6 ∨ k = 7 ∨ k = 8 ∨ k = 9 ∨ k = 10 ∨ k = 11 ∨ k = 12 ∨ k = 13 ∨ k = 14 ∨ k = 15 := by omega
  rcases h with rfl | rfl | rfl | rfl | rfl | rfl | rfl | rfl | rfl | rfl | rfl | rfl | rfl | rfl | rfl | rfl
  · exact idxS0 w
  · exact idxS1 w
  · exact idxS2 w
  · exact idxS3 w
  · exact idxS4 w
  · exact idxS5 w
  · exact idxS6 w
  · exact idxS7 w
  · exact idxS8 w
  · exact idxS9 w
  · exact idxS10 w
  · exact idxS11 w
  · exact idxS12 w
  · exact idxS13 w
  · exact idxS14 w
  · exact idxS15 w

theorem implStart_any (n : Int) (w : World) (t : TypeId) (fr : Nat × Nat) (hg : w.heap[1]? = some (.cells startCells t fr)) :
    Calls Tryd.prog 69 #[.int .i64 n] w fun e w' => e = .returned (.bool (startB n)) ∧ Below w.heap.size w w' := by
  go_enter Tryd.func69, Tryd.ntmps69
  go_wp2_with (refine wpList_load_row rfl 127 _ rfl 1 rfl t _ fr _ hg Tryd.underlying127 rfl (by kernel_rfl) ?_)
  go_loopw [6] (fun i wr => ∃ k : Nat, k ≤ 16 ∧ i = .int .i64 k ∧ inTo startsL k n = false ∧ Below w.heap.size w wr) (fun i _ => 16 - (intOf i).toNat)
  case atStart => exact ⟨0, Nat.zero_le _, rfl, inTo_zero _ _, Below.refl _ _⟩
  case round =>
    obtain ⟨k, hk, rfl, hno, hb⟩ := hrel
    by_cases hlt : k < 16
    · have hidx := idxStart k hlt
      have hsz := hb.size
      have hsn := inTo_succ startsL k n (by simpa [startsL] using hlt)
      rw [hno, Bool.false_or] at hsn
      have HS : Hid (inTo startsL (k + 1) n = decide (loOf startsL k ≤ n ∧ n ≤ hiOf startsL k)) := hsn
      have HN : Hid (inTo startsL k n = false) := hno
      clear hsn hno
      by_cases hin : loOf startsL k ≤ n ∧ n ≤ hiOf startsL k
      · have hd : decide (loOf startsL k ≤ n ∧ n ≤ hiOf startsL k) = true := decide_eq_true hin
        clear hin
        go_wp2_with (go_at_call 77; refine (has_any _ _ _ _).mono ?_; rintro e w' ⟨rfl, hb'⟩)
        go_ret
        exact ⟨ret_bool (inTo_mono (l := startsL) (k := k + 1) (by rw [HS.out]; exact hd)).symm, hb.trans (((Below.refl _ _).alloc (Nat.le_refl _) _).trans (hb'.mono (by simp)) |>.mono hsz)⟩
      · have hd : decide (loOf startsL k ≤ n ∧ n ≤ hiOf startsL k) = false := decide_eq_false hin
        clear hin
        go_wp2_with (go_at_call 77; refine (has_any _ _ _ _).mono ?_; rintro e w' ⟨rfl, hb'⟩)
        go_roundw
        case rel => exact ⟨k + 1, by omega, by go_num, by rw [HS.out]; exact hd, hb.trans (((Below.refl _ _).alloc (Nat.le_refl _) _).trans (hb'.mono (by simp)) |>.mono hsz)⟩
        case measure => simp [intOf]; omega
    · have : k = 16 := by omega
      subst this
      go_wp2_with fail
      go_ret
      exact ⟨ret_bool (by unfold startB; rw [hno]), hb⟩
end Go.Proofs.YtlfcmlcpdpkibaaDoor

namespace Go.Proofs.YtlfcmlcpdpkibaaDoor
open Go.RowKit Plain1 Plain2

theorem idxP0 (w : World) : (Instr.index 128 (.agg partCells) (.int .i64 0)).run Tryd.prog w = .ok (.agg #[.int .i64 (loOf partsL 0), .int .i64 (hiOf partsL 0)]) w := by kernel_rfl
theorem idxP1 (w : World) : (Instr.index 128 (.agg partCells) (.int .i64 1)).run Tryd.prog w = .ok (.agg #[.int .i64 (loOf partsL 1), .int .i64 (hiOf partsL 1)]) w := by kernel_rfl
theorem idxP2 (w : World) : (Instr.index 128 (.agg partCells) (.int .i64 2)).run Tryd.prog w = .ok (.agg #[.int .i64 (loOf partsL 2), .int .i64 (hiOf partsL 2)]) w := by kernel_rfl
theorem idxP3 (w : World) : (Instr.index 128 (.agg partCells) (.int .i64 3)).run Tryd.prog w = .ok (.agg #[.int .i64 (loOf partsL 3), .int .i64 (hiOf partsL 3)]) w := by kernel_rfl
theorem idxP4 (w : World) : (Instr.index 128 (.agg partCells) (.int .i64 4)).run Tryd.prog w = .ok (.agg #[.int .i64 (loOf partsL 4), .int .i64 (hiOf partsL 4)]) w := by kernel_rfl
theorem idxPart (k : Nat) (hk : k < 5) (w : World) : (Instr.index 128 (.agg partCells) (.int .i64 (k : Int))).run Tryd.prog w = .ok (.agg #[.int .i64 (loOf partsL k), .int .i64 (hiOf partsL k)]) w := by
  have h : k = 0 ∨ k = 1 ∨ k = 2 ∨ k = 3 ∨ k = 4 := by omega
  rcases h with rfl | rfl | rfl | rfl | rfl
  · exact idxP0 w
  · exact idxP1 w
  · exact idxP2 w
  · exact idxP3 w
  · exact idxP4 w

theorem implPart_any (n : Int) (w : World) (t : TypeId) (fr : Nat × Nat) (hg : w.heap[2]? = some (.cells partCells t fr)) (ts : TypeId) (frs : Nat × Nat) (hgs : w.heap[1]? = some (.cells startCells ts frs)) :
    Calls Tryd.prog 70 #[.int .i64 n] w fun e w' => e = .returned (.bool (partB n)) ∧ Below w.heap.size w w' := by
  have hz : 1 < w.heap.size := (Array.getElem?_eq_some_iff.1 hgs).1
  have HG : Hid (w.heap[1]? = some (.cells startCells ts frs)) := hgs
  clear hgs
  go_enter Tryd.func70, Tryd.ntmps70
  go_wp2_with (refine wpList_load_row rfl 128 _ rfl 2 rfl t _ fr _ hg Tryd.underlying128 rfl (by kernel_rfl) ?_)
  clear hg
  go_loopw [6] (fun i wr => ∃ k : Nat, k ≤ 5 ∧ i = .int .i64 k ∧ inTo partsL k n = false ∧ Below w.heap.size w wr) (fun i _ => 5 - (intOf i).toNat)
  case atStart => exact ⟨0, Nat.zero_le _, rfl, inTo_zero _ _, Below.refl _ _⟩
  case round =>
    obtain ⟨k, hk, rfl, hno, hb⟩ := hrel
    by_cases hlt : k < 5
    · have hidx := idxPart k hlt
      have hsz := hb.size
      have hsn := inTo_succ partsL k n (by simpa [partsL] using hlt)
      rw [hno, Bool.false_or] at hsn
      have HS : Hid (inTo partsL (k + 1) n = decide (loOf partsL k ≤ n ∧ n ≤ hiOf partsL k)) := hsn
      clear hsn hno
      by_cases hin : loOf partsL k ≤ n ∧ n ≤ hiOf partsL k
      · have hd : decide (loOf partsL k ≤ n ∧ n ≤ hiOf partsL k) = true := decide_eq_true hin
        clear hin
        go_wp2_with (go_at_call 77; refine (has_any _ _ _ _).mono ?_; rintro e w' ⟨rfl, hb'⟩)
        go_ret
        refine ⟨ret_bool ?_, hb.trans (((Below.refl _ _).alloc (Nat.le_refl _) _).trans (hb'.mono (by simp)) |>.mono hsz)⟩
        have := inTo_mono (l := partsL) (k := k + 1) (n := n) (by rw [HS.out]; exact hd)
        unfold partB
        rw [show inTo partsL 5 n = true from this]
        rfl
      · have hd : decide (loOf partsL k ≤ n ∧ n ≤ hiOf partsL k) = false := decide_eq_false hin
        clear hin
        go_wp2_with (go_at_call 77; refine (has_any _ _ _ _).mono ?_; rintro e w' ⟨rfl, hb'⟩)
        go_roundw
        case rel => exact ⟨k + 1, by omega, by go_num, by rw [HS.out]; exact hd, hb.trans (((Below.refl _ _).alloc (Nat.le_refl _) _).trans (hb'.mono (by simp)) |>.mono hsz)⟩
        case measure => simp [intOf]; omega
    · have : k = 5 := by omega
      subst this
      have hg1 : wr.heap[1]? = some (.cells startCells ts frs) := (hb.block _ hz).trans HG.out
      have HG1 : Hid (wr.heap[1]? = some (.cells startCells ts frs)) := hg1
      clear hg1
      go_wp2_with (go_at_call 69; refine (implStart_any _ _ ts frs HG1.out).mono ?_; rintro e w' ⟨rfl, hb'⟩)
      go_ret
      exact ⟨ret_bool (by unfold partB; rw [hno]; rfl), hb.trans (hb'.mono hb.size)⟩
end Go.Proofs.YtlfcmlcpdpkibaaDoor

namespace Go.Proofs.YtlfcmlcpdpkibaaDoor
open Go.RowKit Plain1 Strs Plain3 Plain4 Plain5 Lists

theorem info64r : (Tryd.prog.info? 2).map (fun i => (i.zero, i.size, i.bytes)) = some (some (.int .i64 0), 1, 8) := by kernel_rfl

theorem broken_any (rest : ByteArray) (r : Int) (w : World) :
    Calls Tryd.prog 75 #[.string rest, .int .i32 r] w fun e w' => e = .returned (.bool (decide (r = 65533) && !Lib.hasPrefix rest.data.toList [239, 191, 189])) ∧ w' = w := by
  obtain ⟨b, hb⟩ : ∃ b, Lib.hasPrefix rest.data.toList [239, 191, 189] = b := ⟨_, rfl⟩
  have hcall := Tryd.strings_HasPrefix rest ⟨#[239, 191, 189]⟩ w
  rw [show (⟨#[239, 191, 189]⟩ : ByteArray).data.toList = [239, 191, 189] from rfl, hb] at hcall
  rw [hb]
  clear hb
  by_cases hr : r = 65533
  · subst hr
    go_enter Tryd.func75, Tryd.ntmps75
    go_wp2_with (go_at_call 78; refine hcall.mono ?_; rintro e w' ⟨rfl, rfl⟩)
    go_ret
    exact ⟨ret_bool (by simp), rfl⟩
  · have hr' : (r == 65533) = false := by simpa using hr
    go_enter Tryd.func75, Tryd.ntmps75
    go_wp2
    go_ret
    exact ⟨ret_bool (by simp [hr]), rfl⟩

theorem u8_eq (x : UInt8) (k : Nat) (hk : k < 256) : (x.toNat : Int) = k ↔ UInt8.ofNat k = x := by
  constructor
  · intro h
    apply UInt8.toNat.inj
    rw [UInt8.toNat_ofNat_of_lt' (by simpa using hk)]
    omega
  · intro h
    rw [← h, UInt8.toNat_ofNat_of_lt' (by simpa using hk)]

theorem prefix_list (m : List UInt8) : [(239 : UInt8), 191, 189].isPrefixOf m = true ↔ (3 ≤ m.length ∧ ((m.getD 0 0).toNat : Int) = 239 ∧ ((m.getD 1 0).toNat : Int) = 191 ∧ ((m.getD 2 0).toNat : Int) = 189) := by
  match m with
  | [] => simp
  | [x] => simp [List.isPrefixOf]
  | [x, y] => simp [List.isPrefixOf]
  | x :: y :: z :: t =>
    have e0 := u8_eq x 239 (by omega)
    have e1 := u8_eq y 191 (by omega)
    have e2 := u8_eq z 189 (by omega)
    simp only [List.isPrefixOf, List.getD_cons_zero, List.getD_cons_succ, List.length_cons, Bool.and_eq_true, beq_iff_eq]
    constructor
    · rintro ⟨h0, h1, h2, _⟩
      exact ⟨by omega, e0.2 h0, e1.2 h1, e2.2 h2⟩
    · rintro ⟨_, h0, h1, h2⟩
      exact ⟨e0.1 h0, e1.1 h1, e2.1 h2, trivial⟩

theorem prefix_fffd (s : ByteArray) (pos : Nat) : Lib.hasPrefix (s.extract pos s.size).data.toList [239, 191, 189] = true ↔ fffd s pos := by
  have e : (s.extract pos s.size).data.toList = s.data.toList.drop pos := by
    simp [ByteArray.data_extract, Array.toList_extract, List.extract, List.take_of_length_le]
  rw [e]
  unfold Lib.hasPrefix fffd byteAt
  have hs : s.size = s.data.toList.length := by simp
  rw [hs]
  generalize s.data.toList = l
  rw [prefix_list]
  have g : ∀ k, (l.drop pos).getD k 0 = l.getD (pos + k) 0 := by
    intro k; simp [List.getD, List.getElem?_drop]
  rw [g 0, g 1, g 2, List.length_drop]
  constructor
  · rintro ⟨a, b⟩; exact ⟨by omega, b⟩
  · rintro ⟨a, b⟩; exact ⟨by omega, b⟩

/-- The program's test at a place, against the model's reading. -/
theorem test_good {s : ByteArray} {pos c n : Nat} (hp : pos < s.size) (hd : Utf8.decode s pos = (c, n)) (h : (runeZ s pos).2 ≠ 0) :
    (decide ((c : Int) = 65533) && !Lib.hasPrefix (s.extract pos s.size).data.toList [239, 191, 189]) = false ∧ charB (c : Int) = true ∧ runeZ s pos = ((c : Int), n) := by
  rcases rune_agree hp with ⟨_, e1, e2, e3⟩ | ⟨e, _⟩
  · rw [hd] at e1 e2 e3
    refine ⟨?_, e3, Prod.ext e1.symm e2.symm⟩
    by_cases hc : (c : Int) = 65533
    · rw [(prefix_fffd s pos).2 (fffd_of_rune h (e1.symm.trans hc))]; simp
    · simp [hc]
  · rw [e] at h; exact absurd rfl h
theorem test_bad {s : ByteArray} {pos c n : Nat} (hp : pos < s.size) (hd : Utf8.decode s pos = (c, n)) (h : (runeZ s pos).2 = 0) :
    (decide ((c : Int) = 65533) && !Lib.hasPrefix (s.extract pos s.size).data.toList [239, 191, 189]) = true ∨ ((decide ((c : Int) = 65533) && !Lib.hasPrefix (s.extract pos s.size).data.toList [239, 191, 189]) = false ∧ charB (c : Int) = false) := by
  rcases rune_agree hp with ⟨e, _⟩ | ⟨_, e | e⟩
  · exact absurd h e
  · left
    rw [hd] at e
    have hc : c = 65533 := congrArg Prod.fst e
    have hnp : Lib.hasPrefix (s.extract pos s.size).data.toList [239, 191, 189] = false := by
      cases hh : Lib.hasPrefix (s.extract pos s.size).data.toList [239, 191, 189] with
      | false => rfl
      | true => have := rune_fffd ((prefix_fffd s pos).1 hh); rw [this] at h; cases h
    rw [hnp, hc]; rfl
  · right
    rw [hd] at e
    refine ⟨?_, e⟩
    have hc : ¬ ((c : Int) = 65533) := by
      intro hc
      simp only at e
      rw [hc] at e
      cases e
    simp [hc]
end Go.Proofs.YtlfcmlcpdpkibaaDoor

namespace Go.Proofs.YtlfcmlcpdpkibaaDoor
open Go.RowKit Plain1 Strs Plain3 Plain4 Plain5 Lists

theorem owns_sliceR {w : World} {B : Nat} {e : TypeId} {size : Nat} {v : Value} {n : Nat} {xs : List Value} (h : w.ownsRow B e size v n xs) : ∃ ao cv, v = .slice ao n cv := by
  rcases owns_forms h with ⟨rfl, rfl⟩ | ⟨g, cap, rfl⟩
  · exact ⟨_, _, rfl⟩
  · exact ⟨_, _, rfl⟩
theorem owns_leR {w : World} {base base' size n : Nat} {e : TypeId} {v : Value} {xs : List Value} (h : w.ownsRow base e size v n xs) (hb : base' ≤ base) : w.ownsRow base' e size v n xs := by
  obtain ⟨h1, h2⟩ := h
  refine ⟨h1, ?_⟩
  rcases h2 with h2 | ⟨g, cap, cur, a, b, c⟩
  · exact .inl h2
  · exact .inr ⟨g, cap, cur, a, Nat.le_trans hb b, c⟩

/-- The three cells of a box, out of its block. -/
theorem block3 {w : World} {g : Nat} {a b c : Value} {t : TypeId} (h : w.heap[g]? = some (.cells #[a, b, c] t)) :
    w.cell? ⟨g, 0, none⟩ = some a ∧ w.cell? ⟨g, 1, none⟩ = some b ∧ w.cell? ⟨g, 2, none⟩ = some c ∧ w.frozen? ⟨g, 0, none⟩ = false ∧ w.frozen? ⟨g, 1, none⟩ = false ∧ w.frozen? ⟨g, 2, none⟩ = false := by
  simp [World.cell?, World.frozen?, h]

theorem grow_old {W W3 : World} {base k : Nat} {e : TypeId} {size : Nat} {v : Value} {n : Nat} {xs : List Value} {o : Obj} (hown : W.ownsRow base e size v n xs) (hg : (W.alloc o).grownBy W3 v.ownBlock) (hk : k < base) (hkW : k < W.heap.size) : W3.heap[k]? = W.heap[k]? := by
  rw [hg.block k (by simp; omega) (fun h => by have := (hown.lt k h.symm).1; omega)]
  exact Below.heap_alloc W o k hkW

theorem start_heap (w : World) (s : ByteArray) (o : Obj) : ((w.alloc o).iter s 0).heap[w.heap.size + 1]? = some (.stringIter s 0) ∧ ((w.alloc o).iter s 0).heap[w.heap.size]? = some o ∧ Below w.heap.size w ((w.alloc o).iter s 0) ∧ w.heap.size + 2 ≤ ((w.alloc o).iter s 0).heap.size := by
  have hz : (w.alloc o).heap.size = w.heap.size + 1 := by simp
  refine ⟨?_, ?_, ?_, ?_⟩
  · have := World.iter_heap (w.alloc o) s 0
    rw [hz] at this
    exact this
  · unfold World.iter
    rw [Below.heap_alloc _ _ _ (by omega)]
    exact heap_alloc_new w o
  · exact ((Below.refl _ _).alloc (Nat.le_refl _) o).alloc (by omega) _
  · unfold World.iter
    simp

set_option maxRecDepth 100000 in
set_option maxHeartbeats 2000000 in
theorem implRunes_scan (s : ByteArray) (w : World) (hs : s.size ≤ 4000) :
    Calls Tryd.prog 68 #[.string s] w fun e w' => ∃ v, e = .returned (.agg #[v, .int .i64 (if 0 ≤ (scanAll s).2 then (scanAll s).2 else 0), .int .i64 (if 0 ≤ (scanAll s).2 then 3 else 0)]) ∧ w'.ownsRow w.heap.size 2 1 v (scanAll s).1.length ((scanAll s).1.map (Value.int .i64)) ∧ Below w.heap.size w w' := by
  obtain ⟨i0, hi, hz0, hz1, hz2⟩ := info_parts info64r
  obtain ⟨R, hR⟩ : ∃ R, scanAll s = R := ⟨_, rfl⟩
  rw [hR]
  have HR : Hid (scanAll s = R) := hR
  clear hR
  obtain ⟨at3, hat⟩ : ∃ x, (if 0 ≤ R.2 then R.2 else 0) = x := ⟨_, rfl⟩
  obtain ⟨co3, hco⟩ : ∃ x : Int, (if 0 ≤ R.2 then 3 else 0) = x := ⟨_, rfl⟩
  rw [hat, hco]
  have HAT : Hid ((if 0 ≤ R.2 then R.2 else 0) = at3) := hat
  have HCO : Hid ((if 0 ≤ R.2 then (3 : Int) else 0) = co3) := hco
  clear hat hco
  go_enter Tryd.func68, Tryd.ntmps68
  go_wp2
  go_loopw [3] (fun v wr => ∃ (f pos : Nat) (acc : List Int), pos ≤ s.size ∧ wr.heap[w.heap.size + 1]? = some (.stringIter s pos) ∧ wr.heap[w.heap.size]? = some (.cells #[.slice none 0 0, .int .i64 0, .int .i64 0] 118) ∧ scan s f pos acc = R ∧ s.size < pos + f ∧ acc.length ≤ pos ∧ wr.ownsRow (w.heap.size + 2) 2 1 v acc.length (acc.map (Value.int .i64)) ∧ Below w.heap.size w wr ∧ w.heap.size + 2 ≤ wr.heap.size) (fun _ wr => s.size - wr.iterPos (w.heap.size + 1))
  case atStart =>
    refine ⟨s.size + 1, 0, [], Nat.zero_le _, ?_, ?_, HR.out, by omega, Nat.le_refl _, World.ownsRow_nil _ _ _ _, ?_, ?_⟩
    · exact (start_heap w s _).1
    · exact (start_heap w s _).2.1
    · exact (start_heap w s _).2.2.1
    · exact (start_heap w s _).2.2.2
  case round =>
    obtain ⟨f, pos, acc, hpos, hit, hbox, hsc, hf, hal, hown, hb, hsz⟩ := hrel
    have HS : Hid (scan s f pos acc = R) := hsc
    clear hsc
    by_cases hlt : pos < s.size
    · obtain ⟨f', rfl⟩ : ∃ f', f = f' + 1 := ⟨f - 1, by omega⟩
      obtain ⟨c, n, hd⟩ : ∃ c n, Utf8.decode s pos = (c, n) := ⟨_, _, rfl⟩
      have hle := decode_le s pos
      have hnx : ∀ ty, (Instr.next (.pointer (some ⟨w.heap.size + 1, 0, none⟩)) true ty).run Tryd.prog wr = _ := fun ty => Lib.run_next_any_at wr (w.heap.size + 1) s pos ty hit hlt
      rw [hd] at hnx hle
      simp only at hnx hle
      obtain ⟨W2, hW2⟩ : ∃ W2, wr.iterAt (w.heap.size + 1) s (pos + n) = W2 := ⟨_, rfl⟩
      have hit2 := Lib.iterAt_heap wr (w.heap.size + 1) s pos (pos + n) hit
      have hb2 := Lib.below_iterAt hb (k := w.heap.size + 1) (by omega) s (pos + n)
      have hown2 := ownsRow_iterAt hown (k := w.heap.size + 1) (by omega) s (pos + n)
      have hbox2 := (Lib.iterAt_other wr (w.heap.size + 1) w.heap.size s (pos + n) (by omega)).trans hbox
      have hsz2 := Lib.iterAt_size wr (w.heap.size + 1) s (pos + n)
      rw [hW2] at hnx hit2 hb2 hown2 hbox2 hsz2
      rw [← hsz2] at hsz
      have HIT : Hid (wr.heap[w.heap.size + 1]? = some (.stringIter s pos)) := hit
      clear hW2 hsz2 hown hb hbox hit
      have hbr := broken_any (s.extract pos s.size) c W2
      by_cases hz : (runeZ s pos).2 = 0
      · rcases test_bad hlt hd hz with ht | ⟨ht, hch⟩
        · rw [ht] at hbr
          have hbad := scan_bad (f := f') (acc := acc) hlt hz
          rw [HS.out] at hbad
          subst hbad
          have hat := HAT.out
          have hco := HCO.out
          rw [if_pos (by simp only []; omega)] at hat hco
          simp only at hat
          subst hat hco
          obtain ⟨k0, k1, k2, f0, f1, f2⟩ := block3 hbox2
          clear ht hbox2 hown2 hit2 hd hz HS HR HAT HCO hf hal
          go_wp2_with (go_at_call 75; refine hbr.mono ?_; rintro e w' ⟨rfl, rfl⟩)
          refine bodyPost_ret (v := .agg #[.slice none 0 0, .int .i64 pos, .int .i64 3]) (by simp [results, Tryd.results68, go_sem, k0, k1, k2]) rfl ⟨_, rfl, World.ownsRow_nil _ _ _ _, ?_⟩
          exact ((hb2.setCell (Nat.le_refl _) _).setCell (Nat.le_refl _) _).setCell (Nat.le_refl _) _
        · rw [ht] at hbr
          have hbad := scan_bad (f := f') (acc := acc) hlt hz
          rw [HS.out] at hbad
          subst hbad
          have hat := HAT.out
          have hco := HCO.out
          rw [if_pos (by simp only []; omega)] at hat hco
          simp only at hat
          subst hat hco
          obtain ⟨k0, k1, k2, f0, f1, f2⟩ := block3 hbox2
          clear ht hbox2 hown2 hit2 hd hz HS HR HAT HCO hf hal
          go_wp2_with (first | (go_at_call 75; refine hbr.mono ?_; rintro e w' ⟨rfl, rfl⟩) | (go_at_call 76; refine (implChar_any _ _).mono ?_; rintro e w' ⟨rfl, rfl⟩))
          refine bodyPost_ret (v := .agg #[.slice none 0 0, .int .i64 pos, .int .i64 3]) (by simp [results, Tryd.results68, go_sem, k0, k1, k2]) rfl ⟨_, rfl, World.ownsRow_nil _ _ _ _, ?_⟩
          exact ((hb2.setCell (Nat.le_refl _) _).setCell (Nat.le_refl _) _).setCell (Nat.le_refl _) _
      · obtain ⟨ht, hch, hr⟩ := test_good hlt hd hz
        rw [ht] at hbr
        have hgood := scan_good (f := f') (acc := acc) hlt hz
        have hrl := rune_le (s := s) (pos := pos) hz
        rw [HS.out, hr] at hgood
        rw [hr] at hrl hz
        simp only at hgood hrl hz
        have HG : Hid (R = scan s f' (pos + n) (acc ++ [(c : Int)])) := hgood
        have HI : Hid (W2.heap[w.heap.size + 1]? = some (.stringIter s (pos + n))) := hit2
        have HBx : Hid (W2.heap[w.heap.size]? = some (.cells #[.slice none 0 0, .int .i64 0, .int .i64 0] 118)) := hbox2
        clear ht hd hr hgood HS hit2 hbox2
        go_wp2_with (first | (go_at_call 75; refine hbr.mono ?_; rintro e w' ⟨rfl, rfl⟩) | (go_at_call 76; refine (implChar_any _ _).mono ?_; rintro e w' ⟨rfl, rfl⟩) | (at_builtin; refine wpList_append_own _ rfl _ _ 116 rfl (w.heap.size + 2) 2 i0 (.int .i64 0) 1 8 Tryd.underlying116 hi hz0 hz1 hz2 rfl (by decide) _ _ _ rfl (hown2.alloc _) ⟨_, 0, none⟩ 1 1 [.int .i64 (c : Int)] rfl rfl ?c1 ?c2 ?c3 ?c4 ?c5 ?_))
        case c1 => exact cell_one_new _ _ _
        case c2 => intro u hu; simp at hu; subst hu; rfl
        case c3 => unfold maxLen; omega
        case c4 => omega
        case c5 => simp; omega
        intro v' w3 hown' hgrow _
        have hb3 : Below w.heap.size w w3 := (hb2.alloc (by omega) _).grown hgrow (by simp; omega) (fun k hk => by have := (hown2.lt k hk).1; omega)
        have hit3 : w3.heap[w.heap.size + 1]? = some (.stringIter s (pos + n)) := (grow_old hown2 hgrow (by omega) (by omega)).trans HI.out
        have hbox3 : w3.heap[w.heap.size]? = some (.cells #[.slice none 0 0, .int .i64 0, .int .i64 0] 118) := (grow_old hown2 hgrow (by omega) (by omega)).trans HBx.out
        have hsz3 : w.heap.size + 2 ≤ w3.heap.size := by have := hgrow.size; simp at this; omega
        have H3 : Hid (w3.heap[w.heap.size + 1]? = some (.stringIter s (pos + n))) := hit3
        have HX3 : Hid (w3.heap[w.heap.size]? = some (.cells #[.slice none 0 0, .int .i64 0, .int .i64 0] 118)) := hbox3
        clear hgrow hown2 hb2 hit3 hbox3 hnx hbr
        go_wp2
        go_roundw
        case rel =>
          refine ⟨f', pos + n, acc ++ [(c : Int)], by omega, H3.out, HX3.out, HG.out.symm, by omega, by simp; omega, ?_, hb3, hsz3⟩
          simpa using hown'
        case measure => rw [iterPos_of H3.out, iterPos_of HIT.out]; omega
    · have hnx : ∀ ty, (Instr.next (.pointer (some ⟨w.heap.size + 1, 0, none⟩)) true ty).run Tryd.prog wr = _ := fun ty => Lib.run_next_end_at wr (w.heap.size + 1) s pos ty hit hlt
      have he := scan_end (f := f) (acc := acc) (show s.size ≤ pos by omega)
      rw [HS.out] at he
      subst he
      have hat := HAT.out
      have hco := HCO.out
      rw [if_neg (by simp only []; omega)] at hat hco
      subst hat hco
      obtain ⟨k0, k1, k2, f0, f1, f2⟩ := block3 hbox
      obtain ⟨ao, cv, hv⟩ := owns_sliceR hown
      subst hv
      clear hbox hit HS HR HAT HCO hf hal
      go_wp2
      refine bodyPost_ret (v := .agg #[.slice ao acc.length cv, .int .i64 0, .int .i64 0]) (by simp [results, Tryd.results68, go_sem, k0, k1, k2]) rfl ⟨_, rfl, ?_, ?_⟩
      · have hq : w.heap.size < w.heap.size + 2 := by omega
        exact owns_leR (ownsRow_setCell_below (ownsRow_setCell_below (ownsRow_setCell_below hown hq _) hq _) hq _) (by omega)
      · exact ((hb.setCell (Nat.le_refl _) _).setCell (Nat.le_refl _) _).setCell (Nat.le_refl _) _

set_option maxHeartbeats 1000000 in
theorem implRunes_any (s : ByteArray) (w : World) :
    Calls Tryd.prog 68 #[.string s] w fun e w' => ∃ v, e = .returned (.agg #[v, .int .i64 (rAt s), .int .i64 (rCode s)]) ∧ w'.ownsRow w.heap.size 2 1 v (rList s).length ((rList s).map (Value.int .i64)) ∧ Below w.heap.size w w' := by
  by_cases hbig : 4000 < s.size
  · have e1 : rList s = [] := by unfold rList; rw [if_pos hbig]
    have e2 : rAt s = 0 := by unfold rAt; rw [if_pos hbig]
    have e3 : rCode s = 2 := by unfold rCode; rw [if_pos hbig]
    rw [e1, e2, e3]
    clear e1 e2 e3
    go_enter Tryd.func68, Tryd.ntmps68
    go_wp2
    refine bodyPost_ret (v := .agg #[.slice none 0 0, .int .i64 0, .int .i64 2]) (by simp [results, Tryd.results68, go_sem]) rfl ⟨_, rfl, World.ownsRow_nil _ _ _ _, ?_⟩
    exact (Below.refl _ _).alloc (Nat.le_refl _) _
  · have := implRunes_scan s w (by omega)
    unfold rList rAt rCode
    rw [if_neg hbig, if_neg hbig, if_neg hbig]
    exact this
end Go.Proofs.YtlfcmlcpdpkibaaDoor

namespace Go.Proofs.YtlfcmlcpdpkibaaDoor
open Go.RowKit Plain1 Plain2 Strs Plain3 Plain5 Plain6 Lists

theorem mkHidI {p : Prop} (h : p) : Hid p := h

/-- What holds behind the call of Runes: its list lies in a block of its own; the tables lie where they lay. -/
theorem after_runes {w w1 : World} {v : Value} {n : Nat} {c0 : Int} {cs : List Int} {e : TypeId} {A C : Array Value} {t tp : TypeId} {fr frp : Nat × Nat} {ga gp : Nat} (hg : w.heap[ga]? = some (.cells A t fr)) (hgp : w.heap[gp]? = some (.cells C tp frp)) (hz : ga < w.heap.size) (hzp : gp < w.heap.size)
    (ho : w1.ownsRow w.heap.size e 1 v (n + 1) ((c0 :: cs).map (Value.int .i64))) (hb : Below w.heap.size w w1) :
    ∃ g cap, v = .slice (some ⟨g, 0, none⟩) (n + 1) cap ∧ (n + 1 ≤ cap ∧ cap ≤ maxLen) ∧ g < w1.heap.size ∧ w1.cell? ⟨g, 0, none⟩ = some (.int .i64 c0) ∧ Hid (∀ o, (w1.alloc o).heap[ga]? = some (.cells A t fr)) ∧ Hid (∀ o, (w1.alloc o).heap[gp]? = some (.cells C tp frp)) ∧ Hid (Below w.heap.size w w1) ∧ Hid (w1.ownsRow w.heap.size e 1 (.slice (some ⟨g, 0, none⟩) (n + 1) cap) (n + 1) ((c0 :: cs).map (Value.int .i64))) := by
  rcases owns_forms ho with ⟨_, h⟩ | ⟨g, cap, rfl⟩
  · omega
  · have hcap : n + 1 ≤ cap ∧ cap ≤ maxLen := by
      rcases ho.2 with ⟨h, _⟩ | ⟨g', cap', cur, h, _, _, h1, h2, _⟩
      · cases h
      · cases h; exact ⟨h1, h2⟩
    refine ⟨g, cap, rfl, hcap, (ho.lt g rfl).2, ?_, ?_, ?_, hb, ho⟩
    · rw [ho.cellAt 0 (by omega)]; rfl
    · intro o; exact ((hb.alloc hb.size o).block ga hz).trans hg
    · intro o; exact ((hb.alloc hb.size o).block gp hzp).trans hgp

/-- A box of three cells laid ahead of a callee: its first cell behind it; and below all is as it was. -/
theorem box_there {w w1 w2 : World} {a b c : Value} {t : TypeId} (hb1 : Below w.heap.size w w1) (hb : Below (w1.alloc (.cells #[a, b, c] t)).heap.size (w1.alloc (.cells #[a, b, c] t)) w2) :
    w2.cell? ⟨w1.heap.size, 0, none⟩ = some a ∧ Hid (Below w.heap.size w w2) :=
  ⟨(hb.cell (p := ⟨w1.heap.size, 0, none⟩) (by simp)).trans (by simp), (hb1.alloc hb1.size _).trans (hb.mono (by have := hb1.size; simp; omega))⟩

set_option maxHeartbeats 1000000 in
theorem implName_any (s : ByteArray) (w : World) (t : TypeId) (fr : Nat × Nat) (hg : w.heap[1]? = some (.cells startCells t fr)) (tp : TypeId) (frp : Nat × Nat) (hgp : w.heap[2]? = some (.cells partCells tp frp)) :
    Calls Tryd.prog 59 #[.string s] w fun e w' => e = .returned (.bool (nameB s)) ∧ Below w.heap.size w w' := by
  by_cases h1 : s.size < 1
  · rw [nameB_empty h1]
    have hem : s.toList.isEmpty = true := by 
      rw [Lib.toList_data, List.isEmpty_iff, ← List.length_eq_zero_iff]
      have hsz : s.data.toList.length = s.size := by simp
      omega
    go_enter Tryd.func59, Tryd.ntmps59
    go_wp2_with fail
    go_ret
    exact ⟨rfl, Below.refl _ _⟩
  have hem : s.toList.isEmpty = false := by
    rw [Lib.toList_data]
    have hsz : s.data.toList.length = s.size := by simp
    cases h : s.data.toList with
    | nil => rw [h] at hsz; simp at hsz; omega
    | cons a l => rfl
  by_cases h2 : 60 < s.size
  · rw [nameB_long h2]
    go_enter Tryd.func59, Tryd.ntmps59
    go_wp2_with fail
    go_ret
    exact ⟨rfl, Below.refl _ _⟩
  have hz : 1 < w.heap.size := (Array.getElem?_eq_some_iff.1 hg).1
  have hzp : 2 < w.heap.size := (Array.getElem?_eq_some_iff.1 hgp).1
  have HG : Hid (w.heap[1]? = some (.cells startCells t fr)) := hg
  have HGP : Hid (w.heap[2]? = some (.cells partCells tp frp)) := hgp
  clear hg hgp
  have hcall := implRunes_any s w
  have e1 : rList s = (scanAll s).1 := by unfold rList; rw [if_neg (by omega)]
  have hnb : nameB s = (decide ((scanAll s).2 < 0) && nameL 0 (scanAll s).1) := by unfold nameB; rw [decide_eq_true (by omega), Bool.true_and]
  by_cases hbad : (scanAll s).2 < 0
  · have e3 : rCode s = 0 := by unfold rCode; rw [if_neg (by omega), if_neg (by omega)]
    have hlen := scan_some (by omega) hbad
    rw [decide_eq_true hbad, Bool.true_and] at hnb
    rw [hnb]
    rw [e1, e3] at hcall
    clear hnb e3 hbad
    have hll : (scanAll s).1.length ≤ 4000 := by rw [← e1]; exact rList_len s
    clear e1
    obtain ⟨L, hL⟩ : ∃ L, (scanAll s).1 = L := ⟨_, rfl⟩
    rw [hL] at hcall hlen hll ⊢
    clear hL
    obtain ⟨at3, hat⟩ : ∃ x, rAt s = x := ⟨_, rfl⟩
    rw [hat] at hcall
    clear hat
    match L, hlen with
    | c0 :: cs, _ =>
    have hnl : nameL 0 (c0 :: cs) = (startB c0 && cs.all partB) := by
      unfold nameL
      cases h : startB c0 with
      | true => simp [h, start_part h]
      | false => simp [h]
    rw [hnl]
    clear hnl
    obtain ⟨n, hn⟩ : ∃ n, cs.length = n := ⟨_, rfl⟩
    have HN : Hid (cs.length = n) := hn
    simp only [List.length_cons, hn] at hll hcall
    clear hn hlen
    go_enter Tryd.func59, Tryd.ntmps59
    cases hst : startB c0 with
    | false =>
      go_wp2_with (first | (go_at_call 68; refine hcall.mono ?_; rintro e w1 ⟨v1, rfl, ho1, hb1⟩; clear hcall; obtain ⟨g, cap, rfl, ⟨hcap, hcm⟩, hgz, k0, G1, GP1, HB1, HO1⟩ := after_runes HG.out HGP.out hz hzp ho1 hb1; clear ho1 hb1) | (go_at_call 69; refine (implStart_any _ _ t fr (G1.out _)).mono ?_; rintro e w2 ⟨rfl, hb2⟩; obtain ⟨q0, q1⟩ := box_there HB1.out hb2; replace hb2 := mkHidI hb2))
      go_ret
      exact ⟨rfl, q1.out⟩
    | true =>
      go_wp2_with (first | (go_at_call 68; refine hcall.mono ?_; rintro e w1 ⟨v1, rfl, ho1, hb1⟩; clear hcall; obtain ⟨g, cap, rfl, ⟨hcap, hcm⟩, hgz, k0, G1, GP1, HB1, HO1⟩ := after_runes HG.out HGP.out hz hzp ho1 hb1; clear ho1 hb1) | (go_at_call 69; refine (implStart_any _ _ t fr (G1.out _)).mono ?_; rintro e w2 ⟨rfl, hb2⟩; obtain ⟨q0, q1⟩ := box_there HB1.out hb2; replace hb2 := mkHidI hb2))
      · -- one character alone
        have hn0 : n = 0 := by omega
        subst hn0
        have hcs : cs = [] := List.eq_nil_of_length_eq_zero HN.out
        subst hcs
        clear hcap hcm k0 hgz q0
        go_loopw [30] (fun i wr => i = .int .i64 0 ∧ wr = w2) (fun _ _ => 0)
        case atStart => exact ⟨rfl, rfl⟩
        case round =>
          obtain ⟨rfl, rfl⟩ := hrel
          go_wp2
          go_ret
          exact ⟨rfl, q1.out⟩
      · have hcells : Hid (∀ k, k < n → w2.cell? ⟨g, 1 + k, none⟩ = some (.int .i64 (cs.getD k 0))) := by
          intro k hk
          refine (hb2.out.cell (p := ⟨g, 1 + k, none⟩) (by simp; omega)).trans ?_
          refine (((Below.refl w1.heap.size w1).alloc (Nat.le_refl _) _).cell (p := ⟨g, 1 + k, none⟩) hgz).trans ?_
          rw [HO1.out.cellAt (1 + k) (by omega)]
          have hkl : k < cs.length := by have := HN.out; omega
          rw [Nat.add_comm 1 k]
          simp [List.getD, hkl]
        have hgw : g < w2.heap.size := by have := hb2.out.size; simp at this; omega
        have GS2 : Hid (∀ wx, Below w2.heap.size w2 wx → wx.heap[1]? = some (.cells startCells t fr)) := fun wx hx => ((hx.block _ (Nat.lt_of_lt_of_le hz q1.out.size)).trans (q1.out.block _ hz)).trans HG.out
        have GP2 : Hid (∀ wx, Below w2.heap.size w2 wx → wx.heap[2]? = some (.cells partCells tp frp)) := fun wx hx => ((hx.block _ (Nat.lt_of_lt_of_le hzp q1.out.size)).trans (q1.out.block _ hzp)).trans HGP.out
        clear k0 hgz q0 G1 GP1 HO1 hb2 HB1
        go_loopw [30] (fun i wr => ∃ (k : Nat), k ≤ n ∧ i = .int .i64 k ∧ (cs.take k).all partB = true ∧ Below w2.heap.size w2 wr) (fun i _ => n - (intOf i).toNat)
        case atStart => exact ⟨0, Nat.zero_le _, rfl, rfl, Below.refl _ _⟩
        case round =>
          obtain ⟨k, hk, rfl, hall, hbr⟩ := hrel
          by_cases hlt : k < n
          · have c1 := (hbr.cell (p := ⟨g, 1 + k, none⟩) hgw).trans (hcells.out k hlt)
            have hkl : k < cs.length := by have := HN.out; omega
            obtain ⟨c, hce⟩ : ∃ c, c = cs.getD k 0 := ⟨_, rfl⟩
            rw [← hce] at c1
            have HE : Hid (c = cs.getD k 0) := hce
            have HA : Hid ((cs.take k).all partB = true) := hall
            have hpart := implPart_any c wr tp frp (GP2.out wr hbr) t fr (GS2.out wr hbr)
            have HBR : Hid (Below w2.heap.size w2 wr) := hbr
            clear hce hall hbr
            cases hpb : partB c with
            | true =>
              rw [hpb] at hpart
              go_wp2_with (go_at_call 70; refine hpart.mono ?_; rintro e w4 ⟨rfl, hb4⟩)
              go_roundw
              case rel =>
                refine ⟨k + 1, by omega, by go_num, ?_, HBR.out.trans (hb4.mono HBR.out.size)⟩
                have e : cs.take (k + 1) = cs.take k ++ [c] := by rw [List.take_succ_eq_append_getElem hkl, HE.out]; simp [List.getD, hkl]
                rw [e, List.all_append, HA.out]
                simp [hpb]
              case measure => simp [intOf]; omega
            | false =>
              rw [hpb] at hpart
              go_wp2_with (go_at_call 70; refine hpart.mono ?_; rintro e w4 ⟨rfl, hb4⟩)
              go_ret
              refine ⟨ret_bool ?_, (q1.out.trans (HBR.out.mono q1.out.size)).trans (hb4.mono (q1.out.trans (HBR.out.mono q1.out.size)).size)⟩
              have hno : cs.all partB = false := by
                cases h : cs.all partB with
                | false => rfl
                | true =>
                  rw [List.all_eq_true] at h
                  have := h cs[k] (List.getElem_mem hkl)
                  have e : c = cs[k] := by rw [HE.out]; simp [List.getD, hkl]
                  rw [← e, hpb] at this
                  cases this
              rw [hno]; rfl
          · have hkn : n ≤ k := by omega
            have e : cs.take k = cs := List.take_of_length_le (by have := HN.out; omega)
            rw [e] at hall
            clear e
            have HA : Hid (cs.all partB = true) := hall
            clear hall
            go_wp2
            go_ret
            refine ⟨ret_bool ?_, q1.out.trans (hbr.mono q1.out.size)⟩
            rw [HA.out]; rfl
  · rw [decide_eq_false hbad, Bool.false_and] at hnb
    rw [hnb]
    have e3 : rCode s = 3 := by unfold rCode; rw [if_neg (by omega), if_pos (by omega)]
    have e4 : rList s = [] := by rw [e1]; exact scan_list _ _ _ (by unfold scanAll at hbad; omega)
    rw [e3, e4] at hcall
    clear hnb e1 e3 e4 hbad
    obtain ⟨at3, hat⟩ : ∃ x, rAt s = x := ⟨_, rfl⟩
    rw [hat] at hcall
    clear hat
    go_enter Tryd.func59, Tryd.ntmps59
    go_wp2_with (go_at_call 68; refine hcall.mono ?_; rintro e w1 ⟨v1, rfl, ho1, hb1⟩; clear hcall; obtain ⟨ao, cv, rfl⟩ := owns_sliceR ho1; clear ho1)
    go_ret
    exact ⟨rfl, hb1.alloc hb1.size _⟩
end Go.Proofs.YtlfcmlcpdpkibaaDoor

namespace Go.Proofs.YtlfcmlcpdpkibaaDoor
open Go.RowKit Plain1 Plain2 Strs Strs2 Lists Plain3 Plain5 Plain6 Plain9 Plain10 Plain11 Plain12 Plain13 PlainS

/-- The answer's place: a new block of three cells. -/
def zQ : Obj := .cells #[.string ⟨#[]⟩, .string ⟨#[]⟩, .int .i64 0] 101
theorem mkHidS {p : Prop} (h : p) : Hid p := h
structure QBox (w W : World) : Prop where
  res : W.heap[w.heap.size]? = some zQ
  bel : Below w.heap.size w W
theorem QBox.start (w : World) : QBox w (w.alloc zQ) := ⟨heap_alloc_new w zQ, (Below.refl _ _).alloc (Nat.le_refl _) _⟩
theorem QBox.step {w W W' : World} (h : QBox w W) (hb : Below W.heap.size W W') : QBox w W' :=
  ⟨by rw [hb.block _ (Array.getElem?_eq_some_iff.1 h.res).1]; exact h.res, h.bel.trans (hb.mono h.bel.size)⟩
theorem QBox.cells {w W : World} (h : QBox w W) : W.cell? ⟨w.heap.size, 0, none⟩ = some (.string ⟨#[]⟩) ∧ W.cell? ⟨w.heap.size, 1, none⟩ = some (.string ⟨#[]⟩) ∧ W.cell? ⟨w.heap.size, 2, none⟩ = some (.int .i64 0) ∧ W.frozen? ⟨w.heap.size, 0, none⟩ = false ∧ W.frozen? ⟨w.heap.size, 1, none⟩ = false ∧ W.frozen? ⟨w.heap.size, 2, none⟩ = false := by
  simp [World.cell?, World.frozen?, h.res, zQ]
theorem below_new {w W : World} (h : Below w.heap.size w W) (j : Nat) (u : Value) : Below w.heap.size w (W.setCell ⟨w.heap.size, j, none⟩ u) :=
  ⟨h.os, h.tape, h.output, by have := h.size; simpa using this, fun i hi => by rw [Below.heap_setCell W ⟨w.heap.size, j, none⟩ u i (by simp only; omega)]; exact h.block i hi⟩
theorem QBox.fin {w W : World} (h : QBox w W) (a b c : Value) : Below w.heap.size w (((W.setCell ⟨w.heap.size, 0, none⟩ a).setCell ⟨w.heap.size, 1, none⟩ b).setCell ⟨w.heap.size, 2, none⟩ c) :=
  below_new (below_new (below_new h.bel 0 a) 1 b) 2 c

/-- The answer's place and what is read of the package's variables. -/
structure SFr (w W : World) (t : TypeId) (fr : Nat × Nat) (tp : TypeId) (frp : Nat × Nat) (m : Int) : Prop where
  q : QBox w W
  st : W.heap[1]? = some (.cells startCells t fr)
  pt : W.heap[2]? = some (.cells partCells tp frp)
  mx : W.cell? ⟨0, 0, none⟩ = some (.int .i64 m)
theorem SFr.step {w W W' : World} {t : TypeId} {fr : Nat × Nat} {tp : TypeId} {frp : Nat × Nat} {m : Int} (h : SFr w W t fr tp frp m) (hb : Below W.heap.size W W') : SFr w W' t fr tp frp m :=
  ⟨h.q.step hb, by rw [hb.block _ (Array.getElem?_eq_some_iff.1 h.st).1]; exact h.st, by rw [hb.block _ (Array.getElem?_eq_some_iff.1 h.pt).1]; exact h.pt, (hb.cell (p := ⟨0, 0, none⟩) (block_lt h.mx)).trans h.mx⟩
theorem SFr.drewN {w W : World} {t : TypeId} {fr : Nat × Nat} {tp : TypeId} {frp : Nat × Nat} {m : Int} (h : SFr w W t fr tp frp m) (n : Nat) : SFr w (W.drewN n) t fr tp frp m :=
  h.step ⟨rfl, rfl, rfl, Nat.le_refl _, fun _ _ => rfl⟩
theorem SFr.start {w : World} {t : TypeId} {fr : Nat × Nat} {tp : TypeId} {frp : Nat × Nat} {m : Int} (hg : w.heap[1]? = some (.cells startCells t fr)) (hgp : w.heap[2]? = some (.cells partCells tp frp)) (hm : w.cell? ⟨0, 0, none⟩ = some (.int .i64 m)) : SFr w (w.alloc zQ) t fr tp frp m :=
  ⟨QBox.start w, by rw [heap_alloc_old w zQ (Array.getElem?_eq_some_iff.1 hg).1]; exact hg, by rw [heap_alloc_old w zQ (Array.getElem?_eq_some_iff.1 hgp).1]; exact hgp, (((Below.refl _ _).alloc (Nat.le_refl _) zQ).cell (p := ⟨0, 0, none⟩) (block_lt hm)).trans hm⟩

set_option maxHeartbeats 2000000 in
theorem implSplit_any (s : ByteArray) (w : World) (hs : s.size ≤ 1048576) (t : TypeId) (fr : Nat × Nat) (hg : w.heap[1]? = some (.cells startCells t fr)) (tp : TypeId) (frp : Nat × Nat) (hgp : w.heap[2]? = some (.cells partCells tp frp)) (m : Int) (hm : w.cell? ⟨0, 0, none⟩ = some (.int .i64 m)) :
    Calls Tryd.prog 53 #[.string s] w fun e w' => e = .returned (.agg #[.string (splOut s).1, .string (splOut s).2.1, .int .i64 (splOut s).2.2]) ∧ Below w.heap.size w w' := by
  obtain ⟨Z, hZ⟩ : ∃ Z, splOut s = Z := ⟨_, rfl⟩
  rw [hZ]
  have HZ := mkHidS hZ
  clear hZ
  have Q0 := mkHidS (QBox.start w)
  by_cases hbig : 4000 < s.size
  · have hZ2 : Z = (⟨#[]⟩, ⟨#[]⟩, 2) := by rw [← HZ.out]; unfold splOut; rw [if_pos hbig]
    subst hZ2
    go_enter Tryd.func53, Tryd.ntmps53
    go_wp2
    refine bodyPost_ret (v := .agg #[.string ⟨#[]⟩, .string ⟨#[]⟩, .int .i64 2]) (by simp [results, Tryd.results53, go_sem]) rfl ⟨rfl, ?_⟩
    exact (Below.refl _ _).alloc (Nat.le_refl _) _
  have hcut := Tryd.strings_Cut s ⟨#[58]⟩ m (w.alloc zQ) (by omega) ((((Below.refl _ _).alloc (Nat.le_refl _) zQ).cell (p := ⟨0, 0, none⟩) (block_lt hm)).trans hm)
  have FA : Hid (SFr w (w.alloc zQ) t fr tp frp m) := mkHidS (SFr.start hg hgp hm)
  by_cases hf : upF s 0 [58] = 0
  · obtain ⟨h1, h2, h3, h4, h5, h6, h7⟩ := split_yes hf
    rw [h4, h5, h6] at hcut
    obtain ⟨X, hX⟩ : ∃ X, upT s 0 [58] = X := ⟨_, rfl⟩
    obtain ⟨Y, hY⟩ : ∃ Y, s.extract (upP s 0 [58]) s.size = Y := ⟨_, rfl⟩
    rw [hX, hY] at hcut h7
    rw [hX] at h2
    rw [hY] at h3
    have hnX := fun W (h : SFr w W t fr tp frp m) => implName_any X W t fr h.st tp frp h.pt
    have hnY := fun W (h : SFr w W t fr tp frp m) => implName_any Y W t fr h.st tp frp h.pt
    have hcY := fun W (h : SFr w W t fr tp frp m) => Tryd.strings_Contains Y ⟨#[58]⟩ m W (by omega) h.mx
    have H7 := mkHidS h7
    clear h4 h5 h6 h7 hX hY hf h1
    cases hbX : nameB X with
    | false =>
      rw [hbX] at hnX
      have hZ2 : Z = (⟨#[]⟩, ⟨#[]⟩, 3) := by rw [← HZ.out]; unfold splOut; rw [if_neg hbig, H7.out, hbX]; split <;> simp
      subst hZ2
      go_enter Tryd.func53, Tryd.ntmps53
      go_wp2_with fail
      refine hcut.mono ?_
      rintro e w1 ⟨rfl, n, hww⟩
      have F0 : Hid (SFr w w1 t fr tp frp m) := by rw [hww]; exact mkHidS (FA.out.drewN n)
      clear hww hcut
      obtain ⟨r0, r1, r2, f0, f1, f2⟩ := F0.out.q.cells
      go_wp2_with fail
      refine (hnX _ F0.out).mono ?_
      rintro e w2 ⟨rfl, hb2⟩
      have F1 := mkHidS (F0.out.step hb2)
      clear hb2 F0
      obtain ⟨r0, r1, r2, f0, f1, f2⟩ := F1.out.q.cells
      go_wp2
      refine bodyPost_ret (v := .agg #[.string ⟨#[]⟩, .string ⟨#[]⟩, .int .i64 3]) (by simp [results, Tryd.results53, go_sem, r0, r1, r2]) rfl ⟨rfl, ?_⟩
      exact F1.out.q.fin _ _ _
    | true =>
      rw [hbX] at hnX
      cases hbY : nameB Y with
      | false =>
        rw [hbY] at hnY
        have hZ2 : Z = (⟨#[]⟩, ⟨#[]⟩, 3) := by rw [← HZ.out]; unfold splOut; rw [if_neg hbig, H7.out, hbY]; split <;> simp
        subst hZ2
        go_enter Tryd.func53, Tryd.ntmps53
        go_wp2_with fail
        refine hcut.mono ?_
        rintro e w1 ⟨rfl, n, hww⟩
        have F0 : Hid (SFr w w1 t fr tp frp m) := by rw [hww]; exact mkHidS (FA.out.drewN n)
        clear hww hcut
        obtain ⟨r0, r1, r2, f0, f1, f2⟩ := F0.out.q.cells
        go_wp2_with fail
        refine (hnX _ F0.out).mono ?_
        rintro e w2 ⟨rfl, hb2⟩
        have F1 := mkHidS (F0.out.step hb2)
        clear hb2 F0
        obtain ⟨r0, r1, r2, f0, f1, f2⟩ := F1.out.q.cells
        go_wp2_with fail
        refine (hnY _ F1.out).mono ?_
        rintro e w3 ⟨rfl, hb3⟩
        have F2 := mkHidS (F1.out.step hb3)
        clear hb3 F1
        obtain ⟨r0, r1, r2, f0, f1, f2⟩ := F2.out.q.cells
        go_wp2
        refine bodyPost_ret (v := .agg #[.string ⟨#[]⟩, .string ⟨#[]⟩, .int .i64 3]) (by simp [results, Tryd.results53, go_sem, r0, r1, r2]) rfl ⟨rfl, ?_⟩
        exact F2.out.q.fin _ _ _
      | true =>
        rw [hbY] at hnY
        cases hbC : Lib.contains Y.data.toList [58] with
        | true =>
          have hcY : ∀ W, SFr w W t fr tp frp m → Calls Tryd.prog 30 #[.string Y, .string ⟨#[58]⟩] W fun e w' => e = .returned (.bool true) ∧ w' = W := fun W h => by have := hcY W h; rw [show (⟨#[58]⟩ : ByteArray).data.toList = [58] from rfl, hbC] at this; exact this
          have hZ2 : Z = (⟨#[]⟩, ⟨#[]⟩, 3) := by rw [← HZ.out]; unfold splOut; rw [if_neg hbig, H7.out, hbC, if_pos rfl]; simp
          subst hZ2
          go_enter Tryd.func53, Tryd.ntmps53
          go_wp2_with fail
          refine hcut.mono ?_
          rintro e w1 ⟨rfl, n, hww⟩
          have F0 : Hid (SFr w w1 t fr tp frp m) := by rw [hww]; exact mkHidS (FA.out.drewN n)
          clear hww hcut
          obtain ⟨r0, r1, r2, f0, f1, f2⟩ := F0.out.q.cells
          go_wp2_with fail
          refine (hnX _ F0.out).mono ?_
          rintro e w2 ⟨rfl, hb2⟩
          have F1 := mkHidS (F0.out.step hb2)
          clear hb2 F0
          obtain ⟨r0, r1, r2, f0, f1, f2⟩ := F1.out.q.cells
          go_wp2_with fail
          refine (hnY _ F1.out).mono ?_
          rintro e w3 ⟨rfl, hb3⟩
          have F2 := mkHidS (F1.out.step hb3)
          clear hb3 F1
          obtain ⟨r0, r1, r2, f0, f1, f2⟩ := F2.out.q.cells
          go_wp2_with fail
          refine (hcY _ F2.out).mono ?_
          rintro e w4 ⟨rfl, hww4⟩
          obtain rfl := hww4.symm
          go_wp2
          refine bodyPost_ret (v := .agg #[.string ⟨#[]⟩, .string ⟨#[]⟩, .int .i64 3]) (by simp [results, Tryd.results53, go_sem, r0, r1, r2]) rfl ⟨rfl, ?_⟩
          exact F2.out.q.fin _ _ _
        | false =>
          have hcY : ∀ W, SFr w W t fr tp frp m → Calls Tryd.prog 30 #[.string Y, .string ⟨#[58]⟩] W fun e w' => e = .returned (.bool false) ∧ w' = W := fun W h => by have := hcY W h; rw [show (⟨#[58]⟩ : ByteArray).data.toList = [58] from rfl, hbC] at this; exact this
          have hZ2 : Z = (X, Y, 0) := by rw [← HZ.out]; unfold splOut; rw [if_neg hbig, H7.out, hbC]; simp [hbX, hbY]
          subst hZ2
          go_enter Tryd.func53, Tryd.ntmps53
          go_wp2_with fail
          refine hcut.mono ?_
          rintro e w1 ⟨rfl, n, hww⟩
          have F0 : Hid (SFr w w1 t fr tp frp m) := by rw [hww]; exact mkHidS (FA.out.drewN n)
          clear hww hcut
          obtain ⟨r0, r1, r2, f0, f1, f2⟩ := F0.out.q.cells
          go_wp2_with fail
          refine (hnX _ F0.out).mono ?_
          rintro e w2 ⟨rfl, hb2⟩
          have F1 := mkHidS (F0.out.step hb2)
          clear hb2 F0
          obtain ⟨r0, r1, r2, f0, f1, f2⟩ := F1.out.q.cells
          go_wp2_with fail
          refine (hnY _ F1.out).mono ?_
          rintro e w3 ⟨rfl, hb3⟩
          have F2 := mkHidS (F1.out.step hb3)
          clear hb3 F1
          obtain ⟨r0, r1, r2, f0, f1, f2⟩ := F2.out.q.cells
          go_wp2_with fail
          refine (hcY _ F2.out).mono ?_
          rintro e w4 ⟨rfl, hww4⟩
          obtain rfl := hww4.symm
          go_wp2
          refine bodyPost_ret (v := .agg #[.string X, .string Y, .int .i64 0]) (by simp [results, Tryd.results53, go_sem, r0, r1, r2]) rfl ⟨rfl, ?_⟩
          exact F2.out.q.fin _ _ _
  · obtain ⟨h1, h2⟩ := split_no hf
    have hcn := (cut_no hf).1
    have hr : rest s 0 = s.data.toList := by unfold rest; rw [List.drop_zero]
    rw [hr] at hcn
    rw [show (⟨#[58]⟩ : ByteArray).data.toList = [58] from rfl, hcn] at hcut
    have hself : (⟨(s.data.toList).toArray⟩ : ByteArray) = s := by simp
    simp only [hself] at hcut
    have hnY := fun W (h : SFr w W t fr tp frp m) => implName_any s W t fr h.st tp frp h.pt
    have hcY : ∀ W, SFr w W t fr tp frp m → Calls Tryd.prog 30 #[.string s, .string ⟨#[58]⟩] W fun e w' => e = .returned (.bool false) ∧ w' = W := fun W h => by have := Tryd.strings_Contains s ⟨#[58]⟩ m W (by omega) h.mx; rw [show (⟨#[58]⟩ : ByteArray).data.toList = [58] from rfl, h2] at this; exact this
    have H1 := mkHidS h1
    clear h1 hf hcn hr hself h2
    cases hbY : nameB s with
    | false =>
      rw [hbY] at hnY
      have hZ2 : Z = (⟨#[]⟩, ⟨#[]⟩, 3) := by rw [← HZ.out]; unfold splOut; rw [if_neg hbig, H1.out, hbY]; simp
      subst hZ2
      go_enter Tryd.func53, Tryd.ntmps53
      go_wp2_with fail
      refine hcut.mono ?_
      rintro e w1 ⟨rfl, n, hww⟩
      have F0 : Hid (SFr w w1 t fr tp frp m) := by rw [hww]; exact mkHidS (FA.out.drewN n)
      clear hww hcut
      obtain ⟨r0, r1, r2, f0, f1, f2⟩ := F0.out.q.cells
      go_wp2_with fail
      refine (hnY _ F0.out).mono ?_
      rintro e w2 ⟨rfl, hb2⟩
      have F1 := mkHidS (F0.out.step hb2)
      clear hb2 F0
      obtain ⟨r0, r1, r2, f0, f1, f2⟩ := F1.out.q.cells
      go_wp2
      refine bodyPost_ret (v := .agg #[.string ⟨#[]⟩, .string ⟨#[]⟩, .int .i64 3]) (by simp [results, Tryd.results53, go_sem, r0, r1, r2]) rfl ⟨rfl, ?_⟩
      exact F1.out.q.fin _ _ _
    | true =>
      rw [hbY] at hnY
      have hZ2 : Z = (⟨#[]⟩, s, 0) := by rw [← HZ.out]; unfold splOut; rw [if_neg hbig, H1.out, hbY]; rfl
      subst hZ2
      go_enter Tryd.func53, Tryd.ntmps53
      go_wp2_with fail
      refine hcut.mono ?_
      rintro e w1 ⟨rfl, n, hww⟩
      have F0 : Hid (SFr w w1 t fr tp frp m) := by rw [hww]; exact mkHidS (FA.out.drewN n)
      clear hww hcut
      obtain ⟨r0, r1, r2, f0, f1, f2⟩ := F0.out.q.cells
      go_wp2_with fail
      refine (hnY _ F0.out).mono ?_
      rintro e w2 ⟨rfl, hb2⟩
      have F1 := mkHidS (F0.out.step hb2)
      clear hb2 F0
      obtain ⟨r0, r1, r2, f0, f1, f2⟩ := F1.out.q.cells
      go_wp2_with fail
      refine (hcY _ F1.out).mono ?_
      rintro e w3 ⟨rfl, hww3⟩
      obtain rfl := hww3.symm
      go_wp2
      refine bodyPost_ret (v := .agg #[.string ⟨#[]⟩, .string s, .int .i64 0]) (by simp [results, Tryd.results53, go_sem, r0, r1, r2]) rfl ⟨rfl, ?_⟩
      exact F1.out.q.fin _ _ _
end Go.Proofs.YtlfcmlcpdpkibaaDoor
