/- Closed reckonings: what the reader tells of the eight documents of the law of defaults. Nothing of the program is named here. -/
import Derived.Test.YtmaoefokimjkbaaGreatDoorPlR
namespace Go.Proofs.YtmaoefokimjkbaaGreatDoor.PlainV
open Go.RowKit Plain1 Strs Strs2 Lists Bytes Ents Plain3 Plain5 Plain6 Plain7 Plain9 Plain10 Plain11 Plain12 Plain23 PlainR Go.Lib
set_option maxRecDepth 100000

/-- The value that the head tells, and what it is with its blanks put right. -/
def valD : Nat → ByteArray
  | 0 => ⟨#[120]⟩
  | 1 => ⟨#[32, 97, 32, 32, 98, 32]⟩
  | 2 => ⟨#[]⟩
  | _ => ⟨#[32]⟩
def wrdD : Nat → ByteArray
  | 0 => ⟨#[120]⟩
  | 1 => ⟨#[97, 32, 98]⟩
  | 2 => ⟨#[]⟩
  | _ => ⟨#[]⟩
def docD (has : Bool) (i : Nat) : ByteArray :=
  match has, i with
  | false, 0 => ⟨#[60, 33, 68, 79, 67, 84, 89, 80, 69, 32, 114, 32, 91, 60, 33, 65, 84, 84, 76, 73, 83, 84, 32, 114, 32, 107, 32, 78, 77, 84, 79, 75, 69, 78, 83, 32, 39, 120, 39, 32, 109, 32, 67, 68, 65, 84, 65, 32, 39, 120, 39, 32, 110, 32, 73, 68, 32, 35, 73, 77, 80, 76, 73, 69, 68, 62, 60, 33, 65, 84, 84, 76, 73, 83, 84, 32, 114, 32, 107, 32, 67, 68, 65, 84, 65, 32, 39, 110, 111, 39, 62, 93, 62, 60, 114, 47, 62]⟩
  | false, 1 => ⟨#[60, 33, 68, 79, 67, 84, 89, 80, 69, 32, 114, 32, 91, 60, 33, 65, 84, 84, 76, 73, 83, 84, 32, 114, 32, 107, 32, 78, 77, 84, 79, 75, 69, 78, 83, 32, 39, 32, 97, 32, 32, 98, 32, 39, 32, 109, 32, 67, 68, 65, 84, 65, 32, 39, 32, 97, 32, 32, 98, 32, 39, 32, 110, 32, 73, 68, 32, 35, 73, 77, 80, 76, 73, 69, 68, 62, 60, 33, 65, 84, 84, 76, 73, 83, 84, 32, 114, 32, 107, 32, 67, 68, 65, 84, 65, 32, 39, 110, 111, 39, 62, 93, 62, 60, 114, 47, 62]⟩
  | false, 2 => ⟨#[60, 33, 68, 79, 67, 84, 89, 80, 69, 32, 114, 32, 91, 60, 33, 65, 84, 84, 76, 73, 83, 84, 32, 114, 32, 107, 32, 78, 77, 84, 79, 75, 69, 78, 83, 32, 39, 39, 32, 109, 32, 67, 68, 65, 84, 65, 32, 39, 39, 32, 110, 32, 73, 68, 32, 35, 73, 77, 80, 76, 73, 69, 68, 62, 60, 33, 65, 84, 84, 76, 73, 83, 84, 32, 114, 32, 107, 32, 67, 68, 65, 84, 65, 32, 39, 110, 111, 39, 62, 93, 62, 60, 114, 47, 62]⟩
  | false, _ => ⟨#[60, 33, 68, 79, 67, 84, 89, 80, 69, 32, 114, 32, 91, 60, 33, 65, 84, 84, 76, 73, 83, 84, 32, 114, 32, 107, 32, 78, 77, 84, 79, 75, 69, 78, 83, 32, 39, 32, 39, 32, 109, 32, 67, 68, 65, 84, 65, 32, 39, 32, 39, 32, 110, 32, 73, 68, 32, 35, 73, 77, 80, 76, 73, 69, 68, 62, 60, 33, 65, 84, 84, 76, 73, 83, 84, 32, 114, 32, 107, 32, 67, 68, 65, 84, 65, 32, 39, 110, 111, 39, 62, 93, 62, 60, 114, 47, 62]⟩
  | true, 0 => ⟨#[60, 33, 68, 79, 67, 84, 89, 80, 69, 32, 114, 32, 91, 60, 33, 65, 84, 84, 76, 73, 83, 84, 32, 114, 32, 107, 32, 78, 77, 84, 79, 75, 69, 78, 83, 32, 39, 120, 39, 32, 109, 32, 67, 68, 65, 84, 65, 32, 39, 120, 39, 32, 110, 32, 73, 68, 32, 35, 73, 77, 80, 76, 73, 69, 68, 62, 60, 33, 65, 84, 84, 76, 73, 83, 84, 32, 114, 32, 107, 32, 67, 68, 65, 84, 65, 32, 39, 110, 111, 39, 62, 93, 62, 60, 114, 32, 109, 61, 39, 109, 105, 110, 101, 39, 32, 107, 61, 39, 32, 10, 49, 9, 50, 32, 39, 47, 62]⟩
  | true, 1 => ⟨#[60, 33, 68, 79, 67, 84, 89, 80, 69, 32, 114, 32, 91, 60, 33, 65, 84, 84, 76, 73, 83, 84, 32, 114, 32, 107, 32, 78, 77, 84, 79, 75, 69, 78, 83, 32, 39, 32, 97, 32, 32, 98, 32, 39, 32, 109, 32, 67, 68, 65, 84, 65, 32, 39, 32, 97, 32, 32, 98, 32, 39, 32, 110, 32, 73, 68, 32, 35, 73, 77, 80, 76, 73, 69, 68, 62, 60, 33, 65, 84, 84, 76, 73, 83, 84, 32, 114, 32, 107, 32, 67, 68, 65, 84, 65, 32, 39, 110, 111, 39, 62, 93, 62, 60, 114, 32, 109, 61, 39, 109, 105, 110, 101, 39, 32, 107, 61, 39, 32, 10, 49, 9, 50, 32, 39, 47, 62]⟩
  | true, 2 => ⟨#[60, 33, 68, 79, 67, 84, 89, 80, 69, 32, 114, 32, 91, 60, 33, 65, 84, 84, 76, 73, 83, 84, 32, 114, 32, 107, 32, 78, 77, 84, 79, 75, 69, 78, 83, 32, 39, 39, 32, 109, 32, 67, 68, 65, 84, 65, 32, 39, 39, 32, 110, 32, 73, 68, 32, 35, 73, 77, 80, 76, 73, 69, 68, 62, 60, 33, 65, 84, 84, 76, 73, 83, 84, 32, 114, 32, 107, 32, 67, 68, 65, 84, 65, 32, 39, 110, 111, 39, 62, 93, 62, 60, 114, 32, 109, 61, 39, 109, 105, 110, 101, 39, 32, 107, 61, 39, 32, 10, 49, 9, 50, 32, 39, 47, 62]⟩
  | true, _ => ⟨#[60, 33, 68, 79, 67, 84, 89, 80, 69, 32, 114, 32, 91, 60, 33, 65, 84, 84, 76, 73, 83, 84, 32, 114, 32, 107, 32, 78, 77, 84, 79, 75, 69, 78, 83, 32, 39, 32, 39, 32, 109, 32, 67, 68, 65, 84, 65, 32, 39, 32, 39, 32, 110, 32, 73, 68, 32, 35, 73, 77, 80, 76, 73, 69, 68, 62, 60, 33, 65, 84, 84, 76, 73, 83, 84, 32, 114, 32, 107, 32, 67, 68, 65, 84, 65, 32, 39, 110, 111, 39, 62, 93, 62, 60, 114, 32, 109, 61, 39, 109, 105, 110, 101, 39, 32, 107, 61, 39, 32, 10, 49, 9, 50, 32, 39, 47, 62]⟩
def attD (has : Bool) (i : Nat) : List (ByteArray × ByteArray) := if has = true then [(⟨#[109]⟩, ⟨#[109, 105, 110, 101]⟩), (⟨#[107]⟩, ⟨#[49, 32, 50]⟩)] else [(⟨#[107]⟩, wrdD i), (⟨#[109]⟩, valD i)]
def headIs (evs : List Ev) (l : List (ByteArray × ByteArray)) : Bool := match evs with | e :: _ => decide (e.attrs = l) | [] => false
/-- What is asked of an answer. -/
def okD (R : EOut) (l : List (ByteArray × ByteArray)) : Bool := decide (R.code = 0) && (decide (R.evs.length = 2) && headIs R.evs l)
theorem d_false0 : okD (readZ (docD false 0) true) (attD false 0) = true := by decide +kernel
theorem d_false1 : okD (readZ (docD false 1) true) (attD false 1) = true := by decide +kernel
theorem d_false2 : okD (readZ (docD false 2) true) (attD false 2) = true := by decide +kernel
theorem d_false3 : okD (readZ (docD false 3) true) (attD false 3) = true := by decide +kernel
theorem d_true0 : okD (readZ (docD true 0) true) (attD true 0) = true := by decide +kernel
theorem d_true1 : okD (readZ (docD true 1) true) (attD true 1) = true := by decide +kernel
theorem d_true2 : okD (readZ (docD true 2) true) (attD true 2) = true := by decide +kernel
theorem d_true3 : okD (readZ (docD true 3) true) (attD true 3) = true := by decide +kernel
theorem defaults_ok (has : Bool) (i : Nat) (hi : i < 4) : okD (readZ (docD has i) true) (attD has i) = true := by
  have : i = 0 ∨ i = 1 ∨ i = 2 ∨ i = 3 := by omega
  cases has <;> rcases this with rfl | rfl | rfl | rfl
  · exact d_false0
  · exact d_false1
  · exact d_false2
  · exact d_false3
  · exact d_true0
  · exact d_true1
  · exact d_true2
  · exact d_true3
end Go.Proofs.YtmaoefokimjkbaaGreatDoor.PlainV
