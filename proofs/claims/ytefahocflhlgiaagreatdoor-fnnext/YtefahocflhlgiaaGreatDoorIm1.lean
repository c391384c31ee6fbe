/- The program's scanner: its box in memory; ahead. -/
import Derived.Test.YtefahocflhlgiaaGreatDoorProg
import Derived.Test.YtefahocflhlgiaaGreatDoorPlain12
import Derived.Test.YtefahocflhlgiaaGreatDoorStrs2
import Derived.Test.YtefahocflhlgiaaGreatDoorLists
import Derived.Test.YtefahocflhlgiaaGreatDoorShelfH
import Derived.WalkKit
import Derived.WalkSpells
import Derived.WalkSmall
import Derived.Deep.QuietTactic
import Derived.BigQuiet
import Derived.RegionTactic
import Derived.BigRegion
namespace Go.Proofs.YtefahocflhlgiaaGreatDoor
open Go.RowKit Plain1 Strs Strs2 Lists Plain9 Plain10 Plain11 Plain12

theorem mkHidI1 {p : Prop} (h : p) : Hid p := h
/-- The program's scanner in memory: its text, its place. -/
def ImBox (w : World) (g : Nat) (s : ByteArray) (p : Nat) : Prop := w.heap[g]? = some (.cells #[.string s, .int .i64 (p : Int)] 65)
theorem imcells {w : World} {g : Nat} {s : ByteArray} {p : Nat} (h : ImBox w g s p) :
    w.cell? ⟨g, 0, none⟩ = some (.string s) ∧ w.cell? ⟨g, 1, none⟩ = some (.int .i64 (p : Int)) ∧ w.frozen? ⟨g, 1, none⟩ = false := by
  unfold ImBox at h
  simp [World.cell?, World.frozen?, h]
theorem ahead_any {W : World} {g : Nat} {s sg : ByteArray} {p : Nat} (h : ImBox W g s p) (hp : p ≤ s.size) (w : World) (hW : w.heap = W.heap) :
    Calls Tryz.prog 48 #[.pointer (some ⟨g, 0, none⟩), .string sg] w fun e w' => e = .returned (.bool (hasAt s p sg.data.toList)) ∧ ∃ n, w' = w.drewN n := by
  have h' : ImBox w g s p := by unfold ImBox; rw [hW]; exact h
  obtain ⟨c0, c1, f1⟩ := imcells h'
  clear h h' hW
  have hsl : ∀ wx, (Instr.slice 9 (.string s) (some (.int .i64 (p : Int))) none none).run Tryz.prog wx = .ok (.string (s.extract p s.size)) wx := fun wx => sub_from wx _ s p _ rfl hp Tryz.underlying9
  have hh := fun wx => Tryz.strings_HasPrefix (s.extract p s.size) sg wx
  simp only [ext_rest, show Lib.hasPrefix (rest s p) sg.data.toList = hasAt s p sg.data.toList from rfl] at hh
  go_enter Tryz.func48, Tryz.ntmps48
  go_wp2_with fail
  go_quiet ((go_at_call 73; exact Calls.quiet_of_same (hh _)))
  go_wp2
  go_ret
  exact ⟨rfl, nq, rfl⟩
end Go.Proofs.YtefahocflhlgiaaGreatDoor
