/- The model's scanner: ahead of its text's end 'end' turns nothing. -/
import Derived.Test.YtefahocflhlgiaaGreatDoorTok8
namespace Go.Proofs.YtefahocflhlgiaaGreatDoor
open Go.RowKit Plain1 Strs Strs2 Lists Plain3 Plain5 Plain6 Plain9 Plain10 Plain11

theorem end_in {W : World} {g : Nat} {s : ByteArray} {x : Sc} (h : ScBox W g s x) (hp : x.pos < s.size) (W' : World) (hW : W'.heap = W.heap) :
    Calls Tryz.prog 88 #[.pointer (some ⟨g, 0, none⟩)] W' fun e w' => e = .returned (.bool false) ∧ ∃ n, w' = W'.drewN n := by
  have h' : ScBox W' g s x := by unfold ScBox; rw [hW]; exact h
  obtain ⟨c0, c1, c2, c3, c4, f1, f2, f3, f4⟩ := block5 h'
  clear h h' hW
  have hei : ¬ (s.size : Int) ≤ (x.pos : Int) := by omega
  go_enter Tryz.func88, Tryz.ntmps88
  go_wp2_with fail
  go_quiet (fail)
  go_wp2
  go_ret
  exact ⟨rfl, nq, rfl⟩
theorem ok_at {W : World} {g : Nat} {s : ByteArray} {x : Sc} (h : ScBox W g s x) (W' : World) (hW : W'.heap = W.heap) :
    Calls Tryz.prog 68 #[.pointer (some ⟨g, 0, none⟩)] W' fun e w' => e = .returned (.bool (decide (x.fl = 0))) ∧ w' = W' :=
  ok_any W' g s x (by unfold ScBox; rw [hW]; exact h)
theorem end_at {W : World} {g : Nat} {s : ByteArray} {x : Sc} (h : ScBox W g s x) (hp : x.pos ≤ 1048577) (W' : World) (hW : W'.heap = W.heap) :
    Calls Tryz.prog 88 #[.pointer (some ⟨g, 0, none⟩)] W' fun e w' => e = .returned (.bool (decide (s.size ≤ x.pos))) ∧ ScBox w' g s (x.ended s) ∧ W'.grownBy w' (some g) :=
  end_any W' g s x (by unfold ScBox; rw [hW]; exact h) hp
end Go.Proofs.YtefahocflhlgiaaGreatDoor
