/- The program's scanner: take. -/
import Derived.Test.YtefahocflhlgiaaGreatDoorIm1
namespace Go.Proofs.YtefahocflhlgiaaGreatDoor
open Go.RowKit Plain1 Strs Strs2 Lists Plain9 Plain10 Plain11 Plain12

theorem im_set {w : World} {g : Nat} {s : ByteArray} {p : Nat} (h : ImBox w g s p) {z : Int} (q : Nat) (hz : z = (q : Int)) : ImBox (w.setCell ⟨g, 1, none⟩ (.int .i64 z)) g s q := by
  subst hz
  have hlt : g < w.heap.size := (Array.getElem?_eq_some_iff.1 h).1
  have hv := (Array.getElem?_eq_some_iff.1 h).2
  unfold ImBox World.setCell
  rw [Array.getElem?_eq_getElem (by simpa using hlt)]
  simp [Array.getElem_modify, hv]
theorem im_gset {w : World} {g j : Nat} (u : Value) : w.grownBy (w.setCell ⟨g, j, none⟩ u) (some g) :=
  ⟨rfl, rfl, rfl, by simp, fun k _ hk => Below.heap_setCell w ⟨g, j, none⟩ u k (fun e => hk (by rw [e]))⟩
theorem im_gdrew (w : World) (k : Nat) (r : Option Nat) : w.grownBy (w.drewN k) r := ⟨rfl, rfl, rfl, Nat.le_refl _, fun _ _ _ => rfl⟩
theorem im_gtrans {a b c : World} {r : Option Nat} (h : a.grownBy b r) (k : b.grownBy c r) : a.grownBy c r :=
  ⟨k.os.trans h.os, k.tape.trans h.tape, k.output.trans h.output, Nat.le_trans h.size k.size, fun i hi hr => (k.block i (Nat.lt_of_lt_of_le hi h.size) hr).trans (h.block i hi hr)⟩
theorem take_any {w : World} {g : Nat} {s sg : ByteArray} {p : Nat} (h : ImBox w g s p) (hs : s.size ≤ 1048576) (hp : p ≤ s.size) :
    Calls Tryz.prog 50 #[.pointer (some ⟨g, 0, none⟩), .string sg] w fun e w' => e = .returned (.bool (hasAt s p sg.data.toList)) ∧ ImBox w' g s (if hasAt s p sg.data.toList = true then p + sg.data.toList.length else p) ∧ w.grownBy w' (some g) := by
  have ha := ahead_any (sg := sg) h hp w rfl
  have HB := mkHidI1 h
  clear h
  cases hh : hasAt s p sg.data.toList with
  | false =>
    rw [hh] at ha
    have HH := mkHidI1 hh
    clear hh
    go_enter Tryz.func50, Tryz.ntmps50
    go_wp2_with fail
    refine ha.mono ?_
    rintro e w1 ⟨rfl, n, hww⟩
    subst hww
    go_wp2
    go_ret
    exact ⟨rfl, HB.out, im_gdrew w n _⟩
  | true =>
    have hroom := has_room hh hp
    rw [← Lib.size_eq] at hroom ⊢
    rw [hh] at ha
    have hwr : IntKind.i64.wrap ((p : Int) + (sg.size : Int)) = (p : Int) + (sg.size : Int) := wrapSm (by omega) (by omega)
    clear hh
    go_enter Tryz.func50, Tryz.ntmps50
    go_wp2_with fail
    refine ha.mono ?_
    rintro e w1 ⟨rfl, n, hww⟩
    have HB1 : Hid (ImBox w1 g s p) := by rw [hww]; exact HB.out
    have HG1 : Hid (w.grownBy w1 (some g)) := by rw [hww]; exact im_gdrew w n _
    clear hww ha
    obtain ⟨c0, c1, f1⟩ := imcells HB1.out
    go_wp2
    go_ret
    exact ⟨rfl, im_set HB1.out (p + sg.size) (by omega), im_gtrans HG1.out (im_gset _)⟩
end Go.Proofs.YtefahocflhlgiaaGreatDoor
