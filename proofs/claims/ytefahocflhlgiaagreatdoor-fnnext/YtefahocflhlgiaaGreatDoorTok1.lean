/- The model's scanner: the search for a text (l02Find), and the scanner's small steps (ok, end, white, must). -/
import Derived.Test.YtefahocflhlgiaaGreatDoorProg
import Derived.Test.YtefahocflhlgiaaGreatDoorPlain1
import Derived.Test.YtefahocflhlgiaaGreatDoorStrs
import Derived.Test.YtefahocflhlgiaaGreatDoorLists
import Derived.Test.YtefahocflhlgiaaGreatDoorPlain10
import Derived.WalkKit
import Derived.WalkSpells
import Derived.WalkSmall
import Derived.Deep.QuietTactic
import Derived.BigQuiet
import Derived.RegionTactic
import Derived.BigRegion
namespace Go.Proofs.YtefahocflhlgiaaGreatDoor
open Go.RowKit Plain1 Strs Lists Plain9 Plain10

set_option maxHeartbeats 1000000 in
theorem find_any (s : ByteArray) (p : Nat) (what : ByteArray) (w : World) (hs : s.size ≤ 1048576) (hw : what.size ≤ 1048576) (hp : p ≤ s.size) :
    Calls Tryz.prog 33 #[.string s, .int .i64 p, .string what] w fun e w' => e = .returned (.int .i64 (findZ s p what)) ∧ w' = w := by
  obtain ⟨R, hR⟩ : ∃ R, findZ s p what = R := ⟨_, rfl⟩
  rw [hR]
  have HR : Hid (findGo s what (s.size + 1) p = R) := hR
  clear hR
  go_enter Tryz.func33, Tryz.ntmps33
  go_wp2
  go_loop [7] (fun i => ∃ (f k : Nat), k ≤ s.size + 1 ∧ i = .int .i64 k ∧ findGo s what f k = R ∧ s.size + 1 ≤ k + f) (fun i => s.size + 1 - (intOf i).toNat)
  case atStart => exact ⟨s.size + 1, p, by omega, rfl, HR.out, by omega⟩
  case round =>
    obtain ⟨f, k, hk, rfl, hf, hfu⟩ := hrel
    have HF : Hid (findGo s what f k = R) := hf
    clear hf
    by_cases hlt : k + what.size ≤ s.size
    · obtain ⟨f', rfl⟩ : ∃ f', f = f' + 1 := ⟨f - 1, by omega⟩
      cases hst : standsAt s k what with
      | true =>
        have hh := find_hit (f := f') hlt hst
        rw [HF.out] at hh
        have hst' : ((s.extract k (k + what.size)).toList == what.toList) = true := hst
        clear hst
        go_wp2
        go_ret
        exact ⟨rfl, rfl⟩
      | false =>
        have hh := find_miss (f := f') hlt hst
        rw [HF.out] at hh
        have HG : Hid (R = findGo s what f' (k + 1)) := hh
        have hst' : ((s.extract k (k + what.size)).toList == what.toList) = false := hst
        clear hst hh
        go_wp2
        go_round
        case rel => exact ⟨f', k + 1, by omega, by go_num, HG.out.symm, by omega⟩
        case measure => simp [intOf]; omega
    · have hh := find_end (f := f) hlt
      rw [HF.out] at hh
      go_wp2
      go_ret
      exact ⟨rfl, rfl⟩

/-- The scanner's box in memory. -/
def ScBox (w : World) (g : Nat) (s : ByteArray) (x : Sc) : Prop := w.heap[g]? = some (.cells #[.string s, .int .i64 (x.pos : Int), .bool (decide (x.fl = 1)), .bool (decide (2 ≤ x.fl)), .bool (decide (x.fl = 3))] 114)
theorem block5 {w : World} {g : Nat} {s : ByteArray} {x : Sc} (h : ScBox w g s x) :
    w.cell? ⟨g, 0, none⟩ = some (.string s) ∧ w.cell? ⟨g, 1, none⟩ = some (.int .i64 (x.pos : Int)) ∧ w.cell? ⟨g, 2, none⟩ = some (.bool (decide (x.fl = 1))) ∧ w.cell? ⟨g, 3, none⟩ = some (.bool (decide (2 ≤ x.fl))) ∧ w.cell? ⟨g, 4, none⟩ = some (.bool (decide (x.fl = 3))) ∧
    w.frozen? ⟨g, 1, none⟩ = false ∧ w.frozen? ⟨g, 2, none⟩ = false ∧ w.frozen? ⟨g, 3, none⟩ = false ∧ w.frozen? ⟨g, 4, none⟩ = false := by
  unfold ScBox at h
  simp [World.cell?, World.frozen?, h]
theorem block0 {w : World} {g : Nat} {s : ByteArray} {p : Nat} (h : ScBox w g s ⟨p, 0⟩) :
    w.cell? ⟨g, 0, none⟩ = some (.string s) ∧ w.cell? ⟨g, 1, none⟩ = some (.int .i64 (p : Int)) ∧ w.cell? ⟨g, 2, none⟩ = some (.bool false) ∧ w.cell? ⟨g, 3, none⟩ = some (.bool false) ∧ w.cell? ⟨g, 4, none⟩ = some (.bool false) ∧
    w.frozen? ⟨g, 1, none⟩ = false ∧ w.frozen? ⟨g, 2, none⟩ = false ∧ w.frozen? ⟨g, 3, none⟩ = false ∧ w.frozen? ⟨g, 4, none⟩ = false := block5 h
theorem fl_cases (f : Nat) : (f = 0 ∧ decide (f = 0) = true ∧ decide (f = 1) = false ∧ decide (2 ≤ f) = false) ∨ (f = 1 ∧ decide (f = 0) = false ∧ decide (f = 1) = true ∧ decide (2 ≤ f) = false) ∨ (2 ≤ f ∧ decide (f = 0) = false ∧ decide (f = 1) = false ∧ decide (2 ≤ f) = true) := by
  by_cases h0 : f = 0
  · left; subst h0; simp
  · by_cases h1 : f = 1
    · right; left; subst h1; simp
    · right; right; exact ⟨by omega, decide_eq_false h0, decide_eq_false h1, decide_eq_true (by omega)⟩

theorem ok_any (w : World) (g : Nat) (s : ByteArray) (x : Sc) (h : ScBox w g s x) :
    Calls Tryz.prog 68 #[.pointer (some ⟨g, 0, none⟩)] w fun e w' => e = .returned (.bool (decide (x.fl = 0))) ∧ w' = w := by
  obtain ⟨c0, c1, c2, c3, c4, f1, f2, f3, f4⟩ := block5 h
  clear h c0 c1 c4 f1 f2 f3 f4
  rcases fl_cases x.fl with ⟨_, e0, e1, e2⟩ | ⟨_, e0, e1, e2⟩ | ⟨_, e0, e1, e2⟩
  all_goals
    rw [e1] at c2
    rw [e2] at c3
    rw [e0]
    clear e0 e1 e2
    go_enter Tryz.func68, Tryz.ntmps68
    go_wp2
    go_ret
    exact ⟨rfl, rfl⟩

theorem set5 {w : World} {g : Nat} {c : Array Value} {t : TypeId} {fr : Nat × Nat} (h : w.heap[g]? = some (.cells c t fr)) (j : Nat) (u : Value) : (w.setCell ⟨g, j, none⟩ u).heap[g]? = some (.cells (c.setIfInBounds j u) t fr) := by
  have hlt : g < w.heap.size := (Array.getElem?_eq_some_iff.1 h).1
  have hv := (Array.getElem?_eq_some_iff.1 h).2
  unfold World.setCell
  rw [Array.getElem?_eq_getElem (by simpa using hlt)]
  simp [Array.getElem_modify, hv]
theorem gset5 {w : World} {g j : Nat} (u : Value) : w.grownBy (w.setCell ⟨g, j, none⟩ u) (some g) :=
  ⟨rfl, rfl, rfl, by simp, fun k _ hk => Below.heap_setCell w ⟨g, j, none⟩ u k (fun e => hk (by rw [e]))⟩
theorem gdrew5 (w : World) (k : Nat) (r : Option Nat) : w.grownBy (w.drewN k) r := ⟨rfl, rfl, rfl, Nat.le_refl _, fun _ _ _ => rfl⟩
theorem gtrans5 {a b c : World} {r : Option Nat} (h : a.grownBy b r) (k : b.grownBy c r) : a.grownBy c r :=
  ⟨k.os.trans h.os, k.tape.trans h.tape, k.output.trans h.output, Nat.le_trans h.size k.size, fun i hi hr => (k.block i (Nat.lt_of_lt_of_le hi h.size) hr).trans (h.block i hi hr)⟩

theorem box_pos {W : World} {g : Nat} {s : ByteArray} {p f : Nat} (h : ScBox W g s ⟨p, f⟩) (q : Nat) : ScBox (W.setCell ⟨g, 1, none⟩ (.int .i64 (q : Int))) g s ⟨q, f⟩ := set5 h 1 _
theorem box_posI {W : World} {g : Nat} {s : ByteArray} {p f : Nat} (h : ScBox W g s ⟨p, f⟩) {z : Int} (q : Nat) (hz : z = (q : Int)) : ScBox (W.setCell ⟨g, 1, none⟩ (.int .i64 z)) g s ⟨q, f⟩ := by rw [hz]; exact box_pos h q
theorem box_short {W : World} {g : Nat} {s : ByteArray} {p : Nat} (h : ScBox W g s ⟨p, 0⟩) : ScBox (W.setCell ⟨g, 2, none⟩ (.bool true)) g s ⟨p, 1⟩ := by
  have h5 := set5 h 2 (.bool true)
  unfold ScBox; rw [h5]; rfl
theorem box_bad {W : World} {g : Nat} {s : ByteArray} {p : Nat} (h : ScBox W g s ⟨p, 0⟩) : ScBox (W.setCell ⟨g, 3, none⟩ (.bool true)) g s ⟨p, 2⟩ := by
  have h5 := set5 h 3 (.bool true)
  unfold ScBox; rw [h5]; rfl
theorem box_badf {W : World} {g : Nat} {s : ByteArray} {p f : Nat} (hf : f = 0) (h : ScBox W g s ⟨p, f⟩) : ScBox (W.setCell ⟨g, 3, none⟩ (.bool true)) g s ⟨p, 2⟩ := by subst hf; exact box_bad h
theorem box_there {W : World} {g : Nat} {s : ByteArray} {p : Nat} (h : ScBox W g s ⟨p, 0⟩) : ScBox ((W.setCell ⟨g, 4, none⟩ (.bool true)).setCell ⟨g, 3, none⟩ (.bool true)) g s ⟨p, 3⟩ := by
  have h5 := set5 h 4 (.bool true)
  have h6 := set5 h5 3 (.bool true)
  unfold ScBox; rw [h6]; rfl

theorem end_any (w : World) (g : Nat) (s : ByteArray) (x : Sc) (h : ScBox w g s x) (hp : x.pos ≤ 1048577) :
    Calls Tryz.prog 88 #[.pointer (some ⟨g, 0, none⟩)] w fun e w' => e = .returned (.bool (decide (s.size ≤ x.pos))) ∧ ScBox w' g s (x.ended s) ∧ w.grownBy w' (some g) := by
  obtain ⟨c0, c1, c2, c3, c4, f1, f2, f3, f4⟩ := block5 h
  have HB : Hid (ScBox w g s x) := h
  clear h
  obtain ⟨pos, fl⟩ := x
  simp only at c0 c1 c2 c3 c4 hp ⊢
  by_cases he : s.size ≤ pos
  · rw [decide_eq_true he]
    have HE : Hid (s.size ≤ pos) := he
    have hei : (s.size : Int) ≤ (pos : Int) := by omega
    have key : ∀ W : World, ScBox W g s ⟨pos, fl⟩ → ∀ u, u = (decide (fl = 1) || !decide (2 ≤ fl)) → ScBox (W.setCell ⟨g, 2, none⟩ (.bool u)) g s ((Sc.mk pos fl).ended s) := by
      intro W hW u hu
      have h5 := set5 (w := W) hW 2 (.bool u)
      unfold ScBox
      rw [h5]
      rcases fl_cases fl with ⟨h0, e0, e1, e2⟩ | ⟨h0, e0, e1, e2⟩ | ⟨h0, e0, e1, e2⟩
      · subst h0; rw [ended_end HE.out rfl, hu]; rfl
      · rw [ended_fl (by show fl ≠ 0; omega), hu, e1, e2]; simp
      · rw [ended_fl (by show fl ≠ 0; omega), hu, e1, e2]; simp
    have KEY : Hid (∀ W : World, ScBox W g s ⟨pos, fl⟩ → ∀ u, u = (decide (fl = 1) || !decide (2 ≤ fl)) → ScBox (W.setCell ⟨g, 2, none⟩ (.bool u)) g s ((Sc.mk pos fl).ended s)) := key
    clear key he
    rcases fl_cases fl with ⟨h0, e0, e1, e2⟩ | ⟨h0, e0, e1, e2⟩ | ⟨h0, e0, e1, e2⟩
    all_goals
      have E : Hid (decide (fl = 1) = _ ∧ decide (2 ≤ fl) = _) := ⟨e1, e2⟩
      rw [e1] at c2
      rw [e2] at c3
      clear e0 e1 e2 h0 c4
      go_enter Tryz.func88, Tryz.ntmps88
      go_wp2_with fail
      go_quiet (fail)
      go_wp2
      go_ret
      exact ⟨rfl, KEY.out (w.drewN nq) HB.out _ (by rw [E.out.1, E.out.2]; rfl), gtrans5 (gdrew5 w nq _) (gset5 _)⟩
  · rw [ended_in (show (Sc.mk pos fl).pos < s.size by show pos < s.size; omega), decide_eq_false he]
    have hei : ¬ (s.size : Int) ≤ (pos : Int) := by omega
    clear he
    go_enter Tryz.func88, Tryz.ntmps88
    go_wp2_with fail
    go_quiet (fail)
    go_wp2
    go_ret
    exact ⟨rfl, HB.out, gdrew5 w nq _⟩
end Go.Proofs.YtefahocflhlgiaaGreatDoor
