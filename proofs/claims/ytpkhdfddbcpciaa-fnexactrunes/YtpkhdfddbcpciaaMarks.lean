/- The contracts of the laws' helpers that mark a list and look whether it is held: markInt64S, heldInt64S, and over an answer of Runes: eqRunesOut, markRunesOut, heldRunesOut. -/
import Derived.Test.YtpkhdfddbcpciaaEqInts
import Derived.WalkKit
import Derived.WalkSmall
namespace Go.Proofs.Ytpkhdfddbcpciaa
open Go.RowKit Plain1 Lists

def marks (n : Nat) : List Int := (List.range n).map fun (i : Nat) => 1 + (i : Int)
theorem marks_len (n : Nat) : (marks n).length = n := by simp [marks]
theorem marks_get (n i : Nat) (h : i < n) : (marks n).getD i 0 = 1 + (i : Int) := by simp [marks, List.getD, h]
theorem marks_of {n : Nat} {xs : List Value} (hl : xs.length = n) (h : ∀ t, t < n → xs[t]? = some (.int .i64 (1 + (t : Int)))) : xs = (marks n).map (Value.int .i64) := by
  apply List.ext_getElem?
  intro j
  by_cases hj : j < n
  · rw [h j hj]; simp [marks, hj]
  · rw [List.getElem?_eq_none (by omega), List.getElem?_eq_none (by simp [marks]; omega)]

theorem grown_refl (w : World) (r : Option Nat) : w.grownBy w r := ⟨rfl, rfl, rfl, Nat.le_refl _, fun _ _ _ => rfl⟩
theorem grown_trans {a b c : World} {r : Option Nat} (h : a.grownBy b r) (k : b.grownBy c r) : a.grownBy c r :=
  ⟨k.os.trans h.os, k.tape.trans h.tape, k.output.trans h.output, Nat.le_trans h.size k.size, fun i hi hr => (k.block i (Nat.lt_of_lt_of_le hi h.size) hr).trans (h.block i hi hr)⟩
theorem grown_below {a b : World} {r : Option Nat} (h : Below a.heap.size a b) : a.grownBy b r := ⟨h.os, h.tape, h.output, h.size, fun i hi _ => h.block i hi⟩

theorem markInts_any (B : Nat) (v : Value) (n : Nat) (ys : List Value) (w : World) (hown : w.ownsRow B 2 1 v n ys) (hn : n ≤ 1048576) :
    Calls Try.prog 31 #[v, .int .i64 1] w fun e w' => e = .returned (.int .i64 (1 + (n : Int))) ∧ w'.ownsRow B 2 1 v n ((marks n).map (Value.int .i64)) ∧ w.grownBy w' v.ownBlock := by
  rcases owns_forms hown with ⟨rfl, rfl⟩ | ⟨g, cap, rfl⟩
  · go_enter Try.func31, Try.ntmps31
    go_wp2
    go_loopw [1, 5] (fun kk i wr => kk = .int .i64 1 ∧ i = .int .i64 0 ∧ wr = w) (fun _ _ _ => 0)
    case atStart => exact ⟨rfl, rfl, rfl⟩
    case round =>
      obtain ⟨rfl, rfl, rfl⟩ := hrel
      go_wp2
      go_ret
      exact ⟨rfl, World.ownsRow_nil _ _ _ _, grown_refl _ _⟩
  · go_enter Try.func31, Try.ntmps31
    go_wp2
    go_loopw [1, 5] (fun kk i wr => ∃ (j : Nat) (xs : List Value), j ≤ n ∧ kk = .int .i64 (1 + (j : Int)) ∧ i = .int .i64 j ∧ wr.ownsRow B 2 1 (.slice (some ⟨g, 0, none⟩) n cap) n xs ∧ (∀ t, t < j → xs[t]? = some (.int .i64 (1 + (t : Int)))) ∧ w.grownBy wr (some g)) (fun _ i _ => n - (intOf i).toNat)
    case atStart => exact ⟨0, ys, Nat.zero_le _, rfl, rfl, hown, fun t ht => absurd ht (by omega), grown_refl _ _⟩
    case round =>
      obtain ⟨j, xs, hj, rfl, rfl, ho, hx, hb⟩ := hrel
      by_cases hlt : j < n
      · have hxl : xs.length = n := by have := ho.1; omega
        have c2 := ho.cellAt j (by omega)
        rw [List.getElem?_eq_getElem (by omega)] at c2
        have f2 := ho.frozenAt j
        obtain ⟨HO, HG⟩ := ho.stored j (.int .i64 (1 + (j : Int)))
        have hb' := grown_trans hb HG
        have HX : Hid (∀ t, t < j → xs[t]? = some (.int .i64 (1 + (t : Int)))) := hx
        have HH : Hid ((wr.setCell ⟨g, j, none⟩ (.int .i64 (1 + (j : Int)))).ownsRow B 2 1 (.slice (some ⟨g, 0, none⟩) n cap) n (xs.set j (.int .i64 (1 + (j : Int))))) := HO
        clear HO ho hx hown hb HG
        go_wp2
        go_roundw
        case rel =>
          refine ⟨j + 1, _, by omega, by go_num, by go_num, HH.out, fun t ht => ?_, hb'⟩
          by_cases hjk : t = j
          · subst hjk
            rw [List.getElem?_set_self (by omega)]
          · rw [List.getElem?_set_ne (by omega)]
            exact HX.out t (by omega)
        case measure => simp [intOf]; omega
      · obtain rfl : j = n := by omega
        have HX : Hid (∀ t, t < j → xs[t]? = some (.int .i64 (1 + (t : Int)))) := hx
        clear hx hown
        go_wp2
        go_ret
        have e := marks_of (by have := ho.1; omega) HX.out
        rw [← e]
        exact ⟨rfl, ho, hb⟩

theorem heldInts_any (a : Option Addr) (n cap : Nat) (w : World) (hA : Ints .i64 w a (marks n)) (hn : n ≤ 1048576) :
    Calls Try.prog 32 #[.slice a n cap, .int .i64 1] w fun e w' => e = .returned (.int .i64 (1 + (n : Int))) ∧ w' = w := by
  obtain ⟨b, off, ha, hc⟩ := hA
  rw [marks_len] at ha hc
  go_enter Try.func32, Try.ntmps32
  go_wp2
  go_loop [1, 5] (fun kk i => ∃ (j : Nat), j ≤ n ∧ kk = .int .i64 (1 + (j : Int)) ∧ i = .int .i64 j) (fun _ i => n - (intOf i).toNat)
  case atStart => exact ⟨0, Nat.zero_le _, rfl, rfl⟩
  case round =>
    obtain ⟨j, hj, rfl, rfl⟩ := hrel
    by_cases hlt : j < n
    · obtain rfl := ha (by omega)
      have c1 := hc j hlt
      rw [marks_get n j hlt] at c1
      clear hc ha
      go_wp2
      go_round
      case rel => exact ⟨j + 1, by omega, by go_num, by go_num⟩
      case measure => simp [intOf]; omega
    · obtain rfl : j = n := by omega
      clear hc ha
      go_wp2
      go_ret
      exact ⟨rfl, rfl⟩

/-- Two boxes of three cells, one behind the other, behind a callee. -/
theorem two_boxes {w w1 : World} {a b c a' b' c' : Value} {t t' : TypeId} (hb : Below ((w.alloc (.cells #[a, b, c] t)).alloc (.cells #[a', b', c'] t')).heap.size ((w.alloc (.cells #[a, b, c] t)).alloc (.cells #[a', b', c'] t')) w1) :
    w1.cell? ⟨w.heap.size, 1, none⟩ = some b ∧ w1.cell? ⟨w.heap.size, 2, none⟩ = some c ∧ w1.cell? ⟨w.heap.size + 1, 1, none⟩ = some b' ∧ w1.cell? ⟨w.heap.size + 1, 2, none⟩ = some c' ∧ Hid (Below w.heap.size w w1) := by
  refine ⟨(hb.cell (p := ⟨w.heap.size, 1, none⟩) (by simp; omega)).trans ?_, (hb.cell (p := ⟨w.heap.size, 2, none⟩) (by simp; omega)).trans ?_, (hb.cell (p := ⟨w.heap.size + 1, 1, none⟩) (by simp)).trans ?_, (hb.cell (p := ⟨w.heap.size + 1, 2, none⟩) (by simp)).trans ?_, (((Below.refl _ w).alloc (Nat.le_refl _) _).alloc (by simp) _).trans (hb.mono (by simp; omega))⟩
  all_goals go_simp

/-- Two answers of Runes that are alike. -/
theorem eqOut_same (a a' : Option Addr) (cap cap' : Nat) (l : List Int) (at3 co : Int) (w : World) (hl : l.length ≤ 1048576) (hA : Ints .i64 w a l) (hA' : Ints .i64 w a' l) :
    Calls Try.prog 12 #[.agg #[.slice a l.length cap, .int .i64 at3, .int .i64 co], .agg #[.slice a' l.length cap', .int .i64 at3, .int .i64 co]] w fun e w' => e = .returned (.bool true) ∧ Below w.heap.size w w' := by
  have hA1 := fun (o o' : Obj) => hA.below ((((Below.refl _ w).alloc (Nat.le_refl _) o).alloc (by simp) o')) (Nat.le_refl _)
  have hA2 := fun (o o' : Obj) => hA'.below ((((Below.refl _ w).alloc (Nat.le_refl _) o).alloc (by simp) o')) (Nat.le_refl _)
  have hcall := fun (o o' : Obj) => eqInts_same a a' l.length cap cap' l ((w.alloc o).alloc o') rfl hl (hA1 o o') (hA2 o o')
  clear hA hA' hA1 hA2
  go_enter Try.func12, Try.ntmps12
  go_wp2_with (go_at_call 18; refine (hcall _ _).mono ?_; rintro e w1 ⟨rfl, hb1⟩; obtain ⟨c0, c1, c2, c3, HB⟩ := two_boxes hb1; clear hcall hb1)
  go_ret
  exact ⟨rfl, HB.out⟩

theorem markOut_any (B : Nat) (v : Value) (n : Nat) (ys : List Value) (at3 co : Int) (w : World) (hown : w.ownsRow B 2 1 v n ys) (hn : n ≤ 1048576) :
    Calls Try.prog 13 #[.agg #[v, .int .i64 at3, .int .i64 co], .int .i64 1] w fun e w' => e = .returned (.int .i64 (1 + (n : Int))) ∧ w'.ownsRow B 2 1 v n ((marks n).map (Value.int .i64)) ∧ w.grownBy w' v.ownBlock := by
  have hcall := fun (o : Obj) => markInts_any B v n ys (w.alloc o) (hown.alloc o) hn
  rcases owns_forms hown with ⟨rfl, rfl⟩ | ⟨g, cap, rfl⟩
  all_goals
    clear hown
    go_enter Try.func13, Try.ntmps13
    go_wp2_with (go_at_call 31; refine (hcall _).mono ?_; rintro e w1 ⟨rfl, ho1, hb1⟩)
    go_ret
    exact ⟨rfl, ho1, grown_trans (grown_below ((Below.refl _ w).alloc (Nat.le_refl _) _)) hb1⟩

theorem heldOut_any (a : Option Addr) (n cap : Nat) (at3 co : Int) (w : World) (hA : Ints .i64 w a (marks n)) (hn : n ≤ 1048576) :
    Calls Try.prog 14 #[.agg #[.slice a n cap, .int .i64 at3, .int .i64 co], .int .i64 1] w fun e w' => e = .returned (.int .i64 (1 + (n : Int))) ∧ Below w.heap.size w w' := by
  have hcall := fun (o : Obj) => heldInts_any a n cap (w.alloc o) (hA.below ((Below.refl _ w).alloc (Nat.le_refl _) o) (Nat.le_refl _)) hn
  clear hA
  go_enter Try.func14, Try.ntmps14
  go_wp2_with (go_at_call 32; refine (hcall _).mono ?_; rintro e w1 ⟨rfl, rfl⟩)
  go_ret
  exact ⟨rfl, (Below.refl _ w).alloc (Nat.le_refl _) _⟩
end Go.Proofs.Ytpkhdfddbcpciaa
