/- The model's scanner: whether attributes have a name. -/
import Derived.Test.YtefahocflhlgiaaGreatDoorTok8b
namespace Go.Proofs.YtefahocflhlgiaaGreatDoor
open Go.RowKit Plain1 Strs Strs2 Lists Plain3 Plain5 Plain6 Plain9 Plain10 Plain11

theorem acells_len (l : List (ByteArray × ByteArray)) : (acells l).length = l.length * 2 := by
  induction l with
  | nil => rfl
  | cons a t ih => simp only [acells, List.flatMap_cons, List.length_append] at ih ⊢; rw [ih]; simp; omega
theorem acells_cons (a : ByteArray × ByteArray) (t : List (ByteArray × ByteArray)) : acells (a :: t) = .string a.1 :: .string a.2 :: acells t := rfl
theorem acells_snoc (l : List (ByteArray × ByteArray)) (a : ByteArray × ByteArray) : acells (l ++ [a]) = acells l ++ [.string a.1, .string a.2] := by
  simp [acells]
theorem acells_get : ∀ (l : List (ByteArray × ByteArray)) (i : Nat) (h : i < l.length), (acells l)[2 * i]? = some (.string (l[i]'h).1) ∧ (acells l)[2 * i + 1]? = some (.string (l[i]'h).2)
  | a :: t, 0, h => by rw [acells_cons]; exact ⟨rfl, rfl⟩
  | a :: t, i + 1, h => by
    have ih := acells_get t i (by simpa using h)
    rw [acells_cons, show 2 * (i + 1) = 2 * i + 1 + 1 by omega]
    simpa using ih
/-- A slice of attributes as it lies in memory. -/
def AttrsAt (w : World) (a : Option Addr) (l : List (ByteArray × ByteArray)) : Prop :=
  l = [] ∨ ∃ g : Nat, a = some ⟨g, 0, none⟩ ∧ ∀ i (h : i < l.length), w.cell? ⟨g, i * 2, none⟩ = some (.string (l[i]'h).1) ∧ w.cell? ⟨g, i * 2 + 1, none⟩ = some (.string (l[i]'h).2)
theorem attrs_of_row {w : World} {base : Nat} {e : TypeId} {v : Value} {l : List (ByteArray × ByteArray)} (h : w.ownsRow base e 2 v l.length (acells l)) : ∃ a c, v = .slice a l.length c ∧ AttrsAt w a l := by
  rcases owns_forms h with ⟨rfl, hn⟩ | ⟨g, cap, rfl⟩
  · have hl : l = [] := List.eq_nil_of_length_eq_zero hn
    subst hl
    exact ⟨none, 0, rfl, .inl rfl⟩
  · refine ⟨_, cap, rfl, .inr ⟨g, rfl, fun i hi => ?_⟩⟩
    have hg := acells_get l i hi
    rw [Nat.mul_comm] at hg
    exact ⟨by rw [h.cellAt (i * 2) (by omega)]; exact hg.1, by rw [h.cellAt (i * 2 + 1) (by omega)]; exact hg.2⟩
def hasTo (l : List (ByteArray × ByteArray)) (n : ByteArray) (k : Nat) : Bool := hasZ (l.take k) n
theorem hasTo_succ {l : List (ByteArray × ByteArray)} {n : ByteArray} {k : Nat} (h : k < l.length) : hasTo l n (k + 1) = (hasTo l n k || (l[k]'h).1.toList == n.toList) := by
  unfold hasTo hasZ
  rw [List.take_succ_eq_append_getElem h, List.any_append]
  simp
theorem hasTo_mono {l : List (ByteArray × ByteArray)} {n : ByteArray} {k : Nat} (h : hasTo l n k = true) : hasZ l n = true := by
  unfold hasTo hasZ at *
  obtain ⟨a, ha, hb⟩ := List.any_eq_true.1 h
  exact List.any_eq_true.2 ⟨a, List.mem_of_mem_take ha, hb⟩

set_option maxHeartbeats 2000000 in
theorem l02Has_any (w : World) (a : Option Addr) (c : Nat) (l : List (ByteArray × ByteArray)) (n : ByteArray) (h : AttrsAt w a l) (hl : l.length ≤ 1048576) :
    Calls Tryz.prog 120 #[.slice a l.length c, .string n] w fun e w' => e = .returned (.bool (hasZ l n)) ∧ w' = w := by
  have HA := mkHidT h
  clear h
  obtain ⟨R, hR⟩ : ∃ R, hasZ l n = R := ⟨_, rfl⟩
  rw [hR]
  have HR := mkHidT hR
  clear hR
  go_enter Tryz.func120, Tryz.ntmps120
  go_wp2
  go_loop [5] (fun i => ∃ k : Nat, k ≤ l.length ∧ i = .int .i64 k ∧ hasTo l n k = false) (fun i => l.length - (intOf i).toNat)
  case atStart => exact ⟨0, Nat.zero_le _, rfl, rfl⟩
  case round =>
    obtain ⟨k, hk, rfl, hno⟩ := hrel
    have HNO := mkHidT hno
    clear hno
    by_cases hlt : k < l.length
    · have hlti : (k : Int) < (l.length : Int) := by omega
      rcases HA.out with h0 | ⟨g, ha, hcells⟩
      · subst h0; simp at hlt
      · subst ha
        obtain ⟨h1, _⟩ := hcells k hlt
        obtain ⟨m, hm⟩ : ∃ m, (l[k]'hlt).1 = m := ⟨_, rfl⟩
        rw [hm] at h1
        have HM := mkHidT hm
        clear hcells hm
        cases hst : (m.toList == n.toList) with
        | true =>
          have hRt : R = true := by rw [← HR.out]; apply hasTo_mono (k := k + 1); rw [hasTo_succ hlt, HM.out, hst, Bool.or_true]
          subst hRt
          go_wp2
          go_ret
          exact ⟨rfl, rfl⟩
        | false =>
          have hno2 : hasTo l n (k + 1) = false := by rw [hasTo_succ hlt, HM.out, hst, HNO.out]; rfl
          have HN2 := mkHidT hno2
          clear hno2
          go_wp2
          go_round
          case rel => exact ⟨k + 1, by omega, by go_num, HN2.out⟩
          case measure => simp [intOf]; omega
    · have hlti : ¬ (k : Int) < (l.length : Int) := by omega
      have hRf : R = false := by
        rw [← HR.out]
        have hkl : k = l.length := by omega
        have h0 := HNO.out
        rw [hkl] at h0
        unfold hasTo at h0
        rw [List.take_length] at h0
        exact h0
      subst hRf
      go_wp2
      go_ret
      exact ⟨rfl, rfl⟩
end Go.Proofs.YtefahocflhlgiaaGreatDoor
