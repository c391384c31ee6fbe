/- The helpers of the laws of reading: lwAttrs, lwAt. -/
import Derived.Test.YtjdhmkklbnlomaaGreatDoorRd25
import Derived.WalkSmall
import Derived.Deep.QuietTactic
import Derived.BigQuiet
namespace Go.Proofs.YtjdhmkklbnlomaaGreatDoor
open Go.RowKit Plain1 Strs Strs2 Lists Plain3 Plain5 Plain6 Plain9 Plain10 Plain11 Plain12 Plain16 Ents

/-- A slice of bytes that was handed in. -/
def FedL (W0 : World) (a : Option Addr) (n : Nat) (zs : List Int) : Prop := n = zs.length ∧ n ≤ 1048576 ∧ Ints .u8 W0 a zs ∧ ∀ i, i < zs.length → 0 ≤ zs.getD i 0 ∧ zs.getD i 0 ≤ 255
/-- What lwAt tells. -/
def lwV (zs : List Int) (k m : Nat) : Nat := if zs.length = 0 then 0 else (zs.getD (k % zs.length) 0 % (m : Int)).toNat
theorem lwV_lt (zs : List Int) (k m : Nat) (hm : 1 ≤ m) : lwV zs k m < m := by
  unfold lwV
  split
  · omega
  · have := Int.emod_lt_of_pos (zs.getD (k % zs.length) 0) (show (0 : Int) < m by omega)
    have := Int.emod_nonneg (zs.getD (k % zs.length) 0) (show (m : Int) ≠ 0 by omega)
    omega
theorem gnR4 (w : World) (r : Option Nat) : w.grownBy w r := ⟨rfl, rfl, rfl, Nat.le_refl _, fun _ _ _ => rfl⟩
theorem gnT4 {a b c : World} (h : a.grownBy b none) (k : b.grownBy c none) : a.grownBy c none :=
  ⟨k.os.trans h.os, k.tape.trans h.tape, k.output.trans h.output, Nat.le_trans h.size k.size, fun i hi hr => (k.block i (Nat.lt_of_lt_of_le hi h.size) hr).trans (h.block i hi hr)⟩
theorem acells_at4 : ∀ (l : List (ByteArray × ByteArray)) (j : Nat) (hj : j < l.length), (acells l)[j * 2]? = some (.string (l[j]'hj).1) ∧ (acells l)[j * 2 + 1]? = some (.string (l[j]'hj).2)
  | [], j, hj => by simp at hj
  | a :: l, 0, _ => by simp [acells]
  | a :: l, j + 1, hj => by
    have h := acells_at4 l j (by simpa using hj)
    have e : acells (a :: l) = .string a.1 :: .string a.2 :: acells l := rfl
    rw [e, show (j + 1) * 2 = j * 2 + 1 + 1 by omega]
    simpa using h
theorem row_ents4 {W : World} {B : Nat} {t : TypeId} {v : Value} {l : List (ByteArray × ByteArray)} (h : W.ownsRow B t 2 v l.length (acells l)) : ∃ ao ac, v = .slice ao l.length ac ∧ EntsAt W ao l := by
  rcases h.2 with ⟨h0, hn⟩ | ⟨g, cap, cur, hv, _⟩
  · exact ⟨none, 0, by rw [h0, hn], 0, 0, fun h => by omega, fun i hi => by omega⟩
  · subst hv
    refine ⟨_, _, rfl, g, 0, fun _ => rfl, fun j hj => ?_⟩
    have h1 := h.cellAt (j * 2) (by omega)
    have h2 := h.cellAt (j * 2 + 1) (by omega)
    rw [Nat.zero_add]
    exact ⟨by rw [h1]; exact (acells_at4 l j hj).1, by rw [h2]; exact (acells_at4 l j hj).2⟩

set_option maxRecDepth 100000 in
set_option maxHeartbeats 2000000 in
theorem lwAttrs_same (w : World) (a a' : Option Addr) (n c c' : Nat) (l : List (ByteArray × ByteArray)) (hn : n = l.length) (hl : l.length ≤ 1048576) (h : EntsAt w a l) (h' : EntsAt w a' l) :
    Calls Tryz.prog 10 #[.slice a n c, .slice a' n c'] w fun e w' => e = .returned (.bool true) ∧ w.grownBy w' none := by
  subst hn
  have HA := mkHidT h
  have HA' := mkHidT h'
  clear h h'
  go_enter Tryz.func10, Tryz.ntmps10
  go_wp2
  go_loopw [5] (fun i wr => ∃ (k : Nat), k ≤ l.length ∧ i = .int .i64 k ∧ w.grownBy wr none) (fun i _ => l.length - (intOf i).toNat)
  case atStart => exact ⟨0, Nat.zero_le _, rfl, gnR4 _ _⟩
  case round =>
    obtain ⟨k, hk, rfl, hgr⟩ := hrel
    have HG := mkHidT hgr
    clear hgr
    by_cases hlt : k < l.length
    · obtain ⟨b, off, ha, hc⟩ := HA.out.grown HG.out
      obtain rfl := ha (by omega)
      obtain ⟨c1, c2⟩ := hc k hlt
      obtain ⟨b', off', ha', hc'⟩ := HA'.out.grown HG.out
      obtain rfl := ha' (by omega)
      obtain ⟨d1, d2⟩ := hc' k hlt
      obtain ⟨E, hE⟩ : ∃ E, l[k]'hlt = E := ⟨_, rfl⟩
      rw [hE] at c1 c2 d1 d2
      clear hc ha hE hc' ha' HA HA'
      go_wp2_with fail
      go_quiet (fail)
      go_wp2
      go_roundw
      case rel => exact ⟨k + 1, by omega, by go_num, gnT4 HG.out (im_gdrew _ _ _)⟩
      case measure => simp [intOf]; omega
    · go_wp2
      go_ret
      exact ⟨rfl, HG.out⟩


set_option maxRecDepth 100000 in
set_option maxHeartbeats 1000000 in
theorem lwAt_any (w : World) (a : Option Addr) (n cap : Nat) (zs : List Int) (hS : FedL w a n zs) (k m : Nat) (hk : k ≤ 1000) (hm : 2 ≤ m) (hm2 : m ≤ 1000) :
    Calls Tryz.prog 6 #[.slice a n cap, .int .i64 (k : Int), .int .i64 (m : Int)] w fun e w' => e = .returned (.int .i64 (lwV zs k m : Int)) ∧ Below w.heap.size w w' := by
  obtain ⟨hn, hl, ⟨b, off, ha, hc⟩, hz⟩ := hS
  have hm1 : ¬ (m : Int) ≤ 1 := by omega
  by_cases h0 : n = 0
  · have e : lwV zs k m = 0 := by unfold lwV; rw [if_pos (by omega)]
    rw [e, h0]
    clear ha hc hz e hn h0 hl
    go_enter Tryz.func6, Tryz.ntmps6
    go_wp2
    go_ret
    exact ⟨rfl, Below.refl _ _⟩
  · rw [← hn] at ha hz hc
    obtain rfl := ha (by omega)
    have hkn : k % n < n := Nat.mod_lt _ (by omega)
    have c0 := hc (k % n) hkn
    obtain ⟨y, hy⟩ : ∃ y, zs.getD (k % n) 0 = y := ⟨_, rfl⟩
    have hb := hz (k % n) hkn
    have e : (lwV zs k m : Int) = y % (m : Int) := by
      unfold lwV
      rw [if_neg (by omega), ← hn, hy]
      exact Int.toNat_of_nonneg (Int.emod_nonneg y (by omega))
    rw [hy] at hb c0
    rw [e]
    have hn0 : ¬ (n : Int) = 0 := by omega
    have hmod : ((k : Int).tmod (n : Int)) = ((k % n : Nat) : Int) := by rw [Int.tmod_eq_emod_of_nonneg (by omega)]; rfl
    obtain ⟨q, hq⟩ : ∃ q, k % n = q := ⟨_, rfl⟩
    rw [hq] at hmod hkn c0
    have hym : y.tmod (m : Int) = y % (m : Int) := Int.tmod_eq_emod_of_nonneg hb.1
    have hyl := Int.emod_lt_of_pos y (show (0 : Int) < m by omega)
    have hyn := Int.emod_nonneg y (show (m : Int) ≠ 0 by omega)
    clear ha hc hz hy hn e hq
    go_enter Tryz.func6, Tryz.ntmps6
    go_wp2
    go_ret
    exact ⟨rfl, Below.refl _ _⟩
end Go.Proofs.YtjdhmkklbnlomaaGreatDoor
