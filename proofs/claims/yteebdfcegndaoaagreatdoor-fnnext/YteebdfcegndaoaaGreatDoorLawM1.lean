/- The helpers of the law of Next: lwAttrs, lwToken, lwAt. -/
import Derived.Test.YteebdfcegndaoaaGreatDoorMdF
import Derived.Test.YteebdfcegndaoaaGreatDoorImA
import Derived.Test.YteebdfcegndaoaaGreatDoorDrA
import Derived.WalkKit
import Derived.WalkSmall
import Derived.Deep.QuietTactic
import Derived.BigQuiet
import Derived.Deep.RegionHeld3
namespace Go.Proofs.YteebdfcegndaoaaGreatDoor
open Go.RowKit Plain1 Strs Strs2 Lists Plain3 Plain5 Plain6 Plain9 Plain10 Plain11 Plain12 Plain16 Ents

theorem gnR4 (w : World) (r : Option Nat) : w.grownBy w r := ⟨rfl, rfl, rfl, Nat.le_refl _, fun _ _ _ => rfl⟩
theorem gnA4 (w : World) (o : Obj) : w.grownBy (w.alloc o) none := ⟨rfl, rfl, rfl, by simp, fun _ hk _ => heap_alloc_old w o hk⟩
theorem gnT4 {a b c : World} (h : a.grownBy b none) (k : b.grownBy c none) : a.grownBy c none :=
  ⟨k.os.trans h.os, k.tape.trans h.tape, k.output.trans h.output, Nat.le_trans h.size k.size, fun i hi hr => (k.block i (Nat.lt_of_lt_of_le hi h.size) hr).trans (h.block i hi hr)⟩
theorem acells_at4 : ∀ (l : List (ByteArray × ByteArray)) (j : Nat) (hj : j < l.length), (acells l)[j * 2]? = some (.string (l[j]'hj).1) ∧ (acells l)[j * 2 + 1]? = some (.string (l[j]'hj).2)
  | [], j, hj => by simp at hj
  | a :: l, 0, _ => by simp [acells]
  | a :: l, j + 1, hj => by
    have h := acells_at4 l j (by simpa using hj)
    have e : acells (a :: l) = .string a.1 :: .string a.2 :: acells l := rfl
    rw [e, show (j + 1) * 2 = j * 2 + 1 + 1 by omega]
    simpa using h
theorem row_ents4 {W : World} {B : Nat} {t : TypeId} {v : Value} {l : List (ByteArray × ByteArray)} (h : W.ownsRow B t 2 v l.length (acells l)) : ∃ ao ac, v = .slice ao l.length ac ∧ EntsAt W ao l := by
  rcases h.2 with ⟨h0, hn⟩ | ⟨g, cap, cur, hv, _⟩
  · exact ⟨none, 0, by rw [h0, hn], 0, 0, fun h => by omega, fun i hi => by omega⟩
  · subst hv
    refine ⟨_, _, rfl, g, 0, fun _ => rfl, fun j hj => ?_⟩
    have h1 := h.cellAt (j * 2) (by omega)
    have h2 := h.cellAt (j * 2 + 1) (by omega)
    rw [Nat.zero_add]
    exact ⟨by rw [h1]; exact (acells_at4 l j hj).1, by rw [h2]; exact (acells_at4 l j hj).2⟩

set_option maxRecDepth 100000 in
set_option maxHeartbeats 2000000 in
theorem lwAttrs_same (w : World) (a a' : Option Addr) (n c c' : Nat) (l : List (ByteArray × ByteArray)) (hn : n = l.length) (hl : l.length ≤ 1048576) (h : EntsAt w a l) (h' : EntsAt w a' l) :
    Calls Tryz.prog 31 #[.slice a n c, .slice a' n c'] w fun e w' => e = .returned (.bool true) ∧ w.grownBy w' none := by
  subst hn
  have HA := mkHidT h
  have HA' := mkHidT h'
  clear h h'
  go_enter Tryz.func31, Tryz.ntmps31
  go_wp2
  go_loopw [5] (fun i wr => ∃ (k : Nat), k ≤ l.length ∧ i = .int .i64 k ∧ w.grownBy wr none) (fun i _ => l.length - (intOf i).toNat)
  case atStart => exact ⟨0, Nat.zero_le _, rfl, gnR4 _ _⟩
  case round =>
    obtain ⟨k, hk, rfl, hgr⟩ := hrel
    have HG := mkHidT hgr
    clear hgr
    by_cases hlt : k < l.length
    · obtain ⟨b, off, ha, hc⟩ := HA.out.grown HG.out
      obtain rfl := ha (by omega)
      obtain ⟨c1, c2⟩ := hc k hlt
      obtain ⟨b', off', ha', hc'⟩ := HA'.out.grown HG.out
      obtain rfl := ha' (by omega)
      obtain ⟨d1, d2⟩ := hc' k hlt
      obtain ⟨E, hE⟩ : ∃ E, l[k]'hlt = E := ⟨_, rfl⟩
      rw [hE] at c1 c2 d1 d2
      clear hc ha hE hc' ha' HA HA'
      go_wp2_with fail
      go_quiet (fail)
      go_wp2
      go_roundw
      case rel => exact ⟨k + 1, by omega, by go_num, gnT4 HG.out (gdrew5 _ _ _)⟩
      case measure => simp [intOf]; omega
    · go_wp2
      go_ret
      exact ⟨rfl, HG.out⟩

/-- An answer, as it lies in memory. -/
def OutAt4 (W : World) (O : Out) (v : Value) : Prop := ∃ ao ac, v = .agg #[.int .i64 O.tk.kind, .string O.tk.name, .string O.tk.text, .slice ao O.tk.attrs.length ac, .int .i64 O.at1, .int .i64 O.code] ∧ EntsAt W ao O.tk.attrs

set_option maxRecDepth 100000 in
set_option maxHeartbeats 4000000 in
theorem lwToken_same (w : World) (O : Out) (v v' : Value) (hl : O.tk.attrs.length ≤ 1048576) (h : OutAt4 w O v) (h' : OutAt4 w O v') :
    Calls Tryz.prog 7 #[v, v'] w fun e w' => e = .returned (.bool true) ∧ w.grownBy w' none := by
  obtain ⟨a, c, rfl, h⟩ := h
  obtain ⟨a', c', rfl, h'⟩ := h'
  have G1 := gnT4 (gnA4 w (.cells #[.int .i64 O.tk.kind, .string O.tk.name, .string O.tk.text, .slice a O.tk.attrs.length c, .int .i64 O.at1, .int .i64 O.code] 29)) (gnA4 _ (.cells #[.int .i64 O.tk.kind, .string O.tk.name, .string O.tk.text, .slice a' O.tk.attrs.length c', .int .i64 O.at1, .int .i64 O.code] 29))
  have HE := mkHidT (lwAttrs_same _ a a' _ c c' O.tk.attrs rfl hl (h.grown G1) (h'.grown G1))
  have HG := mkHidT G1
  clear h h' G1 hl
  go_enter Tryz.func7, Tryz.ntmps7
  go_wp2_with fail
  refine HE.out.mono ?_
  rintro e w1 ⟨rfl, hg⟩
  have HG1 := mkHidT (gnT4 HG.out hg)
  clear hg HE
  go_wp2
  go_ret
  exact ⟨rfl, HG1.out⟩

set_option maxRecDepth 100000 in
theorem lwAt_five (w : World) (a : Option Addr) (n cap : Nat) (hS : Fed w a n) :
    Calls Tryz.prog 9 #[.slice a n cap, .int .i64 0, .int .i64 5] w fun e w' => ∃ r : Nat, e = .returned (.int .i64 r) ∧ r < 5 ∧ w.grownBy w' none := by
  obtain ⟨zs, hn, hl, ⟨b, off, ha, hc⟩, hz⟩ := hS
  by_cases h0 : n = 0
  · subst h0
    clear ha hc hz
    go_enter Tryz.func9, Tryz.ntmps9
    go_wp2
    go_ret
    exact ⟨0, rfl, by omega, gnR4 _ _⟩
  · rw [← hn] at ha hz hc
    obtain rfl := ha (by omega)
    have c0 := hc 0 (by omega)
    obtain ⟨y, hy⟩ : ∃ y, zs.getD 0 0 = y := ⟨_, rfl⟩
    have hb := hz 0 (by omega)
    rw [hy] at hb c0
    rw [Nat.add_zero] at c0
    clear ha hc hz hy hn
    have hn0 : ¬ (n : Int) = 0 := by omega
    go_enter Tryz.func9, Tryz.ntmps9
    go_wp2
    go_ret
    refine ⟨(y % 5).toNat, ?_, by omega, gnR4 _ _⟩
    show Ending.returned (.int .i64 (y % 5)) = _
    rw [Int.toNat_of_nonneg (by omega)]
end Go.Proofs.YteebdfcegndaoaaGreatDoor
