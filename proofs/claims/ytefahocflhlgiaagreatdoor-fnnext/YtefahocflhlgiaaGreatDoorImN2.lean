/- The program's marksRight and beginsCharacter. -/
import Derived.Test.YtefahocflhlgiaaGreatDoorImN1
import Derived.Test.YtefahocflhlgiaaGreatDoorRunesLoop
import Derived.Test.YtefahocflhlgiaaGreatDoorShelfN
import Derived.Test.YtefahocflhlgiaaGreatDoorTokN
namespace Go.Proofs.YtefahocflhlgiaaGreatDoor
open Go.RowKit Plain1 Plain2 Strs Strs2 Lists Plain3 Plain5 Plain6 Plain9 Plain10 Plain11 Plain12 Plain13 Plain14

theorem fld2 (ao : Option Addr) (an ac : Nat) (a b : Int) (w : World) : (Instr.field 92 (.agg #[.slice ao an ac, .int .i64 a, .int .i64 b]) 2).run Tryz.prog w = .ok (.int .i64 b) w := by kernel_rfl
theorem has13 (s : ByteArray) : Lib.contains s.data.toList [13] = decide (fz s 0 [13] ≠ -1) := by
  have h := fz_index s 0 [13]
  have hr : rest s 0 = s.data.toList := by simp [rest]
  rw [hr] at h
  have hg := Lib.index_ge s.data.toList [13]
  unfold Lib.contains
  by_cases h0 : fz s 0 [13] = -1
  · have := h.1 h0; simp [h0, this]
  · have : ¬ Lib.index s.data.toList [13] = -1 := fun e => h0 (h.2 e)
    simp [h0]; omega

set_option maxRecDepth 100000 in
set_option maxHeartbeats 4000000 in
theorem marksRight_any (s : ByteArray) (w : World) (m : Int) (h4 : s.size ≤ 4000) (hm : w.cell? ⟨1, 0, none⟩ = some (.int .i64 m)) :
    Calls Tryz.prog 27 #[.string s] w fun e w' => e = .returned (.bool (decide ((scanAll s).2 < 0 ∧ fz s 0 [13] = -1))) ∧ Below w.heap.size w w' := by
  have HM := mkHidT hm
  have hfd := fld2
  have HR := mkHidT (implRunes_any s w)
  have hcode : rCode s = if 0 ≤ (scanAll s).2 then 3 else 0 := by unfold rCode; rw [if_neg (by omega)]
  obtain ⟨z, hz⟩ : ∃ z, (scanAll s).2 = z := ⟨_, rfl⟩
  rw [hz] at hcode ⊢
  obtain ⟨c, hc⟩ : ∃ c, rCode s = c := ⟨_, rfl⟩
  obtain ⟨a, ha⟩ : ∃ a, rAt s = a := ⟨_, rfl⟩
  rw [hc] at hcode
  rw [hc, ha] at HR
  clear hm hc ha hz
  by_cases h0 : 0 ≤ z
  · rw [if_pos h0] at hcode
    subst hcode
    have hD : decide (z < 0 ∧ fz s 0 [13] = -1) = false := decide_eq_false (by omega)
    rw [hD]
    clear hD
    go_enter Tryz.func27, Tryz.ntmps27
    go_wp2_with fail
    refine HR.out.mono ?_
    rintro e w1 ⟨v, rfl, hr, hb⟩
    obtain ⟨ao, an, ac, rfl⟩ := row_slice hr
    have HB := mkHidT hb
    clear hr hb HR
    go_wp2
    go_ret
    exact ⟨rfl, HB.out⟩
  · rw [if_neg h0] at hcode
    subst hcode
    have hD : decide (z < 0 ∧ fz s 0 [13] = -1) = !decide (fz s 0 [13] ≠ -1) := by
      by_cases hf : fz s 0 [13] = -1
      · simp [hf]; omega
      · simp [hf]
    have hcn := fun w1 hx => Tryz.strings_Contains s ⟨#[13]⟩ m w1 (by omega) hx
    simp only [has13] at hcn
    obtain ⟨B, hB⟩ : ∃ B, decide (fz s 0 [13] ≠ -1) = B := ⟨_, rfl⟩
    rw [hB] at hD
    simp only [hB] at hcn
    rw [hD]
    clear hD hB
    go_enter Tryz.func27, Tryz.ntmps27
    go_wp2_with fail
    refine HR.out.mono ?_
    rintro e w1 ⟨v, rfl, hr, hb⟩
    obtain ⟨ao, an, ac, rfl⟩ := row_slice hr
    have HB := mkHidT hb
    have hc1 := hcn w1 ((hb.cell (p := ⟨1, 0, none⟩) (block_lt HM.out)).trans HM.out)
    clear hr hb HR hcn
    go_wp2_with fail
    refine hc1.mono ?_
    rintro e w2 ⟨rfl, hww⟩
    obtain rfl := hww
    go_wp2
    go_ret
    exact ⟨rfl, HB.out⟩

def begB (s : ByteArray) (at0 : Int) : Bool := decide (0 ≤ at0 ∧ at0 ≤ s.size ∧ (at0 = s.size ∨ ¬ (128 ≤ byteAt s at0.toNat ∧ byteAt s at0.toNat < 192)))
set_option maxRecDepth 100000 in
set_option maxHeartbeats 4000000 in
theorem begins_any (s : ByteArray) (at0 : Int) (w : World) (h4 : s.size ≤ 4000) :
    Calls Tryz.prog 28 #[.string s, .int .i64 at0] w fun e w' => e = .returned (.bool (begB s at0)) ∧ w' = w := by
  by_cases ha : at0 < 0
  · rw [show begB s at0 = false from decide_eq_false (by omega)]
    go_enter Tryz.func28, Tryz.ntmps28
    go_wp2
    go_ret
    exact ⟨rfl, rfl⟩
  by_cases hb : at0 > (s.size : Int)
  · rw [show begB s at0 = false from decide_eq_false (by omega)]
    go_enter Tryz.func28, Tryz.ntmps28
    go_wp2
    go_ret
    exact ⟨rfl, rfl⟩
  by_cases he : at0 = s.size
  · rw [show begB s at0 = true from decide_eq_true (by omega)]
    subst he
    go_enter Tryz.func28, Tryz.ntmps28
    go_wp2
    go_ret
    exact ⟨rfl, rfl⟩
  obtain ⟨p, rfl⟩ : ∃ p : Nat, at0 = p := ⟨at0.toNat, by omega⟩
  have hp : p < s.size := by omega
  obtain ⟨c, hc⟩ : ∃ c : Int, byteAt s p = c := ⟨_, rfl⟩
  have hbd := byteAt_bd s p
  rw [hc] at hbd
  have hix : ∀ wx, (Instr.index 9 (.string s) (.int .i64 (p : Int))).run Tryz.prog wx = .ok (.int .u8 c) wx := fun wx => by rw [run_index_byte wx 9 s p hp Tryz.underlying9, hc]
  have hrs := Tryz.utf8_RuneStart c w hbd.1 (by omega)
  have hB : begB s p = Lib.runeStart c := by
    unfold begB Lib.runeStart
    rw [show ((p : Int)).toNat = p from rfl, hc]
    by_cases h : c / 64 = 2
    · rw [show (c / 64 != 2) = false from by simp [h]]; exact decide_eq_false (by omega)
    · rw [show (c / 64 != 2) = true from by simp [h]]; exact decide_eq_true (by omega)
  rw [hB]
  have hne : ((p : Int) == (s.size : Int)) = false := beq_eq_false_iff_ne.2 he
  clear hB hc
  go_enter Tryz.func28, Tryz.ntmps28
  go_wp2_with fail
  refine hrs.mono ?_
  rintro e w2 ⟨rfl, hww⟩
  obtain rfl := hww
  go_wp2
  go_ret
  exact ⟨rfl, rfl⟩
end Go.Proofs.YtefahocflhlgiaaGreatDoor
