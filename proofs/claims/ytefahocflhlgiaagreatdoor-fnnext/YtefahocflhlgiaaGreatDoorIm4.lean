/- The program's scanner: lacks, must, parted, upTo. -/
import Derived.Test.YtefahocflhlgiaaGreatDoorIm3
import Derived.Test.YtefahocflhlgiaaGreatDoorEnts
namespace Go.Proofs.YtefahocflhlgiaaGreatDoor
open Go.RowKit Plain1 Strs Strs2 Lists Plain9 Plain10 Plain11 Plain12 Plain13

/-- The error that a fault is: 0 none, 1 short, 3 an attribute that is there, else wrong. -/
def errV (f : Nat) : Value := if f = 0 then .nilIface else if f = 1 then .iface 102 (.agg #[]) else if f = 3 then .iface 106 (.agg #[.int .i64 6]) else .iface 106 (.agg #[.int .i64 3])
theorem errV0 : errV 0 = .nilIface := rfl
theorem errV1 : errV 1 = .iface 102 (.agg #[]) := rfl
theorem errV2 : errV 2 = .iface 106 (.agg #[.int .i64 3]) := rfl
theorem errV3 : errV 3 = .iface 106 (.agg #[.int .i64 6]) := rfl
def StrsAt (w : World) (a : Option Addr) (l : List ByteArray) : Prop :=
  ∃ b, (0 < l.length → a = some ⟨b, 0, none⟩) ∧ ∀ i (h : i < l.length), w.cell? ⟨b, i, none⟩ = some (.string (l[i]'h))
def lackF (s : ByteArray) (p : Nat) (l : List ByteArray) : Nat := if (l.find? fun sg => (rest s p).isPrefixOf sg.data.toList).isSome then 1 else 2

set_option maxHeartbeats 2000000 in
theorem lacks_any {w : World} {g : Nat} {s : ByteArray} {p : Nat} (h : ImBox w g s p) (hp : p ≤ s.size) (l : List ByteArray) (a : Option Addr) (n c : Nat) (hn : n = l.length) (hl : l.length ≤ 8) (hA : StrsAt w a l) :
    Calls Tryz.prog 56 #[.pointer (some ⟨g, 0, none⟩), .slice a n c] w fun e w' => e = .returned (errV (lackF s p l)) ∧ ∃ m, w' = w.drewN m := by
  subst hn
  obtain ⟨R, hR⟩ : ∃ R, lackF s p l = R := ⟨_, rfl⟩
  rw [hR]
  have HR := mkHidI1 hR
  have HA := mkHidI1 hA
  have HB := mkHidI1 h
  clear hR hA h
  have hsl : ∀ wx, (Instr.slice 9 (.string s) (some (.int .i64 (p : Int))) none none).run Tryz.prog wx = .ok (.string (s.extract p s.size)) wx := fun wx => sub_from wx _ s p _ rfl hp Tryz.underlying9
  go_enter Tryz.func56, Tryz.ntmps56
  go_wp2
  go_loopw [9] (fun i wr => ∃ k : Nat, k ≤ l.length ∧ i = .int .i64 k ∧ (l.take k).find? (fun sg => (rest s p).isPrefixOf sg.data.toList) = none ∧ ∃ m, wr = w.drewN m) (fun i _ => l.length - (intOf i).toNat)
  case atStart => exact ⟨0, Nat.zero_le _, rfl, rfl, 0, rfl⟩
  case round =>
    obtain ⟨k, hk, rfl, hno, m, hwm⟩ := hrel
    have HNO := mkHidI1 hno
    have HWM := mkHidI1 hwm
    have hbx : ImBox wr g s p := by rw [hwm]; exact HB.out
    have hAr : StrsAt wr a l := by rw [hwm]; exact HA.out
    clear hno hwm
    by_cases hlt : k < l.length
    · obtain ⟨b, ha, hc⟩ := hAr
      obtain rfl := ha (by omega)
      have c2 := hc k hlt
      obtain ⟨E, hE⟩ : ∃ E, l[k]'hlt = E := ⟨_, rfl⟩
      rw [hE] at c2
      have HE := mkHidI1 hE
      obtain ⟨c0, c1, f1⟩ := imcells hbx
      have hh := fun wx => Tryz.strings_HasPrefix E (s.extract p s.size) wx
      simp only [ext_rest, show Lib.hasPrefix E.data.toList (rest s p) = (rest s p).isPrefixOf E.data.toList from rfl] at hh
      clear hc ha hE hbx HA HB
      cases hst : (rest s p).isPrefixOf E.data.toList with
      | true =>
        have hR1 : R = 1 := by
          rw [← HR.out]; unfold lackF
          rw [Ents.find_hit hlt HNO.out (by rw [HE.out]; exact hst)]; rfl
        subst hR1
        rw [hst] at hh
        go_wp2_with fail
        go_quiet ((go_at_call 73; exact Calls.quiet_of_same (hh _)))
        go_wp2
        go_ret
        refine ⟨rfl, m + nq, ?_⟩
        rw [HWM.out, World.drewN_drewN]
      | false =>
        have hno2 := Ents.find_on hlt HNO.out (p := fun sg => (rest s p).isPrefixOf sg.data.toList) (by rw [HE.out]; exact hst)
        have HN2 := mkHidI1 hno2
        rw [hst] at hh
        clear hno2
        go_wp2_with fail
        go_quiet ((go_at_call 73; exact Calls.quiet_of_same (hh _)))
        go_wp2
        go_roundw
        case rel => exact ⟨k + 1, by omega, by go_num, HN2.out, m + nq, by rw [HWM.out, World.drewN_drewN]⟩
        case measure => simp [intOf]; omega
    · have hR2 : R = 2 := by
        rw [← HR.out]; unfold lackF
        rw [Ents.find_end (by omega) HNO.out]; rfl
      subst hR2
      clear hAr HA HB
      go_wp2
      go_ret
      exact ⟨rfl, m, HWM.out⟩
theorem strs_new1 (W : World) (t : ByteArray) : StrsAt (W.alloc (.cells #[.string t] 9)) (some ⟨W.heap.size, 0, none⟩) [t] := by
  refine ⟨W.heap.size, fun _ => rfl, fun i hi => ?_⟩
  have : i = 0 := by simpa using hi
  subst this
  unfold World.cell?
  rw [heap_alloc_new]; rfl
theorem lack_one (s : ByteArray) (p : Nat) (t : ByteArray) : lackF s p [t] = lackZ s p t.data.toList := by
  unfold lackF lackZ
  cases h : (rest s p).isPrefixOf t.data.toList <;> simp [h]

set_option maxHeartbeats 2000000 in
theorem imMust_any {w : World} {g : Nat} {s sg : ByteArray} {p : Nat} (h : ImBox w g s p) (hs : s.size ≤ 1048576) (hp : p ≤ s.size) :
    Calls Tryz.prog 75 #[.pointer (some ⟨g, 0, none⟩), .string sg] w fun e w' => e = .returned (errV (mustF s p sg.data.toList)) ∧ ImBox w' g s (if mustF s p sg.data.toList = 0 then p + sg.data.toList.length else p) ∧ w.grownBy w' (some g) := by
  have ht := take_any (sg := sg) h hs hp
  clear h
  cases hh : hasAt s p sg.data.toList with
  | true =>
    have hm : mustF s p sg.data.toList = 0 := must_has.2 hh
    rw [hm, if_pos rfl, errV0]
    rw [hh, if_pos rfl] at ht
    clear hh hm
    go_enter Tryz.func75, Tryz.ntmps75
    go_wp2_with fail
    refine ht.mono ?_
    rintro e w1 ⟨rfl, hb1, hg1⟩
    have HB1 := mkHidI1 hb1
    clear hb1
    go_wp2
    go_ret
    exact ⟨rfl, HB1.out, hg1⟩
  | false =>
    have hm : mustF s p sg.data.toList = lackZ s p sg.data.toList := by unfold mustF; rw [hh]; rfl
    have hn0 : ¬ mustF s p sg.data.toList = 0 := fun h0 => by rw [must_has, hh] at h0; cases h0
    rw [if_neg hn0, hm, ← lack_one]
    rw [hh, if_neg (by simp)] at ht
    clear hh hm hn0
    go_enter Tryz.func75, Tryz.ntmps75
    go_wp2_with fail
    refine ht.mono ?_
    rintro e w1 ⟨rfl, hb1, hg1⟩
    have HB1 := mkHidI1 hb1
    have HG1 := mkHidI1 hg1
    have hlk := lacks_any (im_alloc hb1 (.cells #[.string sg] 9)) hp [sg] _ 1 1 rfl (by simp) (strs_new1 w1 sg)
    clear hb1 hg1 ht
    go_wp2_with fail
    refine hlk.mono ?_
    rintro e w2 ⟨rfl, m, hww⟩
    have HB2 : Hid (ImBox w2 g s p) := by rw [hww]; exact mkHidI1 (im_alloc HB1.out _)
    have HG2 : Hid (w.grownBy w2 (some g)) := by rw [hww]; exact mkHidI1 (im_gtrans (im_gtrans HG1.out (gallocI _ _ _)) (im_gdrew _ m _))
    clear hlk hww
    go_wp2
    go_ret
    exact ⟨rfl, HB2.out, HG2.out⟩
/-- White that must be there: 0 it is, 1 short, 2 wrong. -/
def partF (s : ByteArray) (p : Nat) : Nat := if p < whiteZ s p then 0 else lackZ s p [32]

set_option maxHeartbeats 2000000 in
theorem imParted_any {w : World} {g : Nat} {s : ByteArray} {p : Nat} (h : ImBox w g s p) (hs : s.size ≤ 1048576) (hp : p ≤ s.size) :
    Calls Tryz.prog 99 #[.pointer (some ⟨g, 0, none⟩)] w fun e w' => e = .returned (errV (partF s p)) ∧ ImBox w' g s (whiteZ s p) ∧ w.grownBy w' (some g) := by
  have ht := imWhite_any h hs hp
  clear h
  by_cases hh : p < whiteZ s p
  · have hm : partF s p = 0 := by unfold partF; rw [if_pos hh]
    rw [hm, errV0]
    rw [decide_eq_true hh] at ht
    clear hh hm
    go_enter Tryz.func99, Tryz.ntmps99
    go_wp2_with fail
    refine ht.mono ?_
    rintro e w1 ⟨rfl, hb1, hg1⟩
    have HB1 := mkHidI1 hb1
    clear hb1
    go_wp2
    go_ret
    exact ⟨rfl, HB1.out, hg1⟩
  · have hm : partF s p = lackF s p [⟨#[32]⟩] := by unfold partF; rw [if_neg hh, lack_one]
    have hwz : whiteZ s p = p := by have := whiteZ_ge s p; omega
    rw [hm]
    rw [decide_eq_false hh, hwz] at ht
    rw [hwz]
    clear hh hm hwz
    go_enter Tryz.func99, Tryz.ntmps99
    go_wp2_with fail
    refine ht.mono ?_
    rintro e w1 ⟨rfl, hb1, hg1⟩
    have HB1 := mkHidI1 hb1
    have HG1 := mkHidI1 hg1
    have hlk := lacks_any (im_alloc hb1 (.cells #[.string ⟨#[32]⟩] 9)) hp [⟨#[32]⟩] _ 1 1 rfl (by simp) (strs_new1 w1 ⟨#[32]⟩)
    clear hb1 hg1 ht
    go_wp2_with fail
    refine hlk.mono ?_
    rintro e w2 ⟨rfl, m, hww⟩
    have HB2 : Hid (ImBox w2 g s p) := by rw [hww]; exact mkHidI1 (im_alloc HB1.out _)
    have HG2 : Hid (w.grownBy w2 (some g)) := by rw [hww]; exact mkHidI1 (im_gtrans (im_gtrans HG1.out (gallocI _ _ _)) (im_gdrew _ m _))
    clear hlk hww
    go_wp2
    go_ret
    exact ⟨rfl, HB2.out, HG2.out⟩
end Go.Proofs.YtefahocflhlgiaaGreatDoor
