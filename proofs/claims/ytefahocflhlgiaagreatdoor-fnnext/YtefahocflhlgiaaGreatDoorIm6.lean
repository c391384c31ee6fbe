/- The program's scanner: a text up to a sign, a name, a value. -/
import Derived.Test.YtefahocflhlgiaaGreatDoorIm5
namespace Go.Proofs.YtefahocflhlgiaaGreatDoor
open Go.RowKit Plain1 Plain2 Strs Strs2 Lists Plain3 Plain5 Plain6 Plain9 Plain10 Plain11 Plain12 Plain13 Plain14

/-- What a method of the scanner leaves that tells a text or a fault. -/
def StSays (w : World) (g : Nat) (s : ByteArray) (f : Nat) (t : ByteArray) (q : Nat) (e : Ending) (w' : World) : Prop :=
  ∃ t' q', e = .returned (.tuple #[.string t', errV f]) ∧ ImBox w' g s q' ∧ q' ≤ s.size ∧ (f = 0 → t' = t ∧ q' = q) ∧ w.grownBy w' (some g)
theorem im_gallD {w : World} (n : Nat) : w.grownBy (w.drewN n) none := ⟨rfl, rfl, rfl, Nat.le_refl _, fun _ _ _ => rfl⟩

set_option maxHeartbeats 2000000 in
theorem upTo_any {w : World} {g : Nat} {s sg : ByteArray} {p : Nat} {m : Int} (h : ImBox w g s p) (hm : w.cell? ⟨1, 0, none⟩ = some (.int .i64 m)) (hs : s.size ≤ 1048576) (hp : p ≤ s.size) :
    Calls Tryz.prog 52 #[.pointer (some ⟨g, 0, none⟩), .string sg] w fun e w' => StSays w g s (upF s p sg.data.toList) (upT s p sg.data.toList) (upP s p sg.data.toList) e w' := by
  obtain ⟨c0, c1, f1⟩ := imcells h
  have hsl : ∀ wx, (Instr.slice 9 (.string s) (some (.int .i64 (p : Int))) none none).run Tryz.prog wx = .ok (.string (s.extract p s.size)) wx := fun wx => sub_from wx _ s p _ rfl hp Tryz.underlying9
  have hcut := fun n => Tryz.strings_Cut (s.extract p s.size) sg m (w.drewN n) (by rw [ext_sz]; omega) hm
  simp only [ext_rest] at hcut
  have HB := mkHidI1 h
  clear h hm
  by_cases hf : upF s p sg.data.toList = 0
  · obtain ⟨e1, e2, e3⟩ := cut_yes hp hf
    obtain ⟨h4, h5⟩ := upT_size hp hf
    obtain ⟨X, hX⟩ : ∃ X, upT s p sg.data.toList = X := ⟨_, rfl⟩
    obtain ⟨q, hq⟩ : ∃ q, upP s p sg.data.toList = q := ⟨_, rfl⟩
    rw [hX] at e2 e3 h4
    rw [hq] at e3 h5
    rw [← Lib.size_eq] at e3
    rw [e1, e2] at hcut
    have hw1 : IntKind.i64.wrap ((X.size : Int) + (sg.size : Int)) = (X.size : Int) + (sg.size : Int) := wrapSm (by omega) (by omega)
    have hw2 : IntKind.i64.wrap ((p : Int) + ((X.size : Int) + (sg.size : Int))) = (q : Int) := by rw [wrapSm (by omega) (by omega)]; omega
    rw [hf, hX, hq]
    have hfr := fun wx => fresh_any X wx (by omega)
    clear hf e1 e2 e3 hX hq
    go_enter Tryz.func52, Tryz.ntmps52
    go_wp2_with fail
    go_quiet ((go_at_call 74; exact Calls.quiet_of (hcut _)))
    have HB1 : Hid (ImBox (w.drewN nq) g s p) := HB
    go_wp2_with fail
    refine (hfr _).mono ?_
    rintro e w1 ⟨rfl, hg1⟩
    have HB2 := mkHidI1 (im_grown (im_set HB1.out q rfl) hg1)
    have HG2 := mkHidI1 (im_gtrans (im_gtrans (im_gdrew w nq (some g)) (im_gset (.int .i64 (q : Int)))) (gnone hg1))
    clear hg1 hfr hcut
    go_wp2
    go_ret2
    exact ⟨X, q, rfl, HB2.out, h5, fun _ => ⟨rfl, rfl⟩, HG2.out⟩
  · obtain ⟨e1, e2⟩ := cut_no hf
    rw [e1] at hcut
    rw [e2]
    clear hf e1 e2
    go_enter Tryz.func52, Tryz.ntmps52
    go_wp2_with fail
    go_quiet ((go_at_call 74; exact Calls.quiet_of (hcut _)))
    go_wp2
    go_ret2
    exact ⟨_, p, rfl, HB.out, hp, fun h => absurd h (by omega), im_gdrew w nq _⟩

set_option maxHeartbeats 2000000 in
theorem imName_any {w : World} {g : Nat} {s : ByteArray} {p : Nat} (h : ImBox w g s p) (hT : Tabs w) (hv : VB s p) (hs : s.size ≤ 1048576) (hp : p ≤ s.size) :
    Calls Tryz.prog 78 #[.pointer (some ⟨g, 0, none⟩)] w fun e w' => StSays w g s (nmF s p) (nmT s p) (nmP s p) e w' := by
  obtain ⟨c0, c1, f1⟩ := imcells h
  have hsl : ∀ wx, (Instr.slice 9 (.string s) (some (.int .i64 (p : Int))) none none).run Tryz.prog wx = .ok (.string (s.extract p s.size)) wx := fun wx => sub_from wx _ s p _ rfl hp Tryz.underlying9
  have hns := fun n => nameSize_any s p (w.drewN n) hp hv (hT.keep fun _ _ => rfl)
  have hroom : p + nameZ s p ≤ s.size := nameZ_roomI hp
  have hF : nmF s p = if 60 < nameZ s p then 2 else if s.size ≤ p + nameZ s p then 1 else if nameZ s p = 0 then 2 else 0 := rfl
  have hTx : nmT s p = s.extract p (p + nameZ s p) := rfl
  have hPx : nmP s p = p + nameZ s p := rfl
  obtain ⟨n, hn⟩ : ∃ n, nameZ s p = n := ⟨_, rfl⟩
  rw [hTx, hPx, hF]
  rw [hn] at hns hroom ⊢
  clear hF hTx hPx hn
  have hXs := ext_sz s p
  obtain ⟨X, hX⟩ : ∃ X, s.extract p s.size = X := ⟨_, rfl⟩
  rw [hX] at hsl hns hXs
  have hsl2 : ∀ wx, (Instr.slice 9 (.string X) none (some (.int .i64 (n : Int))) none).run Tryz.prog wx = .ok (.string (s.extract p (p + n))) wx := fun wx => by
    rw [sub_to wx _ X n _ rfl (by omega) Tryz.underlying9, ← hX, ext_ext]
  have HB := mkHidI1 h
  have HX := mkHidI1 hX
  have HXS := mkHidI1 hXs
  have hw1 : IntKind.i64.wrap ((p : Int) + (n : Int)) = (p : Int) + (n : Int) := wrapSm (by omega) (by omega)
  clear h hX hXs hv hT
  by_cases h60 : 60 < n
  · rw [if_pos h60]
    go_enter Tryz.func78, Tryz.ntmps78
    go_wp2_with fail
    go_quiet (fail)
    have HB1 : Hid (ImBox (w.drewN nq) g s p) := HB
    go_wp2_with fail
    refine (hns nq).mono ?_
    rintro e w1 ⟨rfl, hb1⟩
    have HB2 := mkHidI1 (im_below HB1.out hb1)
    have HG2 := mkHidI1 (im_gtrans (im_gdrew w nq (some g)) (gbelowI hb1))
    clear hb1 hns c0 c1 f1
    go_wp2
    go_ret2
    exact ⟨_, p, rfl, HB2.out, hp, fun h => absurd h (by omega), HG2.out⟩
  rw [if_neg h60]
  by_cases hend : s.size ≤ p + n
  · rw [if_pos hend]
    have hnX : n = X.size := by have := HXS.out; omega
    subst hnX
    go_enter Tryz.func78, Tryz.ntmps78
    go_wp2_with fail
    go_quiet (fail)
    have HB1 : Hid (ImBox (w.drewN nq) g s p) := HB
    go_wp2_with fail
    refine (hns nq).mono ?_
    rintro e w1 ⟨rfl, hb1⟩
    have HB2 := mkHidI1 (im_below HB1.out hb1)
    have HG2 := mkHidI1 (im_gtrans (im_gdrew w nq (some g)) (gbelowI hb1))
    clear hb1 hns c0 c1 f1
    go_wp2
    go_ret2
    exact ⟨_, p, rfl, HB2.out, hp, fun h => absurd h (by omega), HG2.out⟩
  rw [if_neg hend]
  have hnX : ¬ (n : Int) = (X.size : Int) := by have := HXS.out; omega
  by_cases h0 : n = 0
  · subst h0
    rw [if_pos rfl]
    go_enter Tryz.func78, Tryz.ntmps78
    go_wp2_with fail
    go_quiet (fail)
    have HB1 : Hid (ImBox (w.drewN nq) g s p) := HB
    go_wp2_with fail
    refine (hns nq).mono ?_
    rintro e w1 ⟨rfl, hb1⟩
    have HB2 := mkHidI1 (im_below HB1.out hb1)
    have HG2 := mkHidI1 (im_gtrans (im_gdrew w nq (some g)) (gbelowI hb1))
    clear hb1 hns c0 c1 f1
    go_wp2
    go_ret2
    exact ⟨_, p, rfl, HB2.out, hp, fun h => absurd h (by omega), HG2.out⟩
  rw [if_neg h0]
  have hn0 : ¬ (n : Int) = 0 := by omega
  have hfr := fun wx => fresh_any (s.extract p (p + n)) wx (by rw [ext_size (by omega)]; omega)
  go_enter Tryz.func78, Tryz.ntmps78
  go_wp2_with fail
  go_quiet (fail)
  have HB1 : Hid (ImBox (w.drewN nq) g s p) := HB
  go_wp2_with fail
  refine (hns nq).mono ?_
  rintro e w1 ⟨rfl, hb1⟩
  have HB2 := mkHidI1 (im_below HB1.out hb1)
  have HG2 := mkHidI1 (im_gtrans (im_gdrew w nq (some g)) (gbelowI hb1))
  clear hb1 hns c0 c1 f1
  obtain ⟨c0, c1, f1⟩ := imcells HB2.out
  go_wp2_with fail
  refine (hfr _).mono ?_
  rintro e w2 ⟨rfl, hg2⟩
  have HB3 := mkHidI1 (im_grown (im_set (z := (p : Int) + (n : Int)) HB2.out (p + n) (by omega)) hg2)
  have HG3 := mkHidI1 (im_gtrans (im_gtrans HG2.out (im_gset (.int .i64 ((p : Int) + (n : Int))))) (gnone hg2))
  clear hg2 hfr c0 c1 f1
  go_wp2
  go_ret2
  exact ⟨_, p + n, rfl, HB3.out, hroom, fun _ => ⟨rfl, rfl⟩, HG3.out⟩
end Go.Proofs.YtefahocflhlgiaaGreatDoor
