/- The program's scanner: white, lacks, must. -/
import Derived.Test.YtefahocflhlgiaaGreatDoorIm2
import Derived.Test.YtefahocflhlgiaaGreatDoorPlain13
import Derived.Test.YtefahocflhlgiaaGreatDoorFresh
import Derived.Test.YtefahocflhlgiaaGreatDoorShelfN
import Derived.Shelf.Strings.SlTrimAscii
import Derived.Deep.RegionHeld3
namespace Go.Proofs.YtefahocflhlgiaaGreatDoor
open Go.RowKit Plain1 Strs Strs2 Lists Plain9 Plain10 Plain11 Plain12 Plain13

theorem im_keep {w w' : World} {g : Nat} {s : ByteArray} {p : Nat} (h : ImBox w g s p) (hk : ∀ k, k < w.heap.size → w'.heap[k]? = w.heap[k]?) : ImBox w' g s p := by
  unfold ImBox; rw [hk g (Array.getElem?_eq_some_iff.1 h).1]; exact h
theorem im_grown {w w' : World} {g : Nat} {s : ByteArray} {p : Nat} (h : ImBox w g s p) (hg : w.grownBy w' none) : ImBox w' g s p := im_keep h fun k hk => hg.block k hk (by simp)
theorem im_below {w w' : World} {g : Nat} {s : ByteArray} {p : Nat} (h : ImBox w g s p) (hg : Below w.heap.size w w') : ImBox w' g s p := im_keep h fun k hk => hg.block k hk
theorem gnone {a b : World} {r : Option Nat} (h : a.grownBy b none) : a.grownBy b r := ⟨h.os, h.tape, h.output, h.size, fun i hi _ => h.block i hi (by simp)⟩
theorem gbelowI {a b : World} {r : Option Nat} (h : Below a.heap.size a b) : a.grownBy b r := ⟨h.os, h.tape, h.output, h.size, fun i hi _ => h.block i hi⟩
theorem im_alloc {w : World} {g : Nat} {s : ByteArray} {p : Nat} (h : ImBox w g s p) (o : Obj) : ImBox (w.alloc o) g s p := im_keep h fun _ hk => heap_alloc_old w o hk
theorem gallocI (w : World) (o : Obj) (r : Option Nat) : w.grownBy (w.alloc o) r := ⟨rfl, rfl, rfl, by simp, fun _ hk _ => heap_alloc_old w o hk⟩

theorem info256 : (Tryz.prog.info? (Tryz.lays161_ren.t 116)).map (fun i => (i.zero, i.size)) = some (some (.agg (Array.replicate 256 (.bool false))), 256) := by kernel_rfl
theorem trim_call (t : ByteArray) (w : World) : Calls Tryz.prog 62 #[.string t, .string ⟨#[9, 10, 32]⟩] w fun e w' => e = .returned (.string ⟨(Lib.trimLeftS t.data.toList [9, 10, 32]).toArray⟩) ∧ Below w.heap.size w w' :=
  Any.strings_TrimLeft_laid Tryz.lays161 info256 t ⟨#[9, 10, 32]⟩ w (by decide) (ascii_of_all (by decide))

set_option maxHeartbeats 2000000 in
theorem imWhite_any {w : World} {g : Nat} {s : ByteArray} {p : Nat} (h : ImBox w g s p) (hs : s.size ≤ 1048576) (hp : p ≤ s.size) :
    Calls Tryz.prog 36 #[.pointer (some ⟨g, 0, none⟩)] w fun e w' => e = .returned (.bool (decide (p < whiteZ s p))) ∧ ImBox w' g s (whiteZ s p) ∧ w.grownBy w' (some g) := by
  obtain ⟨c0, c1, f1⟩ := imcells h
  have hsl : ∀ wx, (Instr.slice 9 (.string s) (some (.int .i64 (p : Int))) none none).run Tryz.prog wx = .ok (.string (s.extract p s.size)) wx := fun wx => sub_from wx _ s p _ rfl hp Tryz.underlying9
  have ht := fun wx => trim_call (s.extract p s.size) wx
  obtain ⟨X, hX⟩ : ∃ X : ByteArray, (⟨(Lib.trimLeftS (s.extract p s.size).data.toList [9, 10, 32]).toArray⟩ : ByteArray) = X := ⟨_, rfl⟩
  simp only [hX] at ht
  obtain ⟨q, hq⟩ : ∃ q, whiteZ s p = q := ⟨_, rfl⟩
  have hXs : (X.size : Int) = (s.size : Int) - (q : Int) := by
    have h1 := whiteZ_trim hp
    have h2 := whiteZ_le hp
    rw [hq] at h1 h2
    rw [← hX, ext_rest]
    have : (⟨(Lib.trimLeftS (rest s p) [9, 10, 32]).toArray⟩ : ByteArray).size = (Lib.trimLeftS (rest s p) whites).length := by
      rw [Lib.size_eq]; rfl
    rw [this, h1]; omega
  have hqs : q ≤ s.size := by rw [← hq]; exact whiteZ_le hp
  have hw1 : IntKind.i64.wrap ((s.size : Int) - (X.size : Int)) = (q : Int) := by rw [hXs, wrapSm (by omega) (by omega)]; omega
  rw [hq]
  have HB := mkHidI1 h
  clear h hX hq hXs
  go_enter Tryz.func36, Tryz.ntmps36
  go_wp2_with fail
  go_region_held3 (fun W => W.cell? ⟨g, 0, none⟩ = some (.string s) ∧ W.cell? ⟨g, 1, none⟩ = some (.int .i64 (p : Int))) (go_keep)
    (first | (go_at_call 62; refine (ht _).mono ?_; rintro e w' ⟨rfl, hb'⟩; obtain ⟨c0, c1, f1⟩ := imcells (im_below (w := w.drew) HB.out hb')))
  have HB1 := mkHidI1 (im_below (w := w.drew) HB.out hb')
  have HG1 : Hid (w.grownBy w' (some g)) := mkHidI1 (im_gtrans (im_gdrew w 1 _) (gbelowI (a := w.drew) hb'))
  clear hb'
  go_wp2
  go_ret
  exact ⟨by simp, im_set HB1.out q rfl, im_gtrans HG1.out (im_gset _)⟩
end Go.Proofs.YtefahocflhlgiaaGreatDoor
