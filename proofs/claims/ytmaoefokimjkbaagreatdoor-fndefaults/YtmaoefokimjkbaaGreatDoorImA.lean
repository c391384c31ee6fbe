import Derived.Test.YtmaoefokimjkbaaGreatDoorProg
import Derived.Test.YtmaoefokimjkbaaGreatDoorPlB
import Derived.Test.YtmaoefokimjkbaaGreatDoorPlA
import Derived.Test.YtmaoefokimjkbaaGreatDoorShelfH
import Derived.WalkKit
import Derived.WalkSpells
import Derived.WalkSmall
import Derived.Deep.QuietTactic
import Derived.BigQuiet
import Derived.RegionTactic
import Derived.BigRegion
import Derived.Deep.OwnRows
import Derived.Lib.BufferWrite
import Derived.Test.YtmaoefokimjkbaaGreatDoorShelfN
import Derived.Shelf.Strings.SlTrimAscii
import Derived.Deep.RegionHeld3
import Derived.Below
namespace Go.Proofs.YtmaoefokimjkbaaGreatDoor
open Go.RowKit Strs2 Plain9
theorem mkHidI1 {p : Prop} (h : p) : Hid p := h
structure Hold where
 rest : List Value
 ty : TypeId
def ImBox [Inhabited Hold] (w : World) (g : Nat) (s : ByteArray) (p : Nat) : Prop := w.heap[g]? = some (.cells (.string s :: .int .i64 (p : Int) :: (default : Hold).rest).toArray (default : Hold).ty)
abbrev scE : Inhabited Hold := ⟨⟨[], 65⟩⟩
def IsSc [Inhabited Hold] : Prop := (default : Hold) = ⟨[], 65⟩
theorem im_sc [Inhabited Hold] (hx : IsSc) {w : World} {g : Nat} {s : ByteArray} {p : Nat} (h : w.heap[g]? = some (.cells #[.string s, .int .i64 (p : Int)] 65)) : ImBox w g s p := by
 unfold ImBox; rw [hx]; exact h
theorem imcells [Inhabited Hold] {w : World} {g : Nat} {s : ByteArray} {p : Nat} (h : ImBox w g s p) :
 w.cell? ⟨g, 0, none⟩ = some (.string s) ∧ w.cell? ⟨g, 1, none⟩ = some (.int .i64 (p : Int)) ∧ w.frozen? ⟨g, 1, none⟩ = false := by
 unfold ImBox at h
 simp [World.cell?, World.frozen?, h]
theorem ahead_any [Inhabited Hold] {W : World} {g : Nat} {s sg : ByteArray} {p : Nat} (h : ImBox W g s p) (hp : p ≤ s.size) (w : World) (hW : w.heap = W.heap) :
 Calls Tryz.prog 63 #[.pointer (some ⟨g, 0, none⟩), .string sg] w fun e w' => e = .returned (.bool (hasAt s p sg.data.toList)) ∧ ∃ n, w' = w.drewN n := by
 have h' : ImBox w g s p := by unfold ImBox; rw [hW]; exact h
 obtain ⟨c0, c1, f1⟩ := imcells h'
 clear h h' hW
 have hsl : ∀ wx, (Instr.slice 9 (.string s) (some (.int .i64 (p : Int))) none none).run Tryz.prog wx = .ok (.string (s.extract p s.size)) wx := fun wx => sub_from wx _ s p _ rfl hp Tryz.underlying9
 have hh := fun wx => Tryz.strings_HasPrefix (s.extract p s.size) sg wx
 simp only [ext_rest, show Lib.hasPrefix (rest s p) sg.data.toList = hasAt s p sg.data.toList from rfl] at hh
 go_enter Tryz.func63, Tryz.ntmps63
 go_wp2_with fail
 go_quiet ((go_at_call 33; exact Calls.quiet_of_same (hh _)))
 go_wp2
 go_ret
 exact ⟨rfl, nq, rfl⟩
open Go.RowKit Strs2 Plain9
theorem im_set [Inhabited Hold] {w : World} {g : Nat} {s : ByteArray} {p : Nat} (h : ImBox w g s p) {z : Int} (q : Nat) (hz : z = (q : Int)) : ImBox (w.setCell ⟨g, 1, none⟩ (.int .i64 z)) g s q := by
 subst hz
 have hlt : g < w.heap.size := (Array.getElem?_eq_some_iff.1 h).1
 have hv := (Array.getElem?_eq_some_iff.1 h).2
 unfold ImBox World.setCell
 rw [Array.getElem?_eq_getElem (by simpa using hlt)]
 simp [Array.getElem_modify, hv]
theorem im_gset {w : World} {g j : Nat} (u : Value) : w.grownBy (w.setCell ⟨g, j, none⟩ u) (some g) :=
 ⟨rfl, rfl, rfl, by simp, fun k _ hk => Below.heap_setCell w ⟨g, j, none⟩ u k (fun e => hk (by rw [e]))⟩
theorem im_gdrew (w : World) (k : Nat) (r : Option Nat) : w.grownBy (w.drewN k) r := ⟨rfl, rfl, rfl, Nat.le_refl _, fun _ _ _ => rfl⟩
theorem im_gtrans {a b c : World} {r : Option Nat} (h : a.grownBy b r) (k : b.grownBy c r) : a.grownBy c r :=
 ⟨k.os.trans h.os, k.tape.trans h.tape, k.output.trans h.output, Nat.le_trans h.size k.size, fun i hi hr => (k.block i (Nat.lt_of_lt_of_le hi h.size) hr).trans (h.block i hi hr)⟩
theorem take_any [Inhabited Hold] {w : World} {g : Nat} {s sg : ByteArray} {p : Nat} (h : ImBox w g s p) (hs : s.size ≤ 1048576) (hp : p ≤ s.size) :
 Calls Tryz.prog 34 #[.pointer (some ⟨g, 0, none⟩), .string sg] w fun e w' => e = .returned (.bool (hasAt s p sg.data.toList)) ∧ ImBox w' g s (if hasAt s p sg.data.toList = true then p + sg.data.toList.length else p) ∧ w.grownBy w' (some g) := by
 have ha := ahead_any (sg := sg) h hp w rfl
 have HB := mkHidI1 h
 clear h
 cases hh : hasAt s p sg.data.toList with
 | false =>
  rw [hh] at ha
  have HH := mkHidI1 hh
  clear hh
  go_enter Tryz.func34, Tryz.ntmps34
  go_wp2_with fail
  refine ha.mono ?_
  rintro e w1 ⟨rfl, n, hww⟩
  subst hww
  go_wp2
  go_ret
  exact ⟨rfl, HB.out, im_gdrew w n _⟩
 | true =>
  have hroom := has_room hh hp
  rw [← Lib.size_eq] at hroom ⊢
  rw [hh] at ha
  have hwr : IntKind.i64.wrap ((p : Int) + (sg.size : Int)) = (p : Int) + (sg.size : Int) := wrapSm (by omega) (by omega)
  clear hh
  go_enter Tryz.func34, Tryz.ntmps34
  go_wp2_with fail
  refine ha.mono ?_
  rintro e w1 ⟨rfl, n, hww⟩
  have HB1 : Hid (ImBox w1 g s p) := by rw [hww]; exact HB.out
  have HG1 : Hid (w.grownBy w1 (some g)) := by rw [hww]; exact im_gdrew w n _
  clear hww ha
  obtain ⟨c0, c1, f1⟩ := imcells HB1.out
  go_wp2
  go_ret
  exact ⟨rfl, im_set HB1.out (p + sg.size) (by omega), im_gtrans HG1.out (im_gset _)⟩
open Go.RowKit Lists Bytes Go.Lib
theorem info8 : (Tryz.prog.info? 5).map (fun i => (i.zero, i.size, i.bytes)) = some (some (.int .u8 0), 1, 1) := by kernel_rfl
theorem size8 : (Tryz.prog.info? 5).map (·.size) = some 1 := by kernel_rfl
theorem mkHidFr {p : Prop} (h : p) : Hid p := h
theorem bytes_all (s : ByteArray) : byteCells s.data.toList = (s.data.toList.map fun b => (b.toNat : Int)).map (Value.int .u8) := by
 simp [byteCells]
theorem str_of_bytes (s : ByteArray) : strOfNums (s.data.toList.map fun b => (b.toNat : Int)) = s := by
 apply ByteArray.ext
 apply Array.toList_inj.1
 simp only [strOfNums, List.map_map]
 have : ∀ l : List UInt8, l.map ((fun n : Int => UInt8.ofNat n.toNat) ∘ fun b => (b.toNat : Int)) = l := by
  intro l
  induction l with
  | nil => rfl
  | cons a t ih => simp only [List.map_cons, ih]; simp
 simpa using this s.data.toList
theorem fresh_any (s : ByteArray) (w : World) (hs : s.size ≤ 1048576) :
 Calls Tryz.prog 99 #[.string s] w fun e w' => e = .returned (.string s) ∧ w.grownBy w' none := by
 have hmk := run_make_row' (P := Tryz.prog) 22 5 (.int .u8 0) 1 Tryz.underlying22 info8 rfl .i64 .i64 s.size (by omega) (by omega)
 have hcp := fun ty => run_copy_row_string (P := Tryz.prog) (w.alloc (.cells (madeCells #[.int .u8 0] s.size) 5)) 22 9 ty 5 w.heap.size 0 s.size s.size s (madeCells #[.int .u8 0] s.size) 5
  Tryz.underlying22 size8 (heap_alloc_new w _) (Nat.le_refl _) (by simp [madeCells])
 obtain ⟨W, hW⟩ : ∃ W, W = (w.alloc (.cells (madeCells #[.int .u8 0] s.size) 5)).setRow w.heap.size (((madeCells #[.int .u8 0] s.size).toList.take 0 ++ byteCells s.data.toList ++ (madeCells #[.int .u8 0] s.size).toList.drop (0 + s.size)).toArray) := ⟨_, rfl⟩
 rw [← hW] at hcp
 have hrow : W.heap[w.heap.size]? = some (.cells (byteCells s.data.toList).toArray 5) := by
  rw [hW, setRow_heap _ _ _ _ _ _ (heap_alloc_new w _)]
  congr 3
  have hl : (madeCells #[Value.int .u8 0] s.size).toList.drop (0 + s.size) = [] := List.drop_eq_nil_of_le (by simp [madeCells])
  rw [hl]
  simp
 have hg : w.grownBy W none := by
  rw [hW]
  exact ⟨rfl, rfl, rfl, by simp [World.setRow], fun k hk _ => by rw [setRow_other _ _ _ _ (by omega)]; exact heap_alloc_old w _ hk⟩
 have hown : W.ownsRow w.heap.size 5 1 (.slice (some ⟨w.heap.size, 0, none⟩) s.size s.size) s.size ((s.data.toList.map fun b => (b.toNat : Int)).map (Value.int .u8)) := by
  refine ⟨by simp, .inr ⟨w.heap.size, s.size, (byteCells s.data.toList).toArray, rfl, Nat.le_refl _, hrow, Nat.le_refl _, by unfold maxLen; omega, by simp [byteCells_length], ?_⟩⟩
  rw [bytes_all]
  simp only [Nat.mul_one]
  rw [List.take_of_length_le (by simp)]
 have hconv := conv_own (P := Tryz.prog) (src := 22) (dst := 9) Tryz.underlying22 Tryz.underlying5 Tryz.underlying9 hown
 rw [str_of_bytes] at hconv
 have HG := mkHidFr hg
 clear hown hrow hW hg
 go_enter Tryz.func99, Tryz.ntmps99
 go_wp2
 go_ret
 exact ⟨rfl, HG.out⟩
open Go.RowKit Strs2 Plain9
theorem im_keep [Inhabited Hold] {w w' : World} {g : Nat} {s : ByteArray} {p : Nat} (h : ImBox w g s p) (hk : ∀ k, k < w.heap.size → w'.heap[k]? = w.heap[k]?) : ImBox w' g s p := by
 unfold ImBox; rw [hk g (Array.getElem?_eq_some_iff.1 h).1]; exact h
theorem im_grown [Inhabited Hold] {w w' : World} {g : Nat} {s : ByteArray} {p : Nat} (h : ImBox w g s p) (hg : w.grownBy w' none) : ImBox w' g s p := im_keep h fun k hk => hg.block k hk (by simp)
theorem im_below [Inhabited Hold] {w w' : World} {g : Nat} {s : ByteArray} {p : Nat} (h : ImBox w g s p) (hg : Below w.heap.size w w') : ImBox w' g s p := im_keep h fun k hk => hg.block k hk
theorem gnone {a b : World} {r : Option Nat} (h : a.grownBy b none) : a.grownBy b r := ⟨h.os, h.tape, h.output, h.size, fun i hi _ => h.block i hi (by simp)⟩
theorem gbelowI {a b : World} {r : Option Nat} (h : Below a.heap.size a b) : a.grownBy b r := ⟨h.os, h.tape, h.output, h.size, fun i hi _ => h.block i hi⟩
theorem im_alloc [Inhabited Hold] {w : World} {g : Nat} {s : ByteArray} {p : Nat} (h : ImBox w g s p) (o : Obj) : ImBox (w.alloc o) g s p := im_keep h fun _ hk => heap_alloc_old w o hk
theorem gallocI (w : World) (o : Obj) (r : Option Nat) : w.grownBy (w.alloc o) r := ⟨rfl, rfl, rfl, by simp, fun _ hk _ => heap_alloc_old w o hk⟩
theorem info256 : (Tryz.prog.info? (Tryz.lays161_ren.t 116)).map (fun i => (i.zero, i.size)) = some (some (.agg (Array.replicate 256 (.bool false))), 256) := by kernel_rfl
theorem trim_call (t : ByteArray) (w : World) : Calls Tryz.prog 108 #[.string t, .string ⟨#[9, 10, 32]⟩] w fun e w' => e = .returned (.string ⟨(Lib.trimLeftS t.data.toList [9, 10, 32]).toArray⟩) ∧ Below w.heap.size w w' :=
 Any.strings_TrimLeft_laid Tryz.lays161 info256 t ⟨#[9, 10, 32]⟩ w (by decide) (ascii_of_all (by decide))
set_option maxHeartbeats 2000000 in
theorem imWhite_any [Inhabited Hold] {w : World} {g : Nat} {s : ByteArray} {p : Nat} (h : ImBox w g s p) (hs : s.size ≤ 1048576) (hp : p ≤ s.size) :
 Calls Tryz.prog 76 #[.pointer (some ⟨g, 0, none⟩)] w fun e w' => e = .returned (.bool (decide (p < whiteZ s p))) ∧ ImBox w' g s (whiteZ s p) ∧ w.grownBy w' (some g) := by
 obtain ⟨c0, c1, f1⟩ := imcells h
 have hsl : ∀ wx, (Instr.slice 9 (.string s) (some (.int .i64 (p : Int))) none none).run Tryz.prog wx = .ok (.string (s.extract p s.size)) wx := fun wx => sub_from wx _ s p _ rfl hp Tryz.underlying9
 have ht := fun wx => trim_call (s.extract p s.size) wx
 obtain ⟨X, hX⟩ : ∃ X : ByteArray, (⟨(Lib.trimLeftS (s.extract p s.size).data.toList [9, 10, 32]).toArray⟩ : ByteArray) = X := ⟨_, rfl⟩
 simp only [hX] at ht
 obtain ⟨q, hq⟩ : ∃ q, whiteZ s p = q := ⟨_, rfl⟩
 have hXs : (X.size : Int) = (s.size : Int) - (q : Int) := by
  have h1 := whiteZ_trim hp
  have h2 := whiteZ_le hp
  rw [hq] at h1 h2
  rw [← hX, ext_rest]
  have : (⟨(Lib.trimLeftS (rest s p) [9, 10, 32]).toArray⟩ : ByteArray).size = (Lib.trimLeftS (rest s p) whites).length := by
   rw [Lib.size_eq]; rfl
  rw [this, h1]; omega
 have hqs : q ≤ s.size := by rw [← hq]; exact whiteZ_le hp
 have hw1 : IntKind.i64.wrap ((s.size : Int) - (X.size : Int)) = (q : Int) := by rw [hXs, wrapSm (by omega) (by omega)]; omega
 rw [hq]
 have HB := mkHidI1 h
 clear h hX hq hXs
 go_enter Tryz.func76, Tryz.ntmps76
 go_wp2_with fail
 go_region_held3 (fun W => W.cell? ⟨g, 0, none⟩ = some (.string s) ∧ W.cell? ⟨g, 1, none⟩ = some (.int .i64 (p : Int))) (go_keep)
  (first | (go_at_call 108; refine (ht _).mono ?_; rintro e w' ⟨rfl, hb'⟩; obtain ⟨c0, c1, f1⟩ := imcells (im_below (w := w.drew) HB.out hb')))
 have HB1 := mkHidI1 (im_below (w := w.drew) HB.out hb')
 have HG1 : Hid (w.grownBy w' (some g)) := mkHidI1 (im_gtrans (im_gdrew w 1 _) (gbelowI (a := w.drew) hb'))
 clear hb'
 go_wp2
 go_ret
 exact ⟨by simp, im_set HB1.out q rfl, im_gtrans HG1.out (im_gset _)⟩
end Go.Proofs.YtmaoefokimjkbaaGreatDoor
namespace Go.Proofs.YtmaoefokimjkbaaGreatDoor.Ents
open Go.RowKit Lists
def EntsAt (w : World) (a : Option Addr) (l : List (ByteArray × ByteArray)) : Prop :=
 ∃ b off, (0 < l.length → a = some ⟨b, off, none⟩) ∧ ∀ i (h : i < l.length), w.cell? ⟨b, off + i * 2, none⟩ = some (.string (l[i]'h).1) ∧ w.cell? ⟨b, off + i * 2 + 1, none⟩ = some (.string (l[i]'h).2)
structure At5 where
 of : ByteArray
 nm : ByteArray
 words : Bool
 has : Bool
 val : ByteArray
def AttsAt (w : World) (a : Option Addr) (l : List At5) : Prop :=
 ∃ b off, (0 < l.length → a = some ⟨b, off, none⟩) ∧ ∀ i (h : i < l.length), w.cell? ⟨b, off + i * 5, none⟩ = some (.string (l[i]'h).of) ∧ w.cell? ⟨b, off + i * 5 + 1, none⟩ = some (.string (l[i]'h).nm) ∧
  w.cell? ⟨b, off + i * 5 + 2, none⟩ = some (.bool (l[i]'h).words) ∧ w.cell? ⟨b, off + i * 5 + 3, none⟩ = some (.bool (l[i]'h).has) ∧ w.cell? ⟨b, off + i * 5 + 4, none⟩ = some (.string (l[i]'h).val)
theorem cell_keep {w w' : World} (h : ∀ k, k < w.heap.size → w'.heap[k]? = w.heap[k]?) {b o : Nat} {v : Value} (hc : w.cell? ⟨b, o, none⟩ = some v) : w'.cell? ⟨b, o, none⟩ = some v := by
 have := h b (block_lt hc)
 rw [World.cell?_of_block (a := ⟨b, o, none⟩) this]; exact hc
theorem EntsAt.keep {w w' : World} {a : Option Addr} {l : List (ByteArray × ByteArray)} (h : EntsAt w a l) (hk : ∀ k, k < w.heap.size → w'.heap[k]? = w.heap[k]?) : EntsAt w' a l := by
 obtain ⟨b, off, h1, h2⟩ := h
 exact ⟨b, off, h1, fun i hi => ⟨cell_keep hk (h2 i hi).1, cell_keep hk (h2 i hi).2⟩⟩
theorem AttsAt.keep {w w' : World} {a : Option Addr} {l : List At5} (h : AttsAt w a l) (hk : ∀ k, k < w.heap.size → w'.heap[k]? = w.heap[k]?) : AttsAt w' a l := by
 obtain ⟨b, off, h1, h2⟩ := h
 exact ⟨b, off, h1, fun i hi => ⟨cell_keep hk (h2 i hi).1, cell_keep hk (h2 i hi).2.1, cell_keep hk (h2 i hi).2.2.1, cell_keep hk (h2 i hi).2.2.2.1, cell_keep hk (h2 i hi).2.2.2.2⟩⟩
theorem EntsAt.grown {w w' : World} {a : Option Addr} {l : List (ByteArray × ByteArray)} (h : EntsAt w a l) (hg : w.grownBy w' none) : EntsAt w' a l := h.keep fun k hk => hg.block k hk (by simp)
theorem AttsAt.grown {w w' : World} {a : Option Addr} {l : List At5} (h : AttsAt w a l) (hg : w.grownBy w' none) : AttsAt w' a l := h.keep fun k hk => hg.block k hk (by simp)
theorem EntsAt.below {w w' : World} {a : Option Addr} {l : List (ByteArray × ByteArray)} (h : EntsAt w a l) (hg : Below w.heap.size w w') : EntsAt w' a l := h.keep fun k hk => hg.block k hk
theorem AttsAt.below {w w' : World} {a : Option Addr} {l : List At5} (h : AttsAt w a l) (hg : Below w.heap.size w w') : AttsAt w' a l := h.keep fun k hk => hg.block k hk
theorem below_grown {w w' : World} (h : Below w.heap.size w w') : w.grownBy w' none := ⟨h.os, h.tape, h.output, h.size, fun k hk _ => h.block k hk⟩
theorem find_hit {α : Type} {l : List α} {p : α → Bool} {k : Nat} (hk : k < l.length) (h0 : (l.take k).find? p = none) (h1 : p (l[k]'hk) = true) : l.find? p = some (l[k]'hk) := by
 have e : l = l.take k ++ (l[k]'hk) :: l.drop (k + 1) := by simp
 conv => lhs; rw [e]
 rw [List.find?_append, h0, List.find?_cons_of_pos h1]
 rfl
theorem find_on {α : Type} {l : List α} {p : α → Bool} {k : Nat} (hk : k < l.length) (h0 : (l.take k).find? p = none) (h1 : p (l[k]'hk) = false) : (l.take (k + 1)).find? p = none := by
 rw [List.take_succ_eq_append_getElem hk, List.find?_append, h0]
 simp [h1]
theorem find_end {α : Type} {l : List α} {p : α → Bool} {k : Nat} (hk : l.length ≤ k) (h0 : (l.take k).find? p = none) : l.find? p = none := by
 rw [List.take_of_length_le hk] at h0; exact h0
def isEnt (n : ByteArray) (e : ByteArray × ByteArray) : Bool := e.1.toList == n.toList
def isAtt (o n : ByteArray) (e : At5) : Bool := (e.of.toList == o.toList) && (e.nm.toList == n.toList)
def zAtt : At5 := ⟨⟨#[]⟩, ⟨#[]⟩, false, false, ⟨#[]⟩⟩
def entR (l : List (ByteArray × ByteArray)) (n : ByteArray) : ByteArray × ByteArray := if 4000 < n.size then (⟨#[]⟩, ⟨#[]⟩) else (l.find? (isEnt n)).getD (⟨#[]⟩, ⟨#[]⟩)
def attR (l : List At5) (o n : ByteArray) : At5 := if 4000 < o.size ∨ 4000 < n.size then zAtt else (l.find? (isAtt o n)).getD zAtt
theorem ent_long {l : List (ByteArray × ByteArray)} {n : ByteArray} (h : 4000 < n.size) : entR l n = (⟨#[]⟩, ⟨#[]⟩) := by unfold entR; rw [if_pos h]
theorem ent_hit {l : List (ByteArray × ByteArray)} {n : ByteArray} {k : Nat} (h : ¬ 4000 < n.size) (hk : k < l.length) (h0 : (l.take k).find? (isEnt n) = none) (h1 : isEnt n (l[k]'hk) = true) : entR l n = l[k]'hk := by
 unfold entR; rw [if_neg h, find_hit hk h0 h1]; rfl
theorem ent_none {l : List (ByteArray × ByteArray)} {n : ByteArray} {k : Nat} (h : ¬ 4000 < n.size) (hk : l.length ≤ k) (h0 : (l.take k).find? (isEnt n) = none) : entR l n = (⟨#[]⟩, ⟨#[]⟩) := by
 unfold entR; rw [if_neg h, find_end hk h0]; rfl
theorem att_long {l : List At5} {o n : ByteArray} (h : 4000 < o.size ∨ 4000 < n.size) : attR l o n = zAtt := by unfold attR; rw [if_pos h]
theorem att_hit {l : List At5} {o n : ByteArray} {k : Nat} (h : ¬ (4000 < o.size ∨ 4000 < n.size)) (hk : k < l.length) (h0 : (l.take k).find? (isAtt o n) = none) (h1 : isAtt o n (l[k]'hk) = true) : attR l o n = l[k]'hk := by
 unfold attR; rw [if_neg h, find_hit hk h0 h1]; rfl
theorem att_none {l : List At5} {o n : ByteArray} {k : Nat} (h : ¬ (4000 < o.size ∨ 4000 < n.size)) (hk : l.length ≤ k) (h0 : (l.take k).find? (isAtt o n) = none) : attR l o n = zAtt := by
 unfold attR; rw [if_neg h, find_end hk h0]; rfl
end Go.Proofs.YtmaoefokimjkbaaGreatDoor.Ents
namespace Go.Proofs.YtmaoefokimjkbaaGreatDoor
open Go.RowKit Strs2 Plain9 Plain10 Plain11
def errV (f : Nat) : Value := if f = 0 then .nilIface else if f = 1 then .iface 133 (.agg #[]) else if f = 3 then .iface 136 (.agg #[.int .i64 6]) else .iface 136 (.agg #[.int .i64 3])
theorem errV0 : errV 0 = .nilIface := rfl
theorem errV1 : errV 1 = .iface 133 (.agg #[]) := rfl
theorem errV2 : errV 2 = .iface 136 (.agg #[.int .i64 3]) := rfl
theorem errV3 : errV 3 = .iface 136 (.agg #[.int .i64 6]) := rfl
def StrsAt (w : World) (a : Option Addr) (l : List ByteArray) : Prop :=
 ∃ b, (0 < l.length → a = some ⟨b, 0, none⟩) ∧ ∀ i (h : i < l.length), w.cell? ⟨b, i, none⟩ = some (.string (l[i]'h))
def lackF (s : ByteArray) (p : Nat) (l : List ByteArray) : Nat := if (l.find? fun sg => (rest s p).isPrefixOf sg.data.toList).isSome then 1 else 2
set_option maxHeartbeats 2000000 in
theorem lacks_any [Inhabited Hold] {w : World} {g : Nat} {s : ByteArray} {p : Nat} (h : ImBox w g s p) (hp : p ≤ s.size) (l : List ByteArray) (a : Option Addr) (n c : Nat) (hn : n = l.length) (hl : l.length ≤ 8) (hA : StrsAt w a l) :
 Calls Tryz.prog 36 #[.pointer (some ⟨g, 0, none⟩), .slice a n c] w fun e w' => e = .returned (errV (lackF s p l)) ∧ ∃ m, w' = w.drewN m := by
 subst hn
 obtain ⟨R, hR⟩ : ∃ R, lackF s p l = R := ⟨_, rfl⟩
 rw [hR]
 have HR := mkHidI1 hR
 have HA := mkHidI1 hA
 have HB := mkHidI1 h
 clear hR hA h
 have hsl : ∀ wx, (Instr.slice 9 (.string s) (some (.int .i64 (p : Int))) none none).run Tryz.prog wx = .ok (.string (s.extract p s.size)) wx := fun wx => sub_from wx _ s p _ rfl hp Tryz.underlying9
 go_enter Tryz.func36, Tryz.ntmps36
 go_wp2
 go_loopw [9] (fun i wr => ∃ k : Nat, k ≤ l.length ∧ i = .int .i64 k ∧ (l.take k).find? (fun sg => (rest s p).isPrefixOf sg.data.toList) = none ∧ ∃ m, wr = w.drewN m) (fun i _ => l.length - (intOf i).toNat)
 case atStart => exact ⟨0, Nat.zero_le _, rfl, rfl, 0, rfl⟩
 case round =>
  obtain ⟨k, hk, rfl, hno, m, hwm⟩ := hrel
  have HNO := mkHidI1 hno
  have HWM := mkHidI1 hwm
  have hbx : ImBox wr g s p := by rw [hwm]; exact HB.out
  have hAr : StrsAt wr a l := by rw [hwm]; exact HA.out
  clear hno hwm
  by_cases hlt : k < l.length
  · obtain ⟨b, ha, hc⟩ := hAr
    obtain rfl := ha (by omega)
    have c2 := hc k hlt
    obtain ⟨E, hE⟩ : ∃ E, l[k]'hlt = E := ⟨_, rfl⟩
    rw [hE] at c2
    have HE := mkHidI1 hE
    obtain ⟨c0, c1, f1⟩ := imcells hbx
    have hh := fun wx => Tryz.strings_HasPrefix E (s.extract p s.size) wx
    simp only [ext_rest, show Lib.hasPrefix E.data.toList (rest s p) = (rest s p).isPrefixOf E.data.toList from rfl] at hh
    clear hc ha hE hbx HA HB
    cases hst : (rest s p).isPrefixOf E.data.toList with
    | true =>
     have hR1 : R = 1 := by
      rw [← HR.out]; unfold lackF
      rw [Ents.find_hit hlt HNO.out (by rw [HE.out]; exact hst)]; rfl
     subst hR1
     rw [hst] at hh
     go_wp2_with fail
     go_quiet ((go_at_call 33; exact Calls.quiet_of_same (hh _)))
     go_wp2
     go_ret
     refine ⟨rfl, m + nq, ?_⟩
     rw [HWM.out, World.drewN_drewN]
    | false =>
     have hno2 := Ents.find_on hlt HNO.out (p := fun sg => (rest s p).isPrefixOf sg.data.toList) (by rw [HE.out]; exact hst)
     have HN2 := mkHidI1 hno2
     rw [hst] at hh
     clear hno2
     go_wp2_with fail
     go_quiet ((go_at_call 33; exact Calls.quiet_of_same (hh _)))
     go_wp2
     go_roundw
     case rel => exact ⟨k + 1, by omega, by go_num, HN2.out, m + nq, by rw [HWM.out, World.drewN_drewN]⟩
     case measure => simp [intOf]; omega
  · have hR2 : R = 2 := by
     rw [← HR.out]; unfold lackF
     rw [Ents.find_end (by omega) HNO.out]; rfl
    subst hR2
    clear hAr HA HB
    go_wp2
    go_ret
    exact ⟨rfl, m, HWM.out⟩
theorem strs_new1 (W : World) (t : ByteArray) : StrsAt (W.alloc (.cells #[.string t] 9)) (some ⟨W.heap.size, 0, none⟩) [t] := by
 refine ⟨W.heap.size, fun _ => rfl, fun i hi => ?_⟩
 have : i = 0 := by simpa using hi
 subst this
 unfold World.cell?
 rw [heap_alloc_new]; rfl
theorem lack_one (s : ByteArray) (p : Nat) (t : ByteArray) : lackF s p [t] = lackZ s p t.data.toList := by
 unfold lackF lackZ
 cases h : (rest s p).isPrefixOf t.data.toList <;> simp [h]
set_option maxHeartbeats 2000000 in
theorem imMust_any [Inhabited Hold] {w : World} {g : Nat} {s sg : ByteArray} {p : Nat} (h : ImBox w g s p) (hs : s.size ≤ 1048576) (hp : p ≤ s.size) :
 Calls Tryz.prog 100 #[.pointer (some ⟨g, 0, none⟩), .string sg] w fun e w' => e = .returned (errV (mustF s p sg.data.toList)) ∧ ImBox w' g s (if mustF s p sg.data.toList = 0 then p + sg.data.toList.length else p) ∧ w.grownBy w' (some g) := by
 have ht := take_any (sg := sg) h hs hp
 clear h
 cases hh : hasAt s p sg.data.toList with
 | true =>
  have hm : mustF s p sg.data.toList = 0 := must_has.2 hh
  rw [hm, if_pos rfl, errV0]
  rw [hh, if_pos rfl] at ht
  clear hh hm
  go_enter Tryz.func100, Tryz.ntmps100
  go_wp2_with fail
  refine ht.mono ?_
  rintro e w1 ⟨rfl, hb1, hg1⟩
  have HB1 := mkHidI1 hb1
  clear hb1
  go_wp2
  go_ret
  exact ⟨rfl, HB1.out, hg1⟩
 | false =>
  have hm : mustF s p sg.data.toList = lackZ s p sg.data.toList := by unfold mustF; rw [hh]; rfl
  have hn0 : ¬ mustF s p sg.data.toList = 0 := fun h0 => by rw [must_has, hh] at h0; cases h0
  rw [if_neg hn0, hm, ← lack_one]
  rw [hh, if_neg (by simp)] at ht
  clear hh hm hn0
  go_enter Tryz.func100, Tryz.ntmps100
  go_wp2_with fail
  refine ht.mono ?_
  rintro e w1 ⟨rfl, hb1, hg1⟩
  have HB1 := mkHidI1 hb1
  have HG1 := mkHidI1 hg1
  have hlk := lacks_any (im_alloc hb1 (.cells #[.string sg] 9)) hp [sg] _ 1 1 rfl (by simp) (strs_new1 w1 sg)
  clear hb1 hg1 ht
  go_wp2_with fail
  refine hlk.mono ?_
  rintro e w2 ⟨rfl, m, hww⟩
  have HB2 : Hid (ImBox w2 g s p) := by rw [hww]; exact mkHidI1 (im_alloc HB1.out _)
  have HG2 : Hid (w.grownBy w2 (some g)) := by rw [hww]; exact mkHidI1 (im_gtrans (im_gtrans HG1.out (gallocI _ _ _)) (im_gdrew _ m _))
  clear hlk hww
  go_wp2
  go_ret
  exact ⟨rfl, HB2.out, HG2.out⟩
def partF (s : ByteArray) (p : Nat) : Nat := if p < whiteZ s p then 0 else lackZ s p [32]
set_option maxHeartbeats 2000000 in
theorem imParted_any [Inhabited Hold] {w : World} {g : Nat} {s : ByteArray} {p : Nat} (h : ImBox w g s p) (hs : s.size ≤ 1048576) (hp : p ≤ s.size) :
 Calls Tryz.prog 129 #[.pointer (some ⟨g, 0, none⟩)] w fun e w' => e = .returned (errV (partF s p)) ∧ ImBox w' g s (whiteZ s p) ∧ w.grownBy w' (some g) := by
 have ht := imWhite_any h hs hp
 clear h
 by_cases hh : p < whiteZ s p
 · have hm : partF s p = 0 := by unfold partF; rw [if_pos hh]
   rw [hm, errV0]
   rw [decide_eq_true hh] at ht
   clear hh hm
   go_enter Tryz.func129, Tryz.ntmps129
   go_wp2_with fail
   refine ht.mono ?_
   rintro e w1 ⟨rfl, hb1, hg1⟩
   have HB1 := mkHidI1 hb1
   clear hb1
   go_wp2
   go_ret
   exact ⟨rfl, HB1.out, hg1⟩
 · have hm : partF s p = lackF s p [⟨#[32]⟩] := by unfold partF; rw [if_neg hh, lack_one]
   have hwz : whiteZ s p = p := by have := whiteZ_ge s p; omega
   rw [hm]
   rw [decide_eq_false hh, hwz] at ht
   rw [hwz]
   clear hh hm hwz
   go_enter Tryz.func129, Tryz.ntmps129
   go_wp2_with fail
   refine ht.mono ?_
   rintro e w1 ⟨rfl, hb1, hg1⟩
   have HB1 := mkHidI1 hb1
   have HG1 := mkHidI1 hg1
   have hlk := lacks_any (im_alloc hb1 (.cells #[.string ⟨#[32]⟩] 9)) hp [⟨#[32]⟩] _ 1 1 rfl (by simp) (strs_new1 w1 ⟨#[32]⟩)
   clear hb1 hg1 ht
   go_wp2_with fail
   refine hlk.mono ?_
   rintro e w2 ⟨rfl, m, hww⟩
   have HB2 : Hid (ImBox w2 g s p) := by rw [hww]; exact mkHidI1 (im_alloc HB1.out _)
   have HG2 : Hid (w.grownBy w2 (some g)) := by rw [hww]; exact mkHidI1 (im_gtrans (im_gtrans HG1.out (gallocI _ _ _)) (im_gdrew _ m _))
   clear hlk hww
   go_wp2
   go_ret
   exact ⟨rfl, HB2.out, HG2.out⟩
end Go.Proofs.YtmaoefokimjkbaaGreatDoor
