import Derived.Test.YtdblemolaojebaaGreatDoorPlB
import Derived.Test.YtdblemolaojebaaGreatDoorShelfA
import Derived.WalkSpells
import Derived.Shelf.Strings.SlTrimAscii
import Derived.Deep.RegionHeld3
set_option maxHeartbeats 2000000
namespace Go.Proofs.YtdblemolaojebaaGreatDoor
open Go.RowKit Strs2 Plain9
theorem aQ1 {p : Prop} (h : p) : Hid p := h
structure Hold where
 rest : List Value
 ty : TypeId
def aQi [Inhabited Hold] (w : World) (g : Nat) (s : ByteArray) (p : Nat) : Prop := w.heap[g]? = some (.cells (.string s :: .int .i64 (p : Int) :: (default : Hold).rest).toArray (default : Hold).ty)
abbrev scE : Inhabited Hold := ⟨⟨[], 58⟩⟩
def IsSc [Inhabited Hold] : Prop := (default : Hold) = ⟨[], 58⟩
theorem im_sc [Inhabited Hold] (hx : IsSc) {w : World} {g : Nat} {s : ByteArray} {p : Nat} (h : w.heap[g]? = some (.cells #[.string s, .int .i64 (p : Int)] 58)) : aQi w g s p := by
 unfold aQi; rw [hx]; exact h
theorem aQz [Inhabited Hold] {w : World} {g : Nat} {s : ByteArray} {p : Nat} (h : aQi w g s p) :
 w.cell? ⟨g, 0, none⟩ = some (.string s) ∧ w.cell? ⟨g, 1, none⟩ = some (.int .i64 (p : Int)) ∧ w.frozen? ⟨g, 1, none⟩ = false := by
 unfold aQi at h
 simp [World.cell?, World.frozen?, h]
theorem aJc [Inhabited Hold] {W : World} {g : Nat} {s sg : ByteArray} {p : Nat} (h : aQi W g s p) (hp : p ≤ s.size) (w : World) (hW : w.heap = W.heap) :
 Calls Tryz.prog 58 #[.pointer (some ⟨g, 0, none⟩), .string sg] w fun e w' => e = .returned (.bool (aQ5 s p sg.data.toList)) ∧ ∃ n, w' = w.drewN n := by
 have h' : aQi w g s p := by unfold aQi; rw [hW]; exact h
 obtain ⟨c0, c1, f1⟩ := aQz h'
 clear h h' hW
 have hsl : ∀ wx, (Instr.slice 9 (.string s) (some (.int .i64 (p : Int))) none none).run Tryz.prog wx = .ok (.string (s.extract p s.size)) wx := fun wx => aZh wx _ s p _ rfl hp Tryz.underlying9
 have hh := fun wx => Tryz.strings_HasPrefix (s.extract p s.size) sg wx
 simp only [aJl, show Lib.hasPrefix (rest s p) sg.data.toList = aQ5 s p sg.data.toList from rfl] at hh
 go_enter Tryz.func58, Tryz.ntmps58
 go_wp2_with fail
 go_quiet ((go_at_call 28; exact Calls.quiet_of_same (hh _)))
 go_wp2
 go_ret
 exact ⟨rfl, nq, rfl⟩
open Go.RowKit Strs2 Plain9
theorem aW7 [Inhabited Hold] {w : World} {g : Nat} {s : ByteArray} {p : Nat} (h : aQi w g s p) {z : Int} (q : Nat) (hz : z = (q : Int)) : aQi (w.setCell ⟨g, 1, none⟩ (.int .i64 z)) g s q := by
 subst hz
 have hlt : g < w.heap.size := (gLt h)
 have hv := (Array.getElem?_eq_some_iff.1 h).2
 unfold aQi World.setCell
 rw [Array.getElem?_eq_getElem (by simpa using hlt)]
 simp [Array.getElem_modify, hv]
theorem aQa {w : World} {g j : Nat} (u : Value) : w.grownBy (w.setCell ⟨g, j, none⟩ u) (some g) :=
 ⟨rfl, rfl, rfl, by simp, fun k _ hk => Below.heap_setCell w ⟨g, j, none⟩ u k (fun e => hk (by rw [e]))⟩
theorem aQb (w : World) (k : Nat) (r : Option Nat) : w.grownBy (w.drewN k) r := ⟨rfl, rfl, rfl, Nat.le_refl _, fun _ _ _ => rfl⟩
theorem aQ3 {a b c : World} {r : Option Nat} (h : a.grownBy b r) (k : b.grownBy c r) : a.grownBy c r :=
 ⟨k.os.trans h.os, k.tape.trans h.tape, k.output.trans h.output, Nat.le_trans h.size k.size, fun i hi hr => (k.block i (Nat.lt_of_lt_of_le hi h.size) hr).trans (h.block i hi hr)⟩
theorem aQc [Inhabited Hold] {w : World} {g : Nat} {s sg : ByteArray} {p : Nat} (h : aQi w g s p) (hs : s.size ≤ 1048576) (hp : p ≤ s.size) :
 Calls Tryz.prog 29 #[.pointer (some ⟨g, 0, none⟩), .string sg] w fun e w' => e = .returned (.bool (aQ5 s p sg.data.toList)) ∧ aQi w' g s (if aQ5 s p sg.data.toList = true then p + sg.data.toList.length else p) ∧ w.grownBy w' (some g) := by
 have ha := aJc (sg := sg) h hp w rfl
 have HB := aQ1 h
 clear h
 cases hh : aQ5 s p sg.data.toList with
 | false =>
  rw [hh] at ha
  have HH := aQ1 hh
  clear hh
  go_enter Tryz.func29, Tryz.ntmps29
  go_wp2_with fail
  refine ha.mono ?_
  rintro e w1 ⟨rfl, n, hww⟩
  subst hww
  go_wp2
  go_ret
  exact ⟨rfl, HB.out, aQb w n _⟩
 | true =>
  have hroom := aQ9 hh hp
  rw [← Lib.size_eq] at hroom ⊢
  rw [hh] at ha
  have hwr : IntKind.i64.wrap ((p : Int) + (sg.size : Int)) = (p : Int) + (sg.size : Int) := aZ2 (by omega) (by omega)
  clear hh
  go_enter Tryz.func29, Tryz.ntmps29
  go_wp2_with fail
  refine ha.mono ?_
  rintro e w1 ⟨rfl, n, hww⟩
  have HB1 : Hid (aQi w1 g s p) := by rw [hww]; exact HB.out
  have HG1 : Hid (w.grownBy w1 (some g)) := by rw [hww]; exact aQb w n _
  clear hww ha
  obtain ⟨c0, c1, f1⟩ := aQz HB1.out
  go_wp2
  go_ret
  exact ⟨rfl, aW7 HB1.out (p + sg.size) (by omega), aQ3 HG1.out (aQa _)⟩
open Go.RowKit Lists Bytes Go.Lib
theorem info8 : (Tryz.prog.info? 5).map (fun i => (i.zero, i.size, i.bytes)) = some (some (.int .u8 0), 1, 1) := by kernel_rfl
theorem size8 : (Tryz.prog.info? 5).map (·.size) = some 1 := by kernel_rfl
theorem mkHidFr {p : Prop} (h : p) : Hid p := h
theorem bytes_all (s : ByteArray) : byteCells s.data.toList = (s.data.toList.map fun b => (b.toNat : Int)).map (Value.int .u8) := by
 simp [byteCells]
theorem str_of_bytes (s : ByteArray) : strOfNums (s.data.toList.map fun b => (b.toNat : Int)) = s := by
 apply ByteArray.ext
 apply Array.toList_inj.1
 simp only [strOfNums, List.map_map]
 have : ∀ l : List UInt8, l.map ((fun n : Int => UInt8.ofNat n.toNat) ∘ fun b => (b.toNat : Int)) = l := by
  intro l
  induction l with
  | nil => rfl
  | cons a t ih => simp only [List.map_cons, ih]; simp
 simpa using this s.data.toList
theorem aVl (s : ByteArray) (w : World) (hs : s.size ≤ 1048576) :
 Calls Tryz.prog 94 #[.string s] w fun e w' => e = .returned (.string s) ∧ w.grownBy w' none := by
 have hmk := run_make_row' (P := Tryz.prog) 22 5 (.int .u8 0) 1 Tryz.underlying22 info8 rfl .i64 .i64 s.size (by omega) (by omega)
 have hcp := fun ty => run_copy_row_string (P := Tryz.prog) (w.alloc (.cells (madeCells #[.int .u8 0] s.size) 5)) 22 9 ty 5 w.heap.size 0 s.size s.size s (madeCells #[.int .u8 0] s.size) 5
  Tryz.underlying22 size8 (heap_alloc_new w _) (Nat.le_refl _) (by simp [madeCells])
 obtain ⟨W, hW⟩ : ∃ W, W = (w.alloc (.cells (madeCells #[.int .u8 0] s.size) 5)).setRow w.heap.size (((madeCells #[.int .u8 0] s.size).toList.take 0 ++ byteCells s.data.toList ++ (madeCells #[.int .u8 0] s.size).toList.drop (0 + s.size)).toArray) := ⟨_, rfl⟩
 rw [← hW] at hcp
 have hrow : W.heap[w.heap.size]? = some (.cells (byteCells s.data.toList).toArray 5) := by
  rw [hW, setRow_heap _ _ _ _ _ _ (heap_alloc_new w _)]
  congr 3
  have hl : (madeCells #[Value.int .u8 0] s.size).toList.drop (0 + s.size) = [] := List.drop_eq_nil_of_le (by simp [madeCells])
  rw [hl]
  simp
 have hg : w.grownBy W none := by
  rw [hW]
  exact ⟨rfl, rfl, rfl, by simp [World.setRow], fun k hk _ => by rw [setRow_other _ _ _ _ (by omega)]; exact heap_alloc_old w _ hk⟩
 have hown : W.ownsRow w.heap.size 5 1 (.slice (some ⟨w.heap.size, 0, none⟩) s.size s.size) s.size ((s.data.toList.map fun b => (b.toNat : Int)).map (Value.int .u8)) := by
  refine ⟨by simp, .inr ⟨w.heap.size, s.size, (byteCells s.data.toList).toArray, rfl, Nat.le_refl _, hrow, Nat.le_refl _, by unfold maxLen; omega, by simp [byteCells_length], ?_⟩⟩
  rw [bytes_all]
  simp only [Nat.mul_one]
  rw [List.take_of_length_le (by simp)]
 have hconv := bZb (P := Tryz.prog) (src := 22) (dst := 9) Tryz.underlying22 Tryz.underlying5 Tryz.underlying9 hown
 rw [str_of_bytes] at hconv
 have HG := mkHidFr hg
 clear hown hrow hW hg
 go_enter Tryz.func94, Tryz.ntmps94
 go_wp2
 go_ret
 exact ⟨rfl, HG.out⟩
open Go.RowKit Strs2 Plain9
theorem im_keep [Inhabited Hold] {w w' : World} {g : Nat} {s : ByteArray} {p : Nat} (h : aQi w g s p) (hk : ∀ k, k < w.heap.size → w'.heap[k]? = w.heap[k]?) : aQi w' g s p := by
 unfold aQi; rw [hk g (gLt h)]; exact h
theorem aJd [Inhabited Hold] {w w' : World} {g : Nat} {s : ByteArray} {p : Nat} (h : aQi w g s p) (hg : w.grownBy w' none) : aQi w' g s p := im_keep h fun k hk => hg.block k hk (by simp)
theorem aZt [Inhabited Hold] {w w' : World} {g : Nat} {s : ByteArray} {p : Nat} (h : aQi w g s p) (hg : Below w.heap.size w w') : aQi w' g s p := im_keep h fun k hk => hg.block k hk
theorem bJf {a b : World} {r : Option Nat} (h : a.grownBy b none) : a.grownBy b r := ⟨h.os, h.tape, h.output, h.size, fun i hi _ => h.block i hi (by simp)⟩
theorem aJz {a b : World} {r : Option Nat} (h : Below a.heap.size a b) : a.grownBy b r := ⟨h.os, h.tape, h.output, h.size, fun i hi _ => h.block i hi⟩
theorem aZu [Inhabited Hold] {w : World} {g : Nat} {s : ByteArray} {p : Nat} (h : aQi w g s p) (o : Obj) : aQi (w.alloc o) g s p := im_keep h fun _ hk => heap_alloc_old w o hk
theorem aZg (w : World) (o : Obj) (r : Option Nat) : w.grownBy (w.alloc o) r := ⟨rfl, rfl, rfl, by simp, fun _ hk _ => heap_alloc_old w o hk⟩
theorem bKv : (Tryz.prog.info? (Tryz.lays161_ren.t 116)).map (fun i => (i.zero, i.size)) = some (some (.agg (Array.replicate 256 (.bool false))), 256) := by kernel_rfl
theorem trim_call (t : ByteArray) (w : World) : Calls Tryz.prog 103 #[.string t, .string ⟨#[9, 10, 32]⟩] w fun e w' => e = .returned (.string ⟨(Lib.trimLeftS t.data.toList [9, 10, 32]).toArray⟩) ∧ Below w.heap.size w w' :=
 Any.strings_TrimLeft_laid Tryz.lays161 bKv t ⟨#[9, 10, 32]⟩ w (by decide) (ascii_of_all (by decide))
theorem aXi [Inhabited Hold] {w : World} {g : Nat} {s : ByteArray} {p : Nat} (h : aQi w g s p) (hs : s.size ≤ 1048576) (hp : p ≤ s.size) :
 Calls Tryz.prog 71 #[.pointer (some ⟨g, 0, none⟩)] w fun e w' => e = .returned (.bool (decide (p < whiteZ s p))) ∧ aQi w' g s (whiteZ s p) ∧ w.grownBy w' (some g) := by
 obtain ⟨c0, c1, f1⟩ := aQz h
 have hsl : ∀ wx, (Instr.slice 9 (.string s) (some (.int .i64 (p : Int))) none none).run Tryz.prog wx = .ok (.string (s.extract p s.size)) wx := fun wx => aZh wx _ s p _ rfl hp Tryz.underlying9
 have ht := fun wx => trim_call (s.extract p s.size) wx
 obtain ⟨X, hX⟩ : ∃ X : ByteArray, (⟨(Lib.trimLeftS (s.extract p s.size).data.toList [9, 10, 32]).toArray⟩ : ByteArray) = X := ⟨_, rfl⟩
 simp only [hX] at ht
 obtain ⟨q, hq⟩ : ∃ q, whiteZ s p = q := ⟨_, rfl⟩
 have hXs : (X.size : Int) = (s.size : Int) - (q : Int) := by
  have h1 := whiteZ_trim hp
  have h2 := aQq hp
  rw [hq] at h1 h2
  rw [← hX, aJl]
  have : (⟨(Lib.trimLeftS (rest s p) [9, 10, 32]).toArray⟩ : ByteArray).size = (Lib.trimLeftS (rest s p) bVd).length := by
   rw [Lib.size_eq]; rfl
  rw [this, h1]; omega
 have hqs : q ≤ s.size := by rw [← hq]; exact aQq hp
 have hw1 : IntKind.i64.wrap ((s.size : Int) - (X.size : Int)) = (q : Int) := by rw [hXs, aZ2 (by omega) (by omega)]; omega
 rw [hq]
 have HB := aQ1 h
 clear h hX hq hXs
 go_enter Tryz.func71, Tryz.ntmps71
 go_wp2_with fail
 go_region_held3 (fun W => W.cell? ⟨g, 0, none⟩ = some (.string s) ∧ W.cell? ⟨g, 1, none⟩ = some (.int .i64 (p : Int))) (go_keep)
  (first | (go_at_call 103; refine (ht _).mono ?_; rintro e w' ⟨rfl, hb'⟩; obtain ⟨c0, c1, f1⟩ := aQz (aZt (w := w.drew) HB.out hb')))
 have HB1 := aQ1 (aZt (w := w.drew) HB.out hb')
 have HG1 : Hid (w.grownBy w' (some g)) := aQ1 (aQ3 (aQb w 1 _) (aJz (a := w.drew) hb'))
 clear hb'
 go_wp2
 go_ret
 exact ⟨by simp, aW7 HB1.out q rfl, aQ3 HG1.out (aQa _)⟩
end Go.Proofs.YtdblemolaojebaaGreatDoor
namespace Go.Proofs.YtdblemolaojebaaGreatDoor.Ents
open Go.RowKit Lists
def aJs (w : World) (a : Option Addr) (l : List (ByteArray × ByteArray)) : Prop :=
 ∃ b off, (0 < l.length → a = some ⟨b, off, none⟩) ∧ ∀ i (h : i < l.length), w.cell? ⟨b, off + i * 2, none⟩ = some (.string (l[i]'h).1) ∧ w.cell? ⟨b, off + i * 2 + 1, none⟩ = some (.string (l[i]'h).2)
structure At5 where
 of : ByteArray
 nm : ByteArray
 words : Bool
 has : Bool
 val : ByteArray
def aY0 (w : World) (a : Option Addr) (l : List At5) : Prop :=
 ∃ b off, (0 < l.length → a = some ⟨b, off, none⟩) ∧ ∀ i (h : i < l.length), w.cell? ⟨b, off + i * 5, none⟩ = some (.string (l[i]'h).of) ∧ w.cell? ⟨b, off + i * 5 + 1, none⟩ = some (.string (l[i]'h).nm) ∧
  w.cell? ⟨b, off + i * 5 + 2, none⟩ = some (.bool (l[i]'h).words) ∧ w.cell? ⟨b, off + i * 5 + 3, none⟩ = some (.bool (l[i]'h).has) ∧ w.cell? ⟨b, off + i * 5 + 4, none⟩ = some (.string (l[i]'h).val)
theorem aXs {w w' : World} (h : ∀ k, k < w.heap.size → w'.heap[k]? = w.heap[k]?) {b o : Nat} {v : Value} (hc : w.cell? ⟨b, o, none⟩ = some v) : w'.cell? ⟨b, o, none⟩ = some v := by
 have := h b (aQf hc)
 rw [World.cell?_of_block (a := ⟨b, o, none⟩) this]; exact hc
theorem aJs.keep {w w' : World} {a : Option Addr} {l : List (ByteArray × ByteArray)} (h : aJs w a l) (hk : ∀ k, k < w.heap.size → w'.heap[k]? = w.heap[k]?) : aJs w' a l := by
 obtain ⟨b, off, h1, h2⟩ := h
 exact ⟨b, off, h1, fun i hi => ⟨aXs hk (h2 i hi).1, aXs hk (h2 i hi).2⟩⟩
theorem aY0.keep {w w' : World} {a : Option Addr} {l : List At5} (h : aY0 w a l) (hk : ∀ k, k < w.heap.size → w'.heap[k]? = w.heap[k]?) : aY0 w' a l := by
 obtain ⟨b, off, h1, h2⟩ := h
 exact ⟨b, off, h1, fun i hi => ⟨aXs hk (h2 i hi).1, aXs hk (h2 i hi).2.1, aXs hk (h2 i hi).2.2.1, aXs hk (h2 i hi).2.2.2.1, aXs hk (h2 i hi).2.2.2.2⟩⟩
theorem aJs.grown {w w' : World} {a : Option Addr} {l : List (ByteArray × ByteArray)} (h : aJs w a l) (hg : w.grownBy w' none) : aJs w' a l := h.keep fun k hk => hg.block k hk (by simp)
theorem aY0.grown {w w' : World} {a : Option Addr} {l : List At5} (h : aY0 w a l) (hg : w.grownBy w' none) : aY0 w' a l := h.keep fun k hk => hg.block k hk (by simp)
theorem aJs.below {w w' : World} {a : Option Addr} {l : List (ByteArray × ByteArray)} (h : aJs w a l) (hg : Below w.heap.size w w') : aJs w' a l := h.keep fun k hk => hg.block k hk
theorem aY0.below {w w' : World} {a : Option Addr} {l : List At5} (h : aY0 w a l) (hg : Below w.heap.size w w') : aY0 w' a l := h.keep fun k hk => hg.block k hk
theorem aVa {w w' : World} (h : Below w.heap.size w w') : w.grownBy w' none := ⟨h.os, h.tape, h.output, h.size, fun k hk _ => h.block k hk⟩
theorem find_hit {α : Type} {l : List α} {p : α → Bool} {k : Nat} (hk : k < l.length) (h0 : (l.take k).find? p = none) (h1 : p (l[k]'hk) = true) : l.find? p = some (l[k]'hk) := by
 have e : l = l.take k ++ (l[k]'hk) :: l.drop (k + 1) := by simp
 conv => lhs; rw [e]
 rw [List.find?_append, h0, List.find?_cons_of_pos h1]
 rfl
theorem bW6 {α : Type} {l : List α} {p : α → Bool} {k : Nat} (hk : k < l.length) (h0 : (l.take k).find? p = none) (h1 : p (l[k]'hk) = false) : (l.take (k + 1)).find? p = none := by
 rw [List.take_succ_eq_append_getElem hk, List.find?_append, h0]
 simp [h1]
theorem find_end {α : Type} {l : List α} {p : α → Bool} {k : Nat} (hk : l.length ≤ k) (h0 : (l.take k).find? p = none) : l.find? p = none := by
 rw [List.take_of_length_le hk] at h0; exact h0
def aW6 (n : ByteArray) (e : ByteArray × ByteArray) : Bool := e.1.toList == n.toList
def aVu (o n : ByteArray) (e : At5) : Bool := (e.of.toList == o.toList) && (e.nm.toList == n.toList)
def zAtt : At5 := ⟨⟨#[]⟩, ⟨#[]⟩, false, false, ⟨#[]⟩⟩
def entR (l : List (ByteArray × ByteArray)) (n : ByteArray) : ByteArray × ByteArray := if 4000 < n.size then (⟨#[]⟩, ⟨#[]⟩) else (l.find? (aW6 n)).getD (⟨#[]⟩, ⟨#[]⟩)
def attR (l : List At5) (o n : ByteArray) : At5 := if 4000 < o.size ∨ 4000 < n.size then zAtt else (l.find? (aVu o n)).getD zAtt
theorem ent_long {l : List (ByteArray × ByteArray)} {n : ByteArray} (h : 4000 < n.size) : entR l n = (⟨#[]⟩, ⟨#[]⟩) := by unfold entR; rw [if_pos h]
theorem ent_hit {l : List (ByteArray × ByteArray)} {n : ByteArray} {k : Nat} (h : ¬ 4000 < n.size) (hk : k < l.length) (h0 : (l.take k).find? (aW6 n) = none) (h1 : aW6 n (l[k]'hk) = true) : entR l n = l[k]'hk := by
 unfold entR; rw [if_neg h, find_hit hk h0 h1]; rfl
theorem ent_none {l : List (ByteArray × ByteArray)} {n : ByteArray} {k : Nat} (h : ¬ 4000 < n.size) (hk : l.length ≤ k) (h0 : (l.take k).find? (aW6 n) = none) : entR l n = (⟨#[]⟩, ⟨#[]⟩) := by
 unfold entR; rw [if_neg h, find_end hk h0]; rfl
theorem att_long {l : List At5} {o n : ByteArray} (h : 4000 < o.size ∨ 4000 < n.size) : attR l o n = zAtt := by unfold attR; rw [if_pos h]
theorem att_hit {l : List At5} {o n : ByteArray} {k : Nat} (h : ¬ (4000 < o.size ∨ 4000 < n.size)) (hk : k < l.length) (h0 : (l.take k).find? (aVu o n) = none) (h1 : aVu o n (l[k]'hk) = true) : attR l o n = l[k]'hk := by
 unfold attR; rw [if_neg h, find_hit hk h0 h1]; rfl
theorem att_none {l : List At5} {o n : ByteArray} {k : Nat} (h : ¬ (4000 < o.size ∨ 4000 < n.size)) (hk : l.length ≤ k) (h0 : (l.take k).find? (aVu o n) = none) : attR l o n = zAtt := by
 unfold attR; rw [if_neg h, find_end hk h0]; rfl
end Go.Proofs.YtdblemolaojebaaGreatDoor.Ents
namespace Go.Proofs.YtdblemolaojebaaGreatDoor
open Go.RowKit Strs2 Plain9 Plain10 Plain11
def errV (f : Nat) : Value := if f = 0 then .nilIface else if f = 1 then .iface 128 (.agg #[]) else if f = 3 then .iface 131 (.agg #[.int .i64 6]) else .iface 131 (.agg #[.int .i64 3])
theorem aXq : errV 0 = .nilIface := rfl
theorem aZ1 : errV 1 = .iface 128 (.agg #[]) := rfl
theorem aZp : errV 2 = .iface 131 (.agg #[.int .i64 3]) := rfl
theorem bW8 : errV 3 = .iface 131 (.agg #[.int .i64 6]) := rfl
def StrsAt (w : World) (a : Option Addr) (l : List ByteArray) : Prop :=
 ∃ b, (0 < l.length → a = some ⟨b, 0, none⟩) ∧ ∀ i (h : i < l.length), w.cell? ⟨b, i, none⟩ = some (.string (l[i]'h))
def aKy (s : ByteArray) (p : Nat) (l : List ByteArray) : Nat := if (l.find? fun sg => (rest s p).isPrefixOf sg.data.toList).isSome then 1 else 2
theorem aY3 [Inhabited Hold] {w : World} {g : Nat} {s : ByteArray} {p : Nat} (h : aQi w g s p) (hp : p ≤ s.size) (l : List ByteArray) (a : Option Addr) (n c : Nat) (hn : n = l.length) (hl : l.length ≤ 8) (hA : StrsAt w a l) :
 Calls Tryz.prog 31 #[.pointer (some ⟨g, 0, none⟩), .slice a n c] w fun e w' => e = .returned (errV (aKy s p l)) ∧ ∃ m, w' = w.drewN m := by
 subst hn
 obtain ⟨R, hR⟩ : ∃ R, aKy s p l = R := ⟨_, rfl⟩
 rw [hR]
 have HR := aQ1 hR
 have HA := aQ1 hA
 have HB := aQ1 h
 clear hR hA h
 have hsl : ∀ wx, (Instr.slice 9 (.string s) (some (.int .i64 (p : Int))) none none).run Tryz.prog wx = .ok (.string (s.extract p s.size)) wx := fun wx => aZh wx _ s p _ rfl hp Tryz.underlying9
 go_enter Tryz.func31, Tryz.ntmps31
 go_wp2
 go_loopw [9] (fun i wr => ∃ k : Nat, k ≤ l.length ∧ i = .int .i64 k ∧ (l.take k).find? (fun sg => (rest s p).isPrefixOf sg.data.toList) = none ∧ ∃ m, wr = w.drewN m) (fun i _ => l.length - (intOf i).toNat)
 case atStart => exact ⟨0, Nat.zero_le _, rfl, rfl, 0, rfl⟩
 case round =>
  obtain ⟨k, hk, rfl, hno, m, hwm⟩ := hrel
  have HNO := aQ1 hno
  have HWM := aQ1 hwm
  have hbx : aQi wr g s p := by rw [hwm]; exact HB.out
  have hAr : StrsAt wr a l := by rw [hwm]; exact HA.out
  clear hno hwm
  by_cases hlt : k < l.length
  · obtain ⟨b, ha, hc⟩ := hAr
    obtain rfl := ha (by omega)
    have c2 := hc k hlt
    obtain ⟨E, hE⟩ : ∃ E, l[k]'hlt = E := ⟨_, rfl⟩
    rw [hE] at c2
    have HE := aQ1 hE
    obtain ⟨c0, c1, f1⟩ := aQz hbx
    have hh := fun wx => Tryz.strings_HasPrefix E (s.extract p s.size) wx
    simp only [aJl, show Lib.hasPrefix E.data.toList (rest s p) = (rest s p).isPrefixOf E.data.toList from rfl] at hh
    clear hc ha hE hbx HA HB
    cases hst : (rest s p).isPrefixOf E.data.toList with
    | true =>
     have hR1 : R = 1 := by
      rw [← HR.out]; unfold aKy
      rw [Ents.find_hit hlt HNO.out (by rw [HE.out]; exact hst)]; rfl
     subst hR1
     rw [hst] at hh
     go_wp2_with fail
     go_quiet ((go_at_call 28; exact Calls.quiet_of_same (hh _)))
     go_wp2
     go_ret
     refine ⟨rfl, m + nq, ?_⟩
     rw [HWM.out, World.drewN_drewN]
    | false =>
     have hno2 := Ents.bW6 hlt HNO.out (p := fun sg => (rest s p).isPrefixOf sg.data.toList) (by rw [HE.out]; exact hst)
     have HN2 := aQ1 hno2
     rw [hst] at hh
     clear hno2
     go_wp2_with fail
     go_quiet ((go_at_call 28; exact Calls.quiet_of_same (hh _)))
     go_wp2
     go_roundw
     case rel => exact ⟨k + 1, by omega, by go_num, HN2.out, m + nq, by rw [HWM.out, World.drewN_drewN]⟩
     case measure => simp [intOf]; omega
  · have hR2 : R = 2 := by
     rw [← HR.out]; unfold aKy
     rw [Ents.find_end (by omega) HNO.out]; rfl
    subst hR2
    clear hAr HA HB
    go_wp2
    go_ret
    exact ⟨rfl, m, HWM.out⟩
theorem strs_new1 (W : World) (t : ByteArray) : StrsAt (W.alloc (.cells #[.string t] 9)) (some ⟨W.heap.size, 0, none⟩) [t] := by
 refine ⟨W.heap.size, fun _ => rfl, fun i hi => ?_⟩
 have : i = 0 := by simpa using hi
 subst this
 unfold World.cell?
 rw [heap_alloc_new]; rfl
theorem lack_one (s : ByteArray) (p : Nat) (t : ByteArray) : aKy s p [t] = aW5 s p t.data.toList := by
 unfold aKy aW5
 cases h : (rest s p).isPrefixOf t.data.toList <;> simp [h]
theorem aZ8 [Inhabited Hold] {w : World} {g : Nat} {s sg : ByteArray} {p : Nat} (h : aQi w g s p) (hs : s.size ≤ 1048576) (hp : p ≤ s.size) :
 Calls Tryz.prog 95 #[.pointer (some ⟨g, 0, none⟩), .string sg] w fun e w' => e = .returned (errV (aQm s p sg.data.toList)) ∧ aQi w' g s (if aQm s p sg.data.toList = 0 then p + sg.data.toList.length else p) ∧ w.grownBy w' (some g) := by
 have ht := aQc (sg := sg) h hs hp
 clear h
 cases hh : aQ5 s p sg.data.toList with
 | true =>
  have hm : aQm s p sg.data.toList = 0 := aX8.2 hh
  rw [hm, if_pos rfl, aXq]
  rw [hh, if_pos rfl] at ht
  clear hh hm
  go_enter Tryz.func95, Tryz.ntmps95
  go_wp2_with fail
  refine ht.mono ?_
  rintro e w1 ⟨rfl, hb1, hg1⟩
  have HB1 := aQ1 hb1
  clear hb1
  go_wp2
  go_ret
  exact ⟨rfl, HB1.out, hg1⟩
 | false =>
  have hm : aQm s p sg.data.toList = aW5 s p sg.data.toList := by unfold aQm; rw [hh]; rfl
  have hn0 : ¬ aQm s p sg.data.toList = 0 := fun h0 => by rw [aX8, hh] at h0; cases h0
  rw [if_neg hn0, hm, ← lack_one]
  rw [hh, if_neg (by simp)] at ht
  clear hh hm hn0
  go_enter Tryz.func95, Tryz.ntmps95
  go_wp2_with fail
  refine ht.mono ?_
  rintro e w1 ⟨rfl, hb1, hg1⟩
  have HB1 := aQ1 hb1
  have HG1 := aQ1 hg1
  have hlk := aY3 (aZu hb1 (.cells #[.string sg] 9)) hp [sg] _ 1 1 rfl (by simp) (strs_new1 w1 sg)
  clear hb1 hg1 ht
  go_wp2_with fail
  refine hlk.mono ?_
  rintro e w2 ⟨rfl, m, hww⟩
  have HB2 : Hid (aQi w2 g s p) := by rw [hww]; exact aQ1 (aZu HB1.out _)
  have HG2 : Hid (w.grownBy w2 (some g)) := by rw [hww]; exact aQ1 (aQ3 (aQ3 HG1.out (aZg _ _ _)) (aQb _ m _))
  clear hlk hww
  go_wp2
  go_ret
  exact ⟨rfl, HB2.out, HG2.out⟩
def aKp (s : ByteArray) (p : Nat) : Nat := if p < whiteZ s p then 0 else aW5 s p [32]
theorem aZe [Inhabited Hold] {w : World} {g : Nat} {s : ByteArray} {p : Nat} (h : aQi w g s p) (hs : s.size ≤ 1048576) (hp : p ≤ s.size) :
 Calls Tryz.prog 124 #[.pointer (some ⟨g, 0, none⟩)] w fun e w' => e = .returned (errV (aKp s p)) ∧ aQi w' g s (whiteZ s p) ∧ w.grownBy w' (some g) := by
 have ht := aXi h hs hp
 clear h
 by_cases hh : p < whiteZ s p
 · have hm : aKp s p = 0 := by unfold aKp; rw [if_pos hh]
   rw [hm, aXq]
   rw [decide_eq_true hh] at ht
   clear hh hm
   go_enter Tryz.func124, Tryz.ntmps124
   go_wp2_with fail
   refine ht.mono ?_
   rintro e w1 ⟨rfl, hb1, hg1⟩
   have HB1 := aQ1 hb1
   clear hb1
   go_wp2
   go_ret
   exact ⟨rfl, HB1.out, hg1⟩
 · have hm : aKp s p = aKy s p [⟨#[32]⟩] := by unfold aKp; rw [if_neg hh, lack_one]
   have hwz : whiteZ s p = p := by have := aQw s p; omega
   rw [hm]
   rw [decide_eq_false hh, hwz] at ht
   rw [hwz]
   clear hh hm hwz
   go_enter Tryz.func124, Tryz.ntmps124
   go_wp2_with fail
   refine ht.mono ?_
   rintro e w1 ⟨rfl, hb1, hg1⟩
   have HB1 := aQ1 hb1
   have HG1 := aQ1 hg1
   have hlk := aY3 (aZu hb1 (.cells #[.string ⟨#[32]⟩] 9)) hp [⟨#[32]⟩] _ 1 1 rfl (by simp) (strs_new1 w1 ⟨#[32]⟩)
   clear hb1 hg1 ht
   go_wp2_with fail
   refine hlk.mono ?_
   rintro e w2 ⟨rfl, m, hww⟩
   have HB2 : Hid (aQi w2 g s p) := by rw [hww]; exact aQ1 (aZu HB1.out _)
   have HG2 : Hid (w.grownBy w2 (some g)) := by rw [hww]; exact aQ1 (aQ3 (aQ3 HG1.out (aZg _ _ _)) (aQb _ m _))
   clear hlk hww
   go_wp2
   go_ret
   exact ⟨rfl, HB2.out, HG2.out⟩
end Go.Proofs.YtdblemolaojebaaGreatDoor
