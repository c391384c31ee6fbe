import Derived.Test.YtdblemolaojebaaGreatDoorProg
import Derived.Test.YtdblemolaojebaaGreatDoorPlB
import Derived.WalkSpells
import Derived.BigQuiet
import Derived.Deep.RegionWith
import Derived.Deep.DeepAppendWide
namespace Go.Proofs.YtdblemolaojebaaGreatDoor
open Go.RowKit Strs Lists Plain9 Plain10
theorem set5 {w : World} {g : Nat} {c : Array Value} {t : TypeId} {fr : Nat × Nat} (h : w.heap[g]? = some (.cells c t fr)) (j : Nat) (u : Value) : (w.setCell ⟨g, j, none⟩ u).heap[g]? = some (.cells (c.setIfInBounds j u) t fr) := by
 have hlt : g < w.heap.size := (gLt h)
 have hv := (Array.getElem?_eq_some_iff.1 h).2
 unfold World.setCell
 rw [Array.getElem?_eq_getElem (by simpa using hlt)]
 simp [Array.getElem_modify, hv]
theorem gset5 {w : World} {g j : Nat} (u : Value) : w.grownBy (w.setCell ⟨g, j, none⟩ u) (some g) :=
 ⟨rfl, rfl, rfl, by simp, fun k _ hk => Below.heap_setCell w ⟨g, j, none⟩ u k (fun e => hk (by rw [e]))⟩
theorem aQ0 {p : Prop} (h : p) : Hid p := h
def aQ8 (l : List (ByteArray × ByteArray)) : List Value := l.flatMap fun a => [.string a.1, .string a.2]
def aQt (w : World) (k : Nat) (kd : Int) (nm tx : ByteArray) (v : Value) : Prop := w.heap[k]? = some (.cells #[.int .i64 kd, .string nm, .string tx, v] 73)
theorem aQ6 {w : World} {k : Nat} {kd : Int} {nm tx : ByteArray} {v : Value} (h : aQt w k kd nm tx v) :
 w.cell? ⟨k, 0, none⟩ = some (.int .i64 kd) ∧ w.cell? ⟨k, 1, none⟩ = some (.string nm) ∧ w.cell? ⟨k, 2, none⟩ = some (.string tx) ∧ w.cell? ⟨k, 3, none⟩ = some v ∧
 w.frozen? ⟨k, 0, none⟩ = false ∧ w.frozen? ⟨k, 1, none⟩ = false ∧ w.frozen? ⟨k, 2, none⟩ = false ∧ w.frozen? ⟨k, 3, none⟩ = false := by
 unfold aQt at h
 simp [World.cell?, World.frozen?, h]
theorem bX4 {w : World} {k : Nat} {kd : Int} {nm tx : ByteArray} {v : Value} (h : aQt w k kd nm tx v) : k < w.heap.size := (gLt h)
theorem Below.heap_new (w : World) (o : Obj) : (w.alloc o).heap[w.heap.size]? = some o := by
 show (w.heap.push o)[w.heap.size]? = some o
 simp
theorem tk_alloc (w : World) : aQt (w.alloc (.cells #[.int .i64 0, .string ByteArray.empty, .string ByteArray.empty, .slice none 0 0] 73)) w.heap.size 0 ByteArray.empty ByteArray.empty (.slice none 0 0) := by
 unfold aQt; exact Below.heap_new _ _
theorem tk_new (w : World) (kd : Int) (nm tx : ByteArray) (v : Value) : aQt (w.alloc (.cells #[.int .i64 kd, .string nm, .string tx, v] 73)) w.heap.size kd nm tx v := by
 unfold aQt; exact Below.heap_new _ _
theorem tk_keep {w w' : World} {k g : Nat} {kd : Int} {nm tx : ByteArray} {v : Value} (h : aQt w k kd nm tx v) (hg : w.grownBy w' (some g)) (hne : k ≠ g) : aQt w' k kd nm tx v := by
 unfold aQt
 rw [hg.block k (bX4 h) (fun e => hne (Option.some.inj e))]; exact h
theorem aJ1 {a b : World} {r : Option Nat} {k j : Nat} (h : a.grownBy b r) (hk : a.heap.size ≤ k) (u : Value) : a.grownBy (b.setCell ⟨k, j, none⟩ u) r :=
 ⟨h.os, h.tape, h.output, by simpa using h.size, fun i hi hr => (Below.heap_setCell b ⟨k, j, none⟩ u i (fun e => by have e' : i = k := e; omega)).trans (h.block i hi hr)⟩
def zTok : Obj := .cells #[.int .i64 0, .string ByteArray.empty, .string ByteArray.empty, .slice none 0 0] 73
theorem aJw {W : World} {k k' j : Nat} (u : Value) (hne : k' ≠ k) : (W.setCell ⟨k, j, none⟩ u).heap[k']? = W.heap[k']? := Below.heap_setCell W ⟨k, j, none⟩ u k' hne
theorem sub_close {s : ByteArray} {f p : Nat} (hp : p < s.size) (h : aQ2 s p = 93) : aZa s (f + 1) p = (0, p + 1) := by
 unfold aZa; rw [if_pos hp, if_pos h]
theorem sub_end {s : ByteArray} {f p : Nat} (hp : ¬ p < s.size) : aZa s f p = (1, p) := by
 cases f with
 | zero => rfl
 | succ f => unfold aZa; rw [if_neg hp]
theorem sub_q {s : ByteArray} {f p : Nat} (hp : p < s.size) (h : aQ2 s p = 34) : aZa s (f + 1) p = if upF s (p + 1) [34] = 0 then aZa s f (upP s (p + 1) [34]) else (1, p) := by
 conv => lhs; unfold aZa
 rw [if_pos hp, if_neg (by omega), if_pos h]
theorem sub_a {s : ByteArray} {f p : Nat} (hp : p < s.size) (h : aQ2 s p = 39) : aZa s (f + 1) p = if upF s (p + 1) [39] = 0 then aZa s f (upP s (p + 1) [39]) else (1, p) := by
 conv => lhs; unfold aZa
 rw [if_pos hp, if_neg (by omega), if_neg (by omega), if_pos h]
theorem sub_c {s : ByteArray} {f p : Nat} (hp : p < s.size) (h1 : aQ2 s p ≠ 93) (h2 : aQ2 s p ≠ 34) (h3 : aQ2 s p ≠ 39) (h : aQ5 s p [60, 33, 45, 45] = true) : aZa s (f + 1) p = if upF s (p + 4) [45, 45, 62] = 0 then aZa s f (upP s (p + 4) [45, 45, 62]) else (1, p) := by
 conv => lhs; unfold aZa
 rw [if_pos hp, if_neg h1, if_neg h2, if_neg h3, if_pos h]
theorem sub_p {s : ByteArray} {f p : Nat} (hp : p < s.size) (h1 : aQ2 s p ≠ 93) (h2 : aQ2 s p ≠ 34) (h3 : aQ2 s p ≠ 39) (h4 : aQ5 s p [60, 33, 45, 45] = false) (h : aQ5 s p [60, 63] = true) : aZa s (f + 1) p = if upF s (p + 2) [63, 62] = 0 then aZa s f (upP s (p + 2) [63, 62]) else (1, p) := by
 conv => lhs; unfold aZa
 rw [if_pos hp, if_neg h1, if_neg h2, if_neg h3, if_neg (by rw [h4]; simp), if_pos h]
theorem sub_d {s : ByteArray} {f p : Nat} (hp : p < s.size) (h1 : aQ2 s p ≠ 93) (h2 : aQ2 s p ≠ 34) (h3 : aQ2 s p ≠ 39) (h4 : aQ5 s p [60, 33, 45, 45] = false) (h5 : aQ5 s p [60, 63] = false) : aZa s (f + 1) p = aZa s f (p + 1) := by
 conv => lhs; unfold aZa
 rw [if_pos hp, if_neg h1, if_neg h2, if_neg h3, if_neg (by rw [h4]; simp), if_neg (by rw [h5]; simp)]
theorem bJz (a : ByteArray × ByteArray) (t : List (ByteArray × ByteArray)) : aQ8 (a :: t) = .string a.1 :: .string a.2 :: aQ8 t := rfl
theorem aWv (l : List (ByteArray × ByteArray)) (a : ByteArray × ByteArray) : aQ8 (l ++ [a]) = aQ8 l ++ [.string a.1, .string a.2] := by
 simp [aQ8]
theorem aYl : ∀ (l : List (ByteArray × ByteArray)) (i : Nat) (h : i < l.length), (aQ8 l)[2 * i]? = some (.string (l[i]'h).1) ∧ (aQ8 l)[2 * i + 1]? = some (.string (l[i]'h).2)
 | a :: t, 0, h => by rw [bJz]; exact ⟨rfl, rfl⟩
 | a :: t, i + 1, h => by
  have ih := aYl t i (by simpa using h)
  rw [bJz, show 2 * (i + 1) = 2 * i + 1 + 1 by omega]
  simpa using ih
def AttrsAt (w : World) (a : Option Addr) (l : List (ByteArray × ByteArray)) : Prop :=
 l = [] ∨ ∃ g : Nat, a = some ⟨g, 0, none⟩ ∧ ∀ i (h : i < l.length), w.cell? ⟨g, i * 2, none⟩ = some (.string (l[i]'h).1) ∧ w.cell? ⟨g, i * 2 + 1, none⟩ = some (.string (l[i]'h).2)
theorem aVn {w : World} {base : Nat} {e : TypeId} {v : Value} {l : List (ByteArray × ByteArray)} (h : w.ownsRow base e 2 v l.length (aQ8 l)) : ∃ a c, v = .slice a l.length c ∧ AttrsAt w a l := by
 rcases aZm h with ⟨rfl, hn⟩ | ⟨g, cap, rfl⟩
 · have hl : l = [] := List.eq_nil_of_length_eq_zero hn
   subst hl
   exact ⟨none, 0, rfl, .inl rfl⟩
 · refine ⟨_, cap, rfl, .inr ⟨g, rfl, fun i hi => ?_⟩⟩
   have hg := aYl l i hi
   rw [Nat.mul_comm] at hg
   exact ⟨by rw [h.cellAt (i * 2) (by omega)]; exact hg.1, by rw [h.cellAt (i * 2 + 1) (by omega)]; exact hg.2⟩
def hasTo (l : List (ByteArray × ByteArray)) (n : ByteArray) (k : Nat) : Bool := hasZ (l.take k) n
theorem bVu {l : List (ByteArray × ByteArray)} {n : ByteArray} {k : Nat} (h : k < l.length) : hasTo l n (k + 1) = (hasTo l n k || (l[k]'h).1.toList == n.toList) := by
 unfold hasTo hasZ
 rw [List.take_succ_eq_append_getElem h, List.any_append]
 simp
theorem hasTo_mono {l : List (ByteArray × ByteArray)} {n : ByteArray} {k : Nat} (h : hasTo l n k = true) : hasZ l n = true := by
 unfold hasTo hasZ at *
 obtain ⟨a, ha, hb⟩ := List.any_eq_true.1 h
 exact List.any_eq_true.2 ⟨a, List.mem_of_mem_take ha, hb⟩
theorem bZ6 : (Tryz.prog.info? 148).map (fun i => (i.zero, i.size, i.bytes)) = some (some (.agg #[.string ByteArray.empty, .string ByteArray.empty]), 2, 32) := by kernel_rfl
theorem aK2 (w : World) (a b : Value) (t : TypeId) : ∀ j u, [a, b][j]? = some u → (w.alloc (.cells #[a, b] t)).cell? ((⟨w.heap.size, 0, none⟩ : Addr).add j) = some u := by
 intro j u hj
 match j, hj with
 | 0, hj => simp at hj; subst hj; simp [Addr.add]
 | 1, hj => simp at hj; subst hj; simp [Addr.add]
 | j + 2, hj => simp at hj
theorem aWs (w : World) (a b : Value) (t : TypeId) (n : Nat) (hn : n = w.heap.size) : ∀ j u, [a, b][j]? = some u → (w.alloc (.cells #[a, b] t)).cell? ((⟨n, 0, none⟩ : Addr).add j) = some u := by
 subst hn; exact aK2 w a b t
theorem owns_sliceT {w : World} {base size n : Nat} {e : TypeId} {v : Value} {xs : List Value} (h : w.ownsRow base e size v n xs) : ∃ a c, v = .slice a n c := by
 rcases aZm h with ⟨rfl, hn⟩ | ⟨g, cap, rfl⟩
 · subst hn; exact ⟨_, _, rfl⟩
 · exact ⟨_, _, rfl⟩
theorem mustF_012 (s : ByteArray) (p : Nat) (sg : List UInt8) : aQm s p sg = 0 ∨ aQm s p sg = 1 ∨ aQm s p sg = 2 := by
 unfold aQm aW5; split <;> (try split) <;> simp
theorem row_mono {W : World} {B B' n : Nat} {t : TypeId} {sz : Nat} {v : Value} {cs : List Value} (h : W.ownsRow B t sz v n cs) (hb : B' ≤ B) : W.ownsRow B' t sz v n cs := by
 rcases h with ⟨h1, h2⟩
 refine ⟨h1, ?_⟩
 rcases h2 with h2 | ⟨b, cap, cur, h3, h4, h5⟩
 · exact .inl h2
 · exact .inr ⟨b, cap, cur, h3, by omega, h5⟩
theorem bQe {W : World} {B n : Nat} {t : TypeId} {sz : Nat} {v : Value} {cs : List Value} (h : W.ownsRow B t sz v n cs) : ∃ ao an ac, v = .slice ao an ac := by
 rcases h.2 with ⟨h0, _⟩ | ⟨g, cap, cur, hv, _⟩
 · exact ⟨_, _, _, h0⟩
 · exact ⟨_, _, _, hv⟩
def bZ1 (w : World) (a : Nat) (an av : ByteArray) : Prop := w.heap[a]? = some (.cells #[.string an, .string av] 148)
theorem atcells {W : World} {a : Nat} {an av : ByteArray} (h : bZ1 W a an av) : W.cell? ⟨a, 0, none⟩ = some (.string an) ∧ W.cell? ⟨a, 1, none⟩ = some (.string av) ∧ W.frozen? ⟨a, 0, none⟩ = false ∧ W.frozen? ⟨a, 1, none⟩ = false := by
 unfold bZ1 at h
 simp [World.cell?, World.frozen?, h]
end Go.Proofs.YtdblemolaojebaaGreatDoor
