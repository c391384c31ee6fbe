/- What the texts on the model and on the program have in common: boxes, rows and their frames. -/
/- The program's Spaced: events as they are handed in, rows that are cut, and whether events go together (rowRight). -/
/- The program's Spaced: declarations (declsRight), twins. -/
/- The program's Spaced: what an element declares, as a map (declaredBy); scopes; the space of a prefix (spaceOf). -/
/- The program's Spaced: scopes in memory; the space of a prefix (spaceOf). -/
/- The program's Spaced: names in memory; twins (hasTwins). -/
/- The program's Spaced: each name gets its space (place). -/
/- The program's Spaced: each name gets its space (place), walked. -/
/- The program's Spaced: names are split (split). -/
/- The program's Spaced: the node of a start, its names split (unspaced): its frame. -/
/- The program's Spaced: the node of a start, its names split (unspaced), walked. -/
import Derived.Test.YtlfcmlcpdpkibaaDoorProg
import Derived.Test.YtlfcmlcpdpkibaaDoorPlA
import Derived.Test.YtlfcmlcpdpkibaaDoorPlB
import Derived.WalkKit
import Derived.WalkSpells
import Derived.WalkSmall
import Derived.Deep.QuietTactic
import Derived.BigQuiet
import Derived.RegionTactic
import Derived.BigRegion
import Derived.Deep.RegionWith
import Derived.OwnWalk
import Derived.Deep.DeepAppendWide
import Derived.Test.YtlfcmlcpdpkibaaDoorPlK
import Derived.Test.YtlfcmlcpdpkibaaDoorAtA
import Derived.Deep.RegionHeld3
import Derived.Maps.AppendAt
import Derived.StringKeys
import Derived.Maps.Views
import Derived.Maps.OwnSet
import Derived.Test.YtlfcmlcpdpkibaaDoorNmI
namespace Go.Proofs.YtlfcmlcpdpkibaaDoor
open Go.RowKit Plain1 Plain2 Strs Strs2 Lists Plain3 Plain5 Plain6 Plain9 Plain10 Plain11 Plain12 Plain13 Plain14

theorem set5 {w : World} {g : Nat} {c : Array Value} {t : TypeId} {fr : Nat × Nat} (h : w.heap[g]? = some (.cells c t fr)) (j : Nat) (u : Value) : (w.setCell ⟨g, j, none⟩ u).heap[g]? = some (.cells (c.setIfInBounds j u) t fr) := by
  have hlt : g < w.heap.size := (Array.getElem?_eq_some_iff.1 h).1
  have hv := (Array.getElem?_eq_some_iff.1 h).2
  unfold World.setCell
  rw [Array.getElem?_eq_getElem (by simpa using hlt)]
  simp [Array.getElem_modify, hv]
theorem gset5 {w : World} {g j : Nat} (u : Value) : w.grownBy (w.setCell ⟨g, j, none⟩ u) (some g) :=
  ⟨rfl, rfl, rfl, by simp, fun k _ hk => Below.heap_setCell w ⟨g, j, none⟩ u k (fun e => hk (by rw [e]))⟩
theorem mkHidT {p : Prop} (h : p) : Hid p := h
def acells (l : List (ByteArray × ByteArray)) : List Value := l.flatMap fun a => [.string a.1, .string a.2]
/-- A mark's box in memory. -/
def TkBox (w : World) (k : Nat) (kd : Int) (nm tx : ByteArray) (v : Value) : Prop := w.heap[k]? = some (.cells #[.int .i64 kd, .string nm, .string tx, v] 99990)
theorem tkcells {w : World} {k : Nat} {kd : Int} {nm tx : ByteArray} {v : Value} (h : TkBox w k kd nm tx v) :
    w.cell? ⟨k, 0, none⟩ = some (.int .i64 kd) ∧ w.cell? ⟨k, 1, none⟩ = some (.string nm) ∧ w.cell? ⟨k, 2, none⟩ = some (.string tx) ∧ w.cell? ⟨k, 3, none⟩ = some v ∧
    w.frozen? ⟨k, 0, none⟩ = false ∧ w.frozen? ⟨k, 1, none⟩ = false ∧ w.frozen? ⟨k, 2, none⟩ = false ∧ w.frozen? ⟨k, 3, none⟩ = false := by
  unfold TkBox at h
  simp [World.cell?, World.frozen?, h]
theorem tk_lt {w : World} {k : Nat} {kd : Int} {nm tx : ByteArray} {v : Value} (h : TkBox w k kd nm tx v) : k < w.heap.size := (Array.getElem?_eq_some_iff.1 h).1
theorem Below.heap_new (w : World) (o : Obj) : (w.alloc o).heap[w.heap.size]? = some o := by
  show (w.heap.push o)[w.heap.size]? = some o
  simp
theorem tk_alloc (w : World) : TkBox (w.alloc (.cells #[.int .i64 0, .string ByteArray.empty, .string ByteArray.empty, .slice none 0 0] 99990)) w.heap.size 0 ByteArray.empty ByteArray.empty (.slice none 0 0) := by
  unfold TkBox; exact Below.heap_new _ _
theorem tk_new (w : World) (kd : Int) (nm tx : ByteArray) (v : Value) : TkBox (w.alloc (.cells #[.int .i64 kd, .string nm, .string tx, v] 99990)) w.heap.size kd nm tx v := by
  unfold TkBox; exact Below.heap_new _ _
theorem tk_keep {w w' : World} {k g : Nat} {kd : Int} {nm tx : ByteArray} {v : Value} (h : TkBox w k kd nm tx v) (hg : w.grownBy w' (some g)) (hne : k ≠ g) : TkBox w' k kd nm tx v := by
  unfold TkBox
  rw [hg.block k (tk_lt h) (fun e => hne (Option.some.inj e))]; exact h
theorem gsetNew {a b : World} {r : Option Nat} {k j : Nat} (h : a.grownBy b r) (hk : a.heap.size ≤ k) (u : Value) : a.grownBy (b.setCell ⟨k, j, none⟩ u) r :=
  ⟨h.os, h.tape, h.output, by simpa using h.size, fun i hi hr => (Below.heap_setCell b ⟨k, j, none⟩ u i (fun e => by have e' : i = k := e; omega)).trans (h.block i hi hr)⟩
/-- The zero mark, as a call lays it for its result. -/
def zTok : Obj := .cells #[.int .i64 0, .string ByteArray.empty, .string ByteArray.empty, .slice none 0 0] 99990
theorem set_other {W : World} {k k' j : Nat} (u : Value) (hne : k' ≠ k) : (W.setCell ⟨k, j, none⟩ u).heap[k']? = W.heap[k']? := Below.heap_setCell W ⟨k, j, none⟩ u k' hne
/-- What the scan of a head's text does at a place. -/
theorem sub_close {s : ByteArray} {f p : Nat} (hp : p < s.size) (h : byteAt s p = 93) : subGo s (f + 1) p = (0, p + 1) := by
  unfold subGo; rw [if_pos hp, if_pos h]
theorem sub_end {s : ByteArray} {f p : Nat} (hp : ¬ p < s.size) : subGo s f p = (1, p) := by
  cases f with
  | zero => rfl
  | succ f => unfold subGo; rw [if_neg hp]
theorem sub_q {s : ByteArray} {f p : Nat} (hp : p < s.size) (h : byteAt s p = 34) : subGo s (f + 1) p = if upF s (p + 1) [34] = 0 then subGo s f (upP s (p + 1) [34]) else (1, p) := by
  conv => lhs; unfold subGo
  rw [if_pos hp, if_neg (by omega), if_pos h]
theorem sub_a {s : ByteArray} {f p : Nat} (hp : p < s.size) (h : byteAt s p = 39) : subGo s (f + 1) p = if upF s (p + 1) [39] = 0 then subGo s f (upP s (p + 1) [39]) else (1, p) := by
  conv => lhs; unfold subGo
  rw [if_pos hp, if_neg (by omega), if_neg (by omega), if_pos h]
theorem sub_c {s : ByteArray} {f p : Nat} (hp : p < s.size) (h1 : byteAt s p ≠ 93) (h2 : byteAt s p ≠ 34) (h3 : byteAt s p ≠ 39) (h : hasAt s p [60, 33, 45, 45] = true) : subGo s (f + 1) p = if upF s (p + 4) [45, 45, 62] = 0 then subGo s f (upP s (p + 4) [45, 45, 62]) else (1, p) := by
  conv => lhs; unfold subGo
  rw [if_pos hp, if_neg h1, if_neg h2, if_neg h3, if_pos h]
theorem sub_p {s : ByteArray} {f p : Nat} (hp : p < s.size) (h1 : byteAt s p ≠ 93) (h2 : byteAt s p ≠ 34) (h3 : byteAt s p ≠ 39) (h4 : hasAt s p [60, 33, 45, 45] = false) (h : hasAt s p [60, 63] = true) : subGo s (f + 1) p = if upF s (p + 2) [63, 62] = 0 then subGo s f (upP s (p + 2) [63, 62]) else (1, p) := by
  conv => lhs; unfold subGo
  rw [if_pos hp, if_neg h1, if_neg h2, if_neg h3, if_neg (by rw [h4]; simp), if_pos h]
theorem sub_d {s : ByteArray} {f p : Nat} (hp : p < s.size) (h1 : byteAt s p ≠ 93) (h2 : byteAt s p ≠ 34) (h3 : byteAt s p ≠ 39) (h4 : hasAt s p [60, 33, 45, 45] = false) (h5 : hasAt s p [60, 63] = false) : subGo s (f + 1) p = subGo s f (p + 1) := by
  conv => lhs; unfold subGo
  rw [if_pos hp, if_neg h1, if_neg h2, if_neg h3, if_neg (by rw [h4]; simp), if_neg (by rw [h5]; simp)]
theorem acells_cons (a : ByteArray × ByteArray) (t : List (ByteArray × ByteArray)) : acells (a :: t) = .string a.1 :: .string a.2 :: acells t := rfl
theorem acells_snoc (l : List (ByteArray × ByteArray)) (a : ByteArray × ByteArray) : acells (l ++ [a]) = acells l ++ [.string a.1, .string a.2] := by
  simp [acells]
theorem acells_get : ∀ (l : List (ByteArray × ByteArray)) (i : Nat) (h : i < l.length), (acells l)[2 * i]? = some (.string (l[i]'h).1) ∧ (acells l)[2 * i + 1]? = some (.string (l[i]'h).2)
  | a :: t, 0, h => by rw [acells_cons]; exact ⟨rfl, rfl⟩
  | a :: t, i + 1, h => by
    have ih := acells_get t i (by simpa using h)
    rw [acells_cons, show 2 * (i + 1) = 2 * i + 1 + 1 by omega]
    simpa using ih
/-- A slice of attributes as it lies in memory. -/
def AttrsAt (w : World) (a : Option Addr) (l : List (ByteArray × ByteArray)) : Prop :=
  l = [] ∨ ∃ g : Nat, a = some ⟨g, 0, none⟩ ∧ ∀ i (h : i < l.length), w.cell? ⟨g, i * 2, none⟩ = some (.string (l[i]'h).1) ∧ w.cell? ⟨g, i * 2 + 1, none⟩ = some (.string (l[i]'h).2)
theorem attrs_of_row {w : World} {base : Nat} {e : TypeId} {v : Value} {l : List (ByteArray × ByteArray)} (h : w.ownsRow base e 2 v l.length (acells l)) : ∃ a c, v = .slice a l.length c ∧ AttrsAt w a l := by
  rcases owns_forms h with ⟨rfl, hn⟩ | ⟨g, cap, rfl⟩
  · have hl : l = [] := List.eq_nil_of_length_eq_zero hn
    subst hl
    exact ⟨none, 0, rfl, .inl rfl⟩
  · refine ⟨_, cap, rfl, .inr ⟨g, rfl, fun i hi => ?_⟩⟩
    have hg := acells_get l i hi
    rw [Nat.mul_comm] at hg
    exact ⟨by rw [h.cellAt (i * 2) (by omega)]; exact hg.1, by rw [h.cellAt (i * 2 + 1) (by omega)]; exact hg.2⟩
def hasTo (l : List (ByteArray × ByteArray)) (n : ByteArray) (k : Nat) : Bool := hasZ (l.take k) n
theorem hasTo_succ {l : List (ByteArray × ByteArray)} {n : ByteArray} {k : Nat} (h : k < l.length) : hasTo l n (k + 1) = (hasTo l n k || (l[k]'h).1.toList == n.toList) := by
  unfold hasTo hasZ
  rw [List.take_succ_eq_append_getElem h, List.any_append]
  simp
theorem hasTo_mono {l : List (ByteArray × ByteArray)} {n : ByteArray} {k : Nat} (h : hasTo l n k = true) : hasZ l n = true := by
  unfold hasTo hasZ at *
  obtain ⟨a, ha, hb⟩ := List.any_eq_true.1 h
  exact List.any_eq_true.2 ⟨a, List.mem_of_mem_take ha, hb⟩
theorem infoAttr : (Tryd.prog.info? 62).map (fun i => (i.zero, i.size, i.bytes)) = some (some (.agg #[.string ByteArray.empty, .string ByteArray.empty]), 2, 32) := by kernel_rfl
theorem cell_two_newT (w : World) (a b : Value) (t : TypeId) : ∀ j u, [a, b][j]? = some u → (w.alloc (.cells #[a, b] t)).cell? ((⟨w.heap.size, 0, none⟩ : Addr).add j) = some u := by
  intro j u hj
  match j, hj with
  | 0, hj => simp at hj; subst hj; simp [Addr.add]
  | 1, hj => simp at hj; subst hj; simp [Addr.add]
  | j + 2, hj => simp at hj
theorem cell_two_newN (w : World) (a b : Value) (t : TypeId) (n : Nat) (hn : n = w.heap.size) : ∀ j u, [a, b][j]? = some u → (w.alloc (.cells #[a, b] t)).cell? ((⟨n, 0, none⟩ : Addr).add j) = some u := by
  subst hn; exact cell_two_newT w a b t
theorem owns_sliceT {w : World} {base size n : Nat} {e : TypeId} {v : Value} {xs : List Value} (h : w.ownsRow base e size v n xs) : ∃ a c, v = .slice a n c := by
  rcases owns_forms h with ⟨rfl, hn⟩ | ⟨g, cap, rfl⟩
  · subst hn; exact ⟨_, _, rfl⟩
  · exact ⟨_, _, rfl⟩
theorem mustF_012 (s : ByteArray) (p : Nat) (sg : List UInt8) : mustF s p sg = 0 ∨ mustF s p sg = 1 ∨ mustF s p sg = 2 := by
  unfold mustF lackZ; split <;> (try split) <;> simp
theorem row1 {W : World} {B b n : Nat} {t : TypeId} {sz : Nat} {v : Value} {cs : List Value} (h : W.ownsRow B t sz v n cs) (hb : b < B) (j : Nat) (u : Value) : (W.setCell ⟨b, j, none⟩ u).ownsRow B t sz v n cs :=
  h.kept (gset5 (g := b) (j := j) u) (.inr fun e => by have := h.lt _ e; omega)
theorem row_mono {W : World} {B B' n : Nat} {t : TypeId} {sz : Nat} {v : Value} {cs : List Value} (h : W.ownsRow B t sz v n cs) (hb : B' ≤ B) : W.ownsRow B' t sz v n cs := by
  rcases h with ⟨h1, h2⟩
  refine ⟨h1, ?_⟩
  rcases h2 with h2 | ⟨b, cap, cur, h3, h4, h5⟩
  · exact .inl h2
  · exact .inr ⟨b, cap, cur, h3, by omega, h5⟩
theorem row_slice {W : World} {B n : Nat} {t : TypeId} {sz : Nat} {v : Value} {cs : List Value} (h : W.ownsRow B t sz v n cs) : ∃ ao an ac, v = .slice ao an ac := by
  rcases h.2 with ⟨h0, _⟩ | ⟨g, cap, cur, hv, _⟩
  · exact ⟨_, _, _, h0⟩
  · exact ⟨_, _, _, hv⟩
/-- The attribute's box. -/
def AtBox (w : World) (a : Nat) (an av : ByteArray) : Prop := w.heap[a]? = some (.cells #[.string an, .string av] 62)
theorem atcells {W : World} {a : Nat} {an av : ByteArray} (h : AtBox W a an av) : W.cell? ⟨a, 0, none⟩ = some (.string an) ∧ W.cell? ⟨a, 1, none⟩ = some (.string av) ∧ W.frozen? ⟨a, 0, none⟩ = false ∧ W.frozen? ⟨a, 1, none⟩ = false := by
  unfold AtBox at h
  simp [World.cell?, World.frozen?, h]
end Go.Proofs.YtlfcmlcpdpkibaaDoor

namespace Go.Proofs.YtlfcmlcpdpkibaaDoor
open Go.RowKit Plain1 Strs Strs2 Lists Bytes Plain3 Plain5 Plain6 Plain9 Plain10 Plain11 Plain12 PlainS PlainR PlainN Ents
set_option linter.unusedVariables false

/-- Events that are handed in, cell by cell. -/
def EvIn (W : World) (a : Option Addr) (evs : List Ev) : Prop :=
  ∃ b off : Nat, (0 < evs.length → a = some ⟨b, off, none⟩) ∧ ∀ (j : Nat) (hj : j < evs.length), W.cell? ⟨b, off + j * 4, none⟩ = some (.int .i64 (evs[j]'hj).kind) ∧ W.cell? ⟨b, off + j * 4 + 1, none⟩ = some (.string (evs[j]'hj).name) ∧ W.cell? ⟨b, off + j * 4 + 2, none⟩ = some (.string (evs[j]'hj).text) ∧ ∃ ao ac, W.cell? ⟨b, off + j * 4 + 3, none⟩ = some (.slice ao (evs[j]'hj).attrs.length ac) ∧ EntsAt W ao (evs[j]'hj).attrs
theorem cell_keepS {w w' : World} {b o : Nat} {v : Value} (h : w'.heap[b]? = w.heap[b]?) (hc : w.cell? ⟨b, o, none⟩ = some v) : w'.cell? ⟨b, o, none⟩ = some v := by
  simp only [World.cell?] at hc ⊢
  rw [h]; exact hc
theorem EvIn.below {w wr : World} {a : Option Addr} {evs : List Ev} (h : EvIn w a evs) (hb : Below w.heap.size w wr) : EvIn wr a evs := by
  obtain ⟨b, off, hbb, hc⟩ := h
  refine ⟨b, off, hbb, fun j hj => ?_⟩
  obtain ⟨c0, c1, c2, ao, ac, c3, hE⟩ := hc j hj
  have hk := hb.block _ (block_lt c0)
  exact ⟨cell_keepS hk c0, cell_keepS hk c1, cell_keepS hk c2, ao, ac, cell_keepS hk c3, hE.grown (Ents.below_grown hb)⟩
/-- A row of ours that is cut. -/
theorem own_cut {w : World} {base : Nat} {e : TypeId} {size : Nat} {g n cap : Nat} {xs : List Value} (h : w.ownsRow base e size (.slice (some ⟨g, 0, none⟩) n cap) n xs) {m : Nat} (hm : m ≤ n) : w.ownsRow base e size (.slice (some ⟨g, 0, none⟩) m cap) m (xs.take (m * size)) := by
  obtain ⟨h1, h2⟩ := h
  rcases h2 with ⟨h0, _⟩ | ⟨g', cap', cur, hv, hb, hg, hc, hx, hs, ht⟩
  · cases h0
  · cases hv
    have hms : m * size ≤ n * size := Nat.mul_le_mul_right _ hm
    refine ⟨by rw [List.length_take, h1]; omega, .inr ⟨g, cap, cur, rfl, hb, hg, by omega, hx, hs, ?_⟩⟩
    rw [← ht, List.take_take, Nat.min_eq_left hms]
def strs (l : List ByteArray) : List Value := l.map .string

theorem infoStr : (Tryd.prog.info? 9).map (fun i => (i.zero, i.size, i.bytes)) = some (some (.string ⟨#[]⟩), 1, 16) := by kernel_rfl
theorem row_sl {w : World} {base : Nat} {e : TypeId} {size : Nat} {v : Value} {n : Nat} {xs : List Value} (h : w.ownsRow base e size v n xs) : ∃ ao ac, v = .slice ao n ac ∧ (0 < n → ∃ g, ao = some ⟨g, 0, none⟩) := by
  rcases h.2 with ⟨h0, hn⟩ | ⟨g, cap, cur, hv, _⟩
  · exact ⟨none, 0, by rw [h0, hn], fun h => by omega⟩
  · exact ⟨_, _, hv, fun _ => ⟨g, rfl⟩⟩
theorem strs_snoc (l : List ByteArray) (a : ByteArray) : strs (l ++ [a]) = strs l ++ [.string a] := by unfold strs; simp
theorem strs_len (l : List ByteArray) : (strs l).length = l.length := by unfold strs; simp
theorem strs_at (l : List ByteArray) {j : Nat} (hj : j < l.length) : (strs l)[j]? = some (.string (l.getD j ⟨#[]⟩)) := by
  unfold strs
  rw [List.getElem?_map, List.getElem?_eq_getElem hj, List.getD_eq_getElem?_getD, List.getElem?_eq_getElem hj]; rfl
theorem strs_take (l : List ByteArray) (m : Nat) : (strs l).take m = strs (l.take m) := by unfold strs; rw [List.map_take]
section
variable {e : Ev} {l : List Ev} {op : List ByteArray} {el : Nat}
theorem rg_start (h : e.kind = 1) (h1 : op.length ≠ 30) (h2 : e.attrs.length ≤ 60) : rowGo (e :: l) op el = rowGo l (op ++ [e.name]) (if op.length = 0 then el + 1 else el) := by
  conv => lhs; unfold rowGo
  rw [if_pos h, if_neg (by omega)]
theorem rg_deep (h : e.kind = 1) (h1 : op.length = 30 ∨ 60 < e.attrs.length) : rowGo (e :: l) op el = false := by
  unfold rowGo; rw [if_pos h, if_pos h1]
theorem rg_none (h : e.kind = 2) (h1 : op.length = 0) : rowGo (e :: l) op el = false := by
  unfold rowGo; rw [if_neg (by omega), if_pos h, if_pos h1]
theorem rg_other (h : e.kind = 2) (h1 : op.length ≠ 0) (h2 : sameB (op.getD (op.length - 1) ⟨#[]⟩) e.name = false) : rowGo (e :: l) op el = false := by
  unfold rowGo; rw [if_neg (by omega), if_pos h, if_neg h1, if_neg (by rw [h2]; simp)]
theorem rg_end (h : e.kind = 2) (h1 : op.length ≠ 0) (h2 : sameB (op.getD (op.length - 1) ⟨#[]⟩) e.name = true) : rowGo (e :: l) op el = rowGo l (op.take (op.length - 1)) el := by
  conv => lhs; unfold rowGo
  rw [if_neg (by omega), if_pos h, if_neg h1, if_pos h2]
theorem rg_text (h : e.kind = 3) (h1 : op.length ≠ 0) : rowGo (e :: l) op el = rowGo l op el := by
  conv => lhs; unfold rowGo
  rw [if_neg (by omega), if_neg (by omega), if_pos h, if_neg h1]
theorem rg_out (h : e.kind = 3) (h1 : op.length = 0) : rowGo (e :: l) op el = false := by
  unfold rowGo
  rw [if_neg (by omega), if_neg (by omega), if_pos h, if_pos h1]
theorem rg_aside (h : e.kind = 4 ∨ e.kind = 5) : rowGo (e :: l) op el = rowGo l op el := by
  conv => lhs; unfold rowGo
  rw [if_neg (by omega), if_neg (by omega), if_neg (by omega), if_pos h]
theorem rg_bad (h1 : e.kind ≠ 1) (h2 : e.kind ≠ 2) (h3 : e.kind ≠ 3) (h4 : e.kind ≠ 4) (h5 : e.kind ≠ 5) : rowGo (e :: l) op el = false := by
  unfold rowGo
  rw [if_neg h1, if_neg h2, if_neg h3, if_neg (by omega)]
end
theorem below_ap {w wr w2 : World} {o : Obj} {e : TypeId} {size : Nat} {v : Value} {n : Nat} {xs : List Value} (hb : Below w.heap.size w wr) (hown : wr.ownsRow w.heap.size e size v n xs) (hg : (wr.alloc o).grownBy w2 v.ownBlock) : Below w.heap.size w w2 :=
  (hb.alloc hb.size o).grown hg (Nat.le_trans hb.size (by simp)) (fun k hk => (hown.lt k hk).1)
theorem own_cap {w : World} {base : Nat} {e : TypeId} {size : Nat} {g n cap : Nat} {xs : List Value} (h : w.ownsRow base e size (.slice (some ⟨g, 0, none⟩) n cap) n xs) : n ≤ cap := by
  rcases h.2 with ⟨h0, _⟩ | ⟨g', cap', cur, hv, _, _, hc, _⟩
  · cases h0
  · cases hv; exact hc
theorem four_cells {W : World} {k : Nat} {a b c d : Value} {t : TypeId} (h : W.heap[k]? = some (.cells #[a, b, c, d] t)) : W.cell? ⟨k, 0, none⟩ = some a ∧ W.cell? ⟨k, 1, none⟩ = some b ∧ W.cell? ⟨k, 2, none⟩ = some c ∧ W.cell? ⟨k, 3, none⟩ = some d := by simp [World.cell?, h]
theorem below_drew {w W : World} (h : Below w.heap.size w W) (n : Nat) : Below w.heap.size w (W.drewN n) := ⟨h.os, h.tape, h.output, h.size, h.block⟩
theorem own_drew {w : World} {base : Nat} {e : TypeId} {size : Nat} {v : Value} {n : Nat} {xs : List Value} (h : w.ownsRow base e size v n xs) (k : Nat) : (w.drewN k).ownsRow base e size v n xs := h
set_option maxRecDepth 100000 in
set_option maxHeartbeats 4000000 in
theorem rowRight_any (w : World) (a : Option Addr) (n c : Nat) (evs : List Ev) (hn : n = evs.length) (hl : evs.length ≤ 400) (hla : ∀ e ∈ evs, e.attrs.length ≤ 1048576) (h : EvIn w a evs) :
    Calls Tryd.prog 17 #[.slice a n c] w fun e w' => e = .returned (.bool (rowGo evs [] 0)) ∧ Below w.heap.size w w' := by
  subst hn
  have HA := mkHidT h
  have HL := mkHidT hla
  obtain ⟨R, hR⟩ : ∃ R, rowGo evs [] 0 = R := ⟨_, rfl⟩
  rw [hR]
  have HR := mkHidT hR
  obtain ⟨i0, hi, hz0, hz1, hz2⟩ := info_parts infoStr
  clear h hla hR
  go_enter Tryd.func17, Tryd.ntmps17
  go_wp2_with fail
  go_loopw [3, 4, 10] (fun ov ev iv wr => ∃ (k el : Nat) (op : List ByteArray), k ≤ evs.length ∧ iv = .int .i64 k ∧ ev = .int .i64 el ∧ el ≤ k ∧ op.length ≤ 30 ∧ R = rowGo (evs.drop k) op el ∧ wr.ownsRow w.heap.size 9 1 ov op.length (strs op) ∧ Below w.heap.size w wr) (fun _ _ iv _ => evs.length - (intOf iv).toNat)
  case atStart => exact ⟨0, 0, [], Nat.zero_le _, rfl, rfl, Nat.le_refl _, by decide, HR.out.symm, World.ownsRow_nil _ _ _ _, Below.refl _ _⟩
  case round =>
    obtain ⟨k, el, op, hk, rfl, rfl, hel, hop, hrow, hown, hb⟩ := hrel
    obtain ⟨ao, ac, rfl, hao⟩ := row_sl hown
    have HB := mkHidT hb
    have HO := mkHidT hown
    clear hb hown
    by_cases hlt : k < evs.length
    · obtain ⟨b, off, ha, hc⟩ := HA.out.below HB.out
      obtain rfl := ha (by omega)
      obtain ⟨c0, c1, c2, bo, bc, c3, hE⟩ := hc k hlt
      have hlt2 := HL.out _ (List.getElem_mem hlt)
      have hdrop : evs.drop k = (evs[k]'hlt) :: evs.drop (k + 1) := List.drop_eq_getElem_cons hlt
      obtain ⟨E, hEe⟩ : ∃ E, evs[k]'hlt = E := ⟨_, rfl⟩
      rw [hEe] at c0 c1 c2 c3 hE hlt2 hdrop
      obtain ⟨na, hna⟩ : ∃ na, E.attrs.length = na := ⟨_, rfl⟩
      rw [hna] at c3 hlt2
      obtain ⟨kd, hkd⟩ : ∃ kd, E.kind = kd := ⟨_, rfl⟩
      rw [hkd] at c0
      rw [hdrop] at hrow
      have HROW := mkHidT hrow
      have HNA := mkHidT hna
      have HKD := mkHidT hkd
      clear hc ha hEe HA hE HL hrow hdrop hna hkd
      by_cases k1 : kd = 1
      · subst k1
        by_cases h30 : op.length = 30
        · obtain rfl : R = false := by rw [HROW.out]; exact rg_deep HKD.out (Or.inl h30)
          rw [h30]
          go_wp2
          go_ret
          exact ⟨rfl, HB.out.alloc HB.out.size _⟩
        · by_cases h60 : 60 < na
          · obtain rfl : R = false := by rw [HROW.out]; exact rg_deep HKD.out (Or.inr (by rw [HNA.out]; exact h60))
            have h60' : 60 < (na : Int) := by omega
            have h30' : ¬ (op.length : Int) = 30 := by omega
            go_wp2
            go_ret
            exact ⟨rfl, HB.out.alloc HB.out.size _⟩
          · have h60' : ¬ 60 < (na : Int) := by omega
            have h30' : ¬ (op.length : Int) = 30 := by omega
            have hst := fun l => rg_start (l := l) (op := op) (el := el) HKD.out h30 (by rw [HNA.out]; omega)
            have HST := mkHidT (HROW.out.trans (hst _))
            obtain ⟨W1, hW1⟩ : ∃ W1, wr.alloc (.cells #[.int .i64 1, .string E.name, .string E.text, .slice bo na bc] 42) = W1 := ⟨_, rfl⟩
            have hb1 : Below wr.heap.size wr W1 := by rw [← hW1]; exact (Below.refl _ _).alloc (Nat.le_refl _) _
            have B1 := mkHidT (HB.out.trans (hb1.mono HB.out.size))
            have O1 := mkHidT (show W1.ownsRow w.heap.size 9 1 (.slice ao op.length ac) op.length (strs op) by rw [← hW1]; exact HO.out.alloc _)
            obtain ⟨x0, x1, x2, x3⟩ := four_cells (show W1.heap[wr.heap.size]? = some (.cells #[.int .i64 1, .string E.name, .string E.text, .slice bo na bc] 42) by rw [← hW1]; exact heap_alloc_new _ _)
            have hone : ∀ u ∈ [Value.string E.name], u.oneCell' = true := by intro u hu; simp at hu; subst hu; rfl
            have hmx : op.length + 1 ≤ maxLen := by unfold maxLen; omega
            have hmy : (op.length + 1) * 16 ≤ 140737488355328 := by omega
            have hmz : ∀ o, w.heap.size ≤ (W1.alloc o).heap.size := by intro o; have := B1.out.size; simp; omega
            clear hst hb1
            by_cases h00 : op.length = 0
            · have h00' : (op.length : Int) = 0 := by omega
              rw [h00] at h30'
              have HZ := mkHidT h00
              clear h00
              go_wp2_with (at_builtin; refine wpList_append_own _ rfl _ _ 60 rfl w.heap.size 9 i0 (.string ⟨#[]⟩) 1 16 Tryd.underlying60 hi hz0 hz1 hz2 rfl (by decide) _ _ _ rfl (O1.out.alloc _) ⟨_, 0, none⟩ 1 1 [.string E.name] rfl rfl (cell_one_new _ _ _) hone hmx hmy (hmz _) ?_; intro v' w2 hown' hgrow _; have B2 := mkHidT (below_ap B1.out O1.out hgrow); clear hgrow)
              go_roundw
              case rel => exact ⟨k + 1, el + 1, op ++ [E.name], by omega, by go_num, by go_num, by omega, by rw [List.length_append]; simp; omega, by rw [HST.out, if_pos HZ.out], by rw [strs_snoc, List.length_append]; exact hown', B2.out⟩
              case measure => simp [intOf]; omega
            · have h00' : ¬ op.length = 0 := h00
              have HZ := mkHidT h00
              clear h00
              go_wp2_with (at_builtin; refine wpList_append_own _ rfl _ _ 60 rfl w.heap.size 9 i0 (.string ⟨#[]⟩) 1 16 Tryd.underlying60 hi hz0 hz1 hz2 rfl (by decide) _ _ _ rfl (O1.out.alloc _) ⟨_, 0, none⟩ 1 1 [.string E.name] rfl rfl (cell_one_new _ _ _) hone hmx hmy (hmz _) ?_; intro v' w2 hown' hgrow _; have B2 := mkHidT (below_ap B1.out O1.out hgrow); clear hgrow)
              go_roundw
              case rel => exact ⟨k + 1, el, op ++ [E.name], by omega, by go_num, rfl, by omega, by rw [List.length_append]; simp; omega, by rw [HST.out, if_neg HZ.out], by rw [strs_snoc, List.length_append]; exact hown', B2.out⟩
              case measure => simp [intOf]; omega
      · by_cases k2 : kd = 2
        · subst k2
          by_cases h00 : op.length = 0
          · obtain rfl : R = false := by rw [HROW.out]; exact rg_none HKD.out h00
            rw [h00]
            go_wp2_with fail
            go_quiet (fail)
            go_wp2
            go_ret
            exact ⟨rfl, below_drew (HB.out.alloc HB.out.size _) _⟩
          · obtain ⟨m, hm⟩ : ∃ m, op.length = m + 1 := ⟨op.length - 1, by omega⟩
            obtain ⟨g, rfl⟩ := hao (by omega)
            have hcell := HO.out.cellAt m (by omega)
            rw [strs_at op (by omega)] at hcell
            obtain ⟨L, hL⟩ : ∃ L, op.getD m ⟨#[]⟩ = L := ⟨_, rfl⟩
            rw [hL] at hcell
            have hm1 : wrap64 (m : Int) = (m : Int) := by unfold wrap64; omega
            have hm0 : decide ((m : Int) < 0) = false := by simp
            have hm2 : m < m + 1 := by omega
            have hcap := own_cap HO.out
            have hcp : m ≤ ac := by omega
            rw [hm]
            have HM := mkHidT hm
            have HLL := mkHidT hL
            have hcl := block_lt hcell
            obtain ⟨W1, hW1⟩ : ∃ W1, wr.alloc (.cells #[.int .i64 2, .string E.name, .string E.text, .slice bo na bc] 42) = W1 := ⟨_, rfl⟩
            have hb1 : Below wr.heap.size wr W1 := by rw [← hW1]; exact (Below.refl _ _).alloc (Nat.le_refl _) _
            have B1 := mkHidT (HB.out.trans (hb1.mono HB.out.size))
            have O1 := mkHidT (show W1.ownsRow w.heap.size 9 1 (.slice (some ⟨g, 0, none⟩) op.length ac) op.length (strs op) by rw [← hW1]; exact HO.out.alloc _)
            have hcell1 := cell_keepS (hb1.block _ hcl) hcell
            obtain ⟨x0, x1, x2, x3⟩ := four_cells (show W1.heap[wr.heap.size]? = some (.cells #[.int .i64 2, .string E.name, .string E.text, .slice bo na bc] 42) by rw [← hW1]; exact heap_alloc_new _ _)
            clear hm hL h00 hcell hcl hb1
            cases hs : sameB L E.name with
            | false =>
              obtain rfl : R = false := by rw [HROW.out]; exact rg_other HKD.out (by rw [HM.out]; omega) (by rw [HM.out, Nat.add_sub_cancel, HLL.out]; exact hs)
              have hs' : (L.toList == E.name.toList) = false := hs
              clear hs
              go_wp2_with fail
              go_quiet (fail)
              go_wp2
              go_ret
              exact ⟨rfl, below_drew B1.out _⟩
            | true =>
              have HEN := mkHidT (HROW.out.trans (rg_end HKD.out (by rw [HM.out]; omega) (by rw [HM.out, Nat.add_sub_cancel, HLL.out]; exact hs)))
              have hs' : (L.toList == E.name.toList) = true := hs
              clear hs
              go_wp2_with fail
              go_quiet (fail)
              clear hcap
              go_wp2
              go_roundw
              case rel => exact ⟨k + 1, el, op.take m, by omega, by go_num, rfl, by omega, by rw [List.length_take]; omega, by rw [HEN.out, HM.out, Nat.add_sub_cancel], by
                have := own_cut (m := m) O1.out (by rw [HM.out]; omega)
                rw [Nat.mul_one, strs_take] at this
                rw [List.length_take, HM.out, Nat.min_eq_left (by omega)]
                exact this, below_drew B1.out _⟩
              case measure => simp [intOf]; omega
        · by_cases k3 : kd = 3
          · subst k3
            by_cases h00 : op.length = 0
            · obtain rfl : R = false := by rw [HROW.out]; exact rg_out HKD.out h00
              rw [h00]
              go_wp2
              go_ret
              exact ⟨rfl, HB.out.alloc HB.out.size _⟩
            · have h00' : ¬ (op.length : Int) = 0 := by omega
              go_wp2
              go_roundw
              case rel => exact ⟨k + 1, el, op, by omega, by go_num, rfl, by omega, hop, by rw [HROW.out]; exact rg_text HKD.out h00, HO.out.alloc _, HB.out.alloc HB.out.size _⟩
              case measure => simp [intOf]; omega
          · by_cases k4 : kd = 4
            · subst k4
              go_wp2
              go_roundw
              case rel => exact ⟨k + 1, el, op, by omega, by go_num, rfl, by omega, hop, by rw [HROW.out]; exact rg_aside (Or.inl HKD.out), HO.out.alloc _, HB.out.alloc HB.out.size _⟩
              case measure => simp [intOf]; omega
            · by_cases k5 : kd = 5
              · subst k5
                go_wp2
                go_roundw
                case rel => exact ⟨k + 1, el, op, by omega, by go_num, rfl, by omega, hop, by rw [HROW.out]; exact rg_aside (Or.inr HKD.out), HO.out.alloc _, HB.out.alloc HB.out.size _⟩
                case measure => simp [intOf]; omega
              · obtain rfl : R = false := by rw [HROW.out]; exact rg_bad (by rw [HKD.out]; exact k1) (by rw [HKD.out]; exact k2) (by rw [HKD.out]; exact k3) (by rw [HKD.out]; exact k4) (by rw [HKD.out]; exact k5)
                go_wp2
                go_ret
                exact ⟨rfl, HB.out.alloc HB.out.size _⟩
    · have hend : evs.drop k = [] := List.drop_eq_nil_of_le (by omega)
      rw [hend] at hrow
      by_cases he : el = 1
      · by_cases h00 : op.length = 0
        · obtain rfl : R = true := by rw [hrow]; unfold rowGo; rw [he, h00]; rfl
          clear hrow
          rw [he, h00]
          go_wp2
          go_ret
          exact ⟨rfl, HB.out⟩
        · obtain rfl : R = false := by rw [hrow]; unfold rowGo; simp [h00]
          have h00' : ((op.length : Int) == 0) = false := by rw [beq_eq_false_iff_ne]; omega
          clear hrow
          rw [he]
          go_wp2
          go_ret
          exact ⟨rfl, HB.out⟩
      · obtain rfl : R = false := by rw [hrow]; unfold rowGo; simp [he]
        have he' : ((el : Int) == 1) = false := by rw [beq_eq_false_iff_ne]; omega
        clear hrow
        go_wp2
        go_ret
        exact ⟨rfl, HB.out⟩
end Go.Proofs.YtlfcmlcpdpkibaaDoor

namespace Go.Proofs.YtlfcmlcpdpkibaaDoor
open Go.RowKit Plain1 Strs Strs2 Lists Bytes Plain3 Plain5 Plain6 Plain9 Plain10 Plain11 Plain12 PlainS PlainR PlainN Ents
set_option linter.unusedVariables false

theorem two_cells {W : World} {k : Nat} {a b : Value} {t : TypeId} (h : W.heap[k]? = some (.cells #[a, b] t)) : W.cell? ⟨k, 0, none⟩ = some a ∧ W.cell? ⟨k, 1, none⟩ = some b := by simp [World.cell?, h]
theorem l_xmlns : xmlnsB.toList = [120, 109, 108, 110, 115] := by decide +kernel
theorem l_xml : xmlB.toList = [120, 109, 108] := by decide +kernel
theorem l_xmlS : xmlS.toList = [104, 116, 116, 112, 58, 47, 47, 119, 119, 119, 46, 119, 51, 46, 111, 114, 103, 47, 88, 77, 76, 47, 49, 57, 57, 56, 47, 110, 97, 109, 101, 115, 112, 97, 99, 101] := by decide +kernel
theorem l_xmlnsS : xmlnsS.toList = [104, 116, 116, 112, 58, 47, 47, 119, 119, 119, 46, 119, 51, 46, 111, 114, 103, 47, 50, 48, 48, 48, 47, 120, 109, 108, 110, 115, 47] := by decide +kernel
theorem l_nil : (⟨#[]⟩ : ByteArray).toList = [] := by decide +kernel
theorem same_nil (x : ByteArray) : sameB x ⟨#[]⟩ = decide (x.toList = []) := by
  unfold sameB; rw [l_nil]; cases x.toList <;> simp
/-- A declaration, by how its name and its value compare. -/
theorem decl_is (E : ByteArray × ByteArray) : declOk E = (!((E.1.toList == [120, 109, 108, 110, 115]) || (E.2.toList == [104, 116, 116, 112, 58, 47, 47, 119, 119, 119, 46, 119, 51, 46, 111, 114, 103, 47, 50, 48, 48, 48, 47, 120, 109, 108, 110, 115, 47])) && (!(!decide (E.1.toList = []) && decide (E.2.toList = [])) && !((E.1.toList == [120, 109, 108]) != (E.2.toList == [104, 116, 116, 112, 58, 47, 47, 119, 119, 119, 46, 119, 51, 46, 111, 114, 103, 47, 88, 77, 76, 47, 49, 57, 57, 56, 47, 110, 97, 109, 101, 115, 112, 97, 99, 101])))) := by
  unfold declOk
  rw [same_nil, same_nil]
  unfold sameB
  rw [l_xmlns, l_xml, l_xmlS, l_xmlnsS]
set_option maxRecDepth 100000 in
set_option maxHeartbeats 4000000 in
theorem declsRight_any (w : World) (a : Option Addr) (n c : Nat) (l : List (ByteArray × ByteArray)) (hn : n = l.length) (hl : l.length ≤ 1048576) (h : EntsAt w a l) :
    Calls Tryd.prog 44 #[.slice a n c] w fun e w' => e = .returned (.bool (l.all declOk)) ∧ Below w.heap.size w w' := by
  subst hn
  have HA := mkHidT h
  obtain ⟨R, hR⟩ : ∃ R, l.all declOk = R := ⟨_, rfl⟩
  rw [hR]
  have HR := mkHidT hR
  clear h hR
  go_enter Tryd.func44, Tryd.ntmps44
  go_wp2_with fail
  go_loopw [7] (fun iv wr => ∃ (k : Nat), k ≤ l.length ∧ iv = .int .i64 k ∧ R = (l.drop k).all declOk ∧ Below w.heap.size w wr) (fun iv _ => l.length - (intOf iv).toNat)
  case atStart => exact ⟨0, Nat.zero_le _, rfl, HR.out.symm, Below.refl _ _⟩
  case round =>
    obtain ⟨k, hk, rfl, hrow, hb⟩ := hrel
    have HB := mkHidT hb
    clear hb
    by_cases hlt : k < l.length
    · obtain ⟨b, off, ha, hc⟩ := HA.out.grown (Ents.below_grown HB.out)
      obtain rfl := ha (by omega)
      obtain ⟨c1, c2⟩ := hc k hlt
      have hdrop : l.drop k = (l[k]'hlt) :: l.drop (k + 1) := List.drop_eq_getElem_cons hlt
      obtain ⟨E, hEe⟩ : ∃ E, l[k]'hlt = E := ⟨_, rfl⟩
      rw [hEe] at c1 c2 hdrop
      rw [hdrop, List.all_cons] at hrow
      clear hc ha hEe HA hdrop
      rw [decl_is] at hrow
      have HROW := mkHidT hrow
      clear hrow
      have close : ∀ (x : Bool), x = false → R = (x && (l.drop (k + 1)).all declOk) → R = false := fun x hx hr => by rw [hr, hx]; rfl
      have HCL := mkHidT close
      clear close
      cases a1 : (E.1.toList == [120, 109, 108, 110, 115]) with
      | true =>
        obtain rfl : R = false := HCL.out _ (by rw [a1]; rfl) HROW.out
        go_wp2
        go_ret
        exact ⟨rfl, HB.out.alloc HB.out.size _⟩
      | false =>
        cases a2 : (E.2.toList == [104, 116, 116, 112, 58, 47, 47, 119, 119, 119, 46, 119, 51, 46, 111, 114, 103, 47, 50, 48, 48, 48, 47, 120, 109, 108, 110, 115, 47]) with
        | true =>
          obtain rfl : R = false := HCL.out _ (by rw [a1, a2]; rfl) HROW.out
          go_wp2
          go_ret
          exact ⟨rfl, HB.out.alloc HB.out.size _⟩
        | false =>
          by_cases a34 : ¬ E.1.toList = [] ∧ E.2.toList = []
          · obtain rfl : R = false := HCL.out _ (by rw [a1, a2, decide_eq_false a34.1, decide_eq_true a34.2]; rfl) HROW.out
            have a3 := a34.1
            have a4 := a34.2
            have b3 : E.1.toList.isEmpty = false := by rw [List.isEmpty_eq_false_iff]; exact a3
            have b4 : E.2.toList.isEmpty = true := by rw [a4]; rfl
            clear a34
            go_wp2
            go_ret
            exact ⟨rfl, HB.out.alloc HB.out.size _⟩
          · have a34' : (!decide (E.1.toList = []) && decide (E.2.toList = [])) = false := by
              by_cases a3 : E.1.toList = []
              · rw [decide_eq_true a3]; rfl
              · have a4 : ¬ E.2.toList = [] := fun h => a34 ⟨a3, h⟩
                rw [decide_eq_false a4]; simp
            have H34 := mkHidT a34'
            cases a5 : (E.1.toList == [120, 109, 108]) with
            | true =>
              cases a6 : (E.2.toList == [104, 116, 116, 112, 58, 47, 47, 119, 119, 119, 46, 119, 51, 46, 111, 114, 103, 47, 88, 77, 76, 47, 49, 57, 57, 56, 47, 110, 97, 109, 101, 115, 112, 97, 99, 101]) with
              | true =>
                have HN : Hid (R = (l.drop (k + 1)).all declOk) := by rw [HROW.out, a1, a2, H34.out, a5, a6]; rfl
                by_cases a3 : E.1.toList = []
                · rw [a3] at a5; cases a5
                · have a4 : ¬ E.2.toList = [] := fun h => a34 ⟨a3, h⟩
                  have b3 : E.1.toList.isEmpty = false := by rw [List.isEmpty_eq_false_iff]; exact a3
                  have b4 : E.2.toList.isEmpty = false := by rw [List.isEmpty_eq_false_iff]; exact a4
                  clear a34 a34'
                  go_wp2
                  go_roundw
                  case rel => exact ⟨k + 1, by omega, by go_num, HN.out, HB.out.alloc HB.out.size _⟩
                  case measure => simp [intOf]; omega
              | false =>
                obtain rfl : R = false := HCL.out _ (by rw [a1, a2, H34.out, a5, a6]; rfl) HROW.out
                by_cases a3 : E.1.toList = []
                · rw [a3] at a5; cases a5
                · have a4 : ¬ E.2.toList = [] := fun h => a34 ⟨a3, h⟩
                  have b3 : E.1.toList.isEmpty = false := by rw [List.isEmpty_eq_false_iff]; exact a3
                  have b4 : E.2.toList.isEmpty = false := by rw [List.isEmpty_eq_false_iff]; exact a4
                  clear a34 a34'
                  go_wp2
                  go_ret
                  exact ⟨rfl, HB.out.alloc HB.out.size _⟩
            | false =>
              cases a6 : (E.2.toList == [104, 116, 116, 112, 58, 47, 47, 119, 119, 119, 46, 119, 51, 46, 111, 114, 103, 47, 88, 77, 76, 47, 49, 57, 57, 56, 47, 110, 97, 109, 101, 115, 112, 97, 99, 101]) with
              | true =>
                obtain rfl : R = false := HCL.out _ (by rw [a1, a2, H34.out, a5, a6]; rfl) HROW.out
                by_cases a3 : E.1.toList = []
                · have b3 : E.1.toList.isEmpty = true := by rw [a3]; rfl
                  clear a34 a34'
                  go_wp2
                  go_ret
                  exact ⟨rfl, HB.out.alloc HB.out.size _⟩
                · have a4 : ¬ E.2.toList = [] := fun h => a34 ⟨a3, h⟩
                  have b3 : E.1.toList.isEmpty = false := by rw [List.isEmpty_eq_false_iff]; exact a3
                  have b4 : E.2.toList.isEmpty = false := by rw [List.isEmpty_eq_false_iff]; exact a4
                  clear a34 a34'
                  go_wp2
                  go_ret
                  exact ⟨rfl, HB.out.alloc HB.out.size _⟩
              | false =>
                have HN : Hid (R = (l.drop (k + 1)).all declOk) := by rw [HROW.out, a1, a2, H34.out, a5, a6]; rfl
                by_cases a3 : E.1.toList = []
                · have b3 : E.1.toList.isEmpty = true := by rw [a3]; rfl
                  clear a34 a34'
                  go_wp2
                  go_roundw
                  case rel => exact ⟨k + 1, by omega, by go_num, HN.out, HB.out.alloc HB.out.size _⟩
                  case measure => simp [intOf]; omega
                · have a4 : ¬ E.2.toList = [] := fun h => a34 ⟨a3, h⟩
                  have b3 : E.1.toList.isEmpty = false := by rw [List.isEmpty_eq_false_iff]; exact a3
                  have b4 : E.2.toList.isEmpty = false := by rw [List.isEmpty_eq_false_iff]; exact a4
                  clear a34 a34'
                  go_wp2
                  go_roundw
                  case rel => exact ⟨k + 1, by omega, by go_num, HN.out, HB.out.alloc HB.out.size _⟩
                  case measure => simp [intOf]; omega
    · have hend : l.drop k = [] := List.drop_eq_nil_of_le (by omega)
      obtain rfl : R = true := by rw [hrow, hend]; rfl
      clear hrow
      go_wp2
      go_ret
      exact ⟨rfl, HB.out⟩
end Go.Proofs.YtlfcmlcpdpkibaaDoor

namespace Go.Proofs.YtlfcmlcpdpkibaaDoor
open Go.RowKit Plain1 Strs Strs2 Lists Bytes Plain3 Plain5 Plain6 Plain9 Plain10 Plain11 Plain12 PlainS PlainR PlainN Ents
open Go.Maps
set_option linter.unusedVariables false

def heldS : Value → Option (DataW Value × List MemPlace) := fun v => some (.held v, [])
def zAttD : DataW Value := .held (.agg #[.string ⟨#[]⟩, .string ⟨#[]⟩])
theorem keyedN : Keyed Tryd.prog 9 := string_keyed Tryd.underlying9
theorem key_strN {x : ByteArray} (h : x.size ≤ maxLen) : keyOf Tryd.prog 9 (.string x) = some (.string x.data.toList) := WideMaps.keyOf_string_mk Tryd.underlying9 h
theorem zeroAttr (w : World) : (zeroValue 62).run Tryd.prog w = .ok (.agg #[.string ⟨#[]⟩, .string ⟨#[]⟩]) w := by kernel_rfl
theorem lit_neN {x y : ByteArray} (h : x.toList ≠ y.toList) : Lit.string x.data.toList ≠ Lit.string y.data.toList := fun e => by
  injection e with e
  exact h (by rw [ByteArray.toList_eq, ByteArray.toList_eq, e])
theorem lit_keyN (x : ByteArray) : WideAt.IsKeyLit (.string x.data.toList) := trivial
/-- What is declared, as a map. -/
def DcMap (W : World) (mb : Nat) (l : List (ByteArray × ByteArray)) : Prop :=
  ∃ D : DataW Value, W.ownsMap Tryd.prog 9 heldS mb l.length D ∧ (∀ x : ByteArray, Maps.has D (.string x.data.toList) = (lookD l x).isSome) ∧ (∀ x : ByteArray, ∃ a b, D.atKey (.string x.data.toList) zAttD = .held (.agg #[.string a, .string b]) ∧ ∀ v, lookD l x = some v → b = v)
theorem look_snoc (l : List (ByteArray × ByteArray)) (d : ByteArray × ByteArray) (x : ByteArray) : lookD (l ++ [d]) x = if sameB d.1 x = true then some d.2 else lookD l x := by
  unfold lookD
  rw [List.reverse_append, List.reverse_singleton, List.singleton_append, List.find?_cons]
  cases h : sameB d.1 x <;> simp
theorem DcMap.start (w : World) : DcMap (w.alloc (.map #[] 0)) w.heap.size [] :=
  ⟨.map [], World.ownsMap_made w _ _ _, fun x => rfl, fun x => ⟨⟨#[]⟩, ⟨#[]⟩, rfl, fun v h => by cases h⟩⟩
theorem DcMap.store {W : World} {mb : Nat} {l : List (ByteArray × ByteArray)} (h : DcMap W mb l) (d : ByteArray × ByteArray) (hn : d.1.size ≤ maxLen) (hl : l.length < 1048576) :
    ∃ w', (Instr.mapUpdate 69 (.map (some mb)) (.string d.1) (.agg #[.string d.1, .string d.2])).run Tryd.prog W = .ok () w' ∧ DcMap w' mb (l ++ [d]) ∧ W.grownBy w' (some mb) := by
  obtain ⟨D, hD, hh, ha⟩ := h
  obtain ⟨w', hrun, hown, hturn⟩ := hD.store keyedN Tryd.underlying69 (by unfold maxLen; omega) (key_strN hn) (d := .held (.agg #[.string d.1, .string d.2])) (ps := []) (val := .agg #[.string d.1, .string d.2]) rfl
  refine ⟨w', hrun, ⟨_, by rw [List.length_append]; exact hown, fun x => ?_, fun x => ?_⟩, hturn.grown⟩
  · rw [look_snoc]
    by_cases e : x.toList = d.1.toList
    · have hx : x.data.toList = d.1.data.toList := by rw [← ByteArray.toList_eq, ← ByteArray.toList_eq, e]
      rw [hx, Maps.has_put_same hD.isMap (lit_keyN d.1), if_pos (by unfold sameB; rw [e]; exact beq_self_eq_true _)]; rfl
    · rw [Maps.has_put_other (lit_neN e), hh x, if_neg (by unfold sameB; intro hb; exact e (eq_of_beq hb).symm)]
  · rw [look_snoc]
    by_cases e : x.toList = d.1.toList
    · have hx : x.data.toList = d.1.data.toList := by rw [← ByteArray.toList_eq, ← ByteArray.toList_eq, e]
      exact ⟨d.1, d.2, by rw [hx]; exact Maps.atKey_put_same hD.isMap (lit_keyN d.1) _ _, fun v hv => by rw [if_pos (by unfold sameB; rw [e]; exact beq_self_eq_true _)] at hv; exact Option.some.inj hv⟩
    · obtain ⟨a', b', h1, h2⟩ := ha x
      refine ⟨a', b', by rw [Maps.atKey_put_other (lit_neN e)]; exact h1, fun v hv => ?_⟩
      rw [if_neg (by unfold sameB; intro hb; exact e (eq_of_beq hb).symm)] at hv
      exact h2 v hv
theorem DcMap.look {W : World} {mb : Nat} {l : List (ByteArray × ByteArray)} (h : DcMap W mb l) {nm : ByteArray} (hn : nm.size ≤ maxLen) :
    ∃ a b, (Instr.lookup 69 (.map (some mb)) (.string nm) true).run Tryd.prog W = .ok (.tuple #[.agg #[.string a, .string b], .bool (lookD l nm).isSome]) W ∧ ∀ v, lookD l nm = some v → b = v := by
  obtain ⟨D, hD, hh, ha⟩ := h
  obtain ⟨v, ps, hrun, hR⟩ := hD.look_ok keyedN Tryd.underlying69 (zeroAttr W) (zd := zAttD) (zp := []) rfl (key_strN hn)
  obtain ⟨a, b, hab, hv2⟩ := ha nm
  rw [hab] at hR
  unfold heldS at hR
  have hv : v = .agg #[.string a, .string b] := by
    have := congrArg Prod.fst (Option.some.inj hR)
    injection this
  rw [hh nm, hv] at hrun
  exact ⟨a, b, hrun, hv2⟩
theorem DcMap.keep {W W' : World} {mb : Nat} {l : List (ByteArray × ByteArray)} (h : DcMap W mb l) (hk : W'.heap[mb]? = W.heap[mb]?) : DcMap W' mb l := by
  obtain ⟨D, ⟨es, clock, h1, h2, h3, h4⟩, hh, ha⟩ := h
  exact ⟨D, ⟨es, clock, by rw [hk]; exact h1, h2, h3, h4⟩, hh, ha⟩
theorem DcMap.lt {W : World} {mb : Nat} {l : List (ByteArray × ByteArray)} (h : DcMap W mb l) : mb < W.heap.size := by
  obtain ⟨D, ⟨es, clock, h1, _⟩, _⟩ := h
  exact (Array.getElem?_eq_some_iff.1 h1).1
set_option maxRecDepth 100000 in
set_option maxHeartbeats 4000000 in
theorem declaredBy_any (w : World) (a : Option Addr) (n c : Nat) (l : List (ByteArray × ByteArray)) (hn : n = l.length) (hl : l.length ≤ 1000) (hz : ∀ d ∈ l, d.1.size ≤ 1048576) (h : EntsAt w a l) :
    Calls Tryd.prog 45 #[.slice a n c] w fun e w' => ∃ mb, e = .returned (.map (some mb)) ∧ w.heap.size ≤ mb ∧ DcMap w' mb l ∧ Below w.heap.size w w' := by
  subst hn
  have HA := mkHidT h
  have HZ := mkHidT hz
  clear h hz
  have hmm := @run_makeMap Tryd.prog
  go_enter Tryd.func45, Tryd.ntmps45
  go_wp2_with fail
  go_loopw [9] (fun iv wr => ∃ (k : Nat), k ≤ l.length ∧ iv = .int .i64 k ∧ DcMap wr w.heap.size (l.take k) ∧ Below w.heap.size w wr) (fun iv _ => l.length - (intOf iv).toNat)
  case atStart => exact ⟨0, Nat.zero_le _, rfl, DcMap.start w, (Below.refl _ _).alloc (Nat.le_refl _) _⟩
  case round =>
    obtain ⟨k, hk, rfl, hmap, hb⟩ := hrel
    have HB := mkHidT hb
    have HM := mkHidT hmap
    clear hb hmap
    by_cases hlt : k < l.length
    · obtain ⟨b, off, ha, hc⟩ := HA.out.grown (Ents.below_grown HB.out)
      obtain rfl := ha (by omega)
      obtain ⟨c1, c2⟩ := hc k hlt
      have htk : l.take (k + 1) = l.take k ++ [l[k]'hlt] := by rw [List.take_add_one, List.getElem?_eq_getElem hlt]; rfl
      have hsz := HZ.out _ (List.getElem_mem hlt)
      obtain ⟨E, hEe⟩ : ∃ E, l[k]'hlt = E := ⟨_, rfl⟩
      rw [hEe] at c1 c2 htk hsz
      obtain ⟨W1, hW1⟩ : ∃ W1, wr.alloc (.cells #[.string E.1, .string E.2] 62) = W1 := ⟨_, rfl⟩
      have hb1 : Below wr.heap.size wr W1 := by rw [← hW1]; exact (Below.refl _ _).alloc (Nat.le_refl _) _
      have B1 := mkHidT (HB.out.trans (hb1.mono HB.out.size))
      obtain ⟨x0, x1⟩ := two_cells (show W1.heap[wr.heap.size]? = some (.cells #[.string E.1, .string E.2] 62) by rw [← hW1]; exact heap_alloc_new _ _)
      obtain ⟨w2, hrun, hm2, hg2⟩ := (HM.out.keep (hb1.block _ HM.out.lt)).store E (by unfold maxLen; omega) (by rw [List.length_take]; omega)
      have M2 := mkHidT hm2
      have B2 := mkHidT (B1.out.grown hg2 B1.out.size (fun j hj => by have := Option.some.inj hj; omega))
      have HT := mkHidT htk
      clear hc ha hEe HA hm2 hg2 hb1 htk HB HM
      go_wp2
      go_roundw
      case rel => exact ⟨k + 1, by omega, by go_num, by rw [HT.out]; exact M2.out, B2.out⟩
      case measure => simp [intOf]; omega
    · have hk2 : l.take k = l := List.take_of_length_le (by omega)
      have M2 := HM.out
      rw [hk2] at M2
      have M3 := mkHidT M2
      clear M2 hk2
      go_wp2
      go_ret
      exact ⟨_, rfl, Nat.le_refl _, M3.out, HB.out⟩
end Go.Proofs.YtlfcmlcpdpkibaaDoor

namespace Go.Proofs.YtlfcmlcpdpkibaaDoor
open Go.RowKit Plain1 Strs Strs2 Lists Bytes Plain3 Plain5 Plain6 Plain9 Plain10 Plain11 Plain12 PlainS PlainR PlainN Ents
set_option linter.unusedVariables false

def nmC (x : Nm) : List Value := [.string x.pre, .string x.loc, .string x.spc, .string x.val]
def scCells : List (Scp × Nat) → List Value
  | [] => []
  | x :: l => nmC x.1.1 ++ .map (some x.2) :: scCells l
theorem scCells_app (a b : List (Scp × Nat)) : scCells (a ++ b) = scCells a ++ scCells b := by
  induction a with
  | nil => rfl
  | cons x l ih => simp [scCells, ih]
theorem scCells_len (a : List (Scp × Nat)) : (scCells a).length = a.length * 5 := by
  induction a with
  | nil => rfl
  | cons x l ih => simp [scCells, nmC, ih]; omega
theorem scCells_at : ∀ (l : List (Scp × Nat)) (j : Nat) (hj : j < l.length), (scCells l)[j * 5]? = some (.string (l[j]'hj).1.1.pre) ∧ (scCells l)[j * 5 + 1]? = some (.string (l[j]'hj).1.1.loc) ∧ (scCells l)[j * 5 + 2]? = some (.string (l[j]'hj).1.1.spc) ∧ (scCells l)[j * 5 + 3]? = some (.string (l[j]'hj).1.1.val) ∧ (scCells l)[j * 5 + 4]? = some (.map (some (l[j]'hj).2))
  | [], j, hj => by simp at hj
  | x :: l, 0, _ => by simp [scCells, nmC]
  | x :: l, j + 1, hj => by
    have h := scCells_at l j (by simpa using hj)
    have e : scCells (x :: l) = .string x.1.1.pre :: .string x.1.1.loc :: .string x.1.1.spc :: .string x.1.1.val :: .map (some x.2) :: scCells l := rfl
    rw [e, show (j + 1) * 5 = j * 5 + 1 + 1 + 1 + 1 + 1 by omega]
    simpa using h
/-- The scopes in memory. -/
structure ScAt (W : World) (B sb : Nat) (st : List Scp) (ov : Value) (mbs : List Nat) : Prop where
  box : W.heap[sb]? = some (.cells #[ov] 46)
  len : mbs.length = st.length
  row : W.ownsRow B 71 5 ov st.length (scCells (st.zip mbs))
  maps : ∀ (j : Nat) (hj : j < st.length) (hm : j < mbs.length), DcMap W (mbs[j]'hm) (st[j]'hj).2
  bb : B ≤ sb
theorem own_keep {w w' : World} {base : Nat} {e : TypeId} {size : Nat} {v : Value} {n : Nat} {xs : List Value} (h : w.ownsRow base e size v n xs) (hk : ∀ k, v.ownBlock = some k → w'.heap[k]? = w.heap[k]?) : w'.ownsRow base e size v n xs := by
  obtain ⟨h1, h2⟩ := h
  refine ⟨h1, ?_⟩
  rcases h2 with h2 | ⟨g, cap, cur, hv, hb, hg, rest⟩
  · exact .inl h2
  · subst hv
    exact .inr ⟨g, cap, cur, rfl, hb, by rw [hk g rfl]; exact hg, rest⟩
theorem ScAt.below {W W' : World} {B sb : Nat} {st : List Scp} {ov : Value} {mbs : List Nat} (h : ScAt W B sb st ov mbs) (hb : Below W.heap.size W W') : ScAt W' B sb st ov mbs :=
  ⟨(hb.block _ (Array.getElem?_eq_some_iff.1 h.box).1).trans h.box, h.len, own_keep h.row (fun k hk => hb.block _ (h.row.lt k hk).2), fun j hj hm => (h.maps j hj hm).keep (hb.block _ (h.maps j hj hm).lt), h.bb⟩
def spR (R : Option ByteArray) : ByteArray × Bool := match R with
  | some v => (v, true)
  | none => (⟨#[]⟩, false)
set_option maxRecDepth 100000 in
set_option maxHeartbeats 4000000 in
theorem spaceOf_any (w : World) (B sb : Nat) (st : List Scp) (ov : Value) (mbs : List Nat) (hS : ScAt w B sb st ov mbs) (hst : st.length ≤ 1000) (p : ByteArray) (hp : p.size ≤ 1048576) :
    Calls Tryd.prog 54 #[.pointer (some ⟨sb, 0, none⟩), .string p] w fun e w' => e = .returned (.tuple #[.string (spR (spaceZ (st.map (·.2)) p)).1, .bool (spR (spaceZ (st.map (·.2)) p)).2]) ∧ Below w.heap.size w w' := by
  have HS := mkHidT hS
  obtain ⟨R, hR⟩ : ∃ R, spaceZ (st.map (·.2)) p = R := ⟨_, rfl⟩
  rw [hR]
  have HR := mkHidT hR
  obtain ⟨ao, ac, rfl, hao⟩ := row_sl hS.row
  have hbox : w.cell? ⟨sb, 0, none⟩ = some (.slice ao st.length ac) := by simp [World.cell?, hS.box]
  clear hR hS
  go_enter Tryd.func54, Tryd.ntmps54
  go_wp2_with fail
  go_loopw [6] (fun iv wr => ∃ (k : Nat), k ≤ st.length ∧ iv = .int .i64 ((k : Int) - 1) ∧ R = spaceGo (st.map (·.2)) p k ∧ Below w.heap.size w wr) (fun iv _ => ((intOf iv) + 1).toNat)
  case atStart => exact ⟨st.length, Nat.le_refl _, by go_num, by rw [← HR.out]; unfold spaceZ; rw [List.length_map], Below.refl _ _⟩
  case round =>
    obtain ⟨k, hk, rfl, hrow, hb⟩ := hrel
    have HB := mkHidT hb
    have hS := HS.out.below HB.out
    have hbox : wr.cell? ⟨sb, 0, none⟩ = some (.slice ao st.length ac) := by simp [World.cell?, hS.box]
    rcases k with _ | m
    · have e0 : (((0 : Nat) : Int) - 1) = -1 := by omega
      rw [e0]
      clear hb hS
      have hrow' : R = if sameB p xmlB = true then some xmlS else if sameB p ⟨#[]⟩ = true then some ⟨#[]⟩ else none := hrow
      rw [same_nil] at hrow'
      unfold sameB at hrow'
      rw [l_xml] at hrow'
      clear hrow
      cases a1 : (p.toList == [120, 109, 108]) with
      | true =>
        rw [a1, if_pos rfl] at hrow'
        subst hrow'
        go_wp2
        refine bodyPost_ret (v := .tuple #[.string xmlS, .bool true]) (by simp [results, Tryd.results54, go_sem]; rfl) rfl ⟨rfl, HB.out⟩
      | false =>
        rw [a1, if_neg (by simp)] at hrow'
        by_cases a2 : p.toList = []
        · rw [decide_eq_true a2, if_pos rfl] at hrow'
          subst hrow'
          have a3 : p.toList.isEmpty = true := by rw [a2]; rfl
          go_wp2
          refine bodyPost_ret (v := .tuple #[.string ⟨#[]⟩, .bool true]) (by simp [results, Tryd.results54, go_sem]) rfl ⟨rfl, HB.out⟩
        · rw [decide_eq_false a2, if_neg (by simp)] at hrow'
          subst hrow'
          have a3 : p.toList.isEmpty = false := by rw [List.isEmpty_eq_false_iff]; exact a2
          go_wp2
          refine bodyPost_ret (v := .tuple #[.string ⟨#[]⟩, .bool false]) (by simp [results, Tryd.results54, go_sem]) rfl ⟨rfl, HB.out⟩
    · have e0 : (((m + 1 : Nat) : Int) - 1) = (m : Int) := by omega
      rw [e0]
      obtain ⟨g, rfl⟩ := hao (by omega)
      have hlm : m < st.length := by omega
      have hmm : m < mbs.length := by rw [hS.len]; omega
      have hzl : m < (st.zip mbs).length := by rw [List.length_zip]; omega
      have hcell : wr.cell? ⟨g, m * 5 + 4, none⟩ = some (.map (some (mbs[m]'hmm))) := by
        rw [hS.row.cellAt (m * 5 + 4) (by omega), (scCells_at (st.zip mbs) m hzl).2.2.2.2, List.getElem_zip]
      obtain ⟨x, v, hrun, hv⟩ := (hS.maps m hlm hmm).look (nm := p) (by unfold maxLen; omega)
      obtain ⟨mb, hmb⟩ : ∃ mb, mbs[m]'hmm = mb := ⟨_, rfl⟩
      rw [hmb] at hcell hrun
      have hrow2 : R = match lookD ((st.map (·.2)).getD m []) p with | some v => some v | none => spaceGo (st.map (·.2)) p m := hrow
      have hget : (st.map (·.2)).getD m [] = (st[m]'hlm).2 := by
        rw [List.getD_eq_getElem?_getD, List.getElem?_map, List.getElem?_eq_getElem hlm]; rfl
      rw [hget] at hrow2
      have HS2 := mkHidT hS
      clear hb hS hrow hmb hget
      have hw0 : ¬ (m : Int) < 0 := by omega
      cases hL : lookD (st[m]'hlm).2 p with
      | some u =>
        have hvu := hv u hL
        subst hvu
        rw [hL] at hrow2 hrun
        simp only at hrow2
        subst hrow2
        clear hv hL
        go_wp2
        refine bodyPost_ret (v := .tuple #[.string v, .bool true]) (by simp [results, Tryd.results54, go_sem]) rfl ⟨rfl, HB.out.alloc HB.out.size _⟩
      | none =>
        rw [hL] at hrow2 hrun
        simp only at hrow2
        have HN := mkHidT hrow2
        clear hrow2 hv hL
        go_wp2
        go_roundw
        case rel => exact ⟨m, by omega, by go_num, HN.out, HB.out.alloc HB.out.size _⟩
        case measure => simp [intOf]
end Go.Proofs.YtlfcmlcpdpkibaaDoor

namespace Go.Proofs.YtlfcmlcpdpkibaaDoor
open Go.RowKit Plain1 Strs Strs2 Lists Bytes Plain3 Plain5 Plain6 Plain9 Plain10 Plain11 Plain12 PlainS PlainR PlainN Ents
set_option linter.unusedVariables false

/-- Names in memory. -/
def NmAt (W : World) (a : Option Addr) (l : List Nm) : Prop :=
  ∃ b : Nat, (0 < l.length → a = some ⟨b, 0, none⟩) ∧ ∀ (j : Nat) (hj : j < l.length), W.cell? ⟨b, j * 4, none⟩ = some (.string (l[j]'hj).pre) ∧ W.cell? ⟨b, j * 4 + 1, none⟩ = some (.string (l[j]'hj).loc) ∧ W.cell? ⟨b, j * 4 + 2, none⟩ = some (.string (l[j]'hj).spc) ∧ W.cell? ⟨b, j * 4 + 3, none⟩ = some (.string (l[j]'hj).val)
theorem NmAt.below {W W' : World} {a : Option Addr} {l : List Nm} (h : NmAt W a l) (hb : Below W.heap.size W W') : NmAt W' a l := by
  obtain ⟨b, h1, h2⟩ := h
  refine ⟨b, h1, fun j hj => ?_⟩
  obtain ⟨c0, c1, c2, c3⟩ := h2 j hj
  have hk := hb.block _ (block_lt c0)
  exact ⟨cell_keepS hk c0, cell_keepS hk c1, cell_keepS hk c2, cell_keepS hk c3⟩
def nmCells : List Nm → List Value
  | [] => []
  | x :: l => nmC x ++ nmCells l
theorem nmCells_app (a b : List Nm) : nmCells (a ++ b) = nmCells a ++ nmCells b := by
  induction a with
  | nil => rfl
  | cons x l ih => simp [nmCells, ih]
theorem nmCells_at : ∀ (l : List Nm) (j : Nat) (hj : j < l.length), (nmCells l)[j * 4]? = some (.string (l[j]'hj).pre) ∧ (nmCells l)[j * 4 + 1]? = some (.string (l[j]'hj).loc) ∧ (nmCells l)[j * 4 + 2]? = some (.string (l[j]'hj).spc) ∧ (nmCells l)[j * 4 + 3]? = some (.string (l[j]'hj).val)
  | [], j, hj => by simp at hj
  | x :: l, 0, _ => by simp [nmCells, nmC]
  | x :: l, j + 1, hj => by
    have h := nmCells_at l j (by simpa using hj)
    have e : nmCells (x :: l) = .string x.pre :: .string x.loc :: .string x.spc :: .string x.val :: nmCells l := rfl
    rw [e, show (j + 1) * 4 = j * 4 + 1 + 1 + 1 + 1 by omega]
    simpa using h
theorem row_nms {W : World} {B : Nat} {t : TypeId} {v : Value} {l : List Nm} (h : W.ownsRow B t 4 v l.length (nmCells l)) : ∃ ao ac, v = .slice ao l.length ac ∧ NmAt W ao l := by
  rcases h.2 with ⟨h0, hn⟩ | ⟨g, cap, cur, hv, _⟩
  · exact ⟨none, 0, by rw [h0, hn], 0, fun h => by omega, fun i hi => by omega⟩
  · subst hv
    refine ⟨_, _, rfl, g, fun _ => rfl, fun j hj => ?_⟩
    have ht := nmCells_at l j hj
    exact ⟨by rw [h.cellAt _ (by omega)]; exact ht.1, by rw [h.cellAt _ (by omega)]; exact ht.2.1, by rw [h.cellAt _ (by omega)]; exact ht.2.2.1, by rw [h.cellAt _ (by omega)]; exact ht.2.2.2⟩
set_option maxRecDepth 100000 in
theorem expanded_any (w : World) (x : Nm) : Calls Tryd.prog 55 #[.agg #[.string x.pre, .string x.loc, .string x.spc, .string x.val]] w fun e w' => e = .returned (.agg #[.string x.spc, .string x.loc]) ∧ Below w.heap.size w w' := by
  go_enter Tryd.func55, Tryd.ntmps55
  go_wp2
  refine bodyPost_ret (v := .agg #[.string x.spc, .string x.loc]) (by simp [results, Tryd.results55, go_sem]) rfl ⟨rfl, ?_⟩
  exact ((Below.refl _ _).alloc (Nat.le_refl _) _).alloc (by simp) _
theorem any_cut {l : List Nm} {A : Nm} {j : Nat} (hj : j < l.length) : (l.take (j + 1)).any (fun b => twinB A b) = ((l.take j).any (fun b => twinB A b) || twinB A (l[j]'hj)) := by
  rw [List.take_add_one, List.getElem?_eq_getElem hj, List.any_append]; simp
theorem twins_cut {l : List Nm} {k : Nat} (hk : k < l.length) : twinsGo (l.take k) (l.drop k) = ((l.take k).any (fun b => twinB (l[k]'hk) b) || twinsGo (l.take (k + 1)) (l.drop (k + 1))) := by
  rw [List.drop_eq_getElem_cons hk]
  conv => lhs; unfold twinsGo
  rw [List.take_add_one, List.getElem?_eq_getElem hk]; rfl
/-- Two names in their boxes. -/
structure TwF (V W : World) (ga gd : Nat) (A D : Nm) : Prop where
  i0 : W.cell? ⟨ga, 0, none⟩ = some (.string A.pre)
  i1 : W.cell? ⟨ga, 1, none⟩ = some (.string A.loc)
  i2 : W.cell? ⟨ga, 2, none⟩ = some (.string A.spc)
  i3 : W.cell? ⟨ga, 3, none⟩ = some (.string A.val)
  j0 : W.cell? ⟨gd, 0, none⟩ = some (.string D.pre)
  j1 : W.cell? ⟨gd, 1, none⟩ = some (.string D.loc)
  j2 : W.cell? ⟨gd, 2, none⟩ = some (.string D.spc)
  j3 : W.cell? ⟨gd, 3, none⟩ = some (.string D.val)
  bel : Below V.heap.size V W
theorem TwF.step {V W W' : World} {ga gd : Nat} {A D : Nm} (h : TwF V W ga gd A D) (hb : Below W.heap.size W W') : TwF V W' ga gd A D := by
  have ka := hb.block _ (block_lt h.i0)
  have kd := hb.block _ (block_lt h.j0)
  exact ⟨cell_keepS ka h.i0, cell_keepS ka h.i1, cell_keepS ka h.i2, cell_keepS ka h.i3, cell_keepS kd h.j0, cell_keepS kd h.j1, cell_keepS kd h.j2, cell_keepS kd h.j3, h.bel.trans (hb.mono h.bel.size)⟩
theorem TwF.drew {V W : World} {ga gd : Nat} {A D : Nm} (h : TwF V W ga gd A D) : TwF V W.drew ga gd A D :=
  ⟨h.i0, h.i1, h.i2, h.i3, h.j0, h.j1, h.j2, h.j3, ⟨h.bel.os, h.bel.tape, h.bel.output, h.bel.size, h.bel.block⟩⟩
set_option maxRecDepth 100000 in
set_option maxHeartbeats 4000000 in
theorem hasTwins_any (w : World) (a : Option Addr) (n c : Nat) (l : List Nm) (hn : n = l.length) (hl : l.length ≤ 1000) (hc : l.length ≤ c) (h : NmAt w a l) :
    Calls Tryd.prog 47 #[.slice a n c] w fun e w' => e = .returned (.bool (twinsGo [] l)) ∧ Below w.heap.size w w' := by
  subst hn
  have HA := mkHidT h
  obtain ⟨R, hR⟩ : ∃ R, twinsGo [] l = R := ⟨_, rfl⟩
  rw [hR]
  have HR := mkHidT hR
  clear h hR
  go_enter Tryd.func47, Tryd.ntmps47
  go_wp2_with fail
  go_loopw [9] (fun iv wr => ∃ (k : Nat), k ≤ l.length ∧ iv = .int .i64 k ∧ R = twinsGo (l.take k) (l.drop k) ∧ Below w.heap.size w wr) (fun iv _ => l.length - (intOf iv).toNat)
  case atStart => exact ⟨0, Nat.zero_le _, rfl, HR.out.symm, Below.refl _ _⟩
  case round =>
    obtain ⟨k, hk, rfl, hrow, hb⟩ := hrel
    have HB := mkHidT hb
    clear hb
    by_cases hlt : k < l.length
    · obtain ⟨b, ha, hcc⟩ := HA.out.below HB.out
      obtain rfl := ha (by omega)
      obtain ⟨c0, c1, c2, c3⟩ := hcc k hlt
      rw [twins_cut hlt] at hrow
      obtain ⟨A, hAe⟩ : ∃ A, l[k]'hlt = A := ⟨_, rfl⟩
      rw [hAe] at c0 c1 c2 c3 hrow
      have HROW := mkHidT hrow
      obtain ⟨W1, hW1⟩ : ∃ W1, wr.alloc (.cells #[.string A.pre, .string A.loc, .string A.spc, .string A.val] 48) = W1 := ⟨_, rfl⟩
      have hb1 : Below wr.heap.size wr W1 := by rw [← hW1]; exact (Below.refl _ _).alloc (Nat.le_refl _) _
      have B1 := mkHidT (HB.out.trans (hb1.mono HB.out.size))
      have X1 := mkHidT (show W1.heap[wr.heap.size]? = some (.cells #[.string A.pre, .string A.loc, .string A.spc, .string A.val] 48) by rw [← hW1]; exact heap_alloc_new _ _)
      have A1 := mkHidT (HA.out.below B1.out)
      have hkc : k ≤ c := by omega
      clear hcc ha hAe hb1 hrow
      go_wp2_with fail
      clear hW1
      generalize wr.heap.size = ga at X1 ⊢
      go_loopw [18] (fun jv wz => ∃ (j : Nat), j ≤ k ∧ jv = .int .i64 j ∧ (l.take j).any (fun b => twinB A b) = false ∧ Below W1.heap.size W1 wz) (fun jv _ => k - (intOf jv).toNat)
      case atStart => exact ⟨0, Nat.zero_le _, rfl, rfl, Below.refl _ _⟩
      case round =>
        obtain ⟨j, hj, rfl, hno, hz⟩ := hrel
        have HZ := mkHidT hz
        have HNO := mkHidT hno
        have B2 := mkHidT (B1.out.trans (hz.mono B1.out.size))
        obtain ⟨x0, x1, x2, x3⟩ := four_cells ((hz.block _ (Array.getElem?_eq_some_iff.1 X1.out).1).trans X1.out)
        clear hz hno
        by_cases hjk : j < k
        · have hjl : j < l.length := by omega
          obtain ⟨b2, ha2, hc2⟩ := HA.out.below B2.out
          have := ha2 (by omega)
          cases this
          obtain ⟨d0, d1, d2, d3⟩ := hc2 j hjl
          have hany := any_cut (A := A) hjl
          obtain ⟨D, hDe⟩ : ∃ D, l[j]'hjl = D := ⟨_, rfl⟩
          rw [hDe] at d0 d1 d2 d3 hany
          rw [HNO.out, Bool.false_or] at hany
          have HANY := mkHidT hany
          have HMEM := mkHidT (show D ∈ l.take k by
            rw [← hDe]
            have hjt : j < (l.take k).length := by rw [List.length_take]; omega
            have := List.getElem_mem hjt
            rw [List.getElem_take] at this
            exact this)
          clear hc2 ha2 hDe hany
          obtain ⟨W2, hW2⟩ : ∃ W2, wr.alloc (.cells #[.string D.pre, .string D.loc, .string D.spc, .string D.val] 48) = W2 := ⟨_, rfl⟩
          have hb2 : Below wr.heap.size wr W2 := by rw [← hW2]; exact (Below.refl _ _).alloc (Nat.le_refl _) _
          have Y2 := four_cells (show W2.heap[wr.heap.size]? = some (.cells #[.string D.pre, .string D.loc, .string D.spc, .string D.val] 48) by rw [← hW2]; exact heap_alloc_new _ _)
          have ka := hb2.block _ (block_lt x0)
          have hE : TwF W2 W2 ga wr.heap.size A D := ⟨cell_keepS ka x0, cell_keepS ka x1, cell_keepS ka x2, cell_keepS ka x3, Y2.1, Y2.2.1, Y2.2.2.1, Y2.2.2.2, Below.refl _ _⟩
          have B3 := mkHidT (HZ.out.trans (hb2.mono HZ.out.size))
          clear hb2 Y2 ka
          go_wp2_with fail
          clear hW2 x0 x1 x2 x3 d0 d1 d2 d3 c0 c1 c2 c3
          generalize wr.heap.size = gd at hE ⊢
          have hQ := hE
          obtain ⟨i0, i1, i2, i3, j0, j1, j2, j3, _⟩ := hQ
          have hcmp : twinB A D = (A.spc.toList == D.spc.toList && A.loc.toList == D.loc.toList) := rfl
          rw [hcmp] at HANY
          clear hcmp
          cases e1 : (A.spc.toList == D.spc.toList) with
          | true =>
            cases e2 : (A.loc.toList == D.loc.toList) with
            | true =>
                go_region_held3 (fun W => W.cell? ⟨ga, 0, none⟩ = some (.string A.pre) ∧ W.cell? ⟨ga, 1, none⟩ = some (.string A.loc) ∧ W.cell? ⟨ga, 2, none⟩ = some (.string A.spc) ∧ W.cell? ⟨ga, 3, none⟩ = some (.string A.val) ∧ W.cell? ⟨gd, 0, none⟩ = some (.string D.pre) ∧ W.cell? ⟨gd, 1, none⟩ = some (.string D.loc) ∧ W.cell? ⟨gd, 2, none⟩ = some (.string D.spc) ∧ W.cell? ⟨gd, 3, none⟩ = some (.string D.val)) (first | go_keep | exact ⟨hE.i0, hE.i1, hE.i2, hE.i3, hE.j0, hE.j1, hE.j2, hE.j3⟩) (first | (go_at_call 55; refine (expanded_any _ _).mono ?_; rintro e w' ⟨rfl, hg'⟩; first | (have hE := hE.step hg') | (have hE := hE.drew.step hg')))
                all_goals
                  have HE := mkHidT hE
                  clear hE
                  obtain rfl : R = true := by
                    have hx : (l.take k).any (fun b => twinB A b) = true := by
                      rw [List.any_eq_true]
                      exact ⟨D, HMEM.out, by show (A.spc.toList == D.spc.toList && A.loc.toList == D.loc.toList) = true; rw [e1, e2]; rfl⟩
                    rw [HROW.out, hx]; rfl
                  go_wp2
                  go_ret
                  exact ⟨rfl, B1.out.trans ((B3.out.trans (HE.out.bel.mono B3.out.size)).mono B1.out.size)⟩
            | false =>
                go_region_held3 (fun W => W.cell? ⟨ga, 0, none⟩ = some (.string A.pre) ∧ W.cell? ⟨ga, 1, none⟩ = some (.string A.loc) ∧ W.cell? ⟨ga, 2, none⟩ = some (.string A.spc) ∧ W.cell? ⟨ga, 3, none⟩ = some (.string A.val) ∧ W.cell? ⟨gd, 0, none⟩ = some (.string D.pre) ∧ W.cell? ⟨gd, 1, none⟩ = some (.string D.loc) ∧ W.cell? ⟨gd, 2, none⟩ = some (.string D.spc) ∧ W.cell? ⟨gd, 3, none⟩ = some (.string D.val)) (first | go_keep | exact ⟨hE.i0, hE.i1, hE.i2, hE.i3, hE.j0, hE.j1, hE.j2, hE.j3⟩) (first | (go_at_call 55; refine (expanded_any _ _).mono ?_; rintro e w' ⟨rfl, hg'⟩; first | (have hE := hE.step hg') | (have hE := hE.drew.step hg')))
                all_goals
                  have HE := mkHidT hE
                  clear hE
                  go_wp2
                  go_roundw
                  case rel => exact ⟨j + 1, by omega, by go_num, by rw [HANY.out, e1, e2]; rfl, B3.out.trans (HE.out.bel.mono B3.out.size)⟩
                  case measure => simp [intOf]; omega
          | false =>
            cases e2 : (A.loc.toList == D.loc.toList) with
            | true =>
                go_region_held3 (fun W => W.cell? ⟨ga, 0, none⟩ = some (.string A.pre) ∧ W.cell? ⟨ga, 1, none⟩ = some (.string A.loc) ∧ W.cell? ⟨ga, 2, none⟩ = some (.string A.spc) ∧ W.cell? ⟨ga, 3, none⟩ = some (.string A.val) ∧ W.cell? ⟨gd, 0, none⟩ = some (.string D.pre) ∧ W.cell? ⟨gd, 1, none⟩ = some (.string D.loc) ∧ W.cell? ⟨gd, 2, none⟩ = some (.string D.spc) ∧ W.cell? ⟨gd, 3, none⟩ = some (.string D.val)) (first | go_keep | exact ⟨hE.i0, hE.i1, hE.i2, hE.i3, hE.j0, hE.j1, hE.j2, hE.j3⟩) (first | (go_at_call 55; refine (expanded_any _ _).mono ?_; rintro e w' ⟨rfl, hg'⟩; first | (have hE := hE.step hg') | (have hE := hE.drew.step hg')))
                all_goals
                  have HE := mkHidT hE
                  clear hE
                  go_wp2
                  go_roundw
                  case rel => exact ⟨j + 1, by omega, by go_num, by rw [HANY.out, e1, e2]; rfl, B3.out.trans (HE.out.bel.mono B3.out.size)⟩
                  case measure => simp [intOf]; omega
            | false =>
                go_region_held3 (fun W => W.cell? ⟨ga, 0, none⟩ = some (.string A.pre) ∧ W.cell? ⟨ga, 1, none⟩ = some (.string A.loc) ∧ W.cell? ⟨ga, 2, none⟩ = some (.string A.spc) ∧ W.cell? ⟨ga, 3, none⟩ = some (.string A.val) ∧ W.cell? ⟨gd, 0, none⟩ = some (.string D.pre) ∧ W.cell? ⟨gd, 1, none⟩ = some (.string D.loc) ∧ W.cell? ⟨gd, 2, none⟩ = some (.string D.spc) ∧ W.cell? ⟨gd, 3, none⟩ = some (.string D.val)) (first | go_keep | exact ⟨hE.i0, hE.i1, hE.i2, hE.i3, hE.j0, hE.j1, hE.j2, hE.j3⟩) (first | (go_at_call 55; refine (expanded_any _ _).mono ?_; rintro e w' ⟨rfl, hg'⟩; first | (have hE := hE.step hg') | (have hE := hE.drew.step hg')))
                all_goals
                  have HE := mkHidT hE
                  clear hE
                  go_wp2
                  go_roundw
                  case rel => exact ⟨j + 1, by omega, by go_num, by rw [HANY.out, e1, e2]; rfl, B3.out.trans (HE.out.bel.mono B3.out.size)⟩
                  case measure => simp [intOf]; omega
        · have hjk2 : j = k := by omega
          subst hjk2
          have HN : Hid (R = twinsGo (l.take (j + 1)) (l.drop (j + 1))) := by rw [HROW.out, HNO.out]; rfl
          go_wp2
          go_roundw
          case rel => exact ⟨j + 1, by omega, by go_num, HN.out, B2.out⟩
          case measure => simp [intOf]; omega
    · have hend : l.drop k = [] := List.drop_eq_nil_of_le (by omega)
      obtain rfl : R = false := by rw [hrow, hend]; unfold twinsGo; rfl
      clear hrow
      go_wp2
      go_ret
      exact ⟨rfl, HB.out⟩
end Go.Proofs.YtlfcmlcpdpkibaaDoor

namespace Go.Proofs.YtlfcmlcpdpkibaaDoor
open Go.RowKit Plain1 Strs Strs2 Lists Bytes Plain3 Plain5 Plain6 Plain9 Plain10 Plain11 Plain12 PlainS PlainR PlainN Ents
set_option linter.unusedVariables false

/-- What is kept: all blocks but those named. -/
structure Kp (W W' : World) (bs : List Nat) : Prop where
  os : W'.os = W.os
  tape : W'.tape = W.tape
  output : W'.output = W.output
  size : W.heap.size ≤ W'.heap.size
  block : ∀ k, k < W.heap.size → k ∉ bs → W'.heap[k]? = W.heap[k]?
theorem Kp.refl (W : World) (bs : List Nat) : Kp W W bs := ⟨rfl, rfl, rfl, Nat.le_refl _, fun _ _ _ => rfl⟩
theorem Kp.trans {W W' W'' : World} {bs cs : List Nat} (h : Kp W W' bs) (h' : Kp W' W'' cs) (hc : ∀ c ∈ cs, c < W.heap.size → c ∈ bs) : Kp W W'' bs :=
  ⟨h'.os.trans h.os, h'.tape.trans h.tape, h'.output.trans h.output, Nat.le_trans h.size h'.size, fun k hk hn => (h'.block k (Nat.lt_of_lt_of_le hk h.size) (fun hm => hn (hc k hm hk))).trans (h.block k hk hn)⟩
theorem Kp.below {W W' : World} (h : Below W.heap.size W W') (bs : List Nat) : Kp W W' bs := ⟨h.os, h.tape, h.output, h.size, fun k hk _ => h.block k hk⟩
theorem Kp.on {W W' W'' : World} {bs : List Nat} (h : Kp W W' bs) (hb : Below W'.heap.size W' W'') : Kp W W'' bs := h.trans (Kp.below hb []) (fun c hc => by cases hc)
theorem Kp.set {W W' : World} {bs : List Nat} (h : Kp W W' bs) {b : Nat} (hb : W.heap.size ≤ b ∨ b ∈ bs) (j : Nat) (u : Value) : Kp W (W'.setCell ⟨b, j, none⟩ u) bs :=
  ⟨h.os, h.tape, h.output, by have := h.size; simpa using this, fun k hk hn => by
    rw [Below.heap_setCell W' ⟨b, j, none⟩ u k (by
      simp only
      rcases hb with hb | hb
      · omega
      · intro he; exact hn (he ▸ hb))]
    exact h.block k hk hn⟩
theorem Kp.to_below {w W W' : World} {bs : List Nat} (h : Below w.heap.size w W) (hk : Kp W W' bs) (hb : ∀ b ∈ bs, w.heap.size ≤ b) : Below w.heap.size w W' :=
  ⟨hk.os.trans h.os, hk.tape.trans h.tape, hk.output.trans h.output, Nat.le_trans h.size hk.size, fun k hkk => (hk.block k (Nat.lt_of_lt_of_le hkk h.size) (fun hm => by have := hb k hm; omega)).trans (h.block k hkk)⟩
theorem placeA_cons (sc : List (List (ByteArray × ByteArray))) (a : Nm) (l : List Nm) : placeA sc (a :: l) = if sameB a.pre ⟨#[]⟩ = true then (placeA sc l).map (a :: ·) else match spaceZ sc a.pre with | none => none | some v => (placeA sc l).map ({ a with spc := v } :: ·) := rfl
theorem placeA_app (sc : List (List (ByteArray × ByteArray))) : ∀ (l m : List Nm), placeA sc (l ++ m) = (placeA sc l).bind fun d => (placeA sc m).map (d ++ ·)
  | [], m => by
    simp only [List.nil_append, placeA, Option.bind_some]
    cases placeA sc m <;> rfl
  | a :: l, m => by
    rw [List.cons_append, placeA_cons, placeA_cons, placeA_app sc l m]
    split
    · cases placeA sc l with
      | none => rfl
      | some d => cases placeA sc m <;> rfl
    · cases spaceZ sc a.pre with
      | none => rfl
      | some v =>
        cases placeA sc l with
        | none => rfl
        | some d => cases placeA sc m <;> rfl
/-- One name more that is placed. -/
theorem place_step {sc : List (List (ByteArray × ByteArray))} {l : List Nm} {k : Nat} (hk : k < l.length) {d : List Nm} (hd : placeA sc (l.take k) = some d) :
    placeA sc (l.take (k + 1)) = if sameB (l[k]'hk).pre ⟨#[]⟩ = true then some (d ++ [l[k]'hk]) else (spaceZ sc (l[k]'hk).pre).map fun v => d ++ [{ (l[k]'hk) with spc := v }] := by
  rw [List.take_add_one, List.getElem?_eq_getElem hk, placeA_app, hd]
  simp only [Option.bind_some, Option.toList_some]
  rw [placeA_cons]
  split
  · rfl
  · cases spaceZ sc (l[k]'hk).pre <;> rfl
theorem place_no {sc : List (List (ByteArray × ByteArray))} {l : List Nm} {k : Nat} (h : placeA sc (l.take k) = none) : placeA sc l = none := by
  conv => lhs; rw [← List.take_append_drop k l]
  rw [placeA_app, h]; rfl
theorem placeA_len (sc : List (List (ByteArray × ByteArray))) : ∀ (l d : List Nm), placeA sc l = some d → d.length = l.length
  | [], d, h => by cases h; rfl
  | a :: l, d, h => by
    unfold placeA at h
    split at h
    · obtain ⟨x, hx, rfl⟩ := Option.map_eq_some_iff.1 h
      rw [List.length_cons, List.length_cons, placeA_len sc l x hx]
    · cases hs : spaceZ sc a.pre with
      | none => rw [hs] at h; cases h
      | some v =>
        rw [hs] at h
        obtain ⟨x, hx, rfl⟩ := Option.map_eq_some_iff.1 h
        rw [List.length_cons, List.length_cons, placeA_len sc l x hx]
def ndCells (n : Nd) (dv av : Value) : Array Value := #[.int .i64 n.kind, .string n.name.pre, .string n.name.loc, .string n.name.spc, .string n.name.val, dv, av, .string n.text]
/-- A node in its box, its attributes in their row. -/
structure NdBox (W : World) (B nb : Nat) (n : Nd) (dv av : Value) : Prop where
  box : W.heap[nb]? = some (.cells (ndCells n dv av) 51)
  decls : W.ownsRow B 62 2 dv n.decls.length (acells n.decls)
  attrs : W.ownsRow B 48 4 av n.attrs.length (nmCells n.attrs)
theorem eight_cells {W : World} {k : Nat} {a b c d e f g h : Value} {t : TypeId} (hh : W.heap[k]? = some (.cells #[a, b, c, d, e, f, g, h] t)) : W.cell? ⟨k, 0, none⟩ = some a ∧ W.cell? ⟨k, 1, none⟩ = some b ∧ W.cell? ⟨k, 2, none⟩ = some c ∧ W.cell? ⟨k, 3, none⟩ = some d ∧ W.cell? ⟨k, 4, none⟩ = some e ∧ W.cell? ⟨k, 5, none⟩ = some f ∧ W.cell? ⟨k, 6, none⟩ = some g ∧ W.cell? ⟨k, 7, none⟩ = some h ∧ W.frozen? ⟨k, 3, none⟩ = false := by simp [World.cell?, World.frozen?, hh]
def blk (v : Value) : List Nat := v.ownBlock.toList
theorem own_type {w : World} {base : Nat} {e : TypeId} {size : Nat} {v : Value} {n : Nat} {xs : List Value} (h : w.ownsRow base e size v n xs) {k : Nat} (hk : v.ownBlock = some k) : ∃ cs, w.heap[k]? = some (.cells cs e (0, 0)) := by
  rcases h.2 with ⟨h0, _⟩ | ⟨g, cap, cur, hv, hb, hg, _⟩
  · rw [h0] at hk; cases hk
  · rw [hv] at hk
    cases hk
    exact ⟨cur, hg⟩
theorem type_ne {w : World} {i j : Nat} {c d : Array Value} {s t : TypeId} {f g : Nat × Nat} (hi : w.heap[i]? = some (.cells c s f)) (hj : w.heap[j]? = some (.cells d t g)) (h : s ≠ t) : i ≠ j := fun e => by
  subst e
  rw [hi] at hj
  injection hj with hj
  injection hj with _ hj _
  exact h hj
theorem map_neN {w : World} {i j : Nat} {c : Array Value} {s : TypeId} {f : Nat × Nat} {l : List (ByteArray × ByteArray)} (hi : w.heap[i]? = some (.cells c s f)) (hj : DcMap w j l) : i ≠ j := fun e => by
  subst e
  obtain ⟨D, ⟨es, clock, h1, _⟩, _⟩ := hj
  rw [hi] at h1
  cases h1
/-- The scopes when only other blocks have changed: a node's box, a row of names. -/
theorem ScAt.kept {W W' : World} {B sb : Nat} {st : List Scp} {ov : Value} {mbs : List Nat} (h : ScAt W B sb st ov mbs) {bs : List Nat} (hk : Kp W W' bs) (ht : ∀ b ∈ bs, ∃ cs t f, W.heap[b]? = some (.cells cs t f) ∧ t ≠ 46 ∧ t ≠ 71) : ScAt W' B sb st ov mbs := by
  have hne : ∀ {k : Nat} {c : Array Value} {s : TypeId} {f : Nat × Nat}, W.heap[k]? = some (.cells c s f) → s = 46 ∨ s = 71 → k ∉ bs := by
    intro k c s f hc hs hm
    obtain ⟨cs, t, f', h1, h2, h3⟩ := ht k hm
    rw [hc] at h1
    injection h1 with h1
    injection h1 with _ h1 _
    rcases hs with hs | hs
    · exact h2 (h1.symm.trans hs)
    · exact h3 (h1.symm.trans hs)
  refine ⟨(hk.block _ (Array.getElem?_eq_some_iff.1 h.box).1 (hne h.box (Or.inl rfl))).trans h.box, h.len, own_keep h.row (fun k hkk => ?_), fun j hj hm => (h.maps j hj hm).keep (hk.block _ (h.maps j hj hm).lt (fun hmem => ?_)), h.bb⟩
  · obtain ⟨cs, hc⟩ := own_type h.row hkk
    exact hk.block _ (h.row.lt k hkk).2 (hne hc (Or.inr rfl))
  · obtain ⟨cs, t, f', h1, _, _⟩ := ht _ hmem
    exact map_neN h1 (h.maps j hj hm) rfl
end Go.Proofs.YtlfcmlcpdpkibaaDoor

namespace Go.Proofs.YtlfcmlcpdpkibaaDoor
open Go.RowKit Plain1 Strs Strs2 Lists Bytes Plain3 Plain5 Plain6 Plain9 Plain10 Plain11 Plain12 PlainS PlainR PlainN Ents
set_option linter.unusedVariables false

/-- A node whose names have their spaces. -/
def plZ (sc : List (List (ByteArray × ByteArray))) (n : Nd) : Option Nd :=
  match spaceZ sc n.name.pre with
  | none => none
  | some v => (placeA sc n.attrs).map fun L => { n with name := { n.name with spc := v }, attrs := L }
def PlSays (w : World) (B sb nb : Nat) (st : List Scp) (ov : Value) (mbs : List Nat) (n : Nd) (dv av : Value) (e : Ending) (w' : World) : Prop :=
  match plZ (st.map (·.2)) n with
  | none => e = .returned (.bool false) ∧ Kp w w' (nb :: blk av)
  | some n' => e = .returned (.bool true) ∧ ScAt w' B sb st ov mbs ∧ NdBox w' B nb n' dv av ∧ Kp w w' (nb :: blk av)
/-- Of a node that is being placed: so many of its attributes are. -/
structure PlF (w W : World) (B sb nb : Nat) (st : List Scp) (ov : Value) (mbs : List Nat) (n : Nd) (dv av : Value) (v : ByteArray) (d : List Nm) (k : Nat) : Prop where
  sc : ScAt W B sb st ov mbs
  nd : NdBox W B nb { n with name := { n.name with spc := v }, attrs := d ++ n.attrs.drop k } dv av
  kp : Kp w W (nb :: blk av)
  len : d.length = k
theorem nd_ty {W : World} {B nb : Nat} {n : Nd} {dv av : Value} (h : NdBox W B nb n dv av) : ∀ b ∈ nb :: blk av, ∃ cs t f, W.heap[b]? = some (.cells cs t f) ∧ t ≠ 46 ∧ t ≠ 71 := by
  intro b hb
  rcases List.mem_cons.1 hb with rfl | hb
  · exact ⟨_, _, _, h.box, by decide, by decide⟩
  · unfold blk at hb
    rw [Option.mem_toList] at hb
    obtain ⟨cs, hc⟩ := own_type h.attrs hb
    exact ⟨_, _, _, hc, by decide, by decide⟩
theorem nd_below {W W' : World} {B nb : Nat} {n : Nd} {dv av : Value} (h : NdBox W B nb n dv av) (hb : Below W.heap.size W W') : NdBox W' B nb n dv av :=
  ⟨(hb.block _ (Array.getElem?_eq_some_iff.1 h.box).1).trans h.box, own_keep h.decls (fun k hk => hb.block _ (h.decls.lt k hk).2), own_keep h.attrs (fun k hk => hb.block _ (h.attrs.lt k hk).2)⟩
theorem nmCells_len : ∀ (l : List Nm), (nmCells l).length = l.length * 4
  | [] => rfl
  | x :: l => by simp [nmCells, nmC, nmCells_len l]; omega
/-- A name's space is written. -/
theorem nm_set (d : List Nm) (a : Nm) (r : List Nm) (v : ByteArray) : (nmCells (d ++ a :: r)).set (d.length * 4 + 2) (.string v) = nmCells (d ++ { a with spc := v } :: r) := by
  rw [nmCells_app, nmCells_app, List.set_append]
  rw [if_neg (by rw [nmCells_len]; omega), nmCells_len, Nat.add_sub_cancel_left]
  rfl
theorem nd_spc {W : World} {B nb : Nat} {n : Nd} {dv av : Value} (h : NdBox W B nb n dv av) (v : ByteArray) : NdBox (W.setCell ⟨nb, 3, none⟩ (.string v)) B nb { n with name := { n.name with spc := v } } dv av := by
  have hk : ∀ k, k ≠ nb → (W.setCell ⟨nb, 3, none⟩ (.string v)).heap[k]? = W.heap[k]? := fun k hk => Below.heap_setCell W ⟨nb, 3, none⟩ _ k hk
  refine ⟨?_, own_keep h.decls (fun k hkk => hk k ?_), own_keep h.attrs (fun k hkk => hk k ?_)⟩
  · rw [heap_setCell_same W nb 3 _ _ _ h.box]; rfl
  · obtain ⟨cs, hc⟩ := own_type h.decls hkk
    exact type_ne hc h.box (by decide)
  · obtain ⟨cs, hc⟩ := own_type h.attrs hkk
    exact type_ne hc h.box (by decide)
theorem nd_attr {W : World} {B nb : Nat} {n : Nd} {dv : Value} {g ac : Nat} {d r : List Nm} {a : Nm} (hn : n.attrs = d ++ a :: r) (h : NdBox W B nb n dv (.slice (some ⟨g, 0, none⟩) n.attrs.length ac)) (v : ByteArray) : NdBox (W.setCell ⟨g, d.length * 4 + 2, none⟩ (.string v)) B nb { n with attrs := d ++ { a with spc := v } :: r } dv (.slice (some ⟨g, 0, none⟩) n.attrs.length ac) := by
  have hk : ∀ k, k ≠ g → (W.setCell ⟨g, d.length * 4 + 2, none⟩ (.string v)).heap[k]? = W.heap[k]? := fun k hk => Below.heap_setCell W ⟨g, d.length * 4 + 2, none⟩ _ k hk
  obtain ⟨cs, hc⟩ := own_type h.attrs rfl
  refine ⟨(hk nb (fun e => type_ne h.box hc (by decide) e)).trans h.box, own_keep h.decls (fun k hkk => hk k ?_), ?_⟩
  · obtain ⟨cs', hc'⟩ := own_type h.decls hkk
    exact type_ne hc' hc (by decide)
  · have := (h.attrs.stored (d.length * 4 + 2) (.string v)).1
    have e : (nmCells n.attrs).set (d.length * 4 + 2) (.string v) = nmCells (d ++ { a with spc := v } :: r) := by rw [hn, nm_set]
    rw [e] at this
    have e2 : (d ++ { a with spc := v } :: r).length = n.attrs.length := by rw [hn]; simp
    show (W.setCell _ _).ownsRow B _ 4 _ (d ++ { a with spc := v } :: r).length (nmCells (d ++ { a with spc := v } :: r))
    rw [e2]
    exact this
set_option maxRecDepth 100000 in
set_option maxHeartbeats 4000000 in
theorem place_any (w : World) (B sb nb : Nat) (st : List Scp) (ov : Value) (mbs : List Nat) (hS : ScAt w B sb st ov mbs) (hst : st.length ≤ 1000) (n : Nd) (dv av : Value) (hN : NdBox w B nb n dv av) (hz : n.name.pre.size ≤ 1048576) (hza : ∀ a ∈ n.attrs, a.pre.size ≤ 1048576) (hla : n.attrs.length ≤ 1000) :
    Calls Tryd.prog 46 #[.pointer (some ⟨sb, 0, none⟩), .pointer (some ⟨nb, 0, none⟩)] w (PlSays w B sb nb st ov mbs n dv av) := by
  have HS := mkHidT hS
  have HN := mkHidT hN
  have HZA := mkHidT hza
  have hsp := spaceOf_any w B sb st ov mbs hS hst n.name.pre hz
  obtain ⟨ao, ac, rfl, hao⟩ := row_sl hN.attrs
  obtain ⟨e0, e1, e2, e3, e4, e5, e6, e7, e8⟩ := eight_cells hN.box
  unfold PlSays
  cases hv : spaceZ (st.map (·.2)) n.name.pre with
  | none =>
    have hpl : plZ (st.map (·.2)) n = none := by unfold plZ; rw [hv]
    rw [hpl]
    rw [hv] at hsp
    simp only [spR] at hsp
    clear hS hN hza hv hpl
    go_enter Tryd.func46, Tryd.ntmps46
    go_wp2_with fail
    refine hsp.mono ?_
    rintro e w1 ⟨rfl, hb1⟩
    go_wp2
    go_ret
    exact ⟨rfl, Kp.below hb1 _⟩
  | some v =>
    rw [hv] at hsp
    simp only [spR] at hsp
    have HV := mkHidT hv
    obtain ⟨R, hR⟩ : ∃ R, plZ (st.map (·.2)) n = R := ⟨_, rfl⟩
    rw [hR]
    have HRR := mkHidT hR
    clear hS hN hza hv hR
    go_enter Tryd.func46, Tryd.ntmps46
    go_wp2_with fail
    refine hsp.mono ?_
    rintro e w1 ⟨rfl, hb1⟩
    have N1 := mkHidT (nd_below HN.out hb1)
    have S1 := mkHidT (HS.out.below hb1)
    have K1 := mkHidT (Kp.below hb1 (nb :: blk (.slice ao n.attrs.length ac)))
    obtain ⟨f0, f1, f2, f3, f4, f5, f6, f7, f8⟩ := eight_cells N1.out.box
    clear hb1 hsp e0 e1 e2 e3 e4 e5 e6 e7 e8
    have HSL := mkHidT hst
    have P1 : Hid (PlF w (w1.setCell ⟨nb, 3, none⟩ (.string v)) B sb nb st ov mbs n dv (.slice ao n.attrs.length ac) v [] 0) := mkHidT ⟨S1.out.kept (Kp.set (Kp.refl w1 _) (Or.inr List.mem_cons_self) 3 _) (nd_ty N1.out), nd_spc N1.out v, K1.out.set (Or.inr List.mem_cons_self) 3 _, rfl⟩
    go_wp2_with fail
    go_loopw [31] (fun iv wr => ∃ (k : Nat) (d : List Nm), k ≤ n.attrs.length ∧ iv = .int .i64 k ∧ placeA (st.map (·.2)) (n.attrs.take k) = some d ∧ PlF w wr B sb nb st ov mbs n dv (.slice ao n.attrs.length ac) v d k) (fun iv _ => n.attrs.length - (intOf iv).toNat)
    case atStart => exact ⟨0, [], Nat.zero_le _, rfl, rfl, P1.out⟩
    case round =>
      obtain ⟨k, d, hk, rfl, hd, hP⟩ := hrel
      have HP := mkHidT hP
      have HD := mkHidT hd
      clear hP hd P1 f0 f1 f2 f3 f4 f5 f6 f7 f8
      obtain ⟨f0, f1, f2, f3, f4, f5, f6, f7, f8⟩ := eight_cells HP.out.nd.box
      by_cases hlt : k < n.attrs.length
      · obtain ⟨g, rfl⟩ := hao (by omega)
        have hdrop : n.attrs.drop k = (n.attrs[k]'hlt) :: n.attrs.drop (k + 1) := List.drop_eq_getElem_cons hlt
        have hst := place_step hlt HD.out
        have hpz := HZA.out _ (List.getElem_mem hlt)
        obtain ⟨A, hA⟩ : ∃ A, n.attrs[k]'hlt = A := ⟨_, rfl⟩
        rw [hA] at hdrop hst hpz
        have hall : (d ++ n.attrs.drop k).length = n.attrs.length := by rw [List.length_append, HP.out.len, List.length_drop]; omega
        have hjl : k < (d ++ n.attrs.drop k).length := by omega
        have hget : (d ++ n.attrs.drop k)[k]'hjl = A := by
          rw [List.getElem_append_right (by rw [HP.out.len]; omega)]
          have : k - d.length = 0 := by rw [HP.out.len]; omega
          simp only [this, hdrop]; rfl
        have hrw : wr.ownsRow B 48 4 (.slice (some ⟨g, 0, none⟩) n.attrs.length ac) n.attrs.length (nmCells (d ++ n.attrs.drop k)) := by
          have := HP.out.nd.attrs
          simp only [hall] at this
          exact this
        obtain ⟨t0, t1, t2, t3⟩ := nmCells_at (d ++ n.attrs.drop k) k hjl
        rw [hget] at t0 t1 t2 t3
        have c0 : wr.cell? ⟨g, k * 4, none⟩ = some (.string A.pre) := by rw [hrw.cellAt _ (by omega)]; exact t0
        have c1 : wr.cell? ⟨g, k * 4 + 1, none⟩ = some (.string A.loc) := by rw [hrw.cellAt _ (by omega)]; exact t1
        have c2 : wr.cell? ⟨g, k * 4 + 2, none⟩ = some (.string A.spc) := by rw [hrw.cellAt _ (by omega)]; exact t2
        have c3 : wr.cell? ⟨g, k * 4 + 3, none⟩ = some (.string A.val) := by rw [hrw.cellAt _ (by omega)]; exact t3
        have HST := mkHidT hst
        have HDR := mkHidT hdrop
        obtain ⟨W1, hW1⟩ : ∃ W1, wr.alloc (.cells #[.string A.pre, .string A.loc, .string A.spc, .string A.val] 48) = W1 := ⟨_, rfl⟩
        have hb1 : Below wr.heap.size wr W1 := by rw [← hW1]; exact (Below.refl _ _).alloc (Nat.le_refl _) _
        have X1 := four_cells (show W1.heap[wr.heap.size]? = some (.cells #[.string A.pre, .string A.loc, .string A.spc, .string A.val] 48) by rw [← hW1]; exact heap_alloc_new _ _)
        obtain ⟨x0, x1, x2, x3⟩ := X1
        have Q1 : Hid (PlF w W1 B sb nb st ov mbs n dv (.slice (some ⟨g, 0, none⟩) n.attrs.length ac) v d k) := mkHidT ⟨HP.out.sc.below hb1, nd_below HP.out.nd hb1, HP.out.kp.on hb1, HP.out.len⟩
        clear hdrop hst hA hget hrw t0 t1 t2 t3 hb1
        by_cases ae : A.pre.toList = []
        · have ae' : A.pre.toList.isEmpty = true := by rw [ae]; rfl
          have HN2 : Hid (placeA (st.map (·.2)) (n.attrs.take (k + 1)) = some (d ++ [A])) := mkHidT (by rw [HST.out, same_nil, decide_eq_true ae, if_pos rfl])
          have Q2 : Hid (PlF w W1 B sb nb st ov mbs n dv (.slice (some ⟨g, 0, none⟩) n.attrs.length ac) v (d ++ [A]) (k + 1)) := mkHidT ⟨Q1.out.sc, by
            have := Q1.out.nd
            rw [HDR.out] at this
            rw [List.append_assoc]
            exact this, Q1.out.kp, by rw [List.length_append, Q1.out.len]; rfl⟩
          go_wp2
          go_roundw
          case rel => exact ⟨k + 1, d ++ [A], by omega, by go_num, HN2.out, Q2.out⟩
          case measure => simp [intOf]; omega
        · have ae' : A.pre.toList.isEmpty = false := by rw [List.isEmpty_eq_false_iff]; exact ae
          have hsp := spaceOf_any W1 B sb st ov mbs Q1.out.sc HSL.out A.pre hpz
          cases hu : spaceZ (st.map (·.2)) A.pre with
          | none =>
            have hnone : plZ (st.map (·.2)) n = none := by
              unfold plZ
              rw [HV.out]
              simp only
              rw [place_no (k := k + 1) (by rw [HST.out, same_nil, decide_eq_false ae, if_neg (by simp), hu]; rfl)]
              rfl
            obtain rfl : R = none := HRR.out.symm.trans hnone
            rw [hu] at hsp
            simp only [spR] at hsp
            clear hu hnone
            go_wp2_with fail
            refine hsp.mono ?_
            rintro e w2 ⟨rfl, hb2⟩
            have K2 := mkHidT (Q1.out.kp.on hb2)
            clear hb2 hsp
            go_wp2
            go_ret
            exact ⟨rfl, K2.out⟩
          | some u =>
            have HN2 : Hid (placeA (st.map (·.2)) (n.attrs.take (k + 1)) = some (d ++ [{ A with spc := u }])) := mkHidT (by rw [HST.out, same_nil, decide_eq_false ae, if_neg (by simp), hu]; rfl)
            rw [hu] at hsp
            simp only [spR] at hsp
            clear hu
            go_wp2_with fail
            refine hsp.mono ?_
            rintro e w2 ⟨rfl, hb2⟩
            have Q2 : Hid (PlF w w2 B sb nb st ov mbs n dv (.slice (some ⟨g, 0, none⟩) n.attrs.length ac) v d k) := mkHidT ⟨Q1.out.sc.below hb2, nd_below Q1.out.nd hb2, Q1.out.kp.on hb2, Q1.out.len⟩
            obtain ⟨y0, y1, y2, y3, y4, y5, y6, y7, y8⟩ := eight_cells Q2.out.nd.box
            have hbnd : (d ++ n.attrs.drop k).length = n.attrs.length := hall
            have hrw2 : w2.ownsRow B 48 4 (.slice (some ⟨g, 0, none⟩) n.attrs.length ac) n.attrs.length (nmCells (d ++ n.attrs.drop k)) := by
              have := Q2.out.nd.attrs
              simp only [hall] at this
              exact this
            have hfz := hrw2.frozenAt (k * 4 + 2)
            have hcx : w2.cell? ⟨g, k * 4 + 2, none⟩ = some (.string A.spc) := by
              have e1 := cell_keepS (hb2.block _ (block_lt (show W1.cell? ⟨g, k * 4 + 2, none⟩ = some (.string A.spc) from ?_))) (show W1.cell? ⟨g, k * 4 + 2, none⟩ = some (.string A.spc) from ?_)
              · exact e1
              all_goals
                rw [← hW1]
                exact cell_keepS (heap_alloc_old wr _ (block_lt c2)) c2
            have hnd2 : NdBox w2 B nb { n with name := { n.name with spc := v }, attrs := d ++ A :: n.attrs.drop (k + 1) } dv (.slice (some ⟨g, 0, none⟩) n.attrs.length ac) := by
              have := Q2.out.nd
              rw [HDR.out] at this
              exact this
            have hal2 : (d ++ A :: n.attrs.drop (k + 1)).length = n.attrs.length := by rw [← HDR.out]; exact hall
            have hset := nd_attr (n := { n with name := { n.name with spc := v }, attrs := d ++ A :: n.attrs.drop (k + 1) }) (d := d) (a := A) (r := n.attrs.drop (k + 1)) rfl (by simp only [hal2]; exact hnd2) u
            simp only [hal2, Q2.out.len] at hset
            have hkset : Kp w (w2.setCell ⟨g, k * 4 + 2, none⟩ (.string u)) (nb :: blk (.slice (some ⟨g, 0, none⟩) n.attrs.length ac)) := Q2.out.kp.set (Or.inr (List.mem_cons_of_mem _ (by unfold blk; simp [Value.ownBlock]))) _ _
            have Q3 : Hid (PlF w (w2.setCell ⟨g, k * 4 + 2, none⟩ (.string u)) B sb nb st ov mbs n dv (.slice (some ⟨g, 0, none⟩) n.attrs.length ac) v (d ++ [{ A with spc := u }]) (k + 1)) := mkHidT ⟨Q2.out.sc.kept (Kp.set (Kp.refl w2 _) (Or.inr (List.mem_cons_of_mem nb (show g ∈ blk (.slice (some ⟨g, 0, none⟩) n.attrs.length ac) by unfold blk; simp [Value.ownBlock]))) _ _) (nd_ty Q2.out.nd), by
              rw [List.append_assoc]
              exact hset, hkset, by rw [List.length_append, Q2.out.len]; rfl⟩
            clear hb2 hsp hrw2 hnd2 hset hkset hal2 hbnd
            go_wp2
            go_roundw
            case rel => exact ⟨k + 1, _, by omega, by go_num, HN2.out, Q3.out⟩
            case measure => simp [intOf]; omega
      · have htk : n.attrs.take k = n.attrs := List.take_of_length_le (by omega)
        have hdr : n.attrs.drop k = [] := List.drop_eq_nil_of_le (by omega)
        have hD := HD.out
        rw [htk] at hD
        have hsome : plZ (st.map (·.2)) n = some { n with name := { n.name with spc := v }, attrs := d } := by
          unfold plZ
          rw [HV.out]
          simp only
          rw [hD]; rfl
        obtain rfl := HRR.out.symm.trans hsome
        have hnd := HP.out.nd
        rw [hdr, List.append_nil] at hnd
        have HND := mkHidT hnd
        clear hnd hsome hD htk hdr
        go_wp2
        go_ret
        exact ⟨rfl, HP.out.sc, HND.out, HP.out.kp⟩
end Go.Proofs.YtlfcmlcpdpkibaaDoor

namespace Go.Proofs.YtlfcmlcpdpkibaaDoor
open Go.RowKit Plain1 Plain2 Strs Strs2 Lists Bytes Plain3 Plain5 Plain6 Plain9 Plain10 Plain11 Plain12 PlainS PlainR PlainN Ents
set_option linter.unusedVariables false

/-- What is read of the package's variables. -/
structure EnvS (W : World) (m : Int) : Prop where
  st : ∃ t fr, W.heap[1]? = some (.cells startCells t fr)
  pt : ∃ t fr, W.heap[2]? = some (.cells partCells t fr)
  mx : W.cell? ⟨0, 0, none⟩ = some (.int .i64 m)
theorem EnvS.below {W W' : World} {m : Int} (h : EnvS W m) (hb : Below W.heap.size W W') : EnvS W' m := by
  obtain ⟨t, fr, h1⟩ := h.st
  obtain ⟨tp, frp, h2⟩ := h.pt
  exact ⟨⟨t, fr, (hb.block _ (Array.getElem?_eq_some_iff.1 h1).1).trans h1⟩, ⟨tp, frp, (hb.block _ (Array.getElem?_eq_some_iff.1 h2).1).trans h2⟩, cell_keepS (hb.block _ (block_lt h.mx)) h.mx⟩
/-- The blocks of the variables lie below a place. -/
theorem EnvS.kept {w W W' : World} {m : Int} (h0 : EnvS w m) (h : EnvS W m) {bs : List Nat} (hk : Kp W W' bs) (hb : ∀ b ∈ bs, w.heap.size ≤ b) : EnvS W' m := by
  obtain ⟨t0, fr0, h01⟩ := h0.st
  obtain ⟨tp0, frp0, h02⟩ := h0.pt
  obtain ⟨t, fr, h1⟩ := h.st
  obtain ⟨tp, frp, h2⟩ := h.pt
  have g1 := (Array.getElem?_eq_some_iff.1 h01).1
  have g2 := (Array.getElem?_eq_some_iff.1 h02).1
  have g3 := block_lt h0.mx
  have k : ∀ {j : Nat}, j < w.heap.size → j ∉ bs := fun hj hm => by have := hb _ hm; omega
  exact ⟨⟨t, fr, (hk.block _ (Array.getElem?_eq_some_iff.1 h1).1 (k g1)).trans h1⟩, ⟨tp, frp, (hk.block _ (Array.getElem?_eq_some_iff.1 h2).1 (k g2)).trans h2⟩, cell_keepS (hk.block _ (block_lt h.mx) (k g3)) h.mx⟩
theorem heap_setCell_ne {W : World} {b j k : Nat} (u : Value) (h : k ≠ b) : (W.setCell ⟨b, j, none⟩ u).heap[k]? = W.heap[k]? := Below.heap_setCell W ⟨b, j, none⟩ u k h
theorem one_cell {W : World} {k : Nat} {a : Value} {t : TypeId} (h : W.heap[k]? = some (.cells #[a] t)) : W.cell? ⟨k, 0, none⟩ = some a ∧ W.frozen? ⟨k, 0, none⟩ = false := by simp [World.cell?, World.frozen?, h]
theorem three_cells {W : World} {k : Nat} {a b c : Value} {t : TypeId} (h : W.heap[k]? = some (.cells #[a, b, c] t)) : W.cell? ⟨k, 0, none⟩ = some a ∧ W.cell? ⟨k, 1, none⟩ = some b ∧ W.cell? ⟨k, 2, none⟩ = some c ∧ W.frozen? ⟨k, 0, none⟩ = false ∧ W.frozen? ⟨k, 1, none⟩ = false ∧ W.frozen? ⟨k, 2, none⟩ = false := by simp [World.cell?, World.frozen?, h]
set_option maxRecDepth 100000 in
set_option maxHeartbeats 4000000 in
theorem split_any (w : World) (qb : Nat) (wr0 : Bool) (nm : ByteArray) (hnm : nm.size ≤ 1048576) (m : Int) (hE : EnvS w m) (hq : w.heap[qb]? = some (.cells #[.bool wr0] 87)) :
    Calls Tryd.prog 43 #[.pointer (some ⟨qb, 0, none⟩), .string nm] w fun e w' => e = .returned (.agg #[.string (splOut nm).1, .string (splOut nm).2.1, .int .i64 (splOut nm).2.2]) ∧ w'.heap[qb]? = some (.cells #[.bool (wr0 || decide ((splOut nm).2.2 ≠ 0))] 87) ∧ Kp w w' [qb] := by
  obtain ⟨t, fr, h1⟩ := hE.st
  obtain ⟨tp, frp, h2⟩ := hE.pt
  obtain ⟨A, hA⟩ : ∃ A, w.alloc (.cells #[.string ⟨#[]⟩, .string ⟨#[]⟩, .int .i64 0] 101) = A := ⟨_, rfl⟩
  have hbA : Below w.heap.size w A := by rw [← hA]; exact (Below.refl _ _).alloc (Nat.le_refl _) _
  have hEA := hE.below hbA
  obtain ⟨t', fr', h1'⟩ := hEA.st
  obtain ⟨tp', frp', h2'⟩ := hEA.pt
  have hs := implSplit_any nm A hnm t' fr' h1' tp' frp' h2' m hEA.mx
  obtain ⟨Z, hZ⟩ : ∃ Z, splOut nm = Z := ⟨_, rfl⟩
  rw [hZ] at hs ⊢
  have HQ := mkHidT hq
  have HBA := mkHidT hbA
  clear h1 h2 h1' h2' hE hEA hbA
  go_enter Tryd.func43, Tryd.ntmps43
  go_wp2_with fail
  refine hs.mono ?_
  rintro e w2 ⟨rfl, hb2⟩
  have hr2 : w2.heap[w.heap.size]? = some (.cells #[.string ⟨#[]⟩, .string ⟨#[]⟩, .int .i64 0] 101) := (hb2.block _ (by rw [← hA]; simp)).trans (by rw [← hA]; exact heap_alloc_new _ _)
  have hB2 : Below w.heap.size w w2 := HBA.out.trans (hb2.mono HBA.out.size)
  have hq2 : w2.heap[qb]? = some (.cells #[.bool wr0] 87) := (hB2.block _ (Array.getElem?_eq_some_iff.1 HQ.out).1).trans HQ.out
  obtain ⟨W3, hW3⟩ : ∃ W3, w2.alloc (.cells #[.string Z.1, .string Z.2.1, .int .i64 Z.2.2] 101) = W3 := ⟨_, rfl⟩
  have hb3 : Below w2.heap.size w2 W3 := by rw [← hW3]; exact (Below.refl _ _).alloc (Nat.le_refl _) _
  have hr3 := (hb3.block _ (Array.getElem?_eq_some_iff.1 hr2).1).trans hr2
  have hq3 := (hb3.block _ (Array.getElem?_eq_some_iff.1 hq2).1).trans hq2
  have hv3 : W3.heap[w2.heap.size]? = some (.cells #[.string Z.1, .string Z.2.1, .int .i64 Z.2.2] 101) := by rw [← hW3]; exact heap_alloc_new _ _
  have hB3 : Below w.heap.size w W3 := hB2.trans (hb3.mono hB2.size)
  have HB3 := mkHidT hB3
  have HQ3 := mkHidT hq3
  obtain ⟨r0, r1, r2, g0, g1, g2⟩ := three_cells hr3
  obtain ⟨v0, v1, v2, _, _, _⟩ := three_cells hv3
  obtain ⟨q0, q1⟩ := one_cell hq3
  have hqr : qb ≠ w.heap.size := by have := (Array.getElem?_eq_some_iff.1 hq).1; omega
  have hrv : w.heap.size ≠ w2.heap.size := by have := (Array.getElem?_eq_some_iff.1 hr2).1; omega
  have HR3 := mkHidT hr3
  have HV3 := mkHidT hv3
  have hqv : qb ≠ w2.heap.size := by have := (Array.getElem?_eq_some_iff.1 hq2).1; omega
  clear hs hb2 hr2 hq2 hb3 hr3 hq3 hv3 hB2 hB3 hA
  by_cases hc : Z.2.2 = 0
  · have hc' : (Z.2.2 != 0) = false := by simp [hc]
    have HC := mkHidT hc
    clear hc
    go_wp2
    refine bodyPost_ret (v := .agg #[.string Z.1, .string Z.2.1, .int .i64 Z.2.2]) (by simp [results, Tryd.results43, go_sem, r0, r1, r2]) rfl ⟨rfl, ?_, ?_⟩
    · rw [heap_setCell_ne _ hqr, heap_setCell_ne _ hqr, heap_setCell_ne _ hqr, HQ3.out, HC.out]
      simp
    · exact (((Kp.below HB3.out [qb]).set (Or.inl (Nat.le_refl _)) _ _).set (Or.inl (Nat.le_refl _)) _ _).set (Or.inl (Nat.le_refl _)) _ _
  · have hc' : (Z.2.2 != 0) = true := by simp [hc]
    have HC := mkHidT hc
    obtain ⟨W4, hW4⟩ : ∃ W4, W3.setCell ⟨qb, 0, none⟩ (.bool true) = W4 := ⟨_, rfl⟩
    have hr4 : W4.heap[w.heap.size]? = some (.cells #[.string ⟨#[]⟩, .string ⟨#[]⟩, .int .i64 0] 101) := by rw [← hW4, heap_setCell_ne _ hqr.symm]; exact HR3.out
    have hv4 : W4.heap[w2.heap.size]? = some (.cells #[.string Z.1, .string Z.2.1, .int .i64 Z.2.2] 101) := by rw [← hW4, heap_setCell_ne _ hqv.symm]; exact HV3.out
    have HQ4 := mkHidT (show W4.heap[qb]? = some (.cells #[.bool true] 87) by rw [← hW4, heap_setCell_same _ qb 0 _ _ _ HQ3.out]; rfl)
    have HK4 := mkHidT (show Kp w W4 [qb] by rw [← hW4]; exact (Kp.below HB3.out [qb]).set (Or.inr List.mem_cons_self) _ _)
    obtain ⟨s0, s1, s2, k0, k1, k2⟩ := three_cells hr4
    obtain ⟨u0, u1, u2, _, _, _⟩ := three_cells hv4
    clear hc hr4 hv4
    go_wp2
    refine bodyPost_ret (v := .agg #[.string Z.1, .string Z.2.1, .int .i64 Z.2.2]) (by simp [results, Tryd.results43, go_sem, s0, s1, s2]) rfl ⟨rfl, ?_, ?_⟩
    · rw [heap_setCell_ne _ hqr, heap_setCell_ne _ hqr, heap_setCell_ne _ hqr, HQ4.out, decide_eq_true HC.out]
      simp
    · exact ((HK4.out.set (Or.inl (Nat.le_refl _)) _ _).set (Or.inl (Nat.le_refl _)) _ _).set (Or.inl (Nat.le_refl _)) _ _
end Go.Proofs.YtlfcmlcpdpkibaaDoor

namespace Go.Proofs.YtlfcmlcpdpkibaaDoor
open Go.RowKit Plain1 Plain2 Strs Strs2 Lists Bytes Plain3 Plain5 Plain6 Plain9 Plain10 Plain11 Plain12 PlainS PlainR PlainN Ents
set_option linter.unusedVariables false

theorem lit_new (w : World) (cs : Array Value) (t : TypeId) : ∀ j u, cs.toList[j]? = some u → (w.alloc (.cells cs t)).cell? ((⟨w.heap.size, 0, none⟩ : Addr).add j) = some u := by
  intro j u h
  have e : (⟨w.heap.size, 0, none⟩ : Addr).add j = ⟨w.heap.size, j, none⟩ := by simp [Addr.add]; exact fun h => h.symm
  rw [e]
  simp only [World.cell?, heap_alloc_new]
  rw [Array.getElem?_toList] at h
  exact h
/-- The variables' blocks are not this one. -/
def FarQ (qb : Nat) : Prop := 1 ≠ qb ∧ 2 ≠ qb ∧ 0 ≠ qb
theorem EnvS.off {W W' : World} {m : Int} (h : EnvS W m) {bs : List Nat} (hk : Kp W W' bs) (hb : ∀ b ∈ bs, FarQ b) : EnvS W' m := by
  obtain ⟨t, fr, h1⟩ := h.st
  obtain ⟨tp, frp, h2⟩ := h.pt
  exact ⟨⟨t, fr, (hk.block _ (Array.getElem?_eq_some_iff.1 h1).1 (fun hm => (hb _ hm).1 rfl)).trans h1⟩, ⟨tp, frp, (hk.block _ (Array.getElem?_eq_some_iff.1 h2).1 (fun hm => (hb _ hm).2.1 rfl)).trans h2⟩, cell_keepS (hk.block _ (block_lt h.mx) (fun hm => (hb _ hm).2.2 rfl)) h.mx⟩
theorem EnvS.far {w : World} {m : Int} (h : EnvS w m) {b : Nat} (hb : w.heap.size ≤ b) : FarQ b := by
  obtain ⟨t, fr, h1⟩ := h.st
  obtain ⟨tp, frp, h2⟩ := h.pt
  have g1 := (Array.getElem?_eq_some_iff.1 h1).1
  have g2 := (Array.getElem?_eq_some_iff.1 h2).1
  have g3 := block_lt h.mx
  exact ⟨fun e => by omega, fun e => by omega, fun e => by omega⟩
def zNdC : Array Value := ndCells zNd (.slice none 0 0) (.slice none 0 0)
/-- A node in the making, the splitter that splits its names, the answer's box. -/
structure UnF (w W : World) (nb rb qb : Nat) (m : Int) (n : Nd) (dv av : Value) (wg : Bool) : Prop where
  nd : NdBox W w.heap.size nb n dv av
  q : W.heap[qb]? = some (.cells #[.bool wg] 87)
  kp : Kp w W [qb]
  env0 : EnvS w m
  res : W.heap[rb]? = some (.cells zNdC 51)
  nr : nb ≠ rb
  n0 : w.heap.size ≤ nb
  r0 : w.heap.size ≤ rb
  far : FarQ qb
  qlt : qb < w.heap.size
theorem UnF.env {w W : World} {nb rb qb : Nat} {m : Int} {n : Nd} {dv av : Value} {wg : Bool} (h : UnF w W nb rb qb m n dv av wg) : EnvS W m := h.env0.off h.kp (fun b hb => by rw [List.mem_singleton] at hb; subst hb; exact h.far)
theorem UnF.below {w W W' : World} {nb rb qb : Nat} {m : Int} {n : Nd} {dv av : Value} {wg : Bool} (h : UnF w W nb rb qb m n dv av wg) (hb : Below W.heap.size W W') : UnF w W' nb rb qb m n dv av wg :=
  ⟨nd_below h.nd hb, (hb.block _ (Array.getElem?_eq_some_iff.1 h.q).1).trans h.q, h.kp.on hb, h.env0, (hb.block _ (Array.getElem?_eq_some_iff.1 h.res).1).trans h.res, h.nr, h.n0, h.r0, h.far, h.qlt⟩
theorem nd_kept {W W' : World} {B nb : Nat} {n : Nd} {dv av : Value} (h : NdBox W B nb n dv av) {bs : List Nat} (hk : Kp W W' bs) (ht : ∀ b ∈ bs, ∃ cs t f, W.heap[b]? = some (.cells cs t f) ∧ t ≠ 51 ∧ t ≠ 62 ∧ t ≠ 48) : NdBox W' B nb n dv av := by
  have hne : ∀ {k : Nat} {c : Array Value} {s : TypeId} {f : Nat × Nat}, W.heap[k]? = some (.cells c s f) → s = 51 ∨ s = 62 ∨ s = 48 → k ∉ bs := by
    intro k c s f hc hs hm
    obtain ⟨cs, t, f', h1, h2, h3, h4⟩ := ht k hm
    rw [hc] at h1
    injection h1 with h1
    injection h1 with _ h1 _
    rcases hs with hs | hs | hs
    · exact h2 (h1.symm.trans hs)
    · exact h3 (h1.symm.trans hs)
    · exact h4 (h1.symm.trans hs)
  refine ⟨(hk.block _ (Array.getElem?_eq_some_iff.1 h.box).1 (hne h.box (Or.inl rfl))).trans h.box, own_keep h.decls (fun k hkk => ?_), own_keep h.attrs (fun k hkk => ?_)⟩
  · obtain ⟨cs, hc⟩ := own_type h.decls hkk
    exact hk.block _ (h.decls.lt k hkk).2 (hne hc (Or.inr (Or.inl rfl)))
  · obtain ⟨cs, hc⟩ := own_type h.attrs hkk
    exact hk.block _ (h.attrs.lt k hkk).2 (hne hc (Or.inr (Or.inr rfl)))
/-- A name was split. -/
theorem UnF.split {w W W' : World} {nb rb qb : Nat} {m : Int} {n : Nd} {dv av : Value} {wg wg' : Bool} (h : UnF w W nb rb qb m n dv av wg) (hk : Kp W W' [qb]) (hq : W'.heap[qb]? = some (.cells #[.bool wg'] 87)) : UnF w W' nb rb qb m n dv av wg' :=
  ⟨nd_kept h.nd hk (fun b hb => by rw [List.mem_singleton] at hb; subst hb; exact ⟨_, _, _, h.q, by decide, by decide, by decide⟩), hq, h.kp.trans hk (fun c hc _ => hc), h.env0,
    (hk.block _ (Array.getElem?_eq_some_iff.1 h.res).1 (fun hm => by rw [List.mem_singleton] at hm; have := h.qlt; have := h.r0; omega)).trans h.res, h.nr, h.n0, h.r0, h.far, h.qlt⟩
theorem grown_kp {W W' : World} {r : Option Nat} (hg : W.grownBy W' r) : Kp W W' r.toList := ⟨hg.os, hg.tape, hg.output, hg.size, fun k hk hn => hg.block k hk (fun e => hn (by rw [Option.mem_toList]; exact e.symm))⟩
theorem set_five {n : Nd} {dv av : Value} (v' : Value) (d : List (ByteArray × ByteArray)) : (ndCells n dv av).setIfInBounds 5 v' = ndCells { n with decls := d } v' av := rfl
theorem set_six {n : Nd} {dv av : Value} (v' : Value) (d : List Nm) : (ndCells n dv av).setIfInBounds 6 v' = ndCells { n with attrs := d } dv v' := rfl
/-- A declaration more. -/
theorem UnF.decl {w W wa : World} {nb rb qb : Nat} {m : Int} {n : Nd} {dv av : Value} {wg : Bool} (h : UnF w W nb rb qb m n dv av wg) (o : Obj) (d : ByteArray × ByteArray) {v' : Value} (ho : wa.ownsRow w.heap.size 62 2 v' (n.decls.length + 1) (acells n.decls ++ [.string d.1, .string d.2])) (hg : (W.alloc o).grownBy wa dv.ownBlock) :
    UnF w (wa.setCell ⟨nb, 5, none⟩ v') nb rb qb m { n with decls := n.decls ++ [d] } v' av wg := by
  have h1 := h.below ((Below.refl _ _).alloc (Nat.le_refl _) o)
  have hk := grown_kp hg
  have hty : ∀ b ∈ dv.ownBlock.toList, ∃ cs, (W.alloc o).heap[b]? = some (.cells cs 62 (0, 0)) := fun b hb => own_type h1.nd.decls (by rw [Option.mem_toList] at hb; exact hb)
  have hoff : ∀ {k : Nat} {c : Array Value} {s : TypeId} {f : Nat × Nat}, (W.alloc o).heap[k]? = some (.cells c s f) → s ≠ 62 → wa.heap[k]? = (W.alloc o).heap[k]? := fun hc hs => hk.block _ (Array.getElem?_eq_some_iff.1 hc).1 (fun hm => by
    obtain ⟨cs, h2⟩ := hty _ hm
    exact type_ne hc h2 hs rfl)
  have hbox : wa.heap[nb]? = some (.cells (ndCells n dv av) 51) := (hoff h1.nd.box (by decide)).trans h1.nd.box
  have hset : ∀ k, k ≠ nb → (wa.setCell ⟨nb, 5, none⟩ v').heap[k]? = wa.heap[k]? := fun k hk => Below.heap_setCell wa ⟨nb, 5, none⟩ v' k hk
  have hbase : ∀ b ∈ dv.ownBlock.toList, w.heap.size ≤ b := fun b hb => (h1.nd.decls.lt b (by rw [Option.mem_toList] at hb; exact hb)).1
  have hkw : Kp w wa [qb] := h1.kp.trans hk (fun c hc hlt => by have := hbase c hc; omega)
  refine ⟨⟨?_, ?_, ?_⟩, ?_, ?_, ?_, ?_, h.nr, h.n0, h.r0, h.far, h.qlt⟩
  · rw [heap_setCell_same wa nb 5 _ _ _ hbox, set_five]
  · have : acells (n.decls ++ [d]) = acells n.decls ++ [.string d.1, .string d.2] := acells_snoc _ _
    show (wa.setCell _ _).ownsRow _ _ _ _ (n.decls ++ [d]).length (acells (n.decls ++ [d]))
    rw [this, List.length_append]
    exact own_keep ho (fun k hkk => hset k (by
      obtain ⟨cs, hc⟩ := own_type ho hkk
      exact type_ne hc hbox (by decide)))
  · refine own_keep h1.nd.attrs (fun k hkk => ?_)
    obtain ⟨cs, hc⟩ := own_type h1.nd.attrs hkk
    rw [hset k (type_ne hc h1.nd.box (by decide)), hoff hc (by decide)]
  · rw [hset qb (type_ne h1.q h1.nd.box (by decide)), hoff h1.q (by decide), h1.q]
  · exact hkw.set (Or.inl h.n0) _ _
  · exact h.env0
  · rw [hset rb h.nr.symm, hoff h1.res (by decide), h1.res]
/-- An attribute more that is no declaration. -/
theorem UnF.attr {w W wa : World} {nb rb qb : Nat} {m : Int} {n : Nd} {dv av : Value} {wg : Bool} (h : UnF w W nb rb qb m n dv av wg) (o : Obj) (d : Nm) {v' : Value} (ho : wa.ownsRow w.heap.size 48 4 v' (n.attrs.length + 1) (nmCells n.attrs ++ nmC d)) (hg : (W.alloc o).grownBy wa av.ownBlock) :
    UnF w (wa.setCell ⟨nb, 6, none⟩ v') nb rb qb m { n with attrs := n.attrs ++ [d] } dv v' wg := by
  have h1 := h.below ((Below.refl _ _).alloc (Nat.le_refl _) o)
  have hk := grown_kp hg
  have hty : ∀ b ∈ av.ownBlock.toList, ∃ cs, (W.alloc o).heap[b]? = some (.cells cs 48 (0, 0)) := fun b hb => own_type h1.nd.attrs (by rw [Option.mem_toList] at hb; exact hb)
  have hoff : ∀ {k : Nat} {c : Array Value} {s : TypeId} {f : Nat × Nat}, (W.alloc o).heap[k]? = some (.cells c s f) → s ≠ 48 → wa.heap[k]? = (W.alloc o).heap[k]? := fun hc hs => hk.block _ (Array.getElem?_eq_some_iff.1 hc).1 (fun hm => by
    obtain ⟨cs, h2⟩ := hty _ hm
    exact type_ne hc h2 hs rfl)
  have hbox : wa.heap[nb]? = some (.cells (ndCells n dv av) 51) := (hoff h1.nd.box (by decide)).trans h1.nd.box
  have hset : ∀ k, k ≠ nb → (wa.setCell ⟨nb, 6, none⟩ v').heap[k]? = wa.heap[k]? := fun k hk => Below.heap_setCell wa ⟨nb, 6, none⟩ v' k hk
  have hbase : ∀ b ∈ av.ownBlock.toList, w.heap.size ≤ b := fun b hb => (h1.nd.attrs.lt b (by rw [Option.mem_toList] at hb; exact hb)).1
  have hkw : Kp w wa [qb] := h1.kp.trans hk (fun c hc hlt => by have := hbase c hc; omega)
  refine ⟨⟨?_, ?_, ?_⟩, ?_, ?_, ?_, ?_, h.nr, h.n0, h.r0, h.far, h.qlt⟩
  · rw [heap_setCell_same wa nb 6 _ _ _ hbox, set_six]
  · refine own_keep h1.nd.decls (fun k hkk => ?_)
    obtain ⟨cs, hc⟩ := own_type h1.nd.decls hkk
    rw [hset k (type_ne hc h1.nd.box (by decide)), hoff hc (by decide)]
  · have : nmCells (n.attrs ++ [d]) = nmCells n.attrs ++ nmC d := by rw [nmCells_app]; simp [nmCells]
    show (wa.setCell _ _).ownsRow _ _ _ _ (n.attrs ++ [d]).length (nmCells (n.attrs ++ [d]))
    rw [this, List.length_append]
    exact own_keep ho (fun k hkk => hset k (by
      obtain ⟨cs, hc⟩ := own_type ho hkk
      exact type_ne hc hbox (by decide)))
  · rw [hset qb (type_ne h1.q h1.nd.box (by decide)), hoff h1.q (by decide), h1.q]
  · exact hkw.set (Or.inl h.n0) _ _
  · exact h.env0
  · rw [hset rb h.nr.symm, hoff h1.res (by decide), h1.res]
/-- Attributes that are handed in lie in no box of a splitter. -/
theorem ents_kept {w W : World} {ao : Option Addr} {l : List (ByteArray × ByteArray)} {qb : Nat} {wg : Bool} {t : TypeId} (h : EntsAt w ao l) (hk : Kp w W [qb]) (hq : w.heap[qb]? = some (.cells #[.bool wg] t)) : EntsAt W ao l := by
  obtain ⟨b, off, h1, h2⟩ := h
  refine ⟨b, off, h1, fun i hi => ?_⟩
  obtain ⟨c1, c2⟩ := h2 i hi
  have hne : b ≠ qb := fun e => by
    subst e
    simp only [World.cell?, hq] at c1
    rcases Nat.eq_zero_or_pos (off + i * 2) with e0 | e0
    · rw [e0] at c1; simp at c1
    · rw [Array.getElem?_eq_none (by simp; omega)] at c1; cases c1
  have hb := hk.block b (block_lt c1) (by simpa using hne)
  exact ⟨cell_keepS hb c1, cell_keepS hb c2⟩
theorem nd_cells {W : World} {k : Nat} {n : Nd} {dv av : Value} {t : TypeId} (hh : W.heap[k]? = some (.cells (ndCells n dv av) t)) : W.cell? ⟨k, 5, none⟩ = some dv ∧ W.cell? ⟨k, 6, none⟩ = some av ∧ W.frozen? ⟨k, 5, none⟩ = false ∧ W.frozen? ⟨k, 6, none⟩ = false := by simp [World.cell?, World.frozen?, hh, ndCells]
theorem UnF.mid5 {w W wa : World} {nb rb qb : Nat} {m : Int} {n : Nd} {dv av : Value} {wg : Bool} (h : UnF w W nb rb qb m n dv av wg) (o : Obj) (hg : (W.alloc o).grownBy wa dv.ownBlock) : wa.cell? ⟨nb, 5, none⟩ = some dv ∧ wa.cell? ⟨nb, 6, none⟩ = some av ∧ wa.frozen? ⟨nb, 5, none⟩ = false ∧ wa.frozen? ⟨nb, 6, none⟩ = false := by
  have h1 := h.below ((Below.refl _ _).alloc (Nat.le_refl _) o)
  refine nd_cells (((grown_kp hg).block _ (Array.getElem?_eq_some_iff.1 h1.nd.box).1 (fun hm => ?_)).trans h1.nd.box)
  obtain ⟨cs, h2⟩ := own_type h1.nd.decls (by rw [Option.mem_toList] at hm; exact hm)
  exact type_ne h1.nd.box h2 (by decide) rfl
theorem UnF.mid6 {w W wa : World} {nb rb qb : Nat} {m : Int} {n : Nd} {dv av : Value} {wg : Bool} (h : UnF w W nb rb qb m n dv av wg) (o : Obj) (hg : (W.alloc o).grownBy wa av.ownBlock) : wa.cell? ⟨nb, 5, none⟩ = some dv ∧ wa.cell? ⟨nb, 6, none⟩ = some av ∧ wa.frozen? ⟨nb, 5, none⟩ = false ∧ wa.frozen? ⟨nb, 6, none⟩ = false := by
  have h1 := h.below ((Below.refl _ _).alloc (Nat.le_refl _) o)
  refine nd_cells (((grown_kp hg).block _ (Array.getElem?_eq_some_iff.1 h1.nd.box).1 (fun hm => ?_)).trans h1.nd.box)
  obtain ⟨cs, h2⟩ := own_type h1.nd.attrs (by rw [Option.mem_toList] at hm; exact hm)
  exact type_ne h1.nd.box h2 (by decide) rfl
end Go.Proofs.YtlfcmlcpdpkibaaDoor

namespace Go.Proofs.YtlfcmlcpdpkibaaDoor
open Go.RowKit Plain1 Plain2 Strs Strs2 Lists Bytes Plain3 Plain5 Plain6 Plain9 Plain10 Plain11 Plain12 PlainS PlainR PlainN Ents
set_option linter.unusedVariables false

theorem infoNamed : (Tryd.prog.info? 48).map (fun i => (i.zero, i.size, i.bytes)) = some (some (.agg #[.string ⟨#[]⟩, .string ⟨#[]⟩, .string ⟨#[]⟩, .string ⟨#[]⟩]), 4, 64) := by kernel_rfl
/-- The node before its names have spaces. -/
def unNd (e : Ev) (k : Nat) : Nd := ⟨e.kind, ⟨(splOut e.name).1, (splOut e.name).2.1, ⟨#[]⟩, ⟨#[]⟩⟩, declsZ (e.attrs.take k), othersZ (e.attrs.take k), ⟨#[]⟩⟩
def unWg (wg : Bool) (e : Ev) (k : Nat) : Bool := wg || (decide ((splOut e.name).2.2 ≠ 0) || (e.attrs.take k).any fun a => decide ((splOut a.1).2.2 ≠ 0))
theorem un_take {e : Ev} {k : Nat} (hk : k < e.attrs.length) : e.attrs.take (k + 1) = e.attrs.take k ++ [e.attrs[k]'hk] := by rw [List.take_add_one, List.getElem?_eq_getElem hk]; rfl
theorem un_decl {e : Ev} {k : Nat} (hk : k < e.attrs.length) {d : ByteArray × ByteArray} (h : partZ (e.attrs[k]'hk) = .inl d) : unNd e (k + 1) = { unNd e k with decls := (unNd e k).decls ++ [d] } := by
  unfold unNd declsZ othersZ
  rw [un_take hk, List.filterMap_append, List.filterMap_append]
  simp [h]
theorem un_attr {e : Ev} {k : Nat} (hk : k < e.attrs.length) {d : Nm} (h : partZ (e.attrs[k]'hk) = .inr d) : unNd e (k + 1) = { unNd e k with attrs := (unNd e k).attrs ++ [d] } := by
  unfold unNd declsZ othersZ
  rw [un_take hk, List.filterMap_append, List.filterMap_append]
  simp [h]
theorem un_wg {e : Ev} {k : Nat} (wg : Bool) (hk : k < e.attrs.length) : unWg wg e (k + 1) = (unWg wg e k || decide ((splOut (e.attrs[k]'hk).1).2.2 ≠ 0)) := by
  unfold unWg
  rw [un_take hk, List.any_append]
  simp only [List.any_cons, List.any_nil, Bool.or_false, Bool.or_assoc]
theorem decls_len (l : List (ByteArray × ByteArray)) : (declsZ l).length ≤ l.length := List.length_filterMap_le _ _
theorem others_len (l : List (ByteArray × ByteArray)) : (othersZ l).length ≤ l.length := List.length_filterMap_le _ _
theorem eight_frozen {W : World} {k : Nat} {t : TypeId} (hh : W.heap[k]? = some (.cells zNdC t)) : W.cell? ⟨k, 0, none⟩ = some (.int .i64 0) ∧ W.cell? ⟨k, 1, none⟩ = some (.string ⟨#[]⟩) ∧ W.cell? ⟨k, 2, none⟩ = some (.string ⟨#[]⟩) ∧ W.cell? ⟨k, 3, none⟩ = some (.string ⟨#[]⟩) ∧ W.cell? ⟨k, 4, none⟩ = some (.string ⟨#[]⟩) ∧ W.cell? ⟨k, 5, none⟩ = some (.slice none 0 0) ∧ W.cell? ⟨k, 6, none⟩ = some (.slice none 0 0) ∧ W.cell? ⟨k, 7, none⟩ = some (.string ⟨#[]⟩) ∧ W.frozen? ⟨k, 0, none⟩ = false ∧ W.frozen? ⟨k, 1, none⟩ = false ∧ W.frozen? ⟨k, 2, none⟩ = false ∧ W.frozen? ⟨k, 3, none⟩ = false ∧ W.frozen? ⟨k, 4, none⟩ = false ∧ W.frozen? ⟨k, 5, none⟩ = false ∧ W.frozen? ⟨k, 6, none⟩ = false ∧ W.frozen? ⟨k, 7, none⟩ = false := by simp [World.cell?, World.frozen?, hh, zNdC, ndCells, zNd, zNm]
theorem own_new {w : World} {base : Nat} {e : TypeId} {size : Nat} {v : Value} {n : Nat} {xs : List Value} (h : w.ownsRow base e size v n xs) {o : Obj} : (w.alloc o).ownsRow base e size v n xs := h.alloc o
def UnSays (w : World) (qb : Nat) (e : Ev) (wg : Bool) (en : Ending) (w' : World) : Prop :=
  ∃ dv av, en = .returned (.agg (ndCells (unNd e e.attrs.length) dv av)) ∧ w'.ownsRow w.heap.size 62 2 dv (declsZ e.attrs).length (acells (declsZ e.attrs)) ∧ w'.ownsRow w.heap.size 48 4 av (othersZ e.attrs).length (nmCells (othersZ e.attrs)) ∧ w'.heap[qb]? = some (.cells #[.bool (wg || wrongZ e)] 87) ∧ Kp w w' [qb]
set_option maxRecDepth 100000 in
set_option maxHeartbeats 8000000 in
theorem unspaced_any (w : World) (qb : Nat) (e : Ev) (ao : Option Addr) (ac : Nat) (wg : Bool) (m : Int) (hE : EnvS w m) (hA : EntsAt w ao e.attrs) (hl : e.attrs.length ≤ 1000) (hnm : e.name.size ≤ 1048576) (hna : ∀ a ∈ e.attrs, a.1.size ≤ 1048576) (hq : w.heap[qb]? = some (.cells #[.bool wg] 87)) (hfar : FarQ qb) :
    Calls Tryd.prog 42 #[.agg #[.int .i64 e.kind, .string e.name, .string e.text, .slice ao e.attrs.length ac], .func (.func 43) #[.pointer (some ⟨qb, 0, none⟩)] #[]] w (UnSays w qb e wg) := by
  obtain ⟨i0, hi, hz0, hz1, hz2⟩ := info_parts infoAttr
  obtain ⟨j0, hj, hy0, hy1, hy2⟩ := info_parts infoNamed
  have hqlt := (Array.getElem?_eq_some_iff.1 hq).1
  obtain ⟨W2, hW2⟩ : ∃ W2, (w.alloc (.cells #[.int .i64 e.kind, .string e.name, .string e.text, .slice ao e.attrs.length ac] 42)).alloc (.cells #[.int .i64 0, .string ⟨#[]⟩, .string ⟨#[]⟩, .string ⟨#[]⟩, .string ⟨#[]⟩, .slice none 0 0, .slice none 0 0, .string ⟨#[]⟩] 51) = W2 := ⟨_, rfl⟩
  have hB2 : Below w.heap.size w W2 := by rw [← hW2]; exact ((Below.refl _ _).alloc (Nat.le_refl _) _).alloc (by simp) _
  have hq2 := (hB2.block _ hqlt).trans hq
  have hev : W2.heap[w.heap.size]? = some (.cells #[.int .i64 e.kind, .string e.name, .string e.text, .slice ao e.attrs.length ac] 42) := by rw [← hW2, heap_alloc_old _ _ (by simp)]; exact heap_alloc_new _ _
  have hrs : W2.heap[w.heap.size + 1]? = some (.cells zNdC 51) := by
    rw [← hW2]
    have : (w.alloc (.cells #[.int .i64 e.kind, .string e.name, .string e.text, .slice ao e.attrs.length ac] 42)).heap.size = w.heap.size + 1 := by simp
    rw [← this]; exact heap_alloc_new _ _
  obtain ⟨v0, v1, v2, v3⟩ := four_cells hev
  have HEV := mkHidT hev
  have HRS := mkHidT hrs
  clear hev hrs
  have hs := split_any W2 qb wg e.name hnm m (hE.below hB2) hq2
  have HA := mkHidT hA
  have HE := mkHidT hE
  have HF := mkHidT hfar
  have HNA := mkHidT hna
  have HB2 := mkHidT hB2
  have HQQ := mkHidT hq
  clear hA hE hna hq hq2 hB2 hfar
  go_enter Tryd.func42, Tryd.ntmps42
  go_wp2_with fail
  refine hs.mono ?_
  rintro en w3 ⟨rfl, hq3, hk3⟩
  obtain ⟨Z, hZ⟩ : ∃ Z, splOut e.name = Z := ⟨_, rfl⟩
  rw [hZ] at hq3 ⊢
  have HZ := mkHidT hZ
  have hqe : qb ≠ w.heap.size := by omega
  have hev3 : w3.heap[w.heap.size]? = some (.cells #[.int .i64 e.kind, .string e.name, .string e.text, .slice ao e.attrs.length ac] 42) := (hk3.block _ (Array.getElem?_eq_some_iff.1 HEV.out).1 (by rw [List.mem_singleton]; omega)).trans HEV.out
  have hrs3 : w3.heap[w.heap.size + 1]? = some (.cells zNdC 51) := (hk3.block _ (Array.getElem?_eq_some_iff.1 HRS.out).1 (by rw [List.mem_singleton]; omega)).trans HRS.out
  obtain ⟨W4, hW4⟩ : ∃ W4, w3.alloc (.cells #[.string Z.1, .string Z.2.1, .int .i64 Z.2.2] 101) = W4 := ⟨_, rfl⟩
  have hb4 : Below w3.heap.size w3 W4 := by rw [← hW4]; exact (Below.refl _ _).alloc (Nat.le_refl _) _
  have hev4 := (hb4.block _ (Array.getElem?_eq_some_iff.1 hev3).1).trans hev3
  have hnm4 : W4.heap[w3.heap.size]? = some (.cells #[.string Z.1, .string Z.2.1, .int .i64 Z.2.2] 101) := by rw [← hW4]; exact heap_alloc_new _ _
  obtain ⟨x0, x1, x2, x3⟩ := four_cells hev4
  obtain ⟨y0, y1, y2, _, _, _⟩ := three_cells hnm4
  have K4 : Hid (Kp w W4 [qb]) := mkHidT (((Kp.below HB2.out [qb]).trans hk3 (fun c hc _ => hc)).on hb4)
  have HQ4 := mkHidT ((hb4.block _ (Array.getElem?_eq_some_iff.1 hq3).1).trans hq3)
  have HR4 := mkHidT ((hb4.block _ (Array.getElem?_eq_some_iff.1 hrs3).1).trans hrs3)
  have HV4 := mkHidT hev4
  have hrlt := (Array.getElem?_eq_some_iff.1 HR4.out).1
  obtain ⟨W5, hW5⟩ : ∃ W5, W4.alloc (.cells #[.int .i64 e.kind, .string Z.1, .string Z.2.1, .string ⟨#[]⟩, .string ⟨#[]⟩, .slice none 0 0, .slice none 0 0, .string ⟨#[]⟩] 51) = W5 := ⟨_, rfl⟩
  have hb5 : Below W4.heap.size W4 W5 := by rw [← hW5]; exact (Below.refl _ _).alloc (Nat.le_refl _) _
  have hev5 := (hb5.block _ (Array.getElem?_eq_some_iff.1 hev4).1).trans hev4
  have z3 := (four_cells hev5).2.2.2
  rw [← hW5] at z3
  have hw4 : w.heap.size ≤ W4.heap.size := by omega
  have U5 : Hid (UnF w W5 W4.heap.size (w.heap.size + 1) qb m (unNd e 0) (.slice none 0 0) (.slice none 0 0) (unWg wg e 0)) := mkHidT ⟨⟨by rw [← hW5, heap_alloc_new]; unfold unNd; rw [HZ.out]; rfl, World.ownsRow_nil _ _ _ _, World.ownsRow_nil _ _ _ _⟩,
    by rw [hb5.block _ (Array.getElem?_eq_some_iff.1 HQ4.out).1, HQ4.out]; unfold unWg; rw [HZ.out]; simp, K4.out.on hb5, HE.out, (hb5.block _ hrlt).trans HR4.out, by omega, hw4, by omega, HF.out, hqlt⟩
  have HW5 := mkHidT hW5
  clear hs hq3 hk3 hev3 hrs3 hb4 hev4 hnm4 v0 v1 v2 v3 hZ hb5 hev5 hW5
  go_wp2_with fail
  rw [HW5.out]
  generalize hnb : W4.heap.size = nb at U5 ⊢
  generalize hrb : w.heap.size + 1 = rb at U5 ⊢
  clear HW5 hW4 hW2 x0 x1 x2 x3 y0 y1 y2 z3 HV4 HR4 HQ4 K4 hrlt hw4 hnb hrb HRS HEV HB2
  go_loopw [25] (fun iv wr => ∃ (k : Nat) (dv av : Value), k ≤ e.attrs.length ∧ iv = .int .i64 k ∧ UnF w wr nb rb qb m (unNd e k) dv av (unWg wg e k)) (fun iv _ => e.attrs.length - (intOf iv).toNat)
  case atStart => exact ⟨0, _, _, Nat.zero_le _, rfl, U5.out⟩
  case round =>
    obtain ⟨k, dv, av, hk, rfl, hU⟩ := hrel
    have HU := mkHidT hU
    clear hU U5
    by_cases hlt : k < e.attrs.length
    · obtain ⟨b, off, ha, hc⟩ := ents_kept HA.out HU.out.kp HQQ.out
      obtain rfl := ha (by omega)
      obtain ⟨c1, c2⟩ := hc k hlt
      have hsz := HNA.out _ (List.getElem_mem hlt)
      have hwg := un_wg wg hlt
      have hdc := fun d => un_decl (d := d) hlt
      have hac := fun d => un_attr (d := d) hlt
      obtain ⟨A, hAe⟩ : ∃ A, e.attrs[k]'hlt = A := ⟨_, rfl⟩
      rw [hAe] at c1 c2 hsz hwg
      simp only [hAe] at hdc hac
      obtain ⟨W1, hW1⟩ : ∃ W1, wr.alloc (.cells #[.string A.1, .string A.2] 62) = W1 := ⟨_, rfl⟩
      have hb1 : Below wr.heap.size wr W1 := by rw [← hW1]; exact (Below.refl _ _).alloc (Nat.le_refl _) _
      have U1 := mkHidT (HU.out.below hb1)
      have hx1 : W1.heap[wr.heap.size]? = some (.cells #[.string A.1, .string A.2] 62) := by rw [← hW1]; exact heap_alloc_new _ _
      have HX1 := mkHidT hx1
      obtain ⟨x0, x1⟩ := two_cells hx1
      have hs := split_any W1 qb _ A.1 hsz m U1.out.env U1.out.q
      have HWG := mkHidT hwg
      have HDC := mkHidT hdc
      have HAC := mkHidT hac
      have hqx : wr.heap.size ∉ [qb] := by rw [List.mem_singleton]; have := HU.out.kp.size; omega
      have HQX := mkHidT hqx
      clear hc ha hAe hb1 hx1 hwg hdc hac hqx
      go_wp2_with fail
      refine hs.mono ?_
      rintro en w2 ⟨rfl, hq2, hk2⟩
      obtain ⟨Y, hY⟩ : ∃ Y, splOut A.1 = Y := ⟨_, rfl⟩
      rw [hY] at hq2 ⊢
      have HY := mkHidT hY
      have U2 := mkHidT (U1.out.split hk2 hq2)
      have hx2 := (hk2.block _ (Array.getElem?_eq_some_iff.1 HX1.out).1 HQX.out).trans HX1.out
      obtain ⟨W3, hW3⟩ : ∃ W3, w2.alloc (.cells #[.string Y.1, .string Y.2.1, .int .i64 Y.2.2] 101) = W3 := ⟨_, rfl⟩
      have hb3 : Below w2.heap.size w2 W3 := by rw [← hW3]; exact (Below.refl _ _).alloc (Nat.le_refl _) _
      have U3 := mkHidT (U2.out.below hb3)
      obtain ⟨y0, y1, y2, _, _, _⟩ := three_cells (show W3.heap[w2.heap.size]? = some (.cells #[.string Y.1, .string Y.2.1, .int .i64 Y.2.2] 101) by rw [← hW3]; exact heap_alloc_new _ _)
      obtain ⟨z0, z1⟩ := two_cells ((hb3.block _ (Array.getElem?_eq_some_iff.1 hx2).1).trans hx2)
      obtain ⟨n5, n6, n7, n8⟩ := nd_cells U3.out.nd.box
      have HWG2 : Hid (unWg wg e (k + 1) = (unWg wg e k || decide (Y.2.2 ≠ 0))) := mkHidT (by rw [HWG.out, HY.out])
      obtain ⟨da, dc, rfl, _⟩ := row_sl U3.out.nd.decls
      obtain ⟨aa, ac', rfl, _⟩ := row_sl U3.out.nd.attrs
      have hld : (unNd e k).decls.length ≤ 1000 := by have := decls_len (e.attrs.take k); rw [List.length_take] at this; show (declsZ (e.attrs.take k)).length ≤ 1000; omega
      have hla : (unNd e k).attrs.length ≤ 1000 := by have := others_len (e.attrs.take k); rw [List.length_take] at this; show (othersZ (e.attrs.take k)).length ≤ 1000; omega
      have hmz : ∀ o, w.heap.size ≤ (W3.alloc o).heap.size := by intro o; have := U3.out.kp.size; simp; omega
      clear hs hq2 hk2 hb3 hx2 hY x0 x1 hW1
      cases a1 : (Y.1.toList == [120, 109, 108, 110, 115]) with
      | true =>
        have hpz : partZ A = .inl (Y.2.1, A.2) := by unfold partZ; rw [HY.out]; unfold sameB; rw [l_xmlns, a1, if_pos rfl]
        have HN := mkHidT (HDC.out _ hpz)
        clear hpz
        have hone : ∀ u ∈ [Value.string Y.2.1, .string A.2], u.oneCell' = true := by intro u hu; simp at hu; rcases hu with rfl | rfl <;> rfl
        have hmx : (unNd e k).decls.length + 1 ≤ maxLen := by unfold maxLen; omega
        have hmy : ((unNd e k).decls.length + 1) * 32 ≤ 140737488355328 := by omega
        go_wp2_with (at_builtin; refine wpList_append_own _ rfl _ _ 40 rfl w.heap.size 62 i0 (.agg #[.string ByteArray.empty, .string ByteArray.empty]) 2 32 Tryd.underlying40 hi hz0 hz1 hz2 rfl (by decide) _ _ _ rfl (own_new U3.out.nd.decls) ⟨_, 0, none⟩ 1 1 [.string Y.2.1, .string A.2] rfl rfl (lit_new _ _ _) hone hmx hmy (hmz _) ?_; intro v' wa hown' hgrow _; obtain ⟨xo, xc, rfl, _⟩ := row_sl hown'; obtain ⟨m0, m1, m2, m3⟩ := U3.out.mid5 _ hgrow; have U4 := mkHidT (U3.out.decl _ (Y.2.1, A.2) hown' hgrow); clear hown' hgrow)
        go_roundw
        case rel => exact ⟨k + 1, _, _, by omega, by go_num, by rw [HN.out, HWG2.out]; exact U4.out⟩
        case measure => simp [intOf]; omega
      | false =>
        cases a2 : (A.1.toList == [120, 109, 108, 110, 115]) with
        | true =>
          have hpz : partZ A = .inl (⟨#[]⟩, A.2) := by unfold partZ; rw [HY.out]; unfold sameB; rw [l_xmlns, a1, a2, if_neg (by simp), if_pos rfl]
          have HN := mkHidT (HDC.out _ hpz)
          clear hpz
          have hone : ∀ u ∈ [Value.string ⟨#[]⟩, .string A.2], u.oneCell' = true := by intro u hu; simp at hu; rcases hu with rfl | rfl <;> rfl
          have hmx : (unNd e k).decls.length + 1 ≤ maxLen := by unfold maxLen; omega
          have hmy : ((unNd e k).decls.length + 1) * 32 ≤ 140737488355328 := by omega
          go_wp2_with (at_builtin; refine wpList_append_own _ rfl _ _ 40 rfl w.heap.size 62 i0 (.agg #[.string ByteArray.empty, .string ByteArray.empty]) 2 32 Tryd.underlying40 hi hz0 hz1 hz2 rfl (by decide) _ _ _ rfl (own_new U3.out.nd.decls) ⟨_, 0, none⟩ 1 1 [.string ⟨#[]⟩, .string A.2] rfl rfl (lit_new _ _ _) hone hmx hmy (hmz _) ?_; intro v' wa hown' hgrow _; obtain ⟨xo, xc, rfl, _⟩ := row_sl hown'; obtain ⟨m0, m1, m2, m3⟩ := U3.out.mid5 _ hgrow; have U4 := mkHidT (U3.out.decl _ ((⟨#[]⟩ : ByteArray), A.2) hown' hgrow); clear hown' hgrow)
          go_roundw
          case rel => exact ⟨k + 1, _, _, by omega, by go_num, by rw [HN.out, HWG2.out]; exact U4.out⟩
          case measure => simp [intOf]; omega
        | false =>
          have hpz : partZ A = .inr ⟨Y.1, Y.2.1, ⟨#[]⟩, A.2⟩ := by unfold partZ; rw [HY.out]; unfold sameB; rw [l_xmlns, a1, a2, if_neg (by simp), if_neg (by simp)]
          have HN := mkHidT (HAC.out _ hpz)
          clear hpz
          have hone : ∀ u ∈ [Value.string Y.1, .string Y.2.1, .string ⟨#[]⟩, .string A.2], u.oneCell' = true := by intro u hu; simp at hu; rcases hu with rfl | rfl | rfl | rfl <;> rfl
          have hmx : (unNd e k).attrs.length + 1 ≤ maxLen := by unfold maxLen; omega
          have hmy : ((unNd e k).attrs.length + 1) * 64 ≤ 140737488355328 := by omega
          go_wp2_with (at_builtin; refine wpList_append_own _ rfl _ _ 49 rfl w.heap.size 48 j0 (.agg #[.string ⟨#[]⟩, .string ⟨#[]⟩, .string ⟨#[]⟩, .string ⟨#[]⟩]) 4 64 Tryd.underlying49 hj hy0 hy1 hy2 rfl (by decide) _ _ _ rfl (own_new U3.out.nd.attrs) ⟨_, 0, none⟩ 1 1 [.string Y.1, .string Y.2.1, .string ⟨#[]⟩, .string A.2] rfl rfl (lit_new _ _ _) hone hmx hmy (hmz _) ?_; intro v' wa hown' hgrow _; obtain ⟨xo, xc, rfl, _⟩ := row_sl hown'; obtain ⟨m0, m1, m2, m3⟩ := U3.out.mid6 _ hgrow; have U4 := mkHidT (U3.out.attr _ (⟨Y.1, Y.2.1, ⟨#[]⟩, A.2⟩) hown' hgrow); clear hown' hgrow)
          go_roundw
          case rel => exact ⟨k + 1, _, _, by omega, by go_num, by rw [HN.out, HWG2.out]; exact U4.out⟩
          case measure => simp [intOf]; omega
    · have hkk : k = e.attrs.length := by omega
      subst hkk
      obtain ⟨n0, n1, n2, n3, n4, n5, n6, n7, _⟩ := eight_cells HU.out.nd.box
      obtain ⟨r0, r1, r2, r3, r4, r5, r6, r7, f0, f1, f2, f3, f4, f5, f6, f7⟩ := eight_frozen HU.out.res
      obtain ⟨da, dc, rfl, _⟩ := row_sl HU.out.nd.decls
      obtain ⟨aa, ac', rfl, _⟩ := row_sl HU.out.nd.attrs
      have hnr := HU.out.nr
      have hfull : e.attrs.take e.attrs.length = e.attrs := List.take_of_length_le (Nat.le_refl _)
      have HFL := mkHidT hfull
      clear hfull
      go_wp2
      refine bodyPost_ret (v := .agg (ndCells (unNd e e.attrs.length) (.slice da (unNd e e.attrs.length).decls.length dc) (.slice aa (unNd e e.attrs.length).attrs.length ac'))) (by simp [results, Tryd.results42, go_sem, r0, r1, r2, r3, r4, r5, r6, r7, ndCells]) rfl ?_
      refine ⟨_, _, rfl, ?_, ?_, ?_, ?_⟩
      · have h1 := HU.out.nd.decls
        have h2 : (unNd e e.attrs.length).decls = declsZ e.attrs := by unfold unNd; rw [HFL.out]
        rw [h2] at h1 ⊢
        refine own_keep h1 (fun j hj => ?_)
        obtain ⟨cs, hc⟩ := own_type h1 hj
        have hne := type_ne hc HU.out.res (by decide)
        simp only [heap_setCell_ne _ hne]
      · have h1 := HU.out.nd.attrs
        have h2 : (unNd e e.attrs.length).attrs = othersZ e.attrs := by unfold unNd; rw [HFL.out]
        rw [h2] at h1 ⊢
        refine own_keep h1 (fun j hj => ?_)
        obtain ⟨cs, hc⟩ := own_type h1 hj
        have hne := type_ne hc HU.out.res (by decide)
        simp only [heap_setCell_ne _ hne]
      · have hne := type_ne HU.out.q HU.out.res (by decide)
        simp only [heap_setCell_ne _ hne]
        rw [HU.out.q]
        unfold unWg wrongZ
        rw [HFL.out]
      · have hr := HU.out.r0
        exact (((((((HU.out.kp.set (Or.inl hr) _ _).set (Or.inl hr) _ _).set (Or.inl hr) _ _).set (Or.inl hr) _ _).set (Or.inl hr) _ _).set (Or.inl hr) _ _).set (Or.inl hr) _ _).set (Or.inl hr) _ _
end Go.Proofs.YtlfcmlcpdpkibaaDoor
