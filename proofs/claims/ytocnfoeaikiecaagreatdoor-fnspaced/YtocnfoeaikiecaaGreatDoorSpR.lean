import Derived.BigQuiet
import Derived.Deep.DeepAppendWide
import Derived.Test.YtocnfoeaikiecaaGreatDoorPlR
import Derived.Deep.RegionHeld3
import Derived.Test.YtocnfoeaikiecaaGreatDoorNmI
set_option maxRecDepth 100000
set_option maxHeartbeats 8000000
set_option linter.unusedVariables false
namespace Go.Proofs.YtocnfoeaikiecaaGreatDoor
open Go.RowKit Strs Lists Plain9 Plain10 Tryz
theorem set5 {w : World} {g : Nat} {c : Array Value} {t : TypeId} {fr : Nat × Nat} (h : w.heap[g]? = some (.cells c t fr)) (j : Nat) (u : Value) : (w.setCell ⟨g, j, none⟩ u).heap[g]? = some (.cells (c.setIfInBounds j u) t fr) := by
 have hlt : g < w.heap.size := (gLt h)
 have hv := (Array.getElem?_eq_some_iff.1 h).2
 unfold World.setCell
 rw [Array.getElem?_eq_getElem (by simpa using hlt)]
 simp [Array.getElem_modify, hv]
theorem aX9 {w : World} {g j : Nat} (u : Value) : w.grownBy (w.setCell ⟨g, j, none⟩ u) (some g) :=
 ⟨rfl, rfl, rfl, by simp, fun k _ hk => Below.heap_setCell w ⟨g, j, none⟩ u k (fun e => hk (by rw [e]))⟩
theorem aQ0 {p : Prop} (h : p) : Hid p := h
def aQc (l : List (ByteArray × ByteArray)) : List Value := l.flatMap fun a => [.string a.1, .string a.2]
def aKr (w : World) (k : Nat) (kd : Int) (nm tx : ByteArray) (v : Value) : Prop := w.heap[k]? = some (.cells #[.int .i64 kd, .string nm, .string tx, v] 99)
theorem aQ9 {w : World} {k : Nat} {kd : Int} {nm tx : ByteArray} {v : Value} (h : aKr w k kd nm tx v) :
 w.cell? ⟨k, 0, none⟩ = some (.int .i64 kd) ∧ w.cell? ⟨k, 1, none⟩ = some (.string nm) ∧ w.cell? ⟨k, 2, none⟩ = some (.string tx) ∧ w.cell? ⟨k, 3, none⟩ = some v ∧
 w.frozen? ⟨k, 0, none⟩ = false ∧ w.frozen? ⟨k, 1, none⟩ = false ∧ w.frozen? ⟨k, 2, none⟩ = false ∧ w.frozen? ⟨k, 3, none⟩ = false := by
 unfold aKr at h
 simp [World.cell?, World.frozen?, h]
theorem bZ7 {w : World} {k : Nat} {kd : Int} {nm tx : ByteArray} {v : Value} (h : aKr w k kd nm tx v) : k < w.heap.size := (gLt h)
theorem Below.heap_new (w : World) (o : Obj) : (w.alloc o).heap[w.heap.size]? = some o := by
 show (w.heap.push o)[w.heap.size]? = some o
 simp
theorem cZ8 (w : World) : aKr (w.alloc (.cells #[.int .i64 0, .string ByteArray.empty, .string ByteArray.empty, .slice none 0 0] 99)) w.heap.size 0 ByteArray.empty ByteArray.empty (.slice none 0 0) := by
 unfold aKr; exact Below.heap_new _ _
theorem cK9 (w : World) (kd : Int) (nm tx : ByteArray) (v : Value) : aKr (w.alloc (.cells #[.int .i64 kd, .string nm, .string tx, v] 99)) w.heap.size kd nm tx v := by
 unfold aKr; exact Below.heap_new _ _
theorem bZn {w w' : World} {k g : Nat} {kd : Int} {nm tx : ByteArray} {v : Value} (h : aKr w k kd nm tx v) (hg : w.grownBy w' (some g)) (hne : k ≠ g) : aKr w' k kd nm tx v := by
 unfold aKr
 rw [hg.block k (bZ7 h) (fun e => hne (Option.some.inj e))]; exact h
theorem bXm {a b : World} {r : Option Nat} {k j : Nat} (h : a.grownBy b r) (hk : a.heap.size ≤ k) (u : Value) : a.grownBy (b.setCell ⟨k, j, none⟩ u) r :=
 ⟨h.os, h.tape, h.output, by simpa using h.size, fun i hi hr => (Below.heap_setCell b ⟨k, j, none⟩ u i (fun e => by have e' : i = k := e; omega)).trans (h.block i hi hr)⟩
def zTok : Obj := .cells #[.int .i64 0, .string ByteArray.empty, .string ByteArray.empty, .slice none 0 0] 99
theorem bZv {W : World} {k k' j : Nat} (u : Value) (hne : k' ≠ k) : (W.setCell ⟨k, j, none⟩ u).heap[k']? = W.heap[k']? := Below.heap_setCell W ⟨k, j, none⟩ u k' hne
theorem cKh {s : ByteArray} {f p : Nat} (hp : p < s.size) (h : aQ1 s p = 93) : aZf s (f + 1) p = (0, p + 1) := by
 unfold aZf; rw [if_pos hp, if_pos h]
theorem dV6 {s : ByteArray} {f p : Nat} (hp : ¬ p < s.size) : aZf s f p = (1, p) := by
 cases f with
 | zero => rfl
 | succ f => unfold aZf; rw [if_neg hp]
theorem sub_q {s : ByteArray} {f p : Nat} (hp : p < s.size) (h : aQ1 s p = 34) : aZf s (f + 1) p = if upF s (p + 1) [34] = 0 then aZf s f (upP s (p + 1) [34]) else (1, p) := by
 conv => lhs; unfold aZf
 rw [if_pos hp, if_neg (by omega), if_pos h]
theorem sub_a {s : ByteArray} {f p : Nat} (hp : p < s.size) (h : aQ1 s p = 39) : aZf s (f + 1) p = if upF s (p + 1) [39] = 0 then aZf s f (upP s (p + 1) [39]) else (1, p) := by
 conv => lhs; unfold aZf
 rw [if_pos hp, if_neg (by omega), if_neg (by omega), if_pos h]
theorem sub_c {s : ByteArray} {f p : Nat} (hp : p < s.size) (h1 : aQ1 s p ≠ 93) (h2 : aQ1 s p ≠ 34) (h3 : aQ1 s p ≠ 39) (h : aQa s p [60, 33, 45, 45] = true) : aZf s (f + 1) p = if upF s (p + 4) [45, 45, 62] = 0 then aZf s f (upP s (p + 4) [45, 45, 62]) else (1, p) := by
 conv => lhs; unfold aZf
 rw [if_pos hp, if_neg h1, if_neg h2, if_neg h3, if_pos h]
theorem sub_p {s : ByteArray} {f p : Nat} (hp : p < s.size) (h1 : aQ1 s p ≠ 93) (h2 : aQ1 s p ≠ 34) (h3 : aQ1 s p ≠ 39) (h4 : aQa s p [60, 33, 45, 45] = false) (h : aQa s p [60, 63] = true) : aZf s (f + 1) p = if upF s (p + 2) [63, 62] = 0 then aZf s f (upP s (p + 2) [63, 62]) else (1, p) := by
 conv => lhs; unfold aZf
 rw [if_pos hp, if_neg h1, if_neg h2, if_neg h3, if_neg (by rw [h4]; simp), if_pos h]
theorem sub_d {s : ByteArray} {f p : Nat} (hp : p < s.size) (h1 : aQ1 s p ≠ 93) (h2 : aQ1 s p ≠ 34) (h3 : aQ1 s p ≠ 39) (h4 : aQa s p [60, 33, 45, 45] = false) (h5 : aQa s p [60, 63] = false) : aZf s (f + 1) p = aZf s f (p + 1) := by
 conv => lhs; unfold aZf
 rw [if_pos hp, if_neg h1, if_neg h2, if_neg h3, if_neg (by rw [h4]; simp), if_neg (by rw [h5]; simp)]
theorem aY0 (a : ByteArray × ByteArray) (t : List (ByteArray × ByteArray)) : aQc (a :: t) = .string a.1 :: .string a.2 :: aQc t := rfl
theorem aVj (l : List (ByteArray × ByteArray)) (a : ByteArray × ByteArray) : aQc (l ++ [a]) = aQc l ++ [.string a.1, .string a.2] := by
 simp [aQc]
theorem aKa : ∀ (l : List (ByteArray × ByteArray)) (i : Nat) (h : i < l.length), (aQc l)[2 * i]? = some (.string (l[i]'h).1) ∧ (aQc l)[2 * i + 1]? = some (.string (l[i]'h).2)
 | a :: t, 0, h => by rw [aY0]; exact ⟨rfl, rfl⟩
 | a :: t, i + 1, h => by
  have ih := aKa t i (by simpa using h)
  rw [aY0, show 2 * (i + 1) = 2 * i + 1 + 1 by omega]
  simpa using ih
def cZ1 (w : World) (a : Option Addr) (l : List (ByteArray × ByteArray)) : Prop :=
 l = [] ∨ ∃ g : Nat, a = some ⟨g, 0, none⟩ ∧ ∀ i (h : i < l.length), w.cell? ⟨g, i * 2, none⟩ = some (.string (l[i]'h).1) ∧ w.cell? ⟨g, i * 2 + 1, none⟩ = some (.string (l[i]'h).2)
theorem aYl {w : World} {base : Nat} {e : TypeId} {v : Value} {l : List (ByteArray × ByteArray)} (h : w.ownsRow base e 2 v l.length (aQc l)) : ∃ a c, v = .slice a l.length c ∧ cZ1 w a l := by
 rcases aJw h with ⟨rfl, hn⟩ | ⟨g, cap, rfl⟩
 · have hl : l = [] := List.eq_nil_of_length_eq_zero hn
   subst hl
   exact ⟨none, 0, rfl, .inl rfl⟩
 · refine ⟨_, cap, rfl, .inr ⟨g, rfl, fun i hi => ?_⟩⟩
   have hg := aKa l i hi
   rw [Nat.mul_comm] at hg
   exact ⟨by rw [h.cellAt (i * 2) (by omega)]; exact hg.1, by rw [h.cellAt (i * 2 + 1) (by omega)]; exact hg.2⟩
def bYq (l : List (ByteArray × ByteArray)) (n : ByteArray) (k : Nat) : Bool := hasZ (l.take k) n
theorem bK5 {l : List (ByteArray × ByteArray)} {n : ByteArray} {k : Nat} (h : k < l.length) : bYq l n (k + 1) = (bYq l n k || (l[k]'h).1.toList == n.toList) := by
 unfold bYq hasZ
 rw [List.take_succ_eq_append_getElem h, List.any_append]
 simp
theorem cVd {l : List (ByteArray × ByteArray)} {n : ByteArray} {k : Nat} (h : bYq l n k = true) : hasZ l n = true := by
 unfold bYq hasZ at *
 obtain ⟨a, ha, hb⟩ := List.any_eq_true.1 h
 exact List.any_eq_true.2 ⟨a, List.mem_of_mem_take ha, hb⟩
theorem bQ2 : (prog.info? 54).map (fun i => (i.zero, i.size, i.bytes)) = some (some (.agg #[.string ByteArray.empty, .string ByteArray.empty]), 2, 32) := by kernel_rfl
theorem aZl (w : World) (a b : Value) (t : TypeId) : ∀ j u, [a, b][j]? = some u → (w.alloc (.cells #[a, b] t)).cell? ((⟨w.heap.size, 0, none⟩ : Addr).add j) = some u := by
 intro j u hj
 match j, hj with
 | 0, hj => simp at hj; subst hj; simp [Addr.add]
 | 1, hj => simp at hj; subst hj; simp [Addr.add]
 | j + 2, hj => simp at hj
theorem aWy (w : World) (a b : Value) (t : TypeId) (n : Nat) (hn : n = w.heap.size) : ∀ j u, [a, b][j]? = some u → (w.alloc (.cells #[a, b] t)).cell? ((⟨n, 0, none⟩ : Addr).add j) = some u := by
 subst hn; exact aZl w a b t
theorem aKg {w : World} {base size n : Nat} {e : TypeId} {v : Value} {xs : List Value} (h : w.ownsRow base e size v n xs) : ∃ a c, v = .slice a n c := by
 rcases aJw h with ⟨rfl, hn⟩ | ⟨g, cap, rfl⟩
 · subst hn; exact ⟨_, _, rfl⟩
 · exact ⟨_, _, rfl⟩
theorem cWt (s : ByteArray) (p : Nat) (sg : List UInt8) : aQp s p sg = 0 ∨ aQp s p sg = 1 ∨ aQp s p sg = 2 := by
 unfold aQp bXl; split <;> (try split) <;> simp
theorem row1 {W : World} {B b n : Nat} {t : TypeId} {sz : Nat} {v : Value} {cs : List Value} (h : W.ownsRow B t sz v n cs) (hb : b < B) (j : Nat) (u : Value) : (W.setCell ⟨b, j, none⟩ u).ownsRow B t sz v n cs :=
 h.kept (aX9 (g := b) (j := j) u) (.inr fun e => by have := h.lt _ e; omega)
theorem cZn {W : World} {B B' n : Nat} {t : TypeId} {sz : Nat} {v : Value} {cs : List Value} (h : W.ownsRow B t sz v n cs) (hb : B' ≤ B) : W.ownsRow B' t sz v n cs := by
 rcases h with ⟨h1, h2⟩
 refine ⟨h1, ?_⟩
 rcases h2 with h2 | ⟨b, cap, cur, h3, h4, h5⟩
 · exact .inl h2
 · exact .inr ⟨b, cap, cur, h3, by omega, h5⟩
theorem cW2 {W : World} {B n : Nat} {t : TypeId} {sz : Nat} {v : Value} {cs : List Value} (h : W.ownsRow B t sz v n cs) : ∃ ao an ac, v = .slice ao an ac := by
 rcases h.2 with ⟨h0, _⟩ | ⟨g, cap, cur, hv, _⟩
 · exact ⟨_, _, _, h0⟩
 · exact ⟨_, _, _, hv⟩
def dQw (w : World) (a : Nat) (an av : ByteArray) : Prop := w.heap[a]? = some (.cells #[.string an, .string av] 54)
theorem aWe {W : World} {a : Nat} {an av : ByteArray} (h : dQw W a an av) : W.cell? ⟨a, 0, none⟩ = some (.string an) ∧ W.cell? ⟨a, 1, none⟩ = some (.string av) ∧ W.frozen? ⟨a, 0, none⟩ = false ∧ W.frozen? ⟨a, 1, none⟩ = false := by
 unfold dQw at h
 simp [World.cell?, World.frozen?, h]
open Go.RowKit Lists PlainR PlainN Ents
def EvIn (W : World) (a : Option Addr) (evs : List Ev) : Prop :=
 ∃ b off : Nat, (0 < evs.length → a = some ⟨b, off, none⟩) ∧ ∀ (j : Nat) (hj : j < evs.length), W.cell? ⟨b, off + j * 4, none⟩ = some (.int .i64 (evs[j]'hj).kind) ∧ W.cell? ⟨b, off + j * 4 + 1, none⟩ = some (.string (evs[j]'hj).name) ∧ W.cell? ⟨b, off + j * 4 + 2, none⟩ = some (.string (evs[j]'hj).text) ∧ ∃ ao ac, W.cell? ⟨b, off + j * 4 + 3, none⟩ = some (.slice ao (evs[j]'hj).attrs.length ac) ∧ aZ2 W ao (evs[j]'hj).attrs
theorem aQ2 {w w' : World} {b o : Nat} {v : Value} (h : w'.heap[b]? = w.heap[b]?) (hc : w.cell? ⟨b, o, none⟩ = some v) : w'.cell? ⟨b, o, none⟩ = some v := by
 simp only [World.cell?] at hc ⊢
 rw [h]; exact hc
theorem EvIn.below {w wr : World} {a : Option Addr} {evs : List Ev} (h : EvIn w a evs) (hb : Below w.heap.size w wr) : EvIn wr a evs := by
 obtain ⟨b, off, hbb, hc⟩ := h
 refine ⟨b, off, hbb, fun j hj => ?_⟩
 obtain ⟨c0, c1, c2, ao, ac, c3, hE⟩ := hc j hj
 have hk := hb.block _ (aQk c0)
 exact ⟨aQ2 hk c0, aQ2 hk c1, aQ2 hk c2, ao, ac, aQ2 hk c3, hE.grown (Ents.below_grown hb)⟩
theorem aW8 {w : World} {base : Nat} {e : TypeId} {size : Nat} {g n cap : Nat} {xs : List Value} (h : w.ownsRow base e size (.slice (some ⟨g, 0, none⟩) n cap) n xs) {m : Nat} (hm : m ≤ n) : w.ownsRow base e size (.slice (some ⟨g, 0, none⟩) m cap) m (xs.take (m * size)) := by
 obtain ⟨h1, h2⟩ := h
 rcases h2 with ⟨h0, _⟩ | ⟨g', cap', cur, hv, hb, hg, hc, hx, hs, ht⟩
 · cases h0
 · cases hv
   have hms : m * size ≤ n * size := Nat.mul_le_mul_right _ hm
   refine ⟨by rw [List.length_take, h1]; omega, .inr ⟨g, cap, cur, rfl, hb, hg, by omega, hx, hs, ?_⟩⟩
   rw [← ht, List.take_take, Nat.min_eq_left hms]
def strs (l : List ByteArray) : List Value := l.map .string
theorem cY2 : (prog.info? 9).map (fun i => (i.zero, i.size, i.bytes)) = some (some (.string ⟨#[]⟩), 1, 16) := by kernel_rfl
theorem aQr {w : World} {base : Nat} {e : TypeId} {size : Nat} {v : Value} {n : Nat} {xs : List Value} (h : w.ownsRow base e size v n xs) : ∃ ao ac, v = .slice ao n ac ∧ (0 < n → ∃ g, ao = some ⟨g, 0, none⟩) := by
 rcases h.2 with ⟨h0, hn⟩ | ⟨g, cap, cur, hv, _⟩
 · exact ⟨none, 0, by rw [h0, hn], fun h => by omega⟩
 · exact ⟨_, _, hv, fun _ => ⟨g, rfl⟩⟩
theorem aWf (l : List ByteArray) (a : ByteArray) : strs (l ++ [a]) = strs l ++ [.string a] := by unfold strs; simp
theorem bKm (l : List ByteArray) {j : Nat} (hj : j < l.length) : (strs l)[j]? = some (.string (l.getD j ⟨#[]⟩)) := by
 unfold strs
 rw [List.getElem?_map, List.getElem?_eq_getElem hj, List.getD_eq_getElem?_getD, List.getElem?_eq_getElem hj]; rfl
theorem bQp (l : List ByteArray) (m : Nat) : (strs l).take m = strs (l.take m) := by unfold strs; rw [List.map_take]
section
variable {e : Ev} {l : List Ev} {op : List ByteArray} {el : Nat}
theorem bZd (h : e.kind = 1) (h1 : op.length ≠ 30) (h2 : e.attrs.length ≤ 60) : aXr (e :: l) op el = aXr l (op ++ [e.name]) (if op.length = 0 then el + 1 else el) := by
 conv => lhs; unfold aXr
 rw [if_pos h, if_neg (by omega)]
theorem bXf (h : e.kind = 1) (h1 : op.length = 30 ∨ 60 < e.attrs.length) : aXr (e :: l) op el = false := by
 unfold aXr; rw [if_pos h, if_pos h1]
theorem cQz (h : e.kind = 2) (h1 : op.length = 0) : aXr (e :: l) op el = false := by
 unfold aXr; rw [if_neg (by omega), if_pos h, if_pos h1]
theorem bKq (h : e.kind = 2) (h1 : op.length ≠ 0) (h2 : aQx (op.getD (op.length - 1) ⟨#[]⟩) e.name = false) : aXr (e :: l) op el = false := by
 unfold aXr; rw [if_neg (by omega), if_pos h, if_neg h1, if_neg (by rw [h2]; simp)]
theorem cW5 (h : e.kind = 2) (h1 : op.length ≠ 0) (h2 : aQx (op.getD (op.length - 1) ⟨#[]⟩) e.name = true) : aXr (e :: l) op el = aXr l (op.take (op.length - 1)) el := by
 conv => lhs; unfold aXr
 rw [if_neg (by omega), if_pos h, if_neg h1, if_pos h2]
theorem cQy (h : e.kind = 3) (h1 : op.length ≠ 0) : aXr (e :: l) op el = aXr l op el := by
 conv => lhs; unfold aXr
 rw [if_neg (by omega), if_neg (by omega), if_pos h, if_neg h1]
theorem cW3 (h : e.kind = 3) (h1 : op.length = 0) : aXr (e :: l) op el = false := by
 unfold aXr
 rw [if_neg (by omega), if_neg (by omega), if_pos h, if_pos h1]
theorem bQu (h : e.kind = 4 ∨ e.kind = 5) : aXr (e :: l) op el = aXr l op el := by
 conv => lhs; unfold aXr
 rw [if_neg (by omega), if_neg (by omega), if_neg (by omega), if_pos h]
theorem cW6 (h1 : e.kind ≠ 1) (h2 : e.kind ≠ 2) (h3 : e.kind ≠ 3) (h4 : e.kind ≠ 4) (h5 : e.kind ≠ 5) : aXr (e :: l) op el = false := by
 unfold aXr
 rw [if_neg h1, if_neg h2, if_neg h3, if_neg (by omega)]
end
theorem bZl {w wr w2 : World} {o : Obj} {e : TypeId} {size : Nat} {v : Value} {n : Nat} {xs : List Value} (hb : Below w.heap.size w wr) (hown : wr.ownsRow w.heap.size e size v n xs) (hg : (wr.alloc o).grownBy w2 v.ownBlock) : Below w.heap.size w w2 :=
 (hb.alloc hb.size o).grown hg (Nat.le_trans hb.size (by simp)) (fun k hk => (hown.lt k hk).1)
theorem aWs {w : World} {base : Nat} {e : TypeId} {size : Nat} {g n cap : Nat} {xs : List Value} (h : w.ownsRow base e size (.slice (some ⟨g, 0, none⟩) n cap) n xs) : n ≤ cap := by
 rcases h.2 with ⟨h0, _⟩ | ⟨g', cap', cur, hv, _, _, hc, _⟩
 · cases h0
 · cases hv; exact hc
theorem aX0 {W : World} {k : Nat} {a b c d : Value} {t : TypeId} (h : W.heap[k]? = some (.cells #[a, b, c, d] t)) : W.cell? ⟨k, 0, none⟩ = some a ∧ W.cell? ⟨k, 1, none⟩ = some b ∧ W.cell? ⟨k, 2, none⟩ = some c ∧ W.cell? ⟨k, 3, none⟩ = some d := by simp [World.cell?, h]
theorem aV0 {w W : World} (h : Below w.heap.size w W) (n : Nat) : Below w.heap.size w (W.drewN n) := ⟨h.os, h.tape, h.output, h.size, h.block⟩
theorem cZq {w : World} {base : Nat} {e : TypeId} {size : Nat} {v : Value} {n : Nat} {xs : List Value} (h : w.ownsRow base e size v n xs) (k : Nat) : (w.drewN k).ownsRow base e size v n xs := h
theorem bWz (w : World) (a : Option Addr) (n c : Nat) (evs : List Ev) (hn : n = evs.length) (hl : evs.length ≤ 400) (hla : ∀ e ∈ evs, e.attrs.length ≤ 1048576) (h : EvIn w a evs) :
 Calls prog 17 #[.slice a n c] w fun e w' => e = .returned (.bool (aXr evs [] 0)) ∧ Below w.heap.size w w' := by
 subst hn
 have HA := aQ0 h
 have HL := aQ0 hla
 obtain ⟨R, hR⟩ := nmE (aXr evs [] 0)
 rw [hR]
 have HR := aQ0 hR
 obtain ⟨i0, hi, hz0, hz1, hz2⟩ := info_parts cY2
 clear h hla hR
 go_enter func17, ntmps17
 go_wp2_with fail
 go_loopw [3, 4, 10] (fun ov ev iv wr => ∃ (k el : Nat) (op : List ByteArray), k ≤ evs.length ∧ iv = .int .i64 k ∧ ev = .int .i64 el ∧ el ≤ k ∧ op.length ≤ 30 ∧ R = aXr (evs.drop k) op el ∧ wr.ownsRow w.heap.size 9 1 ov op.length (strs op) ∧ Below w.heap.size w wr) (fun _ _ iv _ => evs.length - (intOf iv).toNat)
 case atStart => exact ⟨0, 0, [], Nat.zero_le _, rfl, rfl, Nat.le_refl _, by decide, HR.out.symm, World.ownsRow_nil _ _ _ _, Below.refl _ _⟩
 case round =>
  obtain ⟨k, el, op, hk, rfl, rfl, hel, hop, hrow, hown, hb⟩ := hrel
  obtain ⟨ao, ac, rfl, hao⟩ := aQr hown
  have HB := aQ0 hb
  have HO := aQ0 hown
  clear hb hown
  by_cases hlt : k < evs.length
  · obtain ⟨b, off, ha, hc⟩ := HA.out.below HB.out
    obtain rfl := ha (by omega)
    obtain ⟨c0, c1, c2, bo, bc, c3, hE⟩ := hc k hlt
    have hlt2 := HL.out _ (List.getElem_mem hlt)
    have hdrop : evs.drop k = (evs[k]'hlt) :: evs.drop (k + 1) := List.drop_eq_getElem_cons hlt
    obtain ⟨E, hEe⟩ := nmE (evs[k]'hlt)
    rw [hEe] at c0 c1 c2 c3 hE hlt2 hdrop
    obtain ⟨na, hna⟩ := nmE (E.attrs.length)
    rw [hna] at c3 hlt2
    obtain ⟨kd, hkd⟩ := nmE (E.kind)
    rw [hkd] at c0
    rw [hdrop] at hrow
    have HROW := aQ0 hrow
    have HNA := aQ0 hna
    have HKD := aQ0 hkd
    clear hc ha hEe HA hE HL hrow hdrop hna hkd
    by_cases k1 : kd = 1
    · subst k1
      by_cases h30 : op.length = 30
      · obtain rfl : R = false := by rw [HROW.out]; exact bXf HKD.out (Or.inl h30)
        rw [h30]
        go_wp2
        go_ret
        exact ⟨rfl, HB.out.alloc HB.out.size _⟩
      · by_cases h60 : 60 < na
        · obtain rfl : R = false := by rw [HROW.out]; exact bXf HKD.out (Or.inr (by rw [HNA.out]; exact h60))
          have h60' : 60 < (na : Int) := by omega
          have h30' : ¬ (op.length : Int) = 30 := by omega
          go_wp2
          go_ret
          exact ⟨rfl, HB.out.alloc HB.out.size _⟩
        · have h60' : ¬ 60 < (na : Int) := by omega
          have h30' : ¬ (op.length : Int) = 30 := by omega
          have hst := fun l => bZd (l := l) (op := op) (el := el) HKD.out h30 (by rw [HNA.out]; omega)
          have HST := aQ0 (HROW.out.trans (hst _))
          obtain ⟨W1, hW1⟩ := nmE (wr.alloc (.cells #[.int .i64 1, .string E.name, .string E.text, .slice bo na bc] 37))
          have hb1 : Below wr.heap.size wr W1 := by rw [← hW1]; exact bAl
          have B1 := aQ0 (HB.out.trans (hb1.mono HB.out.size))
          have O1 := aQ0 (show W1.ownsRow w.heap.size 9 1 (.slice ao op.length ac) op.length (strs op) by rw [← hW1]; exact HO.out.alloc _)
          obtain ⟨x0, x1, x2, x3⟩ := aX0 (show W1.heap[wr.heap.size]? = some (.cells #[.int .i64 1, .string E.name, .string E.text, .slice bo na bc] 37) by rw [← hW1]; exact heap_alloc_new _ _)
          have hone : ∀ u ∈ [Value.string E.name], u.oneCell' = true := by intro u hu; simp at hu; subst hu; rfl
          have hmx : op.length + 1 ≤ maxLen := by unfold maxLen; omega
          have hmy : (op.length + 1) * 16 ≤ 140737488355328 := by omega
          have hmz : ∀ o, w.heap.size ≤ (W1.alloc o).heap.size := by intro o; have := B1.out.size; simp; omega
          clear hst hb1
          by_cases h00 : op.length = 0
          · have h00' : (op.length : Int) = 0 := by omega
            rw [h00] at h30'
            have HZ := aQ0 h00
            clear h00
            go_wp2_with (at_builtin; refine wpList_append_own _ rfl _ _ 52 rfl w.heap.size 9 i0 (.string ⟨#[]⟩) 1 16 underlying52 hi hz0 hz1 hz2 rfl (by decide) _ _ _ rfl (O1.out.alloc _) ⟨_, 0, none⟩ 1 1 [.string E.name] rfl rfl (cell_one_new _ _ _) hone hmx hmy (hmz _) ?_; intro v' w2 hown' hgrow _; have B2 := aQ0 (bZl B1.out O1.out hgrow); clear hgrow)
            go_roundw
            case rel => exact ⟨k + 1, el + 1, op ++ [E.name], by omega, by go_num, by go_num, by omega, by rw [List.length_append]; simp; omega, by rw [HST.out, if_pos HZ.out], by rw [aWf, List.length_append]; exact hown', B2.out⟩
            case measure => simp [intOf]; omega
          · have h00' : ¬ op.length = 0 := h00
            have HZ := aQ0 h00
            clear h00
            go_wp2_with (at_builtin; refine wpList_append_own _ rfl _ _ 52 rfl w.heap.size 9 i0 (.string ⟨#[]⟩) 1 16 underlying52 hi hz0 hz1 hz2 rfl (by decide) _ _ _ rfl (O1.out.alloc _) ⟨_, 0, none⟩ 1 1 [.string E.name] rfl rfl (cell_one_new _ _ _) hone hmx hmy (hmz _) ?_; intro v' w2 hown' hgrow _; have B2 := aQ0 (bZl B1.out O1.out hgrow); clear hgrow)
            go_roundw
            case rel => exact ⟨k + 1, el, op ++ [E.name], by omega, by go_num, rfl, by omega, by rw [List.length_append]; simp; omega, by rw [HST.out, if_neg HZ.out], by rw [aWf, List.length_append]; exact hown', B2.out⟩
            case measure => simp [intOf]; omega
    · by_cases k2 : kd = 2
      · subst k2
        by_cases h00 : op.length = 0
        · obtain rfl : R = false := by rw [HROW.out]; exact cQz HKD.out h00
          rw [h00]
          go_wp2_with fail
          go_quiet (fail)
          go_wp2
          go_ret
          exact ⟨rfl, aV0 (HB.out.alloc HB.out.size _) _⟩
        · obtain ⟨m, hm⟩ : ∃ m, op.length = m + 1 := ⟨op.length - 1, by omega⟩
          obtain ⟨g, rfl⟩ := hao (by omega)
          have hcell := HO.out.cellAt m (by omega)
          rw [bKm op (by omega)] at hcell
          obtain ⟨L, hL⟩ := nmE (op.getD m ⟨#[]⟩)
          rw [hL] at hcell
          have hm1 : wrap64 (m : Int) = (m : Int) := by unfold wrap64; omega
          have hm0 : decide ((m : Int) < 0) = false := by simp
          have hm2 : m < m + 1 := by omega
          have hcap := aWs HO.out
          have hcp : m ≤ ac := by omega
          rw [hm]
          have HM := aQ0 hm
          have HLL := aQ0 hL
          have hcl := aQk hcell
          obtain ⟨W1, hW1⟩ := nmE (wr.alloc (.cells #[.int .i64 2, .string E.name, .string E.text, .slice bo na bc] 37))
          have hb1 : Below wr.heap.size wr W1 := by rw [← hW1]; exact bAl
          have B1 := aQ0 (HB.out.trans (hb1.mono HB.out.size))
          have O1 := aQ0 (show W1.ownsRow w.heap.size 9 1 (.slice (some ⟨g, 0, none⟩) op.length ac) op.length (strs op) by rw [← hW1]; exact HO.out.alloc _)
          have hcell1 := aQ2 (hb1.block _ hcl) hcell
          obtain ⟨x0, x1, x2, x3⟩ := aX0 (show W1.heap[wr.heap.size]? = some (.cells #[.int .i64 2, .string E.name, .string E.text, .slice bo na bc] 37) by rw [← hW1]; exact heap_alloc_new _ _)
          clear hm hL h00 hcell hcl hb1
          cases hs : aQx L E.name with
          | false =>
           obtain rfl : R = false := by rw [HROW.out]; exact bKq HKD.out (by rw [HM.out]; omega) (by rw [HM.out, Nat.add_sub_cancel, HLL.out]; exact hs)
           have hs' : (L.toList == E.name.toList) = false := hs
           clear hs
           go_wp2_with fail
           go_quiet (fail)
           go_wp2
           go_ret
           exact ⟨rfl, aV0 B1.out _⟩
          | true =>
           have HEN := aQ0 (HROW.out.trans (cW5 HKD.out (by rw [HM.out]; omega) (by rw [HM.out, Nat.add_sub_cancel, HLL.out]; exact hs)))
           have hs' : (L.toList == E.name.toList) = true := hs
           clear hs
           go_wp2_with fail
           go_quiet (fail)
           clear hcap
           go_wp2
           go_roundw
           case rel => exact ⟨k + 1, el, op.take m, by omega, by go_num, rfl, by omega, by rw [List.length_take]; omega, by rw [HEN.out, HM.out, Nat.add_sub_cancel], by
            have := aW8 (m := m) O1.out (by rw [HM.out]; omega)
            rw [Nat.mul_one, bQp] at this
            rw [List.length_take, HM.out, Nat.min_eq_left (by omega)]
            exact this, aV0 B1.out _⟩
           case measure => simp [intOf]; omega
      · by_cases k3 : kd = 3
        · subst k3
          by_cases h00 : op.length = 0
          · obtain rfl : R = false := by rw [HROW.out]; exact cW3 HKD.out h00
            rw [h00]
            go_wp2
            go_ret
            exact ⟨rfl, HB.out.alloc HB.out.size _⟩
          · have h00' : ¬ (op.length : Int) = 0 := by omega
            go_wp2
            go_roundw
            case rel => exact ⟨k + 1, el, op, by omega, by go_num, rfl, by omega, hop, by rw [HROW.out]; exact cQy HKD.out h00, HO.out.alloc _, HB.out.alloc HB.out.size _⟩
            case measure => simp [intOf]; omega
        · by_cases k4 : kd = 4
          · subst k4
            go_wp2
            go_roundw
            case rel => exact ⟨k + 1, el, op, by omega, by go_num, rfl, by omega, hop, by rw [HROW.out]; exact bQu (Or.inl HKD.out), HO.out.alloc _, HB.out.alloc HB.out.size _⟩
            case measure => simp [intOf]; omega
          · by_cases k5 : kd = 5
            · subst k5
              go_wp2
              go_roundw
              case rel => exact ⟨k + 1, el, op, by omega, by go_num, rfl, by omega, hop, by rw [HROW.out]; exact bQu (Or.inr HKD.out), HO.out.alloc _, HB.out.alloc HB.out.size _⟩
              case measure => simp [intOf]; omega
            · obtain rfl : R = false := by rw [HROW.out]; exact cW6 (by rw [HKD.out]; exact k1) (by rw [HKD.out]; exact k2) (by rw [HKD.out]; exact k3) (by rw [HKD.out]; exact k4) (by rw [HKD.out]; exact k5)
              go_wp2
              go_ret
              exact ⟨rfl, HB.out.alloc HB.out.size _⟩
  · have hend : evs.drop k = [] := List.drop_eq_nil_of_le (by omega)
    rw [hend] at hrow
    by_cases he : el = 1
    · by_cases h00 : op.length = 0
      · obtain rfl : R = true := by rw [hrow]; unfold aXr; rw [he, h00]; rfl
        clear hrow
        rw [he, h00]
        go_wp2
        go_ret
        exact ⟨rfl, HB.out⟩
      · obtain rfl : R = false := by rw [hrow]; unfold aXr; simp [h00]
        have h00' : ((op.length : Int) == 0) = false := by rw [beq_eq_false_iff_ne]; omega
        clear hrow
        rw [he]
        go_wp2
        go_ret
        exact ⟨rfl, HB.out⟩
    · obtain rfl : R = false := by rw [hrow]; unfold aXr; simp [he]
      have he' : ((el : Int) == 1) = false := by rw [beq_eq_false_iff_ne]; omega
      clear hrow
      go_wp2
      go_ret
      exact ⟨rfl, HB.out⟩
open Go.RowKit Plain10 PlainN Ents
theorem bZm {W : World} {k : Nat} {a b : Value} {t : TypeId} (h : W.heap[k]? = some (.cells #[a, b] t)) : W.cell? ⟨k, 0, none⟩ = some a ∧ W.cell? ⟨k, 1, none⟩ = some b := by simp [World.cell?, h]
theorem aVs : aJk.toList = [120, 109, 108, 110, 115] := by decide +kernel
theorem dVr : xmlB.toList = [120, 109, 108] := by decide +kernel
theorem dJd : xmlS.toList = [104, 116, 116, 112, 58, 47, 47, 119, 119, 119, 46, 119, 51, 46, 111, 114, 103, 47, 88, 77, 76, 47, 49, 57, 57, 56, 47, 110, 97, 109, 101, 115, 112, 97, 99, 101] := by decide +kernel
theorem cJ6 : cZ2.toList = [104, 116, 116, 112, 58, 47, 47, 119, 119, 119, 46, 119, 51, 46, 111, 114, 103, 47, 50, 48, 48, 48, 47, 120, 109, 108, 110, 115, 47] := by decide +kernel
theorem l_nil : (⟨#[]⟩ : ByteArray).toList = [] := by decide +kernel
theorem aYw (x : ByteArray) : aQx x ⟨#[]⟩ = decide (x.toList = []) := by
 unfold aQx; rw [l_nil]; cases x.toList <;> simp
theorem dKe (E : ByteArray × ByteArray) : aZv E = (!((E.1.toList == [120, 109, 108, 110, 115]) || (E.2.toList == [104, 116, 116, 112, 58, 47, 47, 119, 119, 119, 46, 119, 51, 46, 111, 114, 103, 47, 50, 48, 48, 48, 47, 120, 109, 108, 110, 115, 47])) && (!(!decide (E.1.toList = []) && decide (E.2.toList = [])) && !((E.1.toList == [120, 109, 108]) != (E.2.toList == [104, 116, 116, 112, 58, 47, 47, 119, 119, 119, 46, 119, 51, 46, 111, 114, 103, 47, 88, 77, 76, 47, 49, 57, 57, 56, 47, 110, 97, 109, 101, 115, 112, 97, 99, 101])))) := by
 unfold aZv
 rw [aYw, aYw]
 unfold aQx
 rw [aVs, dVr, dJd, cJ6]
theorem bVm (w : World) (a : Option Addr) (n c : Nat) (l : List (ByteArray × ByteArray)) (hn : n = l.length) (hl : l.length ≤ 1048576) (h : aZ2 w a l) :
 Calls prog 50 #[.slice a n c] w fun e w' => e = .returned (.bool (l.all aZv)) ∧ Below w.heap.size w w' := by
 subst hn
 have HA := aQ0 h
 obtain ⟨R, hR⟩ := nmE (l.all aZv)
 rw [hR]
 have HR := aQ0 hR
 clear h hR
 go_enter func50, ntmps50
 go_wp2_with fail
 go_loopw [7] (fun iv wr => ∃ (k : Nat), k ≤ l.length ∧ iv = .int .i64 k ∧ R = (l.drop k).all aZv ∧ Below w.heap.size w wr) (fun iv _ => l.length - (intOf iv).toNat)
 case atStart => exact ⟨0, Nat.zero_le _, rfl, HR.out.symm, Below.refl _ _⟩
 case round =>
  obtain ⟨k, hk, rfl, hrow, hb⟩ := hrel
  have HB := aQ0 hb
  clear hb
  by_cases hlt : k < l.length
  · obtain ⟨b, off, ha, hc⟩ := HA.out.grown (Ents.below_grown HB.out)
    obtain rfl := ha (by omega)
    obtain ⟨c1, c2⟩ := hc k hlt
    have hdrop : l.drop k = (l[k]'hlt) :: l.drop (k + 1) := List.drop_eq_getElem_cons hlt
    obtain ⟨E, hEe⟩ := nmE (l[k]'hlt)
    rw [hEe] at c1 c2 hdrop
    rw [hdrop, List.all_cons] at hrow
    clear hc ha hEe HA hdrop
    rw [dKe] at hrow
    have HROW := aQ0 hrow
    clear hrow
    have close : ∀ (x : Bool), x = false → R = (x && (l.drop (k + 1)).all aZv) → R = false := fun x hx hr => by rw [hr, hx]; rfl
    have HCL := aQ0 close
    clear close
    cases a1 : (E.1.toList == [120, 109, 108, 110, 115]) with
    | true =>
     obtain rfl : R = false := HCL.out _ (by rw [a1]; rfl) HROW.out
     go_wp2
     go_ret
     exact ⟨rfl, HB.out.alloc HB.out.size _⟩
    | false =>
     cases a2 : (E.2.toList == [104, 116, 116, 112, 58, 47, 47, 119, 119, 119, 46, 119, 51, 46, 111, 114, 103, 47, 50, 48, 48, 48, 47, 120, 109, 108, 110, 115, 47]) with
     | true =>
      obtain rfl : R = false := HCL.out _ (by rw [a1, a2]; rfl) HROW.out
      go_wp2
      go_ret
      exact ⟨rfl, HB.out.alloc HB.out.size _⟩
     | false =>
      by_cases a34 : ¬ E.1.toList = [] ∧ E.2.toList = []
      · obtain rfl : R = false := HCL.out _ (by rw [a1, a2, decide_eq_false a34.1, decide_eq_true a34.2]; rfl) HROW.out
        have a3 := a34.1
        have a4 := a34.2
        have b3 : E.1.toList.isEmpty = false := by rw [List.isEmpty_eq_false_iff]; exact a3
        have b4 : E.2.toList.isEmpty = true := by rw [a4]; rfl
        clear a34
        go_wp2
        go_ret
        exact ⟨rfl, HB.out.alloc HB.out.size _⟩
      · have a34' : (!decide (E.1.toList = []) && decide (E.2.toList = [])) = false := by
         by_cases a3 : E.1.toList = []
         · rw [decide_eq_true a3]; rfl
         · have a4 : ¬ E.2.toList = [] := fun h => a34 ⟨a3, h⟩
           rw [decide_eq_false a4]; simp
        have H34 := aQ0 a34'
        cases a5 : (E.1.toList == [120, 109, 108]) with
        | true =>
         cases a6 : (E.2.toList == [104, 116, 116, 112, 58, 47, 47, 119, 119, 119, 46, 119, 51, 46, 111, 114, 103, 47, 88, 77, 76, 47, 49, 57, 57, 56, 47, 110, 97, 109, 101, 115, 112, 97, 99, 101]) with
         | true =>
          have HN : Hid (R = (l.drop (k + 1)).all aZv) := by rw [HROW.out, a1, a2, H34.out, a5, a6]; rfl
          by_cases a3 : E.1.toList = []
          · rw [a3] at a5; cases a5
          · have a4 : ¬ E.2.toList = [] := fun h => a34 ⟨a3, h⟩
            have b3 : E.1.toList.isEmpty = false := by rw [List.isEmpty_eq_false_iff]; exact a3
            have b4 : E.2.toList.isEmpty = false := by rw [List.isEmpty_eq_false_iff]; exact a4
            clear a34 a34'
            go_wp2
            go_roundw
            case rel => exact ⟨k + 1, by omega, by go_num, HN.out, HB.out.alloc HB.out.size _⟩
            case measure => simp [intOf]; omega
         | false =>
          obtain rfl : R = false := HCL.out _ (by rw [a1, a2, H34.out, a5, a6]; rfl) HROW.out
          by_cases a3 : E.1.toList = []
          · rw [a3] at a5; cases a5
          · have a4 : ¬ E.2.toList = [] := fun h => a34 ⟨a3, h⟩
            have b3 : E.1.toList.isEmpty = false := by rw [List.isEmpty_eq_false_iff]; exact a3
            have b4 : E.2.toList.isEmpty = false := by rw [List.isEmpty_eq_false_iff]; exact a4
            clear a34 a34'
            go_wp2
            go_ret
            exact ⟨rfl, HB.out.alloc HB.out.size _⟩
        | false =>
         cases a6 : (E.2.toList == [104, 116, 116, 112, 58, 47, 47, 119, 119, 119, 46, 119, 51, 46, 111, 114, 103, 47, 88, 77, 76, 47, 49, 57, 57, 56, 47, 110, 97, 109, 101, 115, 112, 97, 99, 101]) with
         | true =>
          obtain rfl : R = false := HCL.out _ (by rw [a1, a2, H34.out, a5, a6]; rfl) HROW.out
          by_cases a3 : E.1.toList = []
          · have b3 : E.1.toList.isEmpty = true := by rw [a3]; rfl
            clear a34 a34'
            go_wp2
            go_ret
            exact ⟨rfl, HB.out.alloc HB.out.size _⟩
          · have a4 : ¬ E.2.toList = [] := fun h => a34 ⟨a3, h⟩
            have b3 : E.1.toList.isEmpty = false := by rw [List.isEmpty_eq_false_iff]; exact a3
            have b4 : E.2.toList.isEmpty = false := by rw [List.isEmpty_eq_false_iff]; exact a4
            clear a34 a34'
            go_wp2
            go_ret
            exact ⟨rfl, HB.out.alloc HB.out.size _⟩
         | false =>
          have HN : Hid (R = (l.drop (k + 1)).all aZv) := by rw [HROW.out, a1, a2, H34.out, a5, a6]; rfl
          by_cases a3 : E.1.toList = []
          · have b3 : E.1.toList.isEmpty = true := by rw [a3]; rfl
            clear a34 a34'
            go_wp2
            go_roundw
            case rel => exact ⟨k + 1, by omega, by go_num, HN.out, HB.out.alloc HB.out.size _⟩
            case measure => simp [intOf]; omega
          · have a4 : ¬ E.2.toList = [] := fun h => a34 ⟨a3, h⟩
            have b3 : E.1.toList.isEmpty = false := by rw [List.isEmpty_eq_false_iff]; exact a3
            have b4 : E.2.toList.isEmpty = false := by rw [List.isEmpty_eq_false_iff]; exact a4
            clear a34 a34'
            go_wp2
            go_roundw
            case rel => exact ⟨k + 1, by omega, by go_num, HN.out, HB.out.alloc HB.out.size _⟩
            case measure => simp [intOf]; omega
  · have hend : l.drop k = [] := List.drop_eq_nil_of_le (by omega)
    obtain rfl : R = true := by rw [hrow, hend]; rfl
    clear hrow
    go_wp2
    go_ret
    exact ⟨rfl, HB.out⟩
open Go.RowKit PlainN Ents
open Go.Maps
def heldS : Value → Option (DataW Value × List MemPlace) := fun v => some (.held v, [])
def zAttD : DataW Value := .held (.agg #[.string ⟨#[]⟩, .string ⟨#[]⟩])
theorem dJe : Keyed prog 9 := string_keyed underlying9
theorem cJ7 {x : ByteArray} (h : x.size ≤ maxLen) : keyOf prog 9 (.string x) = some (.string x.data.toList) := WideMaps.keyOf_string_mk underlying9 h
theorem dQx (w : World) : (zeroValue 54).run prog w = .ok (.agg #[.string ⟨#[]⟩, .string ⟨#[]⟩]) w := by kernel_rfl
theorem cWz {x y : ByteArray} (h : x.toList ≠ y.toList) : Lit.string x.data.toList ≠ Lit.string y.data.toList := fun e => by
 injection e with e
 exact h (by rw [ByteArray.toList_eq, ByteArray.toList_eq, e])
theorem cJ5 (x : ByteArray) : WideAt.IsKeyLit (.string x.data.toList) := trivial
def aKv (W : World) (mb : Nat) (l : List (ByteArray × ByteArray)) : Prop :=
 ∃ D : DataW Value, W.ownsMap prog 9 heldS mb l.length D ∧ (∀ x : ByteArray, Maps.has D (.string x.data.toList) = (bXk l x).isSome) ∧ (∀ x : ByteArray, ∃ a b, D.atKey (.string x.data.toList) zAttD = .held (.agg #[.string a, .string b]) ∧ ∀ v, bXk l x = some v → b = v)
theorem bYg (l : List (ByteArray × ByteArray)) (d : ByteArray × ByteArray) (x : ByteArray) : bXk (l ++ [d]) x = if aQx d.1 x = true then some d.2 else bXk l x := by
 unfold bXk
 rw [List.reverse_append, List.reverse_singleton, List.singleton_append, List.find?_cons]
 cases h : aQx d.1 x <;> simp
theorem aKv.start (w : World) : aKv (w.alloc (.map #[] 0)) w.heap.size [] :=
 ⟨.map [], World.ownsMap_made w _ _ _, fun x => rfl, fun x => ⟨⟨#[]⟩, ⟨#[]⟩, rfl, fun v h => by cases h⟩⟩
theorem aKv.store {W : World} {mb : Nat} {l : List (ByteArray × ByteArray)} (h : aKv W mb l) (d : ByteArray × ByteArray) (hn : d.1.size ≤ maxLen) (hl : l.length < 1048576) :
 ∃ w', (Instr.mapUpdate 77 (.map (some mb)) (.string d.1) (.agg #[.string d.1, .string d.2])).run prog W = .ok () w' ∧ aKv w' mb (l ++ [d]) ∧ W.grownBy w' (some mb) := by
 obtain ⟨D, hD, hh, ha⟩ := h
 obtain ⟨w', hrun, hown, hturn⟩ := hD.store dJe underlying77 (by unfold maxLen; omega) (cJ7 hn) (d := .held (.agg #[.string d.1, .string d.2])) (ps := []) (val := .agg #[.string d.1, .string d.2]) rfl
 refine ⟨w', hrun, ⟨_, by rw [List.length_append]; exact hown, fun x => ?_, fun x => ?_⟩, hturn.grown⟩
 · rw [bYg]
   by_cases e : x.toList = d.1.toList
   · have hx : x.data.toList = d.1.data.toList := by rw [← ByteArray.toList_eq, ← ByteArray.toList_eq, e]
     rw [hx, Maps.has_put_same hD.isMap (cJ5 d.1), if_pos (by unfold aQx; rw [e]; exact beq_self_eq_true _)]; rfl
   · rw [Maps.has_put_other (cWz e), hh x, if_neg (by unfold aQx; intro hb; exact e (eq_of_beq hb).symm)]
 · rw [bYg]
   by_cases e : x.toList = d.1.toList
   · have hx : x.data.toList = d.1.data.toList := by rw [← ByteArray.toList_eq, ← ByteArray.toList_eq, e]
     exact ⟨d.1, d.2, by rw [hx]; exact Maps.atKey_put_same hD.isMap (cJ5 d.1) _ _, fun v hv => by rw [if_pos (by unfold aQx; rw [e]; exact beq_self_eq_true _)] at hv; exact Option.some.inj hv⟩
   · obtain ⟨a', b', h1, h2⟩ := ha x
     refine ⟨a', b', by rw [Maps.atKey_put_other (cWz e)]; exact h1, fun v hv => ?_⟩
     rw [if_neg (by unfold aQx; intro hb; exact e (eq_of_beq hb).symm)] at hv
     exact h2 v hv
theorem aKv.look {W : World} {mb : Nat} {l : List (ByteArray × ByteArray)} (h : aKv W mb l) {nm : ByteArray} (hn : nm.size ≤ maxLen) :
 ∃ a b, (Instr.lookup 77 (.map (some mb)) (.string nm) true).run prog W = .ok (.tuple #[.agg #[.string a, .string b], .bool (bXk l nm).isSome]) W ∧ ∀ v, bXk l nm = some v → b = v := by
 obtain ⟨D, hD, hh, ha⟩ := h
 obtain ⟨v, ps, hrun, hR⟩ := hD.look_ok dJe underlying77 (dQx W) (zd := zAttD) (zp := []) rfl (cJ7 hn)
 obtain ⟨a, b, hab, hv2⟩ := ha nm
 rw [hab] at hR
 unfold heldS at hR
 have hv : v = .agg #[.string a, .string b] := by
  have := congrArg Prod.fst (Option.some.inj hR)
  injection this
 rw [hh nm, hv] at hrun
 exact ⟨a, b, hrun, hv2⟩
theorem aKv.keep {W W' : World} {mb : Nat} {l : List (ByteArray × ByteArray)} (h : aKv W mb l) (hk : W'.heap[mb]? = W.heap[mb]?) : aKv W' mb l := by
 obtain ⟨D, ⟨es, clock, h1, h2, h3, h4⟩, hh, ha⟩ := h
 exact ⟨D, ⟨es, clock, by rw [hk]; exact h1, h2, h3, h4⟩, hh, ha⟩
theorem aKv.lt {W : World} {mb : Nat} {l : List (ByteArray × ByteArray)} (h : aKv W mb l) : mb < W.heap.size := by
 obtain ⟨D, ⟨es, clock, h1, _⟩, _⟩ := h
 exact (gLt h1)
theorem bQa (w : World) (a : Option Addr) (n c : Nat) (l : List (ByteArray × ByteArray)) (hn : n = l.length) (hl : l.length ≤ 1000) (hz : ∀ d ∈ l, d.1.size ≤ 1048576) (h : aZ2 w a l) :
 Calls prog 51 #[.slice a n c] w fun e w' => ∃ mb, e = .returned (.map (some mb)) ∧ w.heap.size ≤ mb ∧ aKv w' mb l ∧ Below w.heap.size w w' := by
 subst hn
 have HA := aQ0 h
 have HZ := aQ0 hz
 clear h hz
 have hmm := @run_makeMap prog
 go_enter func51, ntmps51
 go_wp2_with fail
 go_loopw [9] (fun iv wr => ∃ (k : Nat), k ≤ l.length ∧ iv = .int .i64 k ∧ aKv wr w.heap.size (l.take k) ∧ Below w.heap.size w wr) (fun iv _ => l.length - (intOf iv).toNat)
 case atStart => exact ⟨0, Nat.zero_le _, rfl, aKv.start w, bAl⟩
 case round =>
  obtain ⟨k, hk, rfl, hmap, hb⟩ := hrel
  have HB := aQ0 hb
  have HM := aQ0 hmap
  clear hb hmap
  by_cases hlt : k < l.length
  · obtain ⟨b, off, ha, hc⟩ := HA.out.grown (Ents.below_grown HB.out)
    obtain rfl := ha (by omega)
    obtain ⟨c1, c2⟩ := hc k hlt
    have htk : l.take (k + 1) = l.take k ++ [l[k]'hlt] := by rw [List.take_add_one, List.getElem?_eq_getElem hlt]; rfl
    have hsz := HZ.out _ (List.getElem_mem hlt)
    obtain ⟨E, hEe⟩ := nmE (l[k]'hlt)
    rw [hEe] at c1 c2 htk hsz
    obtain ⟨W1, hW1⟩ := nmE (wr.alloc (.cells #[.string E.1, .string E.2] 54))
    have hb1 : Below wr.heap.size wr W1 := by rw [← hW1]; exact bAl
    have B1 := aQ0 (HB.out.trans (hb1.mono HB.out.size))
    obtain ⟨x0, x1⟩ := bZm (show W1.heap[wr.heap.size]? = some (.cells #[.string E.1, .string E.2] 54) by rw [← hW1]; exact heap_alloc_new _ _)
    obtain ⟨w2, hrun, hm2, hg2⟩ := (HM.out.keep (hb1.block _ HM.out.lt)).store E (by unfold maxLen; omega) (by rw [List.length_take]; omega)
    have M2 := aQ0 hm2
    have B2 := aQ0 (B1.out.grown hg2 B1.out.size (fun j hj => by have := Option.some.inj hj; omega))
    have HT := aQ0 htk
    clear hc ha hEe HA hm2 hg2 hb1 htk HB HM
    go_wp2
    go_roundw
    case rel => exact ⟨k + 1, by omega, by go_num, by rw [HT.out]; exact M2.out, B2.out⟩
    case measure => simp [intOf]; omega
  · have hk2 : l.take k = l := List.take_of_length_le (by omega)
    have M2 := HM.out
    rw [hk2] at M2
    have M3 := aQ0 M2
    clear M2 hk2
    go_wp2
    go_ret
    exact ⟨_, rfl, Nat.le_refl _, M3.out, HB.out⟩
open Go.RowKit Lists Plain9 Plain10 PlainN Ents
def nmC (x : Nm) : List Value := [.string x.pre, .string x.loc, .string x.spc, .string x.val]
def aXv : List (Scp × Nat) → List Value
 | [] => []
 | x :: l => nmC x.1.1 ++ .map (some x.2) :: aXv l
theorem bZy (a b : List (Scp × Nat)) : aXv (a ++ b) = aXv a ++ aXv b := by
 induction a with
 | nil => rfl
 | cons x l ih => simp [aXv, ih]
theorem cQw (a : List (Scp × Nat)) : (aXv a).length = a.length * 5 := by
 induction a with
 | nil => rfl
 | cons x l ih => simp [aXv, nmC, ih]; omega
theorem aYv : ∀ (l : List (Scp × Nat)) (j : Nat) (hj : j < l.length), (aXv l)[j * 5]? = some (.string (l[j]'hj).1.1.pre) ∧ (aXv l)[j * 5 + 1]? = some (.string (l[j]'hj).1.1.loc) ∧ (aXv l)[j * 5 + 2]? = some (.string (l[j]'hj).1.1.spc) ∧ (aXv l)[j * 5 + 3]? = some (.string (l[j]'hj).1.1.val) ∧ (aXv l)[j * 5 + 4]? = some (.map (some (l[j]'hj).2))
 | [], j, hj => by simp at hj
 | x :: l, 0, _ => by simp [aXv, nmC]
 | x :: l, j + 1, hj => by
  have h := aYv l j (by simpa using hj)
  have e : aXv (x :: l) = .string x.1.1.pre :: .string x.1.1.loc :: .string x.1.1.spc :: .string x.1.1.val :: .map (some x.2) :: aXv l := rfl
  rw [e, show (j + 1) * 5 = j * 5 + 1 + 1 + 1 + 1 + 1 by omega]
  simpa using h
structure ScAt (W : World) (B sb : Nat) (st : List Scp) (ov : Value) (mbs : List Nat) : Prop where
 box : W.heap[sb]? = some (.cells #[ov] 58)
 len : mbs.length = st.length
 row : W.ownsRow B 79 5 ov st.length (aXv (st.zip mbs))
 maps : ∀ (j : Nat) (hj : j < st.length) (hm : j < mbs.length), aKv W (mbs[j]'hm) (st[j]'hj).2
 bb : B ≤ sb
theorem aQ4 {w w' : World} {base : Nat} {e : TypeId} {size : Nat} {v : Value} {n : Nat} {xs : List Value} (h : w.ownsRow base e size v n xs) (hk : ∀ k, v.ownBlock = some k → w'.heap[k]? = w.heap[k]?) : w'.ownsRow base e size v n xs := by
 obtain ⟨h1, h2⟩ := h
 refine ⟨h1, ?_⟩
 rcases h2 with h2 | ⟨g, cap, cur, hv, hb, hg, rest⟩
 · exact .inl h2
 · subst hv
   exact .inr ⟨g, cap, cur, rfl, hb, by rw [hk g rfl]; exact hg, rest⟩
theorem ScAt.below {W W' : World} {B sb : Nat} {st : List Scp} {ov : Value} {mbs : List Nat} (h : ScAt W B sb st ov mbs) (hb : Below W.heap.size W W') : ScAt W' B sb st ov mbs :=
 ⟨(hb.block _ (gLt h.box)).trans h.box, h.len, aQ4 h.row (fun k hk => hb.block _ (h.row.lt k hk).2), fun j hj hm => (h.maps j hj hm).keep (hb.block _ (h.maps j hj hm).lt), h.bb⟩
def spR (R : Option ByteArray) : ByteArray × Bool := match R with
 | some v => (v, true)
 | none => (⟨#[]⟩, false)
theorem bZu (w : World) (B sb : Nat) (st : List Scp) (ov : Value) (mbs : List Nat) (hS : ScAt w B sb st ov mbs) (hst : st.length ≤ 1000) (p : ByteArray) (hp : p.size ≤ 1048576) :
 Calls prog 72 #[.pointer (some ⟨sb, 0, none⟩), .string p] w fun e w' => e = .returned (.tuple #[.string (spR (aZp (st.map (·.2)) p)).1, .bool (spR (aZp (st.map (·.2)) p)).2]) ∧ Below w.heap.size w w' := by
 have HS := aQ0 hS
 obtain ⟨R, hR⟩ := nmE (aZp (st.map (·.2)) p)
 rw [hR]
 have HR := aQ0 hR
 obtain ⟨ao, ac, rfl, hao⟩ := aQr hS.row
 have hbox : w.cell? ⟨sb, 0, none⟩ = some (.slice ao st.length ac) := by simp [World.cell?, hS.box]
 clear hR hS
 go_enter func72, ntmps72
 go_wp2_with fail
 go_loopw [6] (fun iv wr => ∃ (k : Nat), k ≤ st.length ∧ iv = .int .i64 ((k : Int) - 1) ∧ R = aW7 (st.map (·.2)) p k ∧ Below w.heap.size w wr) (fun iv _ => ((intOf iv) + 1).toNat)
 case atStart => exact ⟨st.length, Nat.le_refl _, by go_num, by rw [← HR.out]; unfold aZp; rw [List.length_map], Below.refl _ _⟩
 case round =>
  obtain ⟨k, hk, rfl, hrow, hb⟩ := hrel
  have HB := aQ0 hb
  have hS := HS.out.below HB.out
  have hbox : wr.cell? ⟨sb, 0, none⟩ = some (.slice ao st.length ac) := by simp [World.cell?, hS.box]
  rcases k with _ | m
  · have e0 : (((0 : Nat) : Int) - 1) = -1 := by omega
    rw [e0]
    clear hb hS
    have hrow' : R = if aQx p xmlB = true then some xmlS else if aQx p ⟨#[]⟩ = true then some ⟨#[]⟩ else none := hrow
    rw [aYw] at hrow'
    unfold aQx at hrow'
    rw [dVr] at hrow'
    clear hrow
    cases a1 : (p.toList == [120, 109, 108]) with
    | true =>
     rw [a1, if_pos rfl] at hrow'
     subst hrow'
     go_wp2
     refine bodyPost_ret (v := .tuple #[.string xmlS, .bool true]) (by simp [results, results72, go_sem]; rfl) rfl ⟨rfl, HB.out⟩
    | false =>
     rw [a1, if_neg (by simp)] at hrow'
     by_cases a2 : p.toList = []
     · rw [decide_eq_true a2, if_pos rfl] at hrow'
       subst hrow'
       have a3 : p.toList.isEmpty = true := by rw [a2]; rfl
       go_wp2
       refine bodyPost_ret (v := .tuple #[.string ⟨#[]⟩, .bool true]) (by simp [results, results72, go_sem]) rfl ⟨rfl, HB.out⟩
     · rw [decide_eq_false a2, if_neg (by simp)] at hrow'
       subst hrow'
       have a3 : p.toList.isEmpty = false := by rw [List.isEmpty_eq_false_iff]; exact a2
       go_wp2
       refine bodyPost_ret (v := .tuple #[.string ⟨#[]⟩, .bool false]) (by simp [results, results72, go_sem]) rfl ⟨rfl, HB.out⟩
  · have e0 : (((m + 1 : Nat) : Int) - 1) = (m : Int) := by omega
    rw [e0]
    obtain ⟨g, rfl⟩ := hao (by omega)
    have hlm : m < st.length := by omega
    have hmm : m < mbs.length := by rw [hS.len]; omega
    have hzl : m < (st.zip mbs).length := by rw [List.length_zip]; omega
    have hcell : wr.cell? ⟨g, m * 5 + 4, none⟩ = some (.map (some (mbs[m]'hmm))) := by
     rw [hS.row.cellAt (m * 5 + 4) (by omega), (aYv (st.zip mbs) m hzl).2.2.2.2, List.getElem_zip]
    obtain ⟨x, v, hrun, hv⟩ := (hS.maps m hlm hmm).look (nm := p) (by unfold maxLen; omega)
    obtain ⟨mb, hmb⟩ := nmE (mbs[m]'hmm)
    rw [hmb] at hcell hrun
    have hrow2 : R = match bXk ((st.map (·.2)).getD m []) p with | some v => some v | none => aW7 (st.map (·.2)) p m := hrow
    have hget : (st.map (·.2)).getD m [] = (st[m]'hlm).2 := by
     rw [List.getD_eq_getElem?_getD, List.getElem?_map, List.getElem?_eq_getElem hlm]; rfl
    rw [hget] at hrow2
    have HS2 := aQ0 hS
    clear hb hS hrow hmb hget
    have hw0 : ¬ (m : Int) < 0 := by omega
    cases hL : bXk (st[m]'hlm).2 p with
    | some u =>
     have hvu := hv u hL
     subst hvu
     rw [hL] at hrow2 hrun
     simp only at hrow2
     subst hrow2
     clear hv hL
     go_wp2
     refine bodyPost_ret (v := .tuple #[.string v, .bool true]) (by simp [results, results72, go_sem]) rfl ⟨rfl, HB.out.alloc HB.out.size _⟩
    | none =>
     rw [hL] at hrow2 hrun
     simp only at hrow2
     have HN := aQ0 hrow2
     clear hrow2 hv hL
     go_wp2
     go_roundw
     case rel => exact ⟨m, by omega, by go_num, HN.out, HB.out.alloc HB.out.size _⟩
     case measure => simp [intOf]
open Go.RowKit Lists PlainN Ents
def NmAt (W : World) (a : Option Addr) (l : List Nm) : Prop :=
 ∃ b : Nat, (0 < l.length → a = some ⟨b, 0, none⟩) ∧ ∀ (j : Nat) (hj : j < l.length), W.cell? ⟨b, j * 4, none⟩ = some (.string (l[j]'hj).pre) ∧ W.cell? ⟨b, j * 4 + 1, none⟩ = some (.string (l[j]'hj).loc) ∧ W.cell? ⟨b, j * 4 + 2, none⟩ = some (.string (l[j]'hj).spc) ∧ W.cell? ⟨b, j * 4 + 3, none⟩ = some (.string (l[j]'hj).val)
theorem NmAt.below {W W' : World} {a : Option Addr} {l : List Nm} (h : NmAt W a l) (hb : Below W.heap.size W W') : NmAt W' a l := by
 obtain ⟨b, h1, h2⟩ := h
 refine ⟨b, h1, fun j hj => ?_⟩
 obtain ⟨c0, c1, c2, c3⟩ := h2 j hj
 have hk := hb.block _ (aQk c0)
 exact ⟨aQ2 hk c0, aQ2 hk c1, aQ2 hk c2, aQ2 hk c3⟩
def aQg : List Nm → List Value
 | [] => []
 | x :: l => nmC x ++ aQg l
theorem aKh (a b : List Nm) : aQg (a ++ b) = aQg a ++ aQg b := by
 induction a with
 | nil => rfl
 | cons x l ih => simp [aQg, ih]
theorem bXi : ∀ (l : List Nm) (j : Nat) (hj : j < l.length), (aQg l)[j * 4]? = some (.string (l[j]'hj).pre) ∧ (aQg l)[j * 4 + 1]? = some (.string (l[j]'hj).loc) ∧ (aQg l)[j * 4 + 2]? = some (.string (l[j]'hj).spc) ∧ (aQg l)[j * 4 + 3]? = some (.string (l[j]'hj).val)
 | [], j, hj => by simp at hj
 | x :: l, 0, _ => by simp [aQg, nmC]
 | x :: l, j + 1, hj => by
  have h := bXi l j (by simpa using hj)
  have e : aQg (x :: l) = .string x.pre :: .string x.loc :: .string x.spc :: .string x.val :: aQg l := rfl
  rw [e, show (j + 1) * 4 = j * 4 + 1 + 1 + 1 + 1 by omega]
  simpa using h
theorem cQx {W : World} {B : Nat} {t : TypeId} {v : Value} {l : List Nm} (h : W.ownsRow B t 4 v l.length (aQg l)) : ∃ ao ac, v = .slice ao l.length ac ∧ NmAt W ao l := by
 rcases h.2 with ⟨h0, hn⟩ | ⟨g, cap, cur, hv, _⟩
 · exact ⟨none, 0, by rw [h0, hn], 0, fun h => by omega, fun i hi => by omega⟩
 · subst hv
   refine ⟨_, _, rfl, g, fun _ => rfl, fun j hj => ?_⟩
   have ht := bXi l j hj
   exact ⟨by rw [h.cellAt _ (by omega)]; exact ht.1, by rw [h.cellAt _ (by omega)]; exact ht.2.1, by rw [h.cellAt _ (by omega)]; exact ht.2.2.1, by rw [h.cellAt _ (by omega)]; exact ht.2.2.2⟩
theorem aW4 (w : World) (x : Nm) : Calls prog 73 #[.agg #[.string x.pre, .string x.loc, .string x.spc, .string x.val]] w fun e w' => e = .returned (.agg #[.string x.spc, .string x.loc]) ∧ Below w.heap.size w w' := by
 go_enter func73, ntmps73
 go_wp2
 refine bodyPost_ret (v := .agg #[.string x.spc, .string x.loc]) (by simp [results, results73, go_sem]) rfl ⟨rfl, ?_⟩
 exact (bAl).alloc (by simp) _
theorem dKk {l : List Nm} {A : Nm} {j : Nat} (hj : j < l.length) : (l.take (j + 1)).any (fun b => bVe A b) = ((l.take j).any (fun b => bVe A b) || bVe A (l[j]'hj)) := by
 rw [List.take_add_one, List.getElem?_eq_getElem hj, List.any_append]; simp
theorem cK7 {l : List Nm} {k : Nat} (hk : k < l.length) : aJ7 (l.take k) (l.drop k) = ((l.take k).any (fun b => bVe (l[k]'hk) b) || aJ7 (l.take (k + 1)) (l.drop (k + 1))) := by
 rw [List.drop_eq_getElem_cons hk]
 conv => lhs; unfold aJ7
 rw [List.take_add_one, List.getElem?_eq_getElem hk]; rfl
structure TwF (V W : World) (ga gd : Nat) (A D : Nm) : Prop where
 i0 : W.cell? ⟨ga, 0, none⟩ = some (.string A.pre)
 i1 : W.cell? ⟨ga, 1, none⟩ = some (.string A.loc)
 i2 : W.cell? ⟨ga, 2, none⟩ = some (.string A.spc)
 i3 : W.cell? ⟨ga, 3, none⟩ = some (.string A.val)
 j0 : W.cell? ⟨gd, 0, none⟩ = some (.string D.pre)
 j1 : W.cell? ⟨gd, 1, none⟩ = some (.string D.loc)
 j2 : W.cell? ⟨gd, 2, none⟩ = some (.string D.spc)
 j3 : W.cell? ⟨gd, 3, none⟩ = some (.string D.val)
 bel : Below V.heap.size V W
theorem TwF.step {V W W' : World} {ga gd : Nat} {A D : Nm} (h : TwF V W ga gd A D) (hb : Below W.heap.size W W') : TwF V W' ga gd A D := by
 have ka := hb.block _ (aQk h.i0)
 have kd := hb.block _ (aQk h.j0)
 exact ⟨aQ2 ka h.i0, aQ2 ka h.i1, aQ2 ka h.i2, aQ2 ka h.i3, aQ2 kd h.j0, aQ2 kd h.j1, aQ2 kd h.j2, aQ2 kd h.j3, h.bel.trans (hb.mono h.bel.size)⟩
theorem TwF.drew {V W : World} {ga gd : Nat} {A D : Nm} (h : TwF V W ga gd A D) : TwF V W.drew ga gd A D :=
 ⟨h.i0, h.i1, h.i2, h.i3, h.j0, h.j1, h.j2, h.j3, ⟨h.bel.os, h.bel.tape, h.bel.output, h.bel.size, h.bel.block⟩⟩
theorem bYp (w : World) (a : Option Addr) (n c : Nat) (l : List Nm) (hn : n = l.length) (hl : l.length ≤ 1000) (hc : l.length ≤ c) (h : NmAt w a l) :
 Calls prog 53 #[.slice a n c] w fun e w' => e = .returned (.bool (aJ7 [] l)) ∧ Below w.heap.size w w' := by
 subst hn
 have HA := aQ0 h
 obtain ⟨R, hR⟩ := nmE (aJ7 [] l)
 rw [hR]
 have HR := aQ0 hR
 clear h hR
 go_enter func53, ntmps53
 go_wp2_with fail
 go_loopw [9] (fun iv wr => ∃ (k : Nat), k ≤ l.length ∧ iv = .int .i64 k ∧ R = aJ7 (l.take k) (l.drop k) ∧ Below w.heap.size w wr) (fun iv _ => l.length - (intOf iv).toNat)
 case atStart => exact ⟨0, Nat.zero_le _, rfl, HR.out.symm, Below.refl _ _⟩
 case round =>
  obtain ⟨k, hk, rfl, hrow, hb⟩ := hrel
  have HB := aQ0 hb
  clear hb
  by_cases hlt : k < l.length
  · obtain ⟨b, ha, hcc⟩ := HA.out.below HB.out
    obtain rfl := ha (by omega)
    obtain ⟨c0, c1, c2, c3⟩ := hcc k hlt
    rw [cK7 hlt] at hrow
    obtain ⟨A, hAe⟩ := nmE (l[k]'hlt)
    rw [hAe] at c0 c1 c2 c3 hrow
    have HROW := aQ0 hrow
    obtain ⟨W1, hW1⟩ := nmE (wr.alloc (.cells #[.string A.pre, .string A.loc, .string A.spc, .string A.val] 30))
    have hb1 : Below wr.heap.size wr W1 := by rw [← hW1]; exact bAl
    have B1 := aQ0 (HB.out.trans (hb1.mono HB.out.size))
    have X1 := aQ0 (show W1.heap[wr.heap.size]? = some (.cells #[.string A.pre, .string A.loc, .string A.spc, .string A.val] 30) by rw [← hW1]; exact heap_alloc_new _ _)
    have A1 := aQ0 (HA.out.below B1.out)
    have hkc : k ≤ c := by omega
    clear hcc ha hAe hb1 hrow
    go_wp2_with fail
    clear hW1
    generalize wr.heap.size = ga at X1 ⊢
    go_loopw [18] (fun jv wz => ∃ (j : Nat), j ≤ k ∧ jv = .int .i64 j ∧ (l.take j).any (fun b => bVe A b) = false ∧ Below W1.heap.size W1 wz) (fun jv _ => k - (intOf jv).toNat)
    case atStart => exact ⟨0, Nat.zero_le _, rfl, rfl, Below.refl _ _⟩
    case round =>
     obtain ⟨j, hj, rfl, hno, hz⟩ := hrel
     have HZ := aQ0 hz
     have HNO := aQ0 hno
     have B2 := aQ0 (B1.out.trans (hz.mono B1.out.size))
     obtain ⟨x0, x1, x2, x3⟩ := aX0 ((hz.block _ (gLt X1.out)).trans X1.out)
     clear hz hno
     by_cases hjk : j < k
     · have hjl : j < l.length := by omega
       obtain ⟨b2, ha2, hc2⟩ := HA.out.below B2.out
       have := ha2 (by omega)
       cases this
       obtain ⟨d0, d1, d2, d3⟩ := hc2 j hjl
       have hany := dKk (A := A) hjl
       obtain ⟨D, hDe⟩ := nmE (l[j]'hjl)
       rw [hDe] at d0 d1 d2 d3 hany
       rw [HNO.out, Bool.false_or] at hany
       have HANY := aQ0 hany
       have HMEM := aQ0 (show D ∈ l.take k by
        rw [← hDe]
        have hjt : j < (l.take k).length := by rw [List.length_take]; omega
        have := List.getElem_mem hjt
        rw [List.getElem_take] at this
        exact this)
       clear hc2 ha2 hDe hany
       obtain ⟨W2, hW2⟩ := nmE (wr.alloc (.cells #[.string D.pre, .string D.loc, .string D.spc, .string D.val] 30))
       have hb2 : Below wr.heap.size wr W2 := by rw [← hW2]; exact bAl
       have Y2 := aX0 (show W2.heap[wr.heap.size]? = some (.cells #[.string D.pre, .string D.loc, .string D.spc, .string D.val] 30) by rw [← hW2]; exact heap_alloc_new _ _)
       have ka := hb2.block _ (aQk x0)
       have hE : TwF W2 W2 ga wr.heap.size A D := ⟨aQ2 ka x0, aQ2 ka x1, aQ2 ka x2, aQ2 ka x3, Y2.1, Y2.2.1, Y2.2.2.1, Y2.2.2.2, Below.refl _ _⟩
       have B3 := aQ0 (HZ.out.trans (hb2.mono HZ.out.size))
       clear hb2 Y2 ka
       go_wp2_with fail
       clear hW2 x0 x1 x2 x3 d0 d1 d2 d3 c0 c1 c2 c3
       generalize wr.heap.size = gd at hE ⊢
       have hQ := hE
       obtain ⟨i0, i1, i2, i3, j0, j1, j2, j3, _⟩ := hQ
       have hcmp : bVe A D = (A.spc.toList == D.spc.toList && A.loc.toList == D.loc.toList) := rfl
       rw [hcmp] at HANY
       clear hcmp
       cases e1 : (A.spc.toList == D.spc.toList) with
       | true =>
        cases e2 : (A.loc.toList == D.loc.toList) with
        | true =>
         go_region_held3 (fun W => W.cell? ⟨ga, 0, none⟩ = some (.string A.pre) ∧ W.cell? ⟨ga, 1, none⟩ = some (.string A.loc) ∧ W.cell? ⟨ga, 2, none⟩ = some (.string A.spc) ∧ W.cell? ⟨ga, 3, none⟩ = some (.string A.val) ∧ W.cell? ⟨gd, 0, none⟩ = some (.string D.pre) ∧ W.cell? ⟨gd, 1, none⟩ = some (.string D.loc) ∧ W.cell? ⟨gd, 2, none⟩ = some (.string D.spc) ∧ W.cell? ⟨gd, 3, none⟩ = some (.string D.val)) (first | go_keep | exact ⟨hE.i0, hE.i1, hE.i2, hE.i3, hE.j0, hE.j1, hE.j2, hE.j3⟩) (first | (go_at_call 73; refine (aW4 _ _).mono ?_; rintro e w' ⟨rfl, hg'⟩; first | (have hE := hE.step hg') | (have hE := hE.drew.step hg')))
         all_goals
          have HE := aQ0 hE
          clear hE
          obtain rfl : R = true := by
           have hx : (l.take k).any (fun b => bVe A b) = true := by
            rw [List.any_eq_true]
            exact ⟨D, HMEM.out, by show (A.spc.toList == D.spc.toList && A.loc.toList == D.loc.toList) = true; rw [e1, e2]; rfl⟩
           rw [HROW.out, hx]; rfl
          go_wp2
          go_ret
          exact ⟨rfl, B1.out.trans ((B3.out.trans (HE.out.bel.mono B3.out.size)).mono B1.out.size)⟩
        | false =>
         go_region_held3 (fun W => W.cell? ⟨ga, 0, none⟩ = some (.string A.pre) ∧ W.cell? ⟨ga, 1, none⟩ = some (.string A.loc) ∧ W.cell? ⟨ga, 2, none⟩ = some (.string A.spc) ∧ W.cell? ⟨ga, 3, none⟩ = some (.string A.val) ∧ W.cell? ⟨gd, 0, none⟩ = some (.string D.pre) ∧ W.cell? ⟨gd, 1, none⟩ = some (.string D.loc) ∧ W.cell? ⟨gd, 2, none⟩ = some (.string D.spc) ∧ W.cell? ⟨gd, 3, none⟩ = some (.string D.val)) (first | go_keep | exact ⟨hE.i0, hE.i1, hE.i2, hE.i3, hE.j0, hE.j1, hE.j2, hE.j3⟩) (first | (go_at_call 73; refine (aW4 _ _).mono ?_; rintro e w' ⟨rfl, hg'⟩; first | (have hE := hE.step hg') | (have hE := hE.drew.step hg')))
         all_goals
          have HE := aQ0 hE
          clear hE
          go_wp2
          go_roundw
          case rel => exact ⟨j + 1, by omega, by go_num, by rw [HANY.out, e1, e2]; rfl, B3.out.trans (HE.out.bel.mono B3.out.size)⟩
          case measure => simp [intOf]; omega
       | false =>
        cases e2 : (A.loc.toList == D.loc.toList) with
        | true =>
         go_region_held3 (fun W => W.cell? ⟨ga, 0, none⟩ = some (.string A.pre) ∧ W.cell? ⟨ga, 1, none⟩ = some (.string A.loc) ∧ W.cell? ⟨ga, 2, none⟩ = some (.string A.spc) ∧ W.cell? ⟨ga, 3, none⟩ = some (.string A.val) ∧ W.cell? ⟨gd, 0, none⟩ = some (.string D.pre) ∧ W.cell? ⟨gd, 1, none⟩ = some (.string D.loc) ∧ W.cell? ⟨gd, 2, none⟩ = some (.string D.spc) ∧ W.cell? ⟨gd, 3, none⟩ = some (.string D.val)) (first | go_keep | exact ⟨hE.i0, hE.i1, hE.i2, hE.i3, hE.j0, hE.j1, hE.j2, hE.j3⟩) (first | (go_at_call 73; refine (aW4 _ _).mono ?_; rintro e w' ⟨rfl, hg'⟩; first | (have hE := hE.step hg') | (have hE := hE.drew.step hg')))
         all_goals
          have HE := aQ0 hE
          clear hE
          go_wp2
          go_roundw
          case rel => exact ⟨j + 1, by omega, by go_num, by rw [HANY.out, e1, e2]; rfl, B3.out.trans (HE.out.bel.mono B3.out.size)⟩
          case measure => simp [intOf]; omega
        | false =>
         go_region_held3 (fun W => W.cell? ⟨ga, 0, none⟩ = some (.string A.pre) ∧ W.cell? ⟨ga, 1, none⟩ = some (.string A.loc) ∧ W.cell? ⟨ga, 2, none⟩ = some (.string A.spc) ∧ W.cell? ⟨ga, 3, none⟩ = some (.string A.val) ∧ W.cell? ⟨gd, 0, none⟩ = some (.string D.pre) ∧ W.cell? ⟨gd, 1, none⟩ = some (.string D.loc) ∧ W.cell? ⟨gd, 2, none⟩ = some (.string D.spc) ∧ W.cell? ⟨gd, 3, none⟩ = some (.string D.val)) (first | go_keep | exact ⟨hE.i0, hE.i1, hE.i2, hE.i3, hE.j0, hE.j1, hE.j2, hE.j3⟩) (first | (go_at_call 73; refine (aW4 _ _).mono ?_; rintro e w' ⟨rfl, hg'⟩; first | (have hE := hE.step hg') | (have hE := hE.drew.step hg')))
         all_goals
          have HE := aQ0 hE
          clear hE
          go_wp2
          go_roundw
          case rel => exact ⟨j + 1, by omega, by go_num, by rw [HANY.out, e1, e2]; rfl, B3.out.trans (HE.out.bel.mono B3.out.size)⟩
          case measure => simp [intOf]; omega
     · have hjk2 : j = k := by omega
       subst hjk2
       have HN : Hid (R = aJ7 (l.take (j + 1)) (l.drop (j + 1))) := by rw [HROW.out, HNO.out]; rfl
       go_wp2
       go_roundw
       case rel => exact ⟨j + 1, by omega, by go_num, HN.out, B2.out⟩
       case measure => simp [intOf]; omega
  · have hend : l.drop k = [] := List.drop_eq_nil_of_le (by omega)
    obtain rfl : R = false := by rw [hrow, hend]; unfold aJ7; rfl
    clear hrow
    go_wp2
    go_ret
    exact ⟨rfl, HB.out⟩
open Go.RowKit Lists PlainN Ents
structure Kp (W W' : World) (bs : List Nat) : Prop where
 os : W'.os = W.os
 tape : W'.tape = W.tape
 output : W'.output = W.output
 size : W.heap.size ≤ W'.heap.size
 block : ∀ k, k < W.heap.size → k ∉ bs → W'.heap[k]? = W.heap[k]?
theorem Kp.refl (W : World) (bs : List Nat) : Kp W W bs := ⟨rfl, rfl, rfl, Nat.le_refl _, fun _ _ _ => rfl⟩
theorem Kp.trans {W W' W'' : World} {bs cs : List Nat} (h : Kp W W' bs) (h' : Kp W' W'' cs) (hc : ∀ c ∈ cs, c < W.heap.size → c ∈ bs) : Kp W W'' bs :=
 ⟨h'.os.trans h.os, h'.tape.trans h.tape, h'.output.trans h.output, Nat.le_trans h.size h'.size, fun k hk hn => (h'.block k (Nat.lt_of_lt_of_le hk h.size) (fun hm => hn (hc k hm hk))).trans (h.block k hk hn)⟩
theorem Kp.below {W W' : World} (h : Below W.heap.size W W') (bs : List Nat) : Kp W W' bs := ⟨h.os, h.tape, h.output, h.size, fun k hk _ => h.block k hk⟩
theorem Kp.on {W W' W'' : World} {bs : List Nat} (h : Kp W W' bs) (hb : Below W'.heap.size W' W'') : Kp W W'' bs := h.trans (Kp.below hb []) (fun c hc => by cases hc)
theorem Kp.set {W W' : World} {bs : List Nat} (h : Kp W W' bs) {b : Nat} (hb : W.heap.size ≤ b ∨ b ∈ bs) (j : Nat) (u : Value) : Kp W (W'.setCell ⟨b, j, none⟩ u) bs :=
 ⟨h.os, h.tape, h.output, by have := h.size; simpa using this, fun k hk hn => by
  rw [Below.heap_setCell W' ⟨b, j, none⟩ u k (by
   simp only
   rcases hb with hb | hb
   · omega
   · intro he; exact hn (he ▸ hb))]
  exact h.block k hk hn⟩
theorem bQe (sc : List (List (ByteArray × ByteArray))) (a : Nm) (l : List Nm) : aXh sc (a :: l) = if aQx a.pre ⟨#[]⟩ = true then (aXh sc l).map (a :: ·) else match aZp sc a.pre with | none => none | some v => (aXh sc l).map ({ a with spc := v } :: ·) := rfl
theorem bXh (sc : List (List (ByteArray × ByteArray))) : ∀ (l m : List Nm), aXh sc (l ++ m) = (aXh sc l).bind fun d => (aXh sc m).map (d ++ ·)
 | [], m => by
  simp only [List.nil_append, aXh, Option.bind_some]
  cases aXh sc m <;> rfl
 | a :: l, m => by
  rw [List.cons_append, bQe, bQe, bXh sc l m]
  split
  · cases aXh sc l with
    | none => rfl
    | some d => cases aXh sc m <;> rfl
  · cases aZp sc a.pre with
    | none => rfl
    | some v =>
     cases aXh sc l with
     | none => rfl
     | some d => cases aXh sc m <;> rfl
theorem cV3 {sc : List (List (ByteArray × ByteArray))} {l : List Nm} {k : Nat} (hk : k < l.length) {d : List Nm} (hd : aXh sc (l.take k) = some d) :
 aXh sc (l.take (k + 1)) = if aQx (l[k]'hk).pre ⟨#[]⟩ = true then some (d ++ [l[k]'hk]) else (aZp sc (l[k]'hk).pre).map fun v => d ++ [{ (l[k]'hk) with spc := v }] := by
 rw [List.take_add_one, List.getElem?_eq_getElem hk, bXh, hd]
 simp only [Option.bind_some, Option.toList_some]
 rw [bQe]
 split
 · rfl
 · cases aZp sc (l[k]'hk).pre <;> rfl
theorem dXi {sc : List (List (ByteArray × ByteArray))} {l : List Nm} {k : Nat} (h : aXh sc (l.take k) = none) : aXh sc l = none := by
 conv => lhs; rw [← List.take_append_drop k l]
 rw [bXh, h]; rfl
theorem bXg (sc : List (List (ByteArray × ByteArray))) : ∀ (l d : List Nm), aXh sc l = some d → d.length = l.length
 | [], d, h => by cases h; rfl
 | a :: l, d, h => by
  unfold aXh at h
  split at h
  · obtain ⟨x, hx, rfl⟩ := Option.map_eq_some_iff.1 h
    rw [List.length_cons, List.length_cons, bXg sc l x hx]
  · cases hs : aZp sc a.pre with
    | none => rw [hs] at h; cases h
    | some v =>
     rw [hs] at h
     obtain ⟨x, hx, rfl⟩ := Option.map_eq_some_iff.1 h
     rw [List.length_cons, List.length_cons, bXg sc l x hx]
def aQb (n : Nd) (dv av : Value) : Array Value := #[.int .i64 n.kind, .string n.name.pre, .string n.name.loc, .string n.name.spc, .string n.name.val, dv, av, .string n.text]
structure aYm (W : World) (B nb : Nat) (n : Nd) (dv av : Value) : Prop where
 box : W.heap[nb]? = some (.cells (aQb n dv av) 34)
 decls : W.ownsRow B 54 2 dv n.decls.length (aQc n.decls)
 attrs : W.ownsRow B 30 4 av n.attrs.length (aQg n.attrs)
theorem aXm {W : World} {k : Nat} {a b c d e f g h : Value} {t : TypeId} (hh : W.heap[k]? = some (.cells #[a, b, c, d, e, f, g, h] t)) : W.cell? ⟨k, 0, none⟩ = some a ∧ W.cell? ⟨k, 1, none⟩ = some b ∧ W.cell? ⟨k, 2, none⟩ = some c ∧ W.cell? ⟨k, 3, none⟩ = some d ∧ W.cell? ⟨k, 4, none⟩ = some e ∧ W.cell? ⟨k, 5, none⟩ = some f ∧ W.cell? ⟨k, 6, none⟩ = some g ∧ W.cell? ⟨k, 7, none⟩ = some h ∧ W.frozen? ⟨k, 3, none⟩ = false := by simp [World.cell?, World.frozen?, hh]
def blk (v : Value) : List Nat := v.ownBlock.toList
theorem aQ3 {w : World} {base : Nat} {e : TypeId} {size : Nat} {v : Value} {n : Nat} {xs : List Value} (h : w.ownsRow base e size v n xs) {k : Nat} (hk : v.ownBlock = some k) : ∃ cs, w.heap[k]? = some (.cells cs e (0, 0)) := by
 rcases h.2 with ⟨h0, _⟩ | ⟨g, cap, cur, hv, hb, hg, _⟩
 · rw [h0] at hk; cases hk
 · rw [hv] at hk
   cases hk
   exact ⟨cur, hg⟩
theorem aQ5 {w : World} {i j : Nat} {c d : Array Value} {s t : TypeId} {f g : Nat × Nat} (hi : w.heap[i]? = some (.cells c s f)) (hj : w.heap[j]? = some (.cells d t g)) (h : s ≠ t) : i ≠ j := fun e => by
 subst e
 rw [hi] at hj
 injection hj with hj
 injection hj with _ hj _
 exact h hj
theorem bJi {w : World} {i j : Nat} {c : Array Value} {s : TypeId} {f : Nat × Nat} {l : List (ByteArray × ByteArray)} (hi : w.heap[i]? = some (.cells c s f)) (hj : aKv w j l) : i ≠ j := fun e => by
 subst e
 obtain ⟨D, ⟨es, clock, h1, _⟩, _⟩ := hj
 rw [hi] at h1
 cases h1
theorem ScAt.kept {W W' : World} {B sb : Nat} {st : List Scp} {ov : Value} {mbs : List Nat} (h : ScAt W B sb st ov mbs) {bs : List Nat} (hk : Kp W W' bs) (ht : ∀ b ∈ bs, ∃ cs t f, W.heap[b]? = some (.cells cs t f) ∧ t ≠ 58 ∧ t ≠ 79) : ScAt W' B sb st ov mbs := by
 have hne : ∀ {k : Nat} {c : Array Value} {s : TypeId} {f : Nat × Nat}, W.heap[k]? = some (.cells c s f) → s = 58 ∨ s = 79 → k ∉ bs := by
  intro k c s f hc hs hm
  obtain ⟨cs, t, f', h1, h2, h3⟩ := ht k hm
  rw [hc] at h1
  injection h1 with h1
  injection h1 with _ h1 _
  rcases hs with hs | hs
  · exact h2 (h1.symm.trans hs)
  · exact h3 (h1.symm.trans hs)
 refine ⟨(hk.block _ (gLt h.box) (hne h.box (Or.inl rfl))).trans h.box, h.len, aQ4 h.row (fun k hkk => ?_), fun j hj hm => (h.maps j hj hm).keep (hk.block _ (h.maps j hj hm).lt (fun hmem => ?_)), h.bb⟩
 · obtain ⟨cs, hc⟩ := aQ3 h.row hkk
   exact hk.block _ (h.row.lt k hkk).2 (hne hc (Or.inr rfl))
 · obtain ⟨cs, t, f', h1, _, _⟩ := ht _ hmem
   exact bJi h1 (h.maps j hj hm) rfl
open Go.RowKit Lists PlainN Ents
def plZ (sc : List (List (ByteArray × ByteArray))) (n : Nd) : Option Nd :=
 match aZp sc n.name.pre with
 | none => none
 | some v => (aXh sc n.attrs).map fun L => { n with name := { n.name with spc := v }, attrs := L }
def dQu (w : World) (B sb nb : Nat) (st : List Scp) (ov : Value) (mbs : List Nat) (n : Nd) (dv av : Value) (e : Ending) (w' : World) : Prop :=
 match plZ (st.map (·.2)) n with
 | none => e = .returned (.bool false) ∧ Kp w w' (nb :: blk av)
 | some n' => e = .returned (.bool true) ∧ ScAt w' B sb st ov mbs ∧ aYm w' B nb n' dv av ∧ Kp w w' (nb :: blk av)
structure PlF (w W : World) (B sb nb : Nat) (st : List Scp) (ov : Value) (mbs : List Nat) (n : Nd) (dv av : Value) (v : ByteArray) (d : List Nm) (k : Nat) : Prop where
 sc : ScAt W B sb st ov mbs
 nd : aYm W B nb { n with name := { n.name with spc := v }, attrs := d ++ n.attrs.drop k } dv av
 kp : Kp w W (nb :: blk av)
 len : d.length = k
theorem nd_ty {W : World} {B nb : Nat} {n : Nd} {dv av : Value} (h : aYm W B nb n dv av) : ∀ b ∈ nb :: blk av, ∃ cs t f, W.heap[b]? = some (.cells cs t f) ∧ t ≠ 58 ∧ t ≠ 79 := by
 intro b hb
 rcases List.mem_cons.1 hb with rfl | hb
 · exact ⟨_, _, _, h.box, by decide, by decide⟩
 · unfold blk at hb
   rw [Option.mem_toList] at hb
   obtain ⟨cs, hc⟩ := aQ3 h.attrs hb
   exact ⟨_, _, _, hc, by decide, by decide⟩
theorem bQ1 {W W' : World} {B nb : Nat} {n : Nd} {dv av : Value} (h : aYm W B nb n dv av) (hb : Below W.heap.size W W') : aYm W' B nb n dv av :=
 ⟨(hb.block _ (gLt h.box)).trans h.box, aQ4 h.decls (fun k hk => hb.block _ (h.decls.lt k hk).2), aQ4 h.attrs (fun k hk => hb.block _ (h.attrs.lt k hk).2)⟩
theorem bQg : ∀ (l : List Nm), (aQg l).length = l.length * 4
 | [] => rfl
 | x :: l => by simp [aQg, nmC, bQg l]; omega
theorem nm_set (d : List Nm) (a : Nm) (r : List Nm) (v : ByteArray) : (aQg (d ++ a :: r)).set (d.length * 4 + 2) (.string v) = aQg (d ++ { a with spc := v } :: r) := by
 rw [aKh, aKh, List.set_append]
 rw [if_neg (by rw [bQg]; omega), bQg, Nat.add_sub_cancel_left]
 rfl
theorem nd_spc {W : World} {B nb : Nat} {n : Nd} {dv av : Value} (h : aYm W B nb n dv av) (v : ByteArray) : aYm (W.setCell ⟨nb, 3, none⟩ (.string v)) B nb { n with name := { n.name with spc := v } } dv av := by
 have hk : ∀ k, k ≠ nb → (W.setCell ⟨nb, 3, none⟩ (.string v)).heap[k]? = W.heap[k]? := fun k hk => Below.heap_setCell W ⟨nb, 3, none⟩ _ k hk
 refine ⟨?_, aQ4 h.decls (fun k hkk => hk k ?_), aQ4 h.attrs (fun k hkk => hk k ?_)⟩
 · rw [heap_setCell_same W nb 3 _ _ _ h.box]; rfl
 · obtain ⟨cs, hc⟩ := aQ3 h.decls hkk
   exact aQ5 hc h.box (by decide)
 · obtain ⟨cs, hc⟩ := aQ3 h.attrs hkk
   exact aQ5 hc h.box (by decide)
theorem dVj {W : World} {B nb : Nat} {n : Nd} {dv : Value} {g ac : Nat} {d r : List Nm} {a : Nm} (hn : n.attrs = d ++ a :: r) (h : aYm W B nb n dv (.slice (some ⟨g, 0, none⟩) n.attrs.length ac)) (v : ByteArray) : aYm (W.setCell ⟨g, d.length * 4 + 2, none⟩ (.string v)) B nb { n with attrs := d ++ { a with spc := v } :: r } dv (.slice (some ⟨g, 0, none⟩) n.attrs.length ac) := by
 have hk : ∀ k, k ≠ g → (W.setCell ⟨g, d.length * 4 + 2, none⟩ (.string v)).heap[k]? = W.heap[k]? := fun k hk => Below.heap_setCell W ⟨g, d.length * 4 + 2, none⟩ _ k hk
 obtain ⟨cs, hc⟩ := aQ3 h.attrs rfl
 refine ⟨(hk nb (fun e => aQ5 h.box hc (by decide) e)).trans h.box, aQ4 h.decls (fun k hkk => hk k ?_), ?_⟩
 · obtain ⟨cs', hc'⟩ := aQ3 h.decls hkk
   exact aQ5 hc' hc (by decide)
 · have := (h.attrs.stored (d.length * 4 + 2) (.string v)).1
   have e : (aQg n.attrs).set (d.length * 4 + 2) (.string v) = aQg (d ++ { a with spc := v } :: r) := by rw [hn, nm_set]
   rw [e] at this
   have e2 : (d ++ { a with spc := v } :: r).length = n.attrs.length := by rw [hn]; simp
   show (W.setCell _ _).ownsRow B _ 4 _ (d ++ { a with spc := v } :: r).length (aQg (d ++ { a with spc := v } :: r))
   rw [e2]
   exact this
theorem cWe (w : World) (B sb nb : Nat) (st : List Scp) (ov : Value) (mbs : List Nat) (hS : ScAt w B sb st ov mbs) (hst : st.length ≤ 1000) (n : Nd) (dv av : Value) (hN : aYm w B nb n dv av) (hz : n.name.pre.size ≤ 1048576) (hza : ∀ a ∈ n.attrs, a.pre.size ≤ 1048576) (hla : n.attrs.length ≤ 1000) :
 Calls prog 52 #[.pointer (some ⟨sb, 0, none⟩), .pointer (some ⟨nb, 0, none⟩)] w (dQu w B sb nb st ov mbs n dv av) := by
 have HS := aQ0 hS
 have HN := aQ0 hN
 have HZA := aQ0 hza
 have hsp := bZu w B sb st ov mbs hS hst n.name.pre hz
 obtain ⟨ao, ac, rfl, hao⟩ := aQr hN.attrs
 obtain ⟨e0, e1, e2, e3, e4, e5, e6, e7, e8⟩ := aXm hN.box
 unfold dQu
 cases hv : aZp (st.map (·.2)) n.name.pre with
 | none =>
  have hpl : plZ (st.map (·.2)) n = none := by unfold plZ; rw [hv]
  rw [hpl]
  rw [hv] at hsp
  simp only [spR] at hsp
  clear hS hN hza hv hpl
  go_enter func52, ntmps52
  go_wp2_with fail
  refine hsp.mono ?_
  rintro e w1 ⟨rfl, hb1⟩
  go_wp2
  go_ret
  exact ⟨rfl, Kp.below hb1 _⟩
 | some v =>
  rw [hv] at hsp
  simp only [spR] at hsp
  have HV := aQ0 hv
  obtain ⟨R, hR⟩ := nmE (plZ (st.map (·.2)) n)
  rw [hR]
  have HRR := aQ0 hR
  clear hS hN hza hv hR
  go_enter func52, ntmps52
  go_wp2_with fail
  refine hsp.mono ?_
  rintro e w1 ⟨rfl, hb1⟩
  have N1 := aQ0 (bQ1 HN.out hb1)
  have S1 := aQ0 (HS.out.below hb1)
  have K1 := aQ0 (Kp.below hb1 (nb :: blk (.slice ao n.attrs.length ac)))
  obtain ⟨f0, f1, f2, f3, f4, f5, f6, f7, f8⟩ := aXm N1.out.box
  clear hb1 hsp e0 e1 e2 e3 e4 e5 e6 e7 e8
  have HSL := aQ0 hst
  have P1 : Hid (PlF w (w1.setCell ⟨nb, 3, none⟩ (.string v)) B sb nb st ov mbs n dv (.slice ao n.attrs.length ac) v [] 0) := aQ0 ⟨S1.out.kept (Kp.set (Kp.refl w1 _) (Or.inr List.mem_cons_self) 3 _) (nd_ty N1.out), nd_spc N1.out v, K1.out.set (Or.inr List.mem_cons_self) 3 _, rfl⟩
  go_wp2_with fail
  go_loopw [31] (fun iv wr => ∃ (k : Nat) (d : List Nm), k ≤ n.attrs.length ∧ iv = .int .i64 k ∧ aXh (st.map (·.2)) (n.attrs.take k) = some d ∧ PlF w wr B sb nb st ov mbs n dv (.slice ao n.attrs.length ac) v d k) (fun iv _ => n.attrs.length - (intOf iv).toNat)
  case atStart => exact ⟨0, [], Nat.zero_le _, rfl, rfl, P1.out⟩
  case round =>
   obtain ⟨k, d, hk, rfl, hd, hP⟩ := hrel
   have HP := aQ0 hP
   have HD := aQ0 hd
   clear hP hd P1 f0 f1 f2 f3 f4 f5 f6 f7 f8
   obtain ⟨f0, f1, f2, f3, f4, f5, f6, f7, f8⟩ := aXm HP.out.nd.box
   by_cases hlt : k < n.attrs.length
   · obtain ⟨g, rfl⟩ := hao (by omega)
     have hdrop : n.attrs.drop k = (n.attrs[k]'hlt) :: n.attrs.drop (k + 1) := List.drop_eq_getElem_cons hlt
     have hst := cV3 hlt HD.out
     have hpz := HZA.out _ (List.getElem_mem hlt)
     obtain ⟨A, hA⟩ := nmE (n.attrs[k]'hlt)
     rw [hA] at hdrop hst hpz
     have hall : (d ++ n.attrs.drop k).length = n.attrs.length := by rw [List.length_append, HP.out.len, List.length_drop]; omega
     have hjl : k < (d ++ n.attrs.drop k).length := by omega
     have hget : (d ++ n.attrs.drop k)[k]'hjl = A := by
      rw [List.getElem_append_right (by rw [HP.out.len]; omega)]
      have : k - d.length = 0 := by rw [HP.out.len]; omega
      simp only [this, hdrop]; rfl
     have hrw : wr.ownsRow B 30 4 (.slice (some ⟨g, 0, none⟩) n.attrs.length ac) n.attrs.length (aQg (d ++ n.attrs.drop k)) := by
      have := HP.out.nd.attrs
      simp only [hall] at this
      exact this
     obtain ⟨t0, t1, t2, t3⟩ := bXi (d ++ n.attrs.drop k) k hjl
     rw [hget] at t0 t1 t2 t3
     have c0 : wr.cell? ⟨g, k * 4, none⟩ = some (.string A.pre) := by rw [hrw.cellAt _ (by omega)]; exact t0
     have c1 : wr.cell? ⟨g, k * 4 + 1, none⟩ = some (.string A.loc) := by rw [hrw.cellAt _ (by omega)]; exact t1
     have c2 : wr.cell? ⟨g, k * 4 + 2, none⟩ = some (.string A.spc) := by rw [hrw.cellAt _ (by omega)]; exact t2
     have c3 : wr.cell? ⟨g, k * 4 + 3, none⟩ = some (.string A.val) := by rw [hrw.cellAt _ (by omega)]; exact t3
     have HST := aQ0 hst
     have HDR := aQ0 hdrop
     obtain ⟨W1, hW1⟩ := nmE (wr.alloc (.cells #[.string A.pre, .string A.loc, .string A.spc, .string A.val] 30))
     have hb1 : Below wr.heap.size wr W1 := by rw [← hW1]; exact bAl
     have X1 := aX0 (show W1.heap[wr.heap.size]? = some (.cells #[.string A.pre, .string A.loc, .string A.spc, .string A.val] 30) by rw [← hW1]; exact heap_alloc_new _ _)
     obtain ⟨x0, x1, x2, x3⟩ := X1
     have Q1 : Hid (PlF w W1 B sb nb st ov mbs n dv (.slice (some ⟨g, 0, none⟩) n.attrs.length ac) v d k) := aQ0 ⟨HP.out.sc.below hb1, bQ1 HP.out.nd hb1, HP.out.kp.on hb1, HP.out.len⟩
     clear hdrop hst hA hget hrw t0 t1 t2 t3 hb1
     by_cases ae : A.pre.toList = []
     · have ae' : A.pre.toList.isEmpty = true := by rw [ae]; rfl
       have HN2 : Hid (aXh (st.map (·.2)) (n.attrs.take (k + 1)) = some (d ++ [A])) := aQ0 (by rw [HST.out, aYw, decide_eq_true ae, if_pos rfl])
       have Q2 : Hid (PlF w W1 B sb nb st ov mbs n dv (.slice (some ⟨g, 0, none⟩) n.attrs.length ac) v (d ++ [A]) (k + 1)) := aQ0 ⟨Q1.out.sc, by
        have := Q1.out.nd
        rw [HDR.out] at this
        rw [List.append_assoc]
        exact this, Q1.out.kp, by rw [List.length_append, Q1.out.len]; rfl⟩
       go_wp2
       go_roundw
       case rel => exact ⟨k + 1, d ++ [A], by omega, by go_num, HN2.out, Q2.out⟩
       case measure => simp [intOf]; omega
     · have ae' : A.pre.toList.isEmpty = false := by rw [List.isEmpty_eq_false_iff]; exact ae
       have hsp := bZu W1 B sb st ov mbs Q1.out.sc HSL.out A.pre hpz
       cases hu : aZp (st.map (·.2)) A.pre with
       | none =>
        have hnone : plZ (st.map (·.2)) n = none := by
         unfold plZ
         rw [HV.out]
         simp only
         rw [dXi (k := k + 1) (by rw [HST.out, aYw, decide_eq_false ae, if_neg (by simp), hu]; rfl)]
         rfl
        obtain rfl : R = none := HRR.out.symm.trans hnone
        rw [hu] at hsp
        simp only [spR] at hsp
        clear hu hnone
        go_wp2_with fail
        refine hsp.mono ?_
        rintro e w2 ⟨rfl, hb2⟩
        have K2 := aQ0 (Q1.out.kp.on hb2)
        clear hb2 hsp
        go_wp2
        go_ret
        exact ⟨rfl, K2.out⟩
       | some u =>
        have HN2 : Hid (aXh (st.map (·.2)) (n.attrs.take (k + 1)) = some (d ++ [{ A with spc := u }])) := aQ0 (by rw [HST.out, aYw, decide_eq_false ae, if_neg (by simp), hu]; rfl)
        rw [hu] at hsp
        simp only [spR] at hsp
        clear hu
        go_wp2_with fail
        refine hsp.mono ?_
        rintro e w2 ⟨rfl, hb2⟩
        have Q2 : Hid (PlF w w2 B sb nb st ov mbs n dv (.slice (some ⟨g, 0, none⟩) n.attrs.length ac) v d k) := aQ0 ⟨Q1.out.sc.below hb2, bQ1 Q1.out.nd hb2, Q1.out.kp.on hb2, Q1.out.len⟩
        obtain ⟨y0, y1, y2, y3, y4, y5, y6, y7, y8⟩ := aXm Q2.out.nd.box
        have hbnd : (d ++ n.attrs.drop k).length = n.attrs.length := hall
        have hrw2 : w2.ownsRow B 30 4 (.slice (some ⟨g, 0, none⟩) n.attrs.length ac) n.attrs.length (aQg (d ++ n.attrs.drop k)) := by
         have := Q2.out.nd.attrs
         simp only [hall] at this
         exact this
        have hfz := hrw2.frozenAt (k * 4 + 2)
        have hcx : w2.cell? ⟨g, k * 4 + 2, none⟩ = some (.string A.spc) := by
         have e1 := aQ2 (hb2.block _ (aQk (show W1.cell? ⟨g, k * 4 + 2, none⟩ = some (.string A.spc) from ?_))) (show W1.cell? ⟨g, k * 4 + 2, none⟩ = some (.string A.spc) from ?_)
         · exact e1
         all_goals
          rw [← hW1]
          exact aQ2 (heap_alloc_old wr _ (aQk c2)) c2
        have hnd2 : aYm w2 B nb { n with name := { n.name with spc := v }, attrs := d ++ A :: n.attrs.drop (k + 1) } dv (.slice (some ⟨g, 0, none⟩) n.attrs.length ac) := by
         have := Q2.out.nd
         rw [HDR.out] at this
         exact this
        have hal2 : (d ++ A :: n.attrs.drop (k + 1)).length = n.attrs.length := by rw [← HDR.out]; exact hall
        have hset := dVj (n := { n with name := { n.name with spc := v }, attrs := d ++ A :: n.attrs.drop (k + 1) }) (d := d) (a := A) (r := n.attrs.drop (k + 1)) rfl (by simp only [hal2]; exact hnd2) u
        simp only [hal2, Q2.out.len] at hset
        have hkset : Kp w (w2.setCell ⟨g, k * 4 + 2, none⟩ (.string u)) (nb :: blk (.slice (some ⟨g, 0, none⟩) n.attrs.length ac)) := Q2.out.kp.set (Or.inr (List.mem_cons_of_mem _ (by unfold blk; simp [Value.ownBlock]))) _ _
        have Q3 : Hid (PlF w (w2.setCell ⟨g, k * 4 + 2, none⟩ (.string u)) B sb nb st ov mbs n dv (.slice (some ⟨g, 0, none⟩) n.attrs.length ac) v (d ++ [{ A with spc := u }]) (k + 1)) := aQ0 ⟨Q2.out.sc.kept (Kp.set (Kp.refl w2 _) (Or.inr (List.mem_cons_of_mem nb (show g ∈ blk (.slice (some ⟨g, 0, none⟩) n.attrs.length ac) by unfold blk; simp [Value.ownBlock]))) _ _) (nd_ty Q2.out.nd), by
         rw [List.append_assoc]
         exact hset, hkset, by rw [List.length_append, Q2.out.len]; rfl⟩
        clear hb2 hsp hrw2 hnd2 hset hkset hal2 hbnd
        go_wp2
        go_roundw
        case rel => exact ⟨k + 1, _, by omega, by go_num, HN2.out, Q3.out⟩
        case measure => simp [intOf]; omega
   · have htk : n.attrs.take k = n.attrs := List.take_of_length_le (by omega)
     have hdr : n.attrs.drop k = [] := List.drop_eq_nil_of_le (by omega)
     have hD := HD.out
     rw [htk] at hD
     have hsome : plZ (st.map (·.2)) n = some { n with name := { n.name with spc := v }, attrs := d } := by
      unfold plZ
      rw [HV.out]
      simp only
      rw [hD]; rfl
     obtain rfl := HRR.out.symm.trans hsome
     have hnd := HP.out.nd
     rw [hdr, List.append_nil] at hnd
     have HND := aQ0 hnd
     clear hnd hsome hD htk hdr
     go_wp2
     go_ret
     exact ⟨rfl, HP.out.sc, HND.out, HP.out.kp⟩
open Go.RowKit Plain2 Lists PlainS Ents
structure EnvS (W : World) (m : Int) : Prop where
 st : ∃ t fr, W.heap[0]? = some (.cells aQi t fr)
 pt : ∃ t fr, W.heap[1]? = some (.cells aXg t fr)
 mx : W.cell? ⟨2, 0, none⟩ = some (.int .i64 m)
theorem EnvS.below {W W' : World} {m : Int} (h : EnvS W m) (hb : Below W.heap.size W W') : EnvS W' m := by
 obtain ⟨t, fr, h1⟩ := h.st
 obtain ⟨tp, frp, h2⟩ := h.pt
 exact ⟨⟨t, fr, (hb.block _ (gLt h1)).trans h1⟩, ⟨tp, frp, (hb.block _ (gLt h2)).trans h2⟩, aQ2 (hb.block _ (aQk h.mx)) h.mx⟩
theorem EnvS.kept {w W W' : World} {m : Int} (h0 : EnvS w m) (h : EnvS W m) {bs : List Nat} (hk : Kp W W' bs) (hb : ∀ b ∈ bs, w.heap.size ≤ b) : EnvS W' m := by
 obtain ⟨t0, fr0, h01⟩ := h0.st
 obtain ⟨tp0, frp0, h02⟩ := h0.pt
 obtain ⟨t, fr, h1⟩ := h.st
 obtain ⟨tp, frp, h2⟩ := h.pt
 have g1 := (gLt h01)
 have g2 := (gLt h02)
 have g3 := aQk h0.mx
 have k : ∀ {j : Nat}, j < w.heap.size → j ∉ bs := fun hj hm => by have := hb _ hm; omega
 exact ⟨⟨t, fr, (hk.block _ (gLt h1) (k g1)).trans h1⟩, ⟨tp, frp, (hk.block _ (gLt h2) (k g2)).trans h2⟩, aQ2 (hk.block _ (aQk h.mx) (k g3)) h.mx⟩
theorem aQq {W : World} {b j k : Nat} (u : Value) (h : k ≠ b) : (W.setCell ⟨b, j, none⟩ u).heap[k]? = W.heap[k]? := Below.heap_setCell W ⟨b, j, none⟩ u k h
theorem aV5 {W : World} {k : Nat} {a : Value} {t : TypeId} (h : W.heap[k]? = some (.cells #[a] t)) : W.cell? ⟨k, 0, none⟩ = some a ∧ W.frozen? ⟨k, 0, none⟩ = false := by simp [World.cell?, World.frozen?, h]
theorem aQz {W : World} {k : Nat} {a b c : Value} {t : TypeId} (h : W.heap[k]? = some (.cells #[a, b, c] t)) : W.cell? ⟨k, 0, none⟩ = some a ∧ W.cell? ⟨k, 1, none⟩ = some b ∧ W.cell? ⟨k, 2, none⟩ = some c ∧ W.frozen? ⟨k, 0, none⟩ = false ∧ W.frozen? ⟨k, 1, none⟩ = false ∧ W.frozen? ⟨k, 2, none⟩ = false := by simp [World.cell?, World.frozen?, h]
theorem bWn (w : World) (qb : Nat) (wr0 : Bool) (nm : ByteArray) (hnm : nm.size ≤ 1048576) (m : Int) (hE : EnvS w m) (hq : w.heap[qb]? = some (.cells #[.bool wr0] 107)) :
 Calls prog 49 #[.pointer (some ⟨qb, 0, none⟩), .string nm] w fun e w' => e = .returned (.agg #[.string (aQu nm).1, .string (aQu nm).2.1, .int .i64 (aQu nm).2.2]) ∧ w'.heap[qb]? = some (.cells #[.bool (wr0 || decide ((aQu nm).2.2 ≠ 0))] 107) ∧ Kp w w' [qb] := by
 obtain ⟨t, fr, h1⟩ := hE.st
 obtain ⟨tp, frp, h2⟩ := hE.pt
 obtain ⟨A, hA⟩ := nmE (w.alloc (.cells #[.string ⟨#[]⟩, .string ⟨#[]⟩, .int .i64 0] 40))
 have hbA : Below w.heap.size w A := by rw [← hA]; exact bAl
 have hEA := hE.below hbA
 obtain ⟨t', fr', h1'⟩ := hEA.st
 obtain ⟨tp', frp', h2'⟩ := hEA.pt
 have hs := bX0 nm A hnm t' fr' h1' tp' frp' h2' m hEA.mx
 obtain ⟨Z, hZ⟩ := nmE (aQu nm)
 rw [hZ] at hs ⊢
 have HQ := aQ0 hq
 have HBA := aQ0 hbA
 clear h1 h2 h1' h2' hE hEA hbA
 go_enter func49, ntmps49
 go_wp2_with fail
 refine hs.mono ?_
 rintro e w2 ⟨rfl, hb2⟩
 have hr2 : w2.heap[w.heap.size]? = some (.cells #[.string ⟨#[]⟩, .string ⟨#[]⟩, .int .i64 0] 40) := (hb2.block _ (by rw [← hA]; simp)).trans (by rw [← hA]; exact heap_alloc_new _ _)
 have hB2 : Below w.heap.size w w2 := HBA.out.trans (hb2.mono HBA.out.size)
 have hq2 : w2.heap[qb]? = some (.cells #[.bool wr0] 107) := (hB2.block _ (gLt HQ.out)).trans HQ.out
 obtain ⟨W3, hW3⟩ := nmE (w2.alloc (.cells #[.string Z.1, .string Z.2.1, .int .i64 Z.2.2] 40))
 have hb3 : Below w2.heap.size w2 W3 := by rw [← hW3]; exact bAl
 have hr3 := (hb3.block _ (gLt hr2)).trans hr2
 have hq3 := (hb3.block _ (gLt hq2)).trans hq2
 have hv3 : W3.heap[w2.heap.size]? = some (.cells #[.string Z.1, .string Z.2.1, .int .i64 Z.2.2] 40) := by rw [← hW3]; exact heap_alloc_new _ _
 have hB3 : Below w.heap.size w W3 := hB2.trans (hb3.mono hB2.size)
 have HB3 := aQ0 hB3
 have HQ3 := aQ0 hq3
 obtain ⟨r0, r1, r2, g0, g1, g2⟩ := aQz hr3
 obtain ⟨v0, v1, v2, _, _, _⟩ := aQz hv3
 obtain ⟨q0, q1⟩ := aV5 hq3
 have hqr : qb ≠ w.heap.size := by have := (gLt hq); omega
 have hrv : w.heap.size ≠ w2.heap.size := by have := (gLt hr2); omega
 have HR3 := aQ0 hr3
 have HV3 := aQ0 hv3
 have hqv : qb ≠ w2.heap.size := by have := (gLt hq2); omega
 clear hs hb2 hr2 hq2 hb3 hr3 hq3 hv3 hB2 hB3 hA
 by_cases hc : Z.2.2 = 0
 · have hc' : (Z.2.2 != 0) = false := by simp [hc]
   have HC := aQ0 hc
   clear hc
   go_wp2
   refine bodyPost_ret (v := .agg #[.string Z.1, .string Z.2.1, .int .i64 Z.2.2]) (by simp [results, results49, go_sem, r0, r1, r2]) rfl ⟨rfl, ?_, ?_⟩
   · rw [aQq _ hqr, aQq _ hqr, aQq _ hqr, HQ3.out, HC.out]
     simp
   · exact (((Kp.below HB3.out [qb]).set (Or.inl (Nat.le_refl _)) _ _).set (Or.inl (Nat.le_refl _)) _ _).set (Or.inl (Nat.le_refl _)) _ _
 · have hc' : (Z.2.2 != 0) = true := by simp [hc]
   have HC := aQ0 hc
   obtain ⟨W4, hW4⟩ := nmE (W3.setCell ⟨qb, 0, none⟩ (.bool true))
   have hr4 : W4.heap[w.heap.size]? = some (.cells #[.string ⟨#[]⟩, .string ⟨#[]⟩, .int .i64 0] 40) := by rw [← hW4, aQq _ hqr.symm]; exact HR3.out
   have hv4 : W4.heap[w2.heap.size]? = some (.cells #[.string Z.1, .string Z.2.1, .int .i64 Z.2.2] 40) := by rw [← hW4, aQq _ hqv.symm]; exact HV3.out
   have HQ4 := aQ0 (show W4.heap[qb]? = some (.cells #[.bool true] 107) by rw [← hW4, heap_setCell_same _ qb 0 _ _ _ HQ3.out]; rfl)
   have HK4 := aQ0 (show Kp w W4 [qb] by rw [← hW4]; exact (Kp.below HB3.out [qb]).set (Or.inr List.mem_cons_self) _ _)
   obtain ⟨s0, s1, s2, k0, k1, k2⟩ := aQz hr4
   obtain ⟨u0, u1, u2, _, _, _⟩ := aQz hv4
   clear hc hr4 hv4
   go_wp2
   refine bodyPost_ret (v := .agg #[.string Z.1, .string Z.2.1, .int .i64 Z.2.2]) (by simp [results, results49, go_sem, s0, s1, s2]) rfl ⟨rfl, ?_, ?_⟩
   · rw [aQq _ hqr, aQq _ hqr, aQq _ hqr, HQ4.out, decide_eq_true HC.out]
     simp
   · exact ((HK4.out.set (Or.inl (Nat.le_refl _)) _ _).set (Or.inl (Nat.le_refl _)) _ _).set (Or.inl (Nat.le_refl _)) _ _
open Go.RowKit Lists PlainN Ents
theorem aVr (w : World) (cs : Array Value) (t : TypeId) : ∀ j u, cs.toList[j]? = some u → (w.alloc (.cells cs t)).cell? ((⟨w.heap.size, 0, none⟩ : Addr).add j) = some u := by
 intro j u h
 have e : (⟨w.heap.size, 0, none⟩ : Addr).add j = ⟨w.heap.size, j, none⟩ := by simp [Addr.add]; exact fun h => h.symm
 rw [e]
 simp only [World.cell?, heap_alloc_new]
 rw [Array.getElem?_toList] at h
 exact h
def FarQ (qb : Nat) : Prop := 0 ≠ qb ∧ 1 ≠ qb ∧ 2 ≠ qb
theorem EnvS.off {W W' : World} {m : Int} (h : EnvS W m) {bs : List Nat} (hk : Kp W W' bs) (hb : ∀ b ∈ bs, FarQ b) : EnvS W' m := by
 obtain ⟨t, fr, h1⟩ := h.st
 obtain ⟨tp, frp, h2⟩ := h.pt
 exact ⟨⟨t, fr, (hk.block _ (gLt h1) (fun hm => (hb _ hm).1 rfl)).trans h1⟩, ⟨tp, frp, (hk.block _ (gLt h2) (fun hm => (hb _ hm).2.1 rfl)).trans h2⟩, aQ2 (hk.block _ (aQk h.mx) (fun hm => (hb _ hm).2.2 rfl)) h.mx⟩
theorem EnvS.far {w : World} {m : Int} (h : EnvS w m) {b : Nat} (hb : w.heap.size ≤ b) : FarQ b := by
 obtain ⟨t, fr, h1⟩ := h.st
 obtain ⟨tp, frp, h2⟩ := h.pt
 have g1 := (gLt h1)
 have g2 := (gLt h2)
 have g3 := aQk h.mx
 exact ⟨fun e => by omega, fun e => by omega, fun e => by omega⟩
def zNdC : Array Value := aQb zNd (.slice none 0 0) (.slice none 0 0)
structure UnF (w W : World) (nb rb qb : Nat) (m : Int) (n : Nd) (dv av : Value) (wg : Bool) : Prop where
 nd : aYm W w.heap.size nb n dv av
 q : W.heap[qb]? = some (.cells #[.bool wg] 107)
 kp : Kp w W [qb]
 env0 : EnvS w m
 res : W.heap[rb]? = some (.cells zNdC 34)
 nr : nb ≠ rb
 n0 : w.heap.size ≤ nb
 r0 : w.heap.size ≤ rb
 far : FarQ qb
 qlt : qb < w.heap.size
theorem UnF.env {w W : World} {nb rb qb : Nat} {m : Int} {n : Nd} {dv av : Value} {wg : Bool} (h : UnF w W nb rb qb m n dv av wg) : EnvS W m := h.env0.off h.kp (fun b hb => by rw [List.mem_singleton] at hb; subst hb; exact h.far)
theorem UnF.below {w W W' : World} {nb rb qb : Nat} {m : Int} {n : Nd} {dv av : Value} {wg : Bool} (h : UnF w W nb rb qb m n dv av wg) (hb : Below W.heap.size W W') : UnF w W' nb rb qb m n dv av wg :=
 ⟨bQ1 h.nd hb, (hb.block _ (gLt h.q)).trans h.q, h.kp.on hb, h.env0, (hb.block _ (gLt h.res)).trans h.res, h.nr, h.n0, h.r0, h.far, h.qlt⟩
theorem dVh {W W' : World} {B nb : Nat} {n : Nd} {dv av : Value} (h : aYm W B nb n dv av) {bs : List Nat} (hk : Kp W W' bs) (ht : ∀ b ∈ bs, ∃ cs t f, W.heap[b]? = some (.cells cs t f) ∧ t ≠ 34 ∧ t ≠ 54 ∧ t ≠ 30) : aYm W' B nb n dv av := by
 have hne : ∀ {k : Nat} {c : Array Value} {s : TypeId} {f : Nat × Nat}, W.heap[k]? = some (.cells c s f) → s = 34 ∨ s = 54 ∨ s = 30 → k ∉ bs := by
  intro k c s f hc hs hm
  obtain ⟨cs, t, f', h1, h2, h3, h4⟩ := ht k hm
  rw [hc] at h1
  injection h1 with h1
  injection h1 with _ h1 _
  rcases hs with hs | hs | hs
  · exact h2 (h1.symm.trans hs)
  · exact h3 (h1.symm.trans hs)
  · exact h4 (h1.symm.trans hs)
 refine ⟨(hk.block _ (gLt h.box) (hne h.box (Or.inl rfl))).trans h.box, aQ4 h.decls (fun k hkk => ?_), aQ4 h.attrs (fun k hkk => ?_)⟩
 · obtain ⟨cs, hc⟩ := aQ3 h.decls hkk
   exact hk.block _ (h.decls.lt k hkk).2 (hne hc (Or.inr (Or.inl rfl)))
 · obtain ⟨cs, hc⟩ := aQ3 h.attrs hkk
   exact hk.block _ (h.attrs.lt k hkk).2 (hne hc (Or.inr (Or.inr rfl)))
theorem UnF.split {w W W' : World} {nb rb qb : Nat} {m : Int} {n : Nd} {dv av : Value} {wg wg' : Bool} (h : UnF w W nb rb qb m n dv av wg) (hk : Kp W W' [qb]) (hq : W'.heap[qb]? = some (.cells #[.bool wg'] 107)) : UnF w W' nb rb qb m n dv av wg' :=
 ⟨dVh h.nd hk (fun b hb => by rw [List.mem_singleton] at hb; subst hb; exact ⟨_, _, _, h.q, by decide, by decide, by decide⟩), hq, h.kp.trans hk (fun c hc _ => hc), h.env0,
  (hk.block _ (gLt h.res) (fun hm => by rw [List.mem_singleton] at hm; have := h.qlt; have := h.r0; omega)).trans h.res, h.nr, h.n0, h.r0, h.far, h.qlt⟩
theorem aXe {W W' : World} {r : Option Nat} (hg : W.grownBy W' r) : Kp W W' r.toList := ⟨hg.os, hg.tape, hg.output, hg.size, fun k hk hn => hg.block k hk (fun e => hn (by rw [Option.mem_toList]; exact e.symm))⟩
theorem cZj {n : Nd} {dv av : Value} (v' : Value) (d : List (ByteArray × ByteArray)) : (aQb n dv av).setIfInBounds 5 v' = aQb { n with decls := d } v' av := rfl
theorem cKv {n : Nd} {dv av : Value} (v' : Value) (d : List Nm) : (aQb n dv av).setIfInBounds 6 v' = aQb { n with attrs := d } dv v' := rfl
theorem UnF.decl {w W wa : World} {nb rb qb : Nat} {m : Int} {n : Nd} {dv av : Value} {wg : Bool} (h : UnF w W nb rb qb m n dv av wg) (o : Obj) (d : ByteArray × ByteArray) {v' : Value} (ho : wa.ownsRow w.heap.size 54 2 v' (n.decls.length + 1) (aQc n.decls ++ [.string d.1, .string d.2])) (hg : (W.alloc o).grownBy wa dv.ownBlock) :
 UnF w (wa.setCell ⟨nb, 5, none⟩ v') nb rb qb m { n with decls := n.decls ++ [d] } v' av wg := by
 have h1 := h.below ((Below.refl _ _).alloc (Nat.le_refl _) o)
 have hk := aXe hg
 have hty : ∀ b ∈ dv.ownBlock.toList, ∃ cs, (W.alloc o).heap[b]? = some (.cells cs 54 (0, 0)) := fun b hb => aQ3 h1.nd.decls (by rw [Option.mem_toList] at hb; exact hb)
 have hoff : ∀ {k : Nat} {c : Array Value} {s : TypeId} {f : Nat × Nat}, (W.alloc o).heap[k]? = some (.cells c s f) → s ≠ 54 → wa.heap[k]? = (W.alloc o).heap[k]? := fun hc hs => hk.block _ (gLt hc) (fun hm => by
  obtain ⟨cs, h2⟩ := hty _ hm
  exact aQ5 hc h2 hs rfl)
 have hbox : wa.heap[nb]? = some (.cells (aQb n dv av) 34) := (hoff h1.nd.box (by decide)).trans h1.nd.box
 have hset : ∀ k, k ≠ nb → (wa.setCell ⟨nb, 5, none⟩ v').heap[k]? = wa.heap[k]? := fun k hk => Below.heap_setCell wa ⟨nb, 5, none⟩ v' k hk
 have hbase : ∀ b ∈ dv.ownBlock.toList, w.heap.size ≤ b := fun b hb => (h1.nd.decls.lt b (by rw [Option.mem_toList] at hb; exact hb)).1
 have hkw : Kp w wa [qb] := h1.kp.trans hk (fun c hc hlt => by have := hbase c hc; omega)
 refine ⟨⟨?_, ?_, ?_⟩, ?_, ?_, ?_, ?_, h.nr, h.n0, h.r0, h.far, h.qlt⟩
 · rw [heap_setCell_same wa nb 5 _ _ _ hbox, cZj]
 · have : aQc (n.decls ++ [d]) = aQc n.decls ++ [.string d.1, .string d.2] := aVj _ _
   show (wa.setCell _ _).ownsRow _ _ _ _ (n.decls ++ [d]).length (aQc (n.decls ++ [d]))
   rw [this, List.length_append]
   exact aQ4 ho (fun k hkk => hset k (by
    obtain ⟨cs, hc⟩ := aQ3 ho hkk
    exact aQ5 hc hbox (by decide)))
 · refine aQ4 h1.nd.attrs (fun k hkk => ?_)
   obtain ⟨cs, hc⟩ := aQ3 h1.nd.attrs hkk
   rw [hset k (aQ5 hc h1.nd.box (by decide)), hoff hc (by decide)]
 · rw [hset qb (aQ5 h1.q h1.nd.box (by decide)), hoff h1.q (by decide), h1.q]
 · exact hkw.set (Or.inl h.n0) _ _
 · exact h.env0
 · rw [hset rb h.nr.symm, hoff h1.res (by decide), h1.res]
theorem UnF.attr {w W wa : World} {nb rb qb : Nat} {m : Int} {n : Nd} {dv av : Value} {wg : Bool} (h : UnF w W nb rb qb m n dv av wg) (o : Obj) (d : Nm) {v' : Value} (ho : wa.ownsRow w.heap.size 30 4 v' (n.attrs.length + 1) (aQg n.attrs ++ nmC d)) (hg : (W.alloc o).grownBy wa av.ownBlock) :
 UnF w (wa.setCell ⟨nb, 6, none⟩ v') nb rb qb m { n with attrs := n.attrs ++ [d] } dv v' wg := by
 have h1 := h.below ((Below.refl _ _).alloc (Nat.le_refl _) o)
 have hk := aXe hg
 have hty : ∀ b ∈ av.ownBlock.toList, ∃ cs, (W.alloc o).heap[b]? = some (.cells cs 30 (0, 0)) := fun b hb => aQ3 h1.nd.attrs (by rw [Option.mem_toList] at hb; exact hb)
 have hoff : ∀ {k : Nat} {c : Array Value} {s : TypeId} {f : Nat × Nat}, (W.alloc o).heap[k]? = some (.cells c s f) → s ≠ 30 → wa.heap[k]? = (W.alloc o).heap[k]? := fun hc hs => hk.block _ (gLt hc) (fun hm => by
  obtain ⟨cs, h2⟩ := hty _ hm
  exact aQ5 hc h2 hs rfl)
 have hbox : wa.heap[nb]? = some (.cells (aQb n dv av) 34) := (hoff h1.nd.box (by decide)).trans h1.nd.box
 have hset : ∀ k, k ≠ nb → (wa.setCell ⟨nb, 6, none⟩ v').heap[k]? = wa.heap[k]? := fun k hk => Below.heap_setCell wa ⟨nb, 6, none⟩ v' k hk
 have hbase : ∀ b ∈ av.ownBlock.toList, w.heap.size ≤ b := fun b hb => (h1.nd.attrs.lt b (by rw [Option.mem_toList] at hb; exact hb)).1
 have hkw : Kp w wa [qb] := h1.kp.trans hk (fun c hc hlt => by have := hbase c hc; omega)
 refine ⟨⟨?_, ?_, ?_⟩, ?_, ?_, ?_, ?_, h.nr, h.n0, h.r0, h.far, h.qlt⟩
 · rw [heap_setCell_same wa nb 6 _ _ _ hbox, cKv]
 · refine aQ4 h1.nd.decls (fun k hkk => ?_)
   obtain ⟨cs, hc⟩ := aQ3 h1.nd.decls hkk
   rw [hset k (aQ5 hc h1.nd.box (by decide)), hoff hc (by decide)]
 · have : aQg (n.attrs ++ [d]) = aQg n.attrs ++ nmC d := by rw [aKh]; simp [aQg]
   show (wa.setCell _ _).ownsRow _ _ _ _ (n.attrs ++ [d]).length (aQg (n.attrs ++ [d]))
   rw [this, List.length_append]
   exact aQ4 ho (fun k hkk => hset k (by
    obtain ⟨cs, hc⟩ := aQ3 ho hkk
    exact aQ5 hc hbox (by decide)))
 · rw [hset qb (aQ5 h1.q h1.nd.box (by decide)), hoff h1.q (by decide), h1.q]
 · exact hkw.set (Or.inl h.n0) _ _
 · exact h.env0
 · rw [hset rb h.nr.symm, hoff h1.res (by decide), h1.res]
theorem cYm {w W : World} {ao : Option Addr} {l : List (ByteArray × ByteArray)} {qb : Nat} {wg : Bool} {t : TypeId} (h : aZ2 w ao l) (hk : Kp w W [qb]) (hq : w.heap[qb]? = some (.cells #[.bool wg] t)) : aZ2 W ao l := by
 obtain ⟨b, off, h1, h2⟩ := h
 refine ⟨b, off, h1, fun i hi => ?_⟩
 obtain ⟨c1, c2⟩ := h2 i hi
 have hne : b ≠ qb := fun e => by
  subst e
  simp only [World.cell?, hq] at c1
  rcases Nat.eq_zero_or_pos (off + i * 2) with e0 | e0
  · rw [e0] at c1; simp at c1
  · rw [Array.getElem?_eq_none (by simp; omega)] at c1; cases c1
 have hb := hk.block b (aQk c1) (by simpa using hne)
 exact ⟨aQ2 hb c1, aQ2 hb c2⟩
theorem aZz {W : World} {k : Nat} {n : Nd} {dv av : Value} {t : TypeId} (hh : W.heap[k]? = some (.cells (aQb n dv av) t)) : W.cell? ⟨k, 5, none⟩ = some dv ∧ W.cell? ⟨k, 6, none⟩ = some av ∧ W.frozen? ⟨k, 5, none⟩ = false ∧ W.frozen? ⟨k, 6, none⟩ = false := by simp [World.cell?, World.frozen?, hh, aQb]
theorem UnF.mid5 {w W wa : World} {nb rb qb : Nat} {m : Int} {n : Nd} {dv av : Value} {wg : Bool} (h : UnF w W nb rb qb m n dv av wg) (o : Obj) (hg : (W.alloc o).grownBy wa dv.ownBlock) : wa.cell? ⟨nb, 5, none⟩ = some dv ∧ wa.cell? ⟨nb, 6, none⟩ = some av ∧ wa.frozen? ⟨nb, 5, none⟩ = false ∧ wa.frozen? ⟨nb, 6, none⟩ = false := by
 have h1 := h.below ((Below.refl _ _).alloc (Nat.le_refl _) o)
 refine aZz (((aXe hg).block _ (gLt h1.nd.box) (fun hm => ?_)).trans h1.nd.box)
 obtain ⟨cs, h2⟩ := aQ3 h1.nd.decls (by rw [Option.mem_toList] at hm; exact hm)
 exact aQ5 h1.nd.box h2 (by decide) rfl
theorem UnF.mid6 {w W wa : World} {nb rb qb : Nat} {m : Int} {n : Nd} {dv av : Value} {wg : Bool} (h : UnF w W nb rb qb m n dv av wg) (o : Obj) (hg : (W.alloc o).grownBy wa av.ownBlock) : wa.cell? ⟨nb, 5, none⟩ = some dv ∧ wa.cell? ⟨nb, 6, none⟩ = some av ∧ wa.frozen? ⟨nb, 5, none⟩ = false ∧ wa.frozen? ⟨nb, 6, none⟩ = false := by
 have h1 := h.below ((Below.refl _ _).alloc (Nat.le_refl _) o)
 refine aZz (((aXe hg).block _ (gLt h1.nd.box) (fun hm => ?_)).trans h1.nd.box)
 obtain ⟨cs, h2⟩ := aQ3 h1.nd.attrs (by rw [Option.mem_toList] at hm; exact hm)
 exact aQ5 h1.nd.box h2 (by decide) rfl
open Go.RowKit Lists PlainS PlainR PlainN Ents
theorem bJn : (prog.info? 30).map (fun i => (i.zero, i.size, i.bytes)) = some (some (.agg #[.string ⟨#[]⟩, .string ⟨#[]⟩, .string ⟨#[]⟩, .string ⟨#[]⟩]), 4, 64) := by kernel_rfl
def unNd (e : Ev) (k : Nat) : Nd := ⟨e.kind, ⟨(aQu e.name).1, (aQu e.name).2.1, ⟨#[]⟩, ⟨#[]⟩⟩, aJm (e.attrs.take k), aZt (e.attrs.take k), ⟨#[]⟩⟩
def unWg (wg : Bool) (e : Ev) (k : Nat) : Bool := wg || (decide ((aQu e.name).2.2 ≠ 0) || (e.attrs.take k).any fun a => decide ((aQu a.1).2.2 ≠ 0))
theorem cQk {e : Ev} {k : Nat} (hk : k < e.attrs.length) : e.attrs.take (k + 1) = e.attrs.take k ++ [e.attrs[k]'hk] := by rw [List.take_add_one, List.getElem?_eq_getElem hk]; rfl
theorem dJz {e : Ev} {k : Nat} (hk : k < e.attrs.length) {d : ByteArray × ByteArray} (h : bQf (e.attrs[k]'hk) = .inl d) : unNd e (k + 1) = { unNd e k with decls := (unNd e k).decls ++ [d] } := by
 unfold unNd aJm aZt
 rw [cQk hk, List.filterMap_append, List.filterMap_append]
 simp [h]
theorem dV0 {e : Ev} {k : Nat} (hk : k < e.attrs.length) {d : Nm} (h : bQf (e.attrs[k]'hk) = .inr d) : unNd e (k + 1) = { unNd e k with attrs := (unNd e k).attrs ++ [d] } := by
 unfold unNd aJm aZt
 rw [cQk hk, List.filterMap_append, List.filterMap_append]
 simp [h]
theorem un_wg {e : Ev} {k : Nat} (wg : Bool) (hk : k < e.attrs.length) : unWg wg e (k + 1) = (unWg wg e k || decide ((aQu (e.attrs[k]'hk).1).2.2 ≠ 0)) := by
 unfold unWg
 rw [cQk hk, List.any_append]
 simp only [List.any_cons, List.any_nil, Bool.or_false, Bool.or_assoc]
theorem bX5 (l : List (ByteArray × ByteArray)) : (aJm l).length ≤ l.length := List.length_filterMap_le _ _
theorem cV4 (l : List (ByteArray × ByteArray)) : (aZt l).length ≤ l.length := List.length_filterMap_le _ _
theorem aX3 {W : World} {k : Nat} {t : TypeId} (hh : W.heap[k]? = some (.cells zNdC t)) : W.cell? ⟨k, 0, none⟩ = some (.int .i64 0) ∧ W.cell? ⟨k, 1, none⟩ = some (.string ⟨#[]⟩) ∧ W.cell? ⟨k, 2, none⟩ = some (.string ⟨#[]⟩) ∧ W.cell? ⟨k, 3, none⟩ = some (.string ⟨#[]⟩) ∧ W.cell? ⟨k, 4, none⟩ = some (.string ⟨#[]⟩) ∧ W.cell? ⟨k, 5, none⟩ = some (.slice none 0 0) ∧ W.cell? ⟨k, 6, none⟩ = some (.slice none 0 0) ∧ W.cell? ⟨k, 7, none⟩ = some (.string ⟨#[]⟩) ∧ W.frozen? ⟨k, 0, none⟩ = false ∧ W.frozen? ⟨k, 1, none⟩ = false ∧ W.frozen? ⟨k, 2, none⟩ = false ∧ W.frozen? ⟨k, 3, none⟩ = false ∧ W.frozen? ⟨k, 4, none⟩ = false ∧ W.frozen? ⟨k, 5, none⟩ = false ∧ W.frozen? ⟨k, 6, none⟩ = false ∧ W.frozen? ⟨k, 7, none⟩ = false := by simp [World.cell?, World.frozen?, hh, zNdC, aQb, zNd, zNm]
theorem aYe {w : World} {base : Nat} {e : TypeId} {size : Nat} {v : Value} {n : Nat} {xs : List Value} (h : w.ownsRow base e size v n xs) {o : Obj} : (w.alloc o).ownsRow base e size v n xs := h.alloc o
def UnSays (w : World) (qb : Nat) (e : Ev) (wg : Bool) (en : Ending) (w' : World) : Prop :=
 ∃ dv av, en = .returned (.agg (aQb (unNd e e.attrs.length) dv av)) ∧ w'.ownsRow w.heap.size 54 2 dv (aJm e.attrs).length (aQc (aJm e.attrs)) ∧ w'.ownsRow w.heap.size 30 4 av (aZt e.attrs).length (aQg (aZt e.attrs)) ∧ w'.heap[qb]? = some (.cells #[.bool (wg || aY7 e)] 107) ∧ Kp w w' [qb]
theorem bWk (w : World) (qb : Nat) (e : Ev) (ao : Option Addr) (ac : Nat) (wg : Bool) (m : Int) (hE : EnvS w m) (hA : aZ2 w ao e.attrs) (hl : e.attrs.length ≤ 1000) (hnm : e.name.size ≤ 1048576) (hna : ∀ a ∈ e.attrs, a.1.size ≤ 1048576) (hq : w.heap[qb]? = some (.cells #[.bool wg] 107)) (hfar : FarQ qb) :
 Calls prog 48 #[.agg #[.int .i64 e.kind, .string e.name, .string e.text, .slice ao e.attrs.length ac], .func (.func 49) #[.pointer (some ⟨qb, 0, none⟩)] #[]] w (UnSays w qb e wg) := by
 obtain ⟨i0, hi, hz0, hz1, hz2⟩ := info_parts bQ2
 obtain ⟨j0, hj, hy0, hy1, hy2⟩ := info_parts bJn
 have hqlt := (gLt hq)
 obtain ⟨W2, hW2⟩ := nmE ((w.alloc (.cells #[.int .i64 e.kind, .string e.name, .string e.text, .slice ao e.attrs.length ac] 37)).alloc (.cells #[.int .i64 0, .string ⟨#[]⟩, .string ⟨#[]⟩, .string ⟨#[]⟩, .string ⟨#[]⟩, .slice none 0 0, .slice none 0 0, .string ⟨#[]⟩] 34))
 have hB2 : Below w.heap.size w W2 := by rw [← hW2]; exact (bAl).alloc (by simp) _
 have hq2 := (hB2.block _ hqlt).trans hq
 have hev : W2.heap[w.heap.size]? = some (.cells #[.int .i64 e.kind, .string e.name, .string e.text, .slice ao e.attrs.length ac] 37) := by rw [← hW2, heap_alloc_old _ _ (by simp)]; exact heap_alloc_new _ _
 have hrs : W2.heap[w.heap.size + 1]? = some (.cells zNdC 34) := by
  rw [← hW2]
  have : (w.alloc (.cells #[.int .i64 e.kind, .string e.name, .string e.text, .slice ao e.attrs.length ac] 37)).heap.size = w.heap.size + 1 := by simp
  rw [← this]; exact heap_alloc_new _ _
 obtain ⟨v0, v1, v2, v3⟩ := aX0 hev
 have HEV := aQ0 hev
 have HRS := aQ0 hrs
 clear hev hrs
 have hs := bWn W2 qb wg e.name hnm m (hE.below hB2) hq2
 have HA := aQ0 hA
 have HE := aQ0 hE
 have HF := aQ0 hfar
 have HNA := aQ0 hna
 have HB2 := aQ0 hB2
 have HQQ := aQ0 hq
 clear hA hE hna hq hq2 hB2 hfar
 go_enter func48, ntmps48
 go_wp2_with fail
 refine hs.mono ?_
 rintro en w3 ⟨rfl, hq3, hk3⟩
 obtain ⟨Z, hZ⟩ := nmE (aQu e.name)
 rw [hZ] at hq3 ⊢
 have HZ := aQ0 hZ
 have hqe : qb ≠ w.heap.size := by omega
 have hev3 : w3.heap[w.heap.size]? = some (.cells #[.int .i64 e.kind, .string e.name, .string e.text, .slice ao e.attrs.length ac] 37) := (hk3.block _ (gLt HEV.out) (by rw [List.mem_singleton]; omega)).trans HEV.out
 have hrs3 : w3.heap[w.heap.size + 1]? = some (.cells zNdC 34) := (hk3.block _ (gLt HRS.out) (by rw [List.mem_singleton]; omega)).trans HRS.out
 obtain ⟨W4, hW4⟩ := nmE (w3.alloc (.cells #[.string Z.1, .string Z.2.1, .int .i64 Z.2.2] 40))
 have hb4 : Below w3.heap.size w3 W4 := by rw [← hW4]; exact bAl
 have hev4 := (hb4.block _ (gLt hev3)).trans hev3
 have hnm4 : W4.heap[w3.heap.size]? = some (.cells #[.string Z.1, .string Z.2.1, .int .i64 Z.2.2] 40) := by rw [← hW4]; exact heap_alloc_new _ _
 obtain ⟨x0, x1, x2, x3⟩ := aX0 hev4
 obtain ⟨y0, y1, y2, _, _, _⟩ := aQz hnm4
 have K4 : Hid (Kp w W4 [qb]) := aQ0 (((Kp.below HB2.out [qb]).trans hk3 (fun c hc _ => hc)).on hb4)
 have HQ4 := aQ0 ((hb4.block _ (gLt hq3)).trans hq3)
 have HR4 := aQ0 ((hb4.block _ (gLt hrs3)).trans hrs3)
 have HV4 := aQ0 hev4
 have hrlt := (gLt HR4.out)
 obtain ⟨W5, hW5⟩ := nmE (W4.alloc (.cells #[.int .i64 e.kind, .string Z.1, .string Z.2.1, .string ⟨#[]⟩, .string ⟨#[]⟩, .slice none 0 0, .slice none 0 0, .string ⟨#[]⟩] 34))
 have hb5 : Below W4.heap.size W4 W5 := by rw [← hW5]; exact bAl
 have hev5 := (hb5.block _ (gLt hev4)).trans hev4
 have z3 := (aX0 hev5).2.2.2
 rw [← hW5] at z3
 have hw4 : w.heap.size ≤ W4.heap.size := by omega
 have U5 : Hid (UnF w W5 W4.heap.size (w.heap.size + 1) qb m (unNd e 0) (.slice none 0 0) (.slice none 0 0) (unWg wg e 0)) := aQ0 ⟨⟨by rw [← hW5, heap_alloc_new]; unfold unNd; rw [HZ.out]; rfl, World.ownsRow_nil _ _ _ _, World.ownsRow_nil _ _ _ _⟩,
  by rw [hb5.block _ (gLt HQ4.out), HQ4.out]; unfold unWg; rw [HZ.out]; simp, K4.out.on hb5, HE.out, (hb5.block _ hrlt).trans HR4.out, by omega, hw4, by omega, HF.out, hqlt⟩
 have HW5 := aQ0 hW5
 clear hs hq3 hk3 hev3 hrs3 hb4 hev4 hnm4 v0 v1 v2 v3 hZ hb5 hev5 hW5
 go_wp2_with fail
 rw [HW5.out]
 generalize hnb : W4.heap.size = nb at U5 ⊢
 generalize hrb : w.heap.size + 1 = rb at U5 ⊢
 clear HW5 hW4 hW2 x0 x1 x2 x3 y0 y1 y2 z3 HV4 HR4 HQ4 K4 hrlt hw4 hnb hrb HRS HEV HB2
 go_loopw [25] (fun iv wr => ∃ (k : Nat) (dv av : Value), k ≤ e.attrs.length ∧ iv = .int .i64 k ∧ UnF w wr nb rb qb m (unNd e k) dv av (unWg wg e k)) (fun iv _ => e.attrs.length - (intOf iv).toNat)
 case atStart => exact ⟨0, _, _, Nat.zero_le _, rfl, U5.out⟩
 case round =>
  obtain ⟨k, dv, av, hk, rfl, hU⟩ := hrel
  have HU := aQ0 hU
  clear hU U5
  by_cases hlt : k < e.attrs.length
  · obtain ⟨b, off, ha, hc⟩ := cYm HA.out HU.out.kp HQQ.out
    obtain rfl := ha (by omega)
    obtain ⟨c1, c2⟩ := hc k hlt
    have hsz := HNA.out _ (List.getElem_mem hlt)
    have hwg := un_wg wg hlt
    have hdc := fun d => dJz (d := d) hlt
    have hac := fun d => dV0 (d := d) hlt
    obtain ⟨A, hAe⟩ := nmE (e.attrs[k]'hlt)
    rw [hAe] at c1 c2 hsz hwg
    simp only [hAe] at hdc hac
    obtain ⟨W1, hW1⟩ := nmE (wr.alloc (.cells #[.string A.1, .string A.2] 54))
    have hb1 : Below wr.heap.size wr W1 := by rw [← hW1]; exact bAl
    have U1 := aQ0 (HU.out.below hb1)
    have hx1 : W1.heap[wr.heap.size]? = some (.cells #[.string A.1, .string A.2] 54) := by rw [← hW1]; exact heap_alloc_new _ _
    have HX1 := aQ0 hx1
    obtain ⟨x0, x1⟩ := bZm hx1
    have hs := bWn W1 qb _ A.1 hsz m U1.out.env U1.out.q
    have HWG := aQ0 hwg
    have HDC := aQ0 hdc
    have HAC := aQ0 hac
    have hqx : wr.heap.size ∉ [qb] := by rw [List.mem_singleton]; have := HU.out.kp.size; omega
    have HQX := aQ0 hqx
    clear hc ha hAe hb1 hx1 hwg hdc hac hqx
    go_wp2_with fail
    refine hs.mono ?_
    rintro en w2 ⟨rfl, hq2, hk2⟩
    obtain ⟨Y, hY⟩ := nmE (aQu A.1)
    rw [hY] at hq2 ⊢
    have HY := aQ0 hY
    have U2 := aQ0 (U1.out.split hk2 hq2)
    have hx2 := (hk2.block _ (gLt HX1.out) HQX.out).trans HX1.out
    obtain ⟨W3, hW3⟩ := nmE (w2.alloc (.cells #[.string Y.1, .string Y.2.1, .int .i64 Y.2.2] 40))
    have hb3 : Below w2.heap.size w2 W3 := by rw [← hW3]; exact bAl
    have U3 := aQ0 (U2.out.below hb3)
    obtain ⟨y0, y1, y2, _, _, _⟩ := aQz (show W3.heap[w2.heap.size]? = some (.cells #[.string Y.1, .string Y.2.1, .int .i64 Y.2.2] 40) by rw [← hW3]; exact heap_alloc_new _ _)
    obtain ⟨z0, z1⟩ := bZm ((hb3.block _ (gLt hx2)).trans hx2)
    obtain ⟨n5, n6, n7, n8⟩ := aZz U3.out.nd.box
    have HWG2 : Hid (unWg wg e (k + 1) = (unWg wg e k || decide (Y.2.2 ≠ 0))) := aQ0 (by rw [HWG.out, HY.out])
    obtain ⟨da, dc, rfl, _⟩ := aQr U3.out.nd.decls
    obtain ⟨aa, ac', rfl, _⟩ := aQr U3.out.nd.attrs
    have hld : (unNd e k).decls.length ≤ 1000 := by have := bX5 (e.attrs.take k); rw [List.length_take] at this; show (aJm (e.attrs.take k)).length ≤ 1000; omega
    have hla : (unNd e k).attrs.length ≤ 1000 := by have := cV4 (e.attrs.take k); rw [List.length_take] at this; show (aZt (e.attrs.take k)).length ≤ 1000; omega
    have hmz : ∀ o, w.heap.size ≤ (W3.alloc o).heap.size := by intro o; have := U3.out.kp.size; simp; omega
    clear hs hq2 hk2 hb3 hx2 hY x0 x1 hW1
    cases a1 : (Y.1.toList == [120, 109, 108, 110, 115]) with
    | true =>
     have hpz : bQf A = .inl (Y.2.1, A.2) := by unfold bQf; rw [HY.out]; unfold aQx; rw [aVs, a1, if_pos rfl]
     have HN := aQ0 (HDC.out _ hpz)
     clear hpz
     have hone : ∀ u ∈ [Value.string Y.2.1, .string A.2], u.oneCell' = true := by intro u hu; simp at hu; rcases hu with rfl | rfl <;> rfl
     have hmx : (unNd e k).decls.length + 1 ≤ maxLen := by unfold maxLen; omega
     have hmy : ((unNd e k).decls.length + 1) * 32 ≤ 140737488355328 := by omega
     go_wp2_with (at_builtin; refine wpList_append_own _ rfl _ _ 31 rfl w.heap.size 54 i0 (.agg #[.string ByteArray.empty, .string ByteArray.empty]) 2 32 underlying31 hi hz0 hz1 hz2 rfl (by decide) _ _ _ rfl (aYe U3.out.nd.decls) ⟨_, 0, none⟩ 1 1 [.string Y.2.1, .string A.2] rfl rfl (aVr _ _ _) hone hmx hmy (hmz _) ?_; intro v' wa hown' hgrow _; obtain ⟨xo, xc, rfl, _⟩ := aQr hown'; obtain ⟨m0, m1, m2, m3⟩ := U3.out.mid5 _ hgrow; have U4 := aQ0 (U3.out.decl _ (Y.2.1, A.2) hown' hgrow); clear hown' hgrow)
     go_roundw
     case rel => exact ⟨k + 1, _, _, by omega, by go_num, by rw [HN.out, HWG2.out]; exact U4.out⟩
     case measure => simp [intOf]; omega
    | false =>
     cases a2 : (A.1.toList == [120, 109, 108, 110, 115]) with
     | true =>
      have hpz : bQf A = .inl (⟨#[]⟩, A.2) := by unfold bQf; rw [HY.out]; unfold aQx; rw [aVs, a1, a2, if_neg (by simp), if_pos rfl]
      have HN := aQ0 (HDC.out _ hpz)
      clear hpz
      have hone : ∀ u ∈ [Value.string ⟨#[]⟩, .string A.2], u.oneCell' = true := by intro u hu; simp at hu; rcases hu with rfl | rfl <;> rfl
      have hmx : (unNd e k).decls.length + 1 ≤ maxLen := by unfold maxLen; omega
      have hmy : ((unNd e k).decls.length + 1) * 32 ≤ 140737488355328 := by omega
      go_wp2_with (at_builtin; refine wpList_append_own _ rfl _ _ 31 rfl w.heap.size 54 i0 (.agg #[.string ByteArray.empty, .string ByteArray.empty]) 2 32 underlying31 hi hz0 hz1 hz2 rfl (by decide) _ _ _ rfl (aYe U3.out.nd.decls) ⟨_, 0, none⟩ 1 1 [.string ⟨#[]⟩, .string A.2] rfl rfl (aVr _ _ _) hone hmx hmy (hmz _) ?_; intro v' wa hown' hgrow _; obtain ⟨xo, xc, rfl, _⟩ := aQr hown'; obtain ⟨m0, m1, m2, m3⟩ := U3.out.mid5 _ hgrow; have U4 := aQ0 (U3.out.decl _ ((⟨#[]⟩ : ByteArray), A.2) hown' hgrow); clear hown' hgrow)
      go_roundw
      case rel => exact ⟨k + 1, _, _, by omega, by go_num, by rw [HN.out, HWG2.out]; exact U4.out⟩
      case measure => simp [intOf]; omega
     | false =>
      have hpz : bQf A = .inr ⟨Y.1, Y.2.1, ⟨#[]⟩, A.2⟩ := by unfold bQf; rw [HY.out]; unfold aQx; rw [aVs, a1, a2, if_neg (by simp), if_neg (by simp)]
      have HN := aQ0 (HAC.out _ hpz)
      clear hpz
      have hone : ∀ u ∈ [Value.string Y.1, .string Y.2.1, .string ⟨#[]⟩, .string A.2], u.oneCell' = true := by intro u hu; simp at hu; rcases hu with rfl | rfl | rfl | rfl <;> rfl
      have hmx : (unNd e k).attrs.length + 1 ≤ maxLen := by unfold maxLen; omega
      have hmy : ((unNd e k).attrs.length + 1) * 64 ≤ 140737488355328 := by omega
      go_wp2_with (at_builtin; refine wpList_append_own _ rfl _ _ 32 rfl w.heap.size 30 j0 (.agg #[.string ⟨#[]⟩, .string ⟨#[]⟩, .string ⟨#[]⟩, .string ⟨#[]⟩]) 4 64 underlying32 hj hy0 hy1 hy2 rfl (by decide) _ _ _ rfl (aYe U3.out.nd.attrs) ⟨_, 0, none⟩ 1 1 [.string Y.1, .string Y.2.1, .string ⟨#[]⟩, .string A.2] rfl rfl (aVr _ _ _) hone hmx hmy (hmz _) ?_; intro v' wa hown' hgrow _; obtain ⟨xo, xc, rfl, _⟩ := aQr hown'; obtain ⟨m0, m1, m2, m3⟩ := U3.out.mid6 _ hgrow; have U4 := aQ0 (U3.out.attr _ (⟨Y.1, Y.2.1, ⟨#[]⟩, A.2⟩) hown' hgrow); clear hown' hgrow)
      go_roundw
      case rel => exact ⟨k + 1, _, _, by omega, by go_num, by rw [HN.out, HWG2.out]; exact U4.out⟩
      case measure => simp [intOf]; omega
  · have hkk : k = e.attrs.length := by omega
    subst hkk
    obtain ⟨n0, n1, n2, n3, n4, n5, n6, n7, _⟩ := aXm HU.out.nd.box
    obtain ⟨r0, r1, r2, r3, r4, r5, r6, r7, f0, f1, f2, f3, f4, f5, f6, f7⟩ := aX3 HU.out.res
    obtain ⟨da, dc, rfl, _⟩ := aQr HU.out.nd.decls
    obtain ⟨aa, ac', rfl, _⟩ := aQr HU.out.nd.attrs
    have hnr := HU.out.nr
    have hfull : e.attrs.take e.attrs.length = e.attrs := List.take_of_length_le (Nat.le_refl _)
    have HFL := aQ0 hfull
    clear hfull
    go_wp2
    refine bodyPost_ret (v := .agg (aQb (unNd e e.attrs.length) (.slice da (unNd e e.attrs.length).decls.length dc) (.slice aa (unNd e e.attrs.length).attrs.length ac'))) (by simp [results, results48, go_sem, r0, r1, r2, r3, r4, r5, r6, r7, aQb]) rfl ?_
    refine ⟨_, _, rfl, ?_, ?_, ?_, ?_⟩
    · have h1 := HU.out.nd.decls
      have h2 : (unNd e e.attrs.length).decls = aJm e.attrs := by unfold unNd; rw [HFL.out]
      rw [h2] at h1 ⊢
      refine aQ4 h1 (fun j hj => ?_)
      obtain ⟨cs, hc⟩ := aQ3 h1 hj
      have hne := aQ5 hc HU.out.res (by decide)
      simp only [aQq _ hne]
    · have h1 := HU.out.nd.attrs
      have h2 : (unNd e e.attrs.length).attrs = aZt e.attrs := by unfold unNd; rw [HFL.out]
      rw [h2] at h1 ⊢
      refine aQ4 h1 (fun j hj => ?_)
      obtain ⟨cs, hc⟩ := aQ3 h1 hj
      have hne := aQ5 hc HU.out.res (by decide)
      simp only [aQq _ hne]
    · have hne := aQ5 HU.out.q HU.out.res (by decide)
      simp only [aQq _ hne]
      rw [HU.out.q]
      unfold unWg aY7
      rw [HFL.out]
    · have hr := HU.out.r0
      exact (((((((HU.out.kp.set (Or.inl hr) _ _).set (Or.inl hr) _ _).set (Or.inl hr) _ _).set (Or.inl hr) _ _).set (Or.inl hr) _ _).set (Or.inl hr) _ _).set (Or.inl hr) _ _).set (Or.inl hr) _ _
end Go.Proofs.YtocnfoeaikiecaaGreatDoor
