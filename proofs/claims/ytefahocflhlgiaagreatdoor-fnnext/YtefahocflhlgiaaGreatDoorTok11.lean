/- The model's scanner: what the reading of a start holds in memory. -/
import Derived.Test.YtefahocflhlgiaaGreatDoorTok10
import Derived.OwnWalk
namespace Go.Proofs.YtefahocflhlgiaaGreatDoor
open Go.RowKit Plain1 Strs Strs2 Lists Plain3 Plain5 Plain6 Plain9 Plain10 Plain11

/-- The scanner, the result's place, the mark in the making and its attributes. -/
structure Ft (w W : World) (g : Nat) (s : ByteArray) (x : Sc) (k : Nat) (kd : Int) (nm : ByteArray) (v : Value) (acc : List (ByteArray × ByteArray)) : Prop where
  fr : Fr w W g s x k kd nm ByteArray.empty v
  row : W.ownsRow (k + 1) 109 2 v acc.length (acells acc)
variable {w W W' : World} {g : Nat} {s : ByteArray} {x x' : Sc} {k : Nat} {kd : Int} {nm : ByteArray} {v : Value} {acc : List (ByteArray × ByteArray)}
theorem Ft.step (h : Ft w W g s x k kd nm v acc) (hb : ScBox W' g s x') (hg : W.grownBy W' (some g)) : Ft w W' g s x' k kd nm v acc :=
  ⟨h.fr.step hb hg, h.row.kept hg (.inr fun e => by have := h.row.lt g e; have := h.fr.ahead; have := h.fr.fr.lt; omega)⟩
theorem Ft.drew (h : Ft w W g s x k kd nm v acc) (n : Nat) : Ft w (W.drewN n) g s x k kd nm v acc := h.step h.fr.fr.sc (gdrew5 W n _)
theorem Ft.bad {p : Nat} (h : Ft w W g s ⟨p, 0⟩ k kd nm v acc) : Ft w (W.setCell ⟨g, 3, none⟩ (.bool true)) g s ⟨p, 2⟩ k kd nm v acc := h.step (box_bad h.fr.fr.sc) (gset5 _)
theorem Ft.pos {p f : Nat} (h : Ft w W g s ⟨p, f⟩ k kd nm v acc) {z : Int} (q : Nat) (hz : z = (q : Int)) : Ft w (W.setCell ⟨g, 1, none⟩ (.int .i64 z)) g s ⟨q, f⟩ k kd nm v acc := h.step (box_posI h.fr.fr.sc q hz) (gset5 _)
theorem Ft.kind (h : Ft w W g s x k kd nm v acc) (z : Int) : Ft w (W.setCell ⟨k, 0, none⟩ (.int .i64 z)) g s x k z nm v acc :=
  ⟨h.fr.kind z, h.row.kept (gset5 (g := k) (j := 0) (.int .i64 z)) (.inr fun e => by have := h.row.lt k e; omega)⟩
theorem Ft.alloc (h : Ft w W g s x k kd nm v acc) (o : Obj) : Ft w (W.alloc o) g s x k kd nm v acc := h.step (sc_alloc h.fr.fr.sc o) (galloc5 W o _)
/-- The attribute's box. -/
def AtBox (w : World) (a : Nat) (an av : ByteArray) : Prop := w.heap[a]? = some (.cells #[.string an, .string av] 109)
structure Fa (w W : World) (g : Nat) (s : ByteArray) (x : Sc) (k : Nat) (kd : Int) (nm : ByteArray) (v : Value) (acc : List (ByteArray × ByteArray)) (a : Nat) (an av : ByteArray) : Prop where
  ft : Ft w W g s x k kd nm v acc
  box : AtBox W a an av
  ahead : k < a
  apart : ∀ b, v.ownBlock = some b → b < a
variable {a : Nat} {an av : ByteArray}
theorem atcells (h : AtBox W a an av) : W.cell? ⟨a, 0, none⟩ = some (.string an) ∧ W.cell? ⟨a, 1, none⟩ = some (.string av) ∧ W.frozen? ⟨a, 0, none⟩ = false ∧ W.frozen? ⟨a, 1, none⟩ = false := by
  unfold AtBox at h
  simp [World.cell?, World.frozen?, h]
theorem Ft.newA (h : Ft w W g s x k kd nm v acc) (an av : ByteArray) : Fa w (W.alloc (.cells #[.string an, .string av] 109)) g s x k kd nm v acc W.heap.size an av :=
  ⟨h.alloc _, Below.heap_new _ _, tk_lt h.fr.box, fun b hb => (h.row.lt b hb).2⟩
theorem Fa.step (h : Fa w W g s x k kd nm v acc a an av) (hb : ScBox W' g s x') (hg : W.grownBy W' (some g)) : Fa w W' g s x' k kd nm v acc a an av := by
  have hl := h.ft.fr.fr.lt
  have ha := h.ft.fr.ahead
  have hk := h.ahead
  refine ⟨h.ft.step hb hg, ?_, h.ahead, h.apart⟩
  unfold AtBox
  rw [hg.block a (Array.getElem?_eq_some_iff.1 h.box).1 (fun e => by have := Option.some.inj e; omega)]; exact h.box
theorem Fa.drew (h : Fa w W g s x k kd nm v acc a an av) (n : Nat) : Fa w (W.drewN n) g s x k kd nm v acc a an av := h.step h.ft.fr.fr.sc (gdrew5 W n _)
theorem Fa.there {p : Nat} (h : Fa w W g s ⟨p, 0⟩ k kd nm v acc a an av) : Fa w ((W.setCell ⟨g, 4, none⟩ (.bool true)).setCell ⟨g, 3, none⟩ (.bool true)) g s ⟨p, 3⟩ k kd nm v acc a an av :=
  h.step (box_there h.ft.fr.fr.sc) (gtrans5 (gset5 _) (gset5 _))
theorem Fa.val (h : Fa w W g s x k kd nm v acc a an av) (t : ByteArray) : Fa w (W.setCell ⟨a, 1, none⟩ (.string t)) g s x k kd nm v acc a an t := by
  have hl := h.ft.fr.fr.lt
  have ha := h.ft.fr.ahead
  have hk := h.ahead
  refine ⟨⟨⟨⟨sc_set h.ft.fr.fr.sc (by omega) _, ?_, gsetNew h.ft.fr.fr.grown (by omega) _, hl⟩, ?_, ha⟩, ?_⟩, ?_, hk, h.apart⟩
  · unfold TkBox; rw [set_other _ (by omega)]; exact h.ft.fr.fr.res
  · unfold TkBox; rw [set_other _ (by omega)]; exact h.ft.fr.box
  · exact h.ft.row.kept (gset5 (g := a) (j := 1) (.string t)) (.inr fun e => by have := h.apart a e; omega)
  · unfold AtBox; rw [set5 h.box 1 (.string t)]; rfl
/-- Behind an append: the new row, the mark's field written. -/
theorem Fa.appended {W3 : World} {v' : Value} (h : Fa w W g s x k kd nm v acc a an av) (o : Obj) (hr : W3.ownsRow (k + 1) 109 2 v' (acc.length + 1) (acells acc ++ [.string an, .string av])) (hg : (W.alloc o).grownBy W3 v.ownBlock) :
    Ft w (W3.setCell ⟨k, 3, none⟩ v') g s x k kd nm v' (acc ++ [(an, av)]) := by
  have hl := h.ft.fr.fr.lt
  have ha := h.ft.fr.ahead
  have hne : ∀ b, b ≤ k → some b ≠ v.ownBlock := fun b hb e => by have := h.ft.row.lt b e.symm; omega
  have h0 := h.ft.alloc o
  have hsc : ScBox W3 g s x := by unfold ScBox; rw [hg.block g (sc_lt h0.fr.fr.sc) (hne g (by omega))]; exact h0.fr.fr.sc
  have hres : TkBox W3 w.heap.size 0 ByteArray.empty ByteArray.empty (.slice none 0 0) := by unfold TkBox; rw [hg.block _ (tk_lt h0.fr.fr.res) (hne _ (by omega))]; exact h0.fr.fr.res
  have hbox : TkBox W3 k kd nm ByteArray.empty v := by unfold TkBox; rw [hg.block _ (tk_lt h0.fr.box) (hne _ (by omega))]; exact h0.fr.box
  have hgr : w.grownBy W3 (some g) := ⟨hg.os.trans h0.fr.fr.grown.os, hg.tape.trans h0.fr.fr.grown.tape, hg.output.trans h0.fr.fr.grown.output, Nat.le_trans h0.fr.fr.grown.size hg.size,
    fun i hi hne' => (hg.block i (Nat.lt_of_lt_of_le hi h0.fr.fr.grown.size) (hne i (by omega))).trans (h0.fr.fr.grown.block i hi hne')⟩
  have hF : Fr w W3 g s x k kd nm ByteArray.empty v := ⟨⟨hsc, hres, hgr, hl⟩, hbox, ha⟩
  refine ⟨hF.kset 3 v' rfl, ?_⟩
  have e1 : (acc ++ [(an, av)]).length = acc.length + 1 := by simp
  rw [e1, acells_snoc]
  exact hr.kept (gset5 (g := k) (j := 3) v') (.inr fun e => by have := hr.lt k e; omega)
/-- The end of a start that is told. -/
theorem Ft.tells {p : Nat} (h : Ft w W g s ⟨p, 0⟩ k kd nm v acc) (hp : p ≤ s.size) :
    TkSays w g s ⟨0, kd, nm, ByteArray.empty, acc, p⟩ (.returned (.agg #[.int .i64 kd, .string nm, .string ByteArray.empty, v])) ((((W.setCell ⟨w.heap.size, 0, none⟩ (.int .i64 kd)).setCell ⟨w.heap.size, 1, none⟩ (.string nm)).setCell ⟨w.heap.size, 2, none⟩ (.string ByteArray.empty)).setCell ⟨w.heap.size, 3, none⟩ v) := by
  have hF := fin4 h.fr.fr.sc h.fr.fr.grown h.fr.fr.lt (.int .i64 kd) (.string nm) (.string ByteArray.empty) v
  have ha := h.fr.ahead
  have hs : ∀ {W0 : World} (j : Nat) (u : Value), W0.ownsRow (k + 1) 109 2 v acc.length (acells acc) → (W0.setCell ⟨w.heap.size, j, none⟩ u).ownsRow (k + 1) 109 2 v acc.length (acells acc) :=
    fun j u h0 => h0.kept (gset5 (g := w.heap.size) (j := j) u) (.inr fun e => by have := h0.lt _ e; omega)
  have hr := hs 3 v (hs 2 (.string ByteArray.empty) (hs 1 (.string nm) (hs 0 (.int .i64 kd) h.row)))
  obtain ⟨ao, an, ac, rfl⟩ : ∃ ao an ac, v = .slice ao an ac := by
    rcases owns_forms h.row with ⟨rfl, _⟩ | ⟨_, _, rfl⟩
    · exact ⟨_, _, _, rfl⟩
    · exact ⟨_, _, _, rfl⟩
  refine ⟨kd, nm, ByteArray.empty, _, _, _, p, rfl, hF.1, hp, fun _ => ⟨rfl, rfl, rfl, rfl, ?_⟩, hF.2⟩
  rcases hr with ⟨h1, h2⟩
  refine ⟨h1, ?_⟩
  rcases h2 with h2 | ⟨b, cap, cur, h3, h4, h5⟩
  · exact .inl h2
  · exact .inr ⟨b, cap, cur, h3, by omega, h5⟩
def scMeas2 (w : World) (g n : Nat) : Nat := match w.cell? ⟨g, 2, none⟩, w.cell? ⟨g, 3, none⟩ with | some (.bool false), some (.bool false) => n + 1 - scPos w g | _, _ => 0
theorem scMeas2_0 {p : Nat} (h : ScBox W g s ⟨p, 0⟩) (n : Nat) : scMeas2 W g n = n + 1 - p := by
  obtain ⟨_, _, c2, c3, _⟩ := block0 h
  unfold scMeas2; rw [c2, c3, scPos_of h]
theorem scMeas2_f {p f : Nat} (h : ScBox W g s ⟨p, f⟩) (hf : f ≠ 0) (n : Nat) : scMeas2 W g n = 0 := by
  obtain ⟨_, _, c2, c3, _⟩ := block5 h
  unfold scMeas2; rw [c2, c3]
  rcases fl_cases f with ⟨h0, _⟩ | ⟨_, _, e1, e2⟩ | ⟨_, _, e1, e2⟩
  · exact absurd h0 hf
  · simp only [e1]
  · simp only [e1, e2]
end Go.Proofs.YtefahocflhlgiaaGreatDoor
