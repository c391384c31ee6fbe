/- The model's scanner: what a function that reads a mark holds in memory: the scanner, its result, its mark. -/
import Derived.Test.YtefahocflhlgiaaGreatDoorTok5
namespace Go.Proofs.YtefahocflhlgiaaGreatDoor
open Go.RowKit Plain1 Strs Strs2 Lists Plain3 Plain5 Plain6 Plain9 Plain10 Plain11

/-- The scanner and the result's place. -/
structure Fr0 (w W : World) (g : Nat) (s : ByteArray) (x : Sc) : Prop where
  sc : ScBox W g s x
  res : TkBox W w.heap.size 0 ByteArray.empty ByteArray.empty (.slice none 0 0)
  grown : w.grownBy W (some g)
  lt : g < w.heap.size
/-- The scanner, the result's place, and the mark in the making. -/
structure Fr (w W : World) (g : Nat) (s : ByteArray) (x : Sc) (k : Nat) (kd : Int) (nm tx : ByteArray) (v : Value) : Prop where
  fr : Fr0 w W g s x
  box : TkBox W k kd nm tx v
  ahead : w.heap.size < k
theorem Fr0.start {w : World} {g : Nat} {s : ByteArray} {x : Sc} (h : ScBox w g s x) : Fr0 w (w.alloc zTok) g s x :=
  ⟨sc_alloc h _, tk_alloc w, galloc5 w _ _, sc_lt h⟩
theorem Fr0.step {w W W' : World} {g : Nat} {s : ByteArray} {x x' : Sc} (h : Fr0 w W g s x) (hb : ScBox W' g s x') (hg : W.grownBy W' (some g)) : Fr0 w W' g s x' :=
  ⟨hb, tk_keep h.res hg (by have := h.lt; omega), gtrans5 h.grown hg, h.lt⟩
theorem Fr0.alloc {w W : World} {g : Nat} {s : ByteArray} {x : Sc} (h : Fr0 w W g s x) (o : Obj) : Fr0 w (W.alloc o) g s x :=
  h.step (sc_alloc h.sc o) (galloc5 W o _)
theorem Fr0.new {w W : World} {g : Nat} {s : ByteArray} {x : Sc} (h : Fr0 w W g s x) (kd : Int) (nm tx : ByteArray) (v : Value) :
    Fr w (W.alloc (.cells #[.int .i64 kd, .string nm, .string tx, v] 27)) g s x W.heap.size kd nm tx v :=
  ⟨h.alloc _, tk_new W kd nm tx v, tk_lt h.res⟩
theorem Fr.step {w W W' : World} {g : Nat} {s : ByteArray} {x x' : Sc} {k : Nat} {kd : Int} {nm tx : ByteArray} {v : Value} (h : Fr w W g s x k kd nm tx v) (hb : ScBox W' g s x') (hg : W.grownBy W' (some g)) : Fr w W' g s x' k kd nm tx v :=
  ⟨h.fr.step hb hg, tk_keep h.box hg (by have := h.fr.lt; have := h.ahead; omega), h.ahead⟩
theorem Fr.drew {w W : World} {g : Nat} {s : ByteArray} {x : Sc} {k : Nat} {kd : Int} {nm tx : ByteArray} {v : Value} (h : Fr w W g s x k kd nm tx v) (n : Nat) : Fr w (W.drewN n) g s x k kd nm tx v :=
  h.step h.fr.sc (gdrew5 W n _)
theorem Fr.bad {w W : World} {g : Nat} {s : ByteArray} {p : Nat} {k : Nat} {kd : Int} {nm tx : ByteArray} {v : Value} (h : Fr w W g s ⟨p, 0⟩ k kd nm tx v) : Fr w (W.setCell ⟨g, 3, none⟩ (.bool true)) g s ⟨p, 2⟩ k kd nm tx v :=
  h.step (box_bad h.fr.sc) (gset5 _)
theorem Fr.pos {w W : World} {g : Nat} {s : ByteArray} {p f : Nat} {k : Nat} {kd : Int} {nm tx : ByteArray} {v : Value} (h : Fr w W g s ⟨p, f⟩ k kd nm tx v) {z : Int} (q : Nat) (hz : z = (q : Int)) : Fr w (W.setCell ⟨g, 1, none⟩ (.int .i64 z)) g s ⟨q, f⟩ k kd nm tx v :=
  h.step (box_posI h.fr.sc q hz) (gset5 _)
theorem set_other {W : World} {k k' j : Nat} (u : Value) (hne : k' ≠ k) : (W.setCell ⟨k, j, none⟩ u).heap[k']? = W.heap[k']? := Below.heap_setCell W ⟨k, j, none⟩ u k' hne
theorem Fr.kset {w W : World} {g : Nat} {s : ByteArray} {x : Sc} {k : Nat} {kd kd' : Int} {nm tx nm' tx' : ByteArray} {v v' : Value} (h : Fr w W g s x k kd nm tx v) (j : Nat) (u : Value)
    (hu : (#[.int .i64 kd, .string nm, .string tx, v] : Array Value).setIfInBounds j u = #[.int .i64 kd', .string nm', .string tx', v']) : Fr w (W.setCell ⟨k, j, none⟩ u) g s x k kd' nm' tx' v' := by
  have ha := h.ahead
  have hl := h.fr.lt
  refine ⟨⟨sc_set h.fr.sc (by omega) _, ?_, gsetNew h.fr.grown (by omega) _, hl⟩, ?_, ha⟩
  · unfold TkBox; rw [set_other _ (by omega)]; exact h.fr.res
  · unfold TkBox; rw [set5 h.box j u, hu]
theorem Fr.text {w W : World} {g : Nat} {s : ByteArray} {x : Sc} {k : Nat} {kd : Int} {nm tx : ByteArray} {v : Value} (h : Fr w W g s x k kd nm tx v) (t : ByteArray) : Fr w (W.setCell ⟨k, 2, none⟩ (.string t)) g s x k kd nm t v := h.kset 2 _ rfl
theorem Fr.name {w W : World} {g : Nat} {s : ByteArray} {x : Sc} {k : Nat} {kd : Int} {nm tx : ByteArray} {v : Value} (h : Fr w W g s x k kd nm tx v) (t : ByteArray) : Fr w (W.setCell ⟨k, 1, none⟩ (.string t)) g s x k kd t tx v := h.kset 1 _ rfl
theorem Fr.kind {w W : World} {g : Nat} {s : ByteArray} {x : Sc} {k : Nat} {kd : Int} {nm tx : ByteArray} {v : Value} (h : Fr w W g s x k kd nm tx v) (z : Int) : Fr w (W.setCell ⟨k, 0, none⟩ (.int .i64 z)) g s x k z nm tx v := h.kset 0 _ rfl
/-- The end of a function whose mark fails. -/
theorem Fr0.fails {w W : World} {g : Nat} {s : ByteArray} {p f : Nat} (h : Fr0 w W g s ⟨p, f⟩) (hf : f ≠ 0) (hp : p ≤ s.size) (kd : Int) (nm tx : ByteArray) (v : Value) (hv : ∃ ao an ac, v = .slice ao an ac := by exact ⟨_, _, _, rfl⟩) :
    TkSays w g s (failT f) (.returned (.agg #[.int .i64 kd, .string nm, .string tx, v])) ((((W.setCell ⟨w.heap.size, 0, none⟩ (.int .i64 kd)).setCell ⟨w.heap.size, 1, none⟩ (.string nm)).setCell ⟨w.heap.size, 2, none⟩ (.string tx)).setCell ⟨w.heap.size, 3, none⟩ v) := by
  obtain ⟨ao, an, ac, rfl⟩ := hv
  have hF := fin4 h.sc h.grown h.lt (.int .i64 kd) (.string nm) (.string tx) (.slice ao an ac)
  exact says_fail hf hF.1 hp hF.2
theorem Fr0.tells {w W : World} {g : Nat} {s : ByteArray} {p : Nat} (h : Fr0 w W g s ⟨p, 0⟩) (hp : p ≤ s.size) (kd : Int) (nm tx : ByteArray) :
    TkSays w g s ⟨0, kd, nm, tx, [], p⟩ (.returned (.agg #[.int .i64 kd, .string nm, .string tx, .slice none 0 0])) ((((W.setCell ⟨w.heap.size, 0, none⟩ (.int .i64 kd)).setCell ⟨w.heap.size, 1, none⟩ (.string nm)).setCell ⟨w.heap.size, 2, none⟩ (.string tx)).setCell ⟨w.heap.size, 3, none⟩ (.slice none 0 0)) :=
  have hF := fin4 h.sc h.grown h.lt (.int .i64 kd) (.string nm) (.string tx) (.slice none 0 0)
  says_plain hF.1 hp hF.2
/-- What the sign that must stand there leaves, as its contract says it. -/
theorem must_call (w : World) (g : Nat) (s what : ByteArray) (p : Nat) (sg : List UInt8) (hsg : what.data.toList = sg) (h : ScBox w g s ⟨p, 0⟩) (hs : s.size ≤ 1048576) (hw : what.size ≤ 1048576) (hp : p ≤ s.size) :
    Calls Tryz.prog 87 #[.pointer (some ⟨g, 0, none⟩), .string what] w fun e w' => ∃ q, e = .returned (.tuple #[]) ∧ ScBox w' g s ⟨q, mustF s p sg⟩ ∧ q ≤ s.size ∧ (mustF s p sg = 0 → q = p + sg.length) ∧ w.grownBy w' (some g) := by
  subst hsg
  obtain ⟨q, hq, hl, hpo⟩ := must_st (s := s) (what := what) hp
  refine (must_any w g s what ⟨p, 0⟩ h hs hw hp).mono ?_
  rintro e w' ⟨he, hb, hg⟩
  rw [hq] at hb
  exact ⟨q, he, hb, hl, hpo, hg⟩
theorem must_fails (w : World) (g : Nat) (s what : ByteArray) (x : Sc) (h : ScBox w g s x) (h0 : x.fl ≠ 0) (hs : s.size ≤ 1048576) (hw : what.size ≤ 1048576) (hp : x.pos ≤ s.size) :
    Calls Tryz.prog 87 #[.pointer (some ⟨g, 0, none⟩), .string what] w fun e w' => e = .returned (.tuple #[]) ∧ ScBox w' g s x ∧ w.grownBy w' (some g) := by
  have hm := must_any w g s what x h hs hw hp
  rw [must_no h0] at hm
  exact hm
theorem till_call (w : World) (g : Nat) (s what : ByteArray) (p : Nat) (sg : List UInt8) (hsg : what.data.toList = sg) (h : ScBox w g s ⟨p, 0⟩) (hs : s.size ≤ 1048576) (hp : p ≤ s.size) (hw : what.size ≤ 1048576) (hw0 : sg ≠ []) :
    Calls Tryz.prog 93 #[.pointer (some ⟨g, 0, none⟩), .string what] w fun e w' => ∃ t q, e = .returned (.string t) ∧ ScBox w' g s ⟨q, upF s p sg⟩ ∧ q ≤ s.size ∧ (upF s p sg = 0 → t = upT s p sg ∧ q = upP s p sg) ∧ w.grownBy w' (some g) := by
  subst hsg
  exact till_ok w g s what p h hs hp hw hw0
end Go.Proofs.YtefahocflhlgiaaGreatDoor
