/- The program's scanner: what a method that reads a mark holds in memory; comments and ends. -/
import Derived.Test.YtefahocflhlgiaaGreatDoorIm6b
import Derived.Test.YtefahocflhlgiaaGreatDoorTok14
namespace Go.Proofs.YtefahocflhlgiaaGreatDoor
open Go.RowKit Plain1 Plain2 Strs Strs2 Lists Plain3 Plain5 Plain6 Plain9 Plain10 Plain11 Plain12 Plain13 Plain14

def foldL : List (Nat × Int) := [(120, 88), (88, 120), (109, 77), (77, 109), (108, 76), (76, 108)]
/-- What the program reads of its package's variables. -/
structure Env (w : World) (m : Int) : Prop where
  tabs : Tabs w
  mx : w.cell? ⟨1, 0, none⟩ = some (.int .i64 m)
  fo : ∀ i z, (i, z) ∈ foldL → w.cell? ⟨2, i, none⟩ = some (.int .u16 z)
/-- The scanner lies elsewhere. -/
def Far (g : Nat) : Prop := 5 ≠ g ∧ 6 ≠ g ∧ 1 ≠ g ∧ 2 ≠ g
theorem cell_keepF {w w' : World} {b o : Nat} {v : Value} (h : w'.heap[b]? = w.heap[b]?) (hc : w.cell? ⟨b, o, none⟩ = some v) : w'.cell? ⟨b, o, none⟩ = some v := by
  rw [World.cell?_of_block (w := w) (a := ⟨b, o, none⟩) h]; exact hc
theorem Env.keep {w w' : World} {m : Int} {g : Nat} (h : Env w m) (hF : Far g) (hg : w.grownBy w' (some g)) : Env w' m := by
  obtain ⟨f1, f2, f3, f4⟩ := hF
  obtain ⟨⟨t, fr, h1⟩, ⟨t', fr', h2⟩⟩ := h.tabs
  refine ⟨⟨⟨t, fr, ?_⟩, ⟨t', fr', ?_⟩⟩, ?_, fun i z hz => ?_⟩
  · rw [hg.block _ (Array.getElem?_eq_some_iff.1 h1).1 (fun e => f1 (Option.some.inj e))]; exact h1
  · rw [hg.block _ (Array.getElem?_eq_some_iff.1 h2).1 (fun e => f2 (Option.some.inj e))]; exact h2
  · exact cell_keepF (hg.block _ (block_lt h.mx) (fun e => f3 (Option.some.inj e))) h.mx
  · exact cell_keepF (hg.block _ (block_lt (h.fo i z hz)) (fun e => f4 (Option.some.inj e))) (h.fo i z hz)
/-- What a method leaves that tells a mark or a fault. -/
def TtSays (w : World) (g : Nat) (s : ByteArray) (T : Tk) (e : Ending) (w' : World) : Prop :=
  ∃ kd nm tx ao an ac q, e = .returned (.tuple #[.agg #[.int .i64 kd, .string nm, .string tx, .slice ao an ac], errV T.fl]) ∧ ImBox w' g s q ∧ q ≤ s.size ∧
    (T.fl = 0 → kd = T.kind ∧ nm = T.name ∧ tx = T.text ∧ q = T.pos ∧ w'.ownsRow w.heap.size 109 2 (.slice ao an ac) T.attrs.length (acells T.attrs)) ∧ w.grownBy w' (some g)
theorem im_lt {w : World} {g : Nat} {s : ByteArray} {p : Nat} (h : ImBox w g s p) : g < w.heap.size := (Array.getElem?_eq_some_iff.1 h).1
theorem im_other {w : World} {g k j : Nat} {s : ByteArray} {p : Nat} (h : ImBox w g s p) (hne : k ≠ g) (u : Value) : ImBox (w.setCell ⟨k, j, none⟩ u) g s p := by
  unfold ImBox; rw [Below.heap_setCell w ⟨k, j, none⟩ u g (fun e => hne e.symm)]; exact h
theorem im_fin4 {w W : World} {g : Nat} {s : ByteArray} {p : Nat} (hb : ImBox W g s p) (hg : w.grownBy W (some g)) (hlt : g < w.heap.size) (a b c d : Value) :
    ImBox ((((W.setCell ⟨w.heap.size, 0, none⟩ a).setCell ⟨w.heap.size, 1, none⟩ b).setCell ⟨w.heap.size, 2, none⟩ c).setCell ⟨w.heap.size, 3, none⟩ d) g s p ∧
    w.grownBy ((((W.setCell ⟨w.heap.size, 0, none⟩ a).setCell ⟨w.heap.size, 1, none⟩ b).setCell ⟨w.heap.size, 2, none⟩ c).setCell ⟨w.heap.size, 3, none⟩ d) (some g) :=
  ⟨im_other (im_other (im_other (im_other hb (by omega) _) (by omega) _) (by omega) _) (by omega) _, gsetNew (gsetNew (gsetNew (gsetNew hg (Nat.le_refl _) _) (Nat.le_refl _) _) (Nat.le_refl _) _) (Nat.le_refl _) _⟩
/-- The scanner, the result's place, the package's variables. -/
structure Ir (w W : World) (g : Nat) (s : ByteArray) (p : Nat) (m : Int) : Prop where
  sc : ImBox W g s p
  res : TkBox W w.heap.size 0 ByteArray.empty ByteArray.empty (.slice none 0 0)
  env : Env W m
  grown : w.grownBy W (some g)
  lt : g < w.heap.size
  far : Far g
theorem Ir.start {w : World} {g : Nat} {s : ByteArray} {p : Nat} {m : Int} (h : ImBox w g s p) (he : Env w m) (hf : Far g) : Ir w (w.alloc zTok) g s p m :=
  ⟨im_alloc h _, tk_alloc w, he.keep hf (gallocI w _ _), gallocI w _ _, im_lt h, hf⟩
theorem Ir.step {w W W' : World} {g : Nat} {s : ByteArray} {p p' : Nat} {m : Int} (h : Ir w W g s p m) (hb : ImBox W' g s p') (hg : W.grownBy W' (some g)) : Ir w W' g s p' m :=
  ⟨hb, tk_keep h.res hg (by have := h.lt; omega), h.env.keep h.far hg, im_gtrans h.grown hg, h.lt, h.far⟩
theorem Ir.fails {w W : World} {g : Nat} {s : ByteArray} {p f : Nat} {m : Int} (h : Ir w W g s p m) (hf : f ≠ 0) (hp : p ≤ s.size) (kd : Int) (nm tx : ByteArray) (v : Value) (hv : ∃ ao an ac, v = .slice ao an ac := by exact ⟨_, _, _, rfl⟩) :
    TtSays w g s (failT f) (.returned (.tuple #[.agg #[.int .i64 kd, .string nm, .string tx, v], errV f])) ((((W.setCell ⟨w.heap.size, 0, none⟩ (.int .i64 kd)).setCell ⟨w.heap.size, 1, none⟩ (.string nm)).setCell ⟨w.heap.size, 2, none⟩ (.string tx)).setCell ⟨w.heap.size, 3, none⟩ v) := by
  obtain ⟨ao, an, ac, rfl⟩ := hv
  have hF := im_fin4 h.sc h.grown h.lt (.int .i64 kd) (.string nm) (.string tx) (.slice ao an ac)
  exact ⟨kd, nm, tx, ao, an, ac, p, rfl, hF.1, hp, fun h => absurd h hf, hF.2⟩
theorem Ir.tells {w W : World} {g : Nat} {s : ByteArray} {p : Nat} {m : Int} (h : Ir w W g s p m) (hp : p ≤ s.size) (kd : Int) (nm tx : ByteArray) :
    TtSays w g s ⟨0, kd, nm, tx, [], p⟩ (.returned (.tuple #[.agg #[.int .i64 kd, .string nm, .string tx, .slice none 0 0], errV 0])) ((((W.setCell ⟨w.heap.size, 0, none⟩ (.int .i64 kd)).setCell ⟨w.heap.size, 1, none⟩ (.string nm)).setCell ⟨w.heap.size, 2, none⟩ (.string tx)).setCell ⟨w.heap.size, 3, none⟩ (.slice none 0 0)) := by
  have hF := im_fin4 h.sc h.grown h.lt (.int .i64 kd) (.string nm) (.string tx) (.slice none 0 0)
  exact ⟨kd, nm, tx, none, 0, 0, p, rfl, hF.1, hp, fun _ => ⟨rfl, rfl, rfl, rfl, World.ownsRow_nil _ _ _ _⟩, hF.2⟩
/-- A mark that hangs on a last sign. -/
theorem Ir.must {w W : World} {g : Nat} {s : ByteArray} {p f : Nat} {m : Int} {T : Tk} (h : Ir w W g s (if f = 0 then T.pos else p) m) (hp : p ≤ s.size) (hq : f = 0 → T.pos ≤ s.size) (hT : T.fl = 0 ∧ T.attrs = []) :
    TtSays w g s (if f = 0 then T else failT f) (.returned (.tuple #[.agg #[.int .i64 T.kind, .string T.name, .string T.text, .slice none 0 0], errV f])) ((((W.setCell ⟨w.heap.size, 0, none⟩ (.int .i64 T.kind)).setCell ⟨w.heap.size, 1, none⟩ (.string T.name)).setCell ⟨w.heap.size, 2, none⟩ (.string T.text)).setCell ⟨w.heap.size, 3, none⟩ (.slice none 0 0)) := by
  obtain ⟨fl, kd, nm, tx, at', pos⟩ := T
  obtain ⟨rfl, rfl⟩ := hT
  by_cases hf : f = 0
  · subst hf
    rw [if_pos rfl] at h ⊢
    exact h.tells (hq rfl) kd nm tx
  · rw [if_neg hf] at h ⊢
    exact h.fails hf hp kd nm tx _

set_option maxHeartbeats 2000000 in
theorem imComment_any {w : World} {g : Nat} {s : ByteArray} {p : Nat} {m : Int} (h : ImBox w g s p) (he : Env w m) (hF : Far g) (hs : s.size ≤ 1048576) (hp : p ≤ s.size) :
    Calls Tryz.prog 51 #[.pointer (some ⟨g, 0, none⟩)] w fun e w' => TtSays w g s (commentZ s p) e w' := by
  have F0 := mkHidI1 (Ir.start h he hF)
  have hc := upTo_any (sg := ⟨#[45, 45]⟩) F0.out.sc F0.out.env.mx hs hp
  obtain ⟨Z, hZ⟩ : ∃ Z, commentZ s p = Z := ⟨_, rfl⟩
  rw [hZ]
  have HZ := mkHidI1 hZ
  clear h he hF hZ
  go_enter Tryz.func51, Tryz.ntmps51
  go_wp2_with fail
  refine hc.mono ?_
  rintro e w1 ⟨t, q, rfl, hb1, hq, hT, hg1⟩
  have F1 := mkHidI1 (F0.out.step hb1 hg1)
  clear hc F0 hb1 hg1
  obtain ⟨r0, r1, r2, r3, s0, s1, s2, s3⟩ := tkcells F1.out.res
  by_cases hf : upF s p [45, 45] = 0
  · obtain ⟨ht, hq'⟩ := hT hf
    have hZ1 : Z = if mustF s q [62] = 0 then ⟨0, 6, ByteArray.empty, t, [], q + 1⟩ else failT (mustF s q [62]) := by
      rw [← HZ.out]; unfold commentZ; rw [if_neg (by omega)]; rw [ht, hq']
    have HZ1 := mkHidI1 hZ1
    have hm := imMust_any (sg := ⟨#[62]⟩) F1.out.sc hs hq
    simp only [hf, errV0]
    clear hT ht hq' hZ1 hf HZ
    go_wp2_with fail
    refine hm.mono ?_
    rintro e w2 ⟨rfl, hb2, hg2⟩
    have F2 := mkHidI1 (F1.out.step hb2 hg2)
    clear hm F1 hb2 hg2 r0 r1 r2 r3 s0 s1 s2 s3
    obtain ⟨r0, r1, r2, r3, s0, s1, s2, s3⟩ := tkcells F2.out.res
    go_wp2
    refine bodyPost_ret (v := .tuple #[.agg #[.int .i64 6, .string ⟨#[]⟩, .string t, .slice none 0 0], errV (mustF s q [62])]) (by simp [results, Tryz.results51, go_sem, r0, r1, r2, r3]) rfl ?_
    rw [HZ1.out]
    exact Ir.must (T := ⟨0, 6, ByteArray.empty, t, [], q + 1⟩) F2.out hq (fun h0 => by have := has_room (must_has.1 h0) hq; simpa using this) ⟨rfl, rfl⟩
  · have hf1 : upF s p [45, 45] = 1 := (cut_no hf).2
    have hZ1 : Z = failT 1 := by rw [← HZ.out]; unfold commentZ; rw [if_pos hf, hf1]
    have HZ1 := mkHidI1 hZ1
    simp only [hf1, errV1]
    clear hT hZ1 hf hf1 HZ
    go_wp2
    refine bodyPost_ret (v := .tuple #[.agg #[.int .i64 0, .string ⟨#[]⟩, .string ⟨#[]⟩, .slice none 0 0], errV 1]) (by simp [results, Tryz.results51, go_sem, r0, r1, r2, r3, errV1]) rfl ?_
    rw [HZ1.out]
    exact F1.out.fails (by omega) hq 0 ByteArray.empty ByteArray.empty (.slice none 0 0)
end Go.Proofs.YtefahocflhlgiaaGreatDoor
