import Derived.Test.YtmaoefokimjkbaaGreatDoorImB
import Derived.Test.YtmaoefokimjkbaaGreatDoorFreA
import Derived.Test.YtmaoefokimjkbaaGreatDoorPlB
namespace Go.Proofs.YtmaoefokimjkbaaGreatDoor
open Go.RowKit Lists Plain9 Plain10 Plain11 Plain13
def foldL : List (Nat × Int) := [(120, 88), (88, 120), (109, 77), (77, 109), (108, 76), (76, 108)]
structure Env (w : World) (m : Int) : Prop where
 tabs : Tabs w
 mx : w.cell? ⟨1, 0, none⟩ = some (.int .i64 m)
 fo : ∀ i z, (i, z) ∈ foldL → w.cell? ⟨4, i, none⟩ = some (.int .u16 z)
def Far (g : Nat) : Prop := 7 ≠ g ∧ 8 ≠ g ∧ 1 ≠ g ∧ 4 ≠ g
theorem cell_keepF {w w' : World} {b o : Nat} {v : Value} (h : w'.heap[b]? = w.heap[b]?) (hc : w.cell? ⟨b, o, none⟩ = some v) : w'.cell? ⟨b, o, none⟩ = some v := by
 rw [World.cell?_of_block (w := w) (a := ⟨b, o, none⟩) h]; exact hc
theorem Env.keep {w w' : World} {m : Int} {g : Nat} (h : Env w m) (hF : Far g) (hg : w.grownBy w' (some g)) : Env w' m := by
 obtain ⟨f1, f2, f3, f4⟩ := hF
 obtain ⟨⟨t, fr, h1⟩, ⟨t', fr', h2⟩⟩ := h.tabs
 refine ⟨⟨⟨t, fr, ?_⟩, ⟨t', fr', ?_⟩⟩, ?_, fun i z hz => ?_⟩
 · rw [hg.block _ (Array.getElem?_eq_some_iff.1 h1).1 (fun e => f1 (Option.some.inj e))]; exact h1
 · rw [hg.block _ (Array.getElem?_eq_some_iff.1 h2).1 (fun e => f2 (Option.some.inj e))]; exact h2
 · exact cell_keepF (hg.block _ (block_lt h.mx) (fun e => f3 (Option.some.inj e))) h.mx
 · exact cell_keepF (hg.block _ (block_lt (h.fo i z hz)) (fun e => f4 (Option.some.inj e))) (h.fo i z hz)
def TtSays [Inhabited Hold] (w : World) (g : Nat) (s : ByteArray) (T : Tk) (e : Ending) (w' : World) : Prop :=
 ∃ kd nm tx ao an ac q, e = .returned (.tuple #[.agg #[.int .i64 kd, .string nm, .string tx, .slice ao an ac], errV T.fl]) ∧ ImBox w' g s q ∧ q ≤ s.size ∧
  (T.fl = 0 → kd = T.kind ∧ nm = T.name ∧ tx = T.text ∧ q = T.pos ∧ w'.ownsRow w.heap.size 33 2 (.slice ao an ac) T.attrs.length (acells T.attrs)) ∧ w.grownBy w' (some g)
theorem im_lt [Inhabited Hold] {w : World} {g : Nat} {s : ByteArray} {p : Nat} (h : ImBox w g s p) : g < w.heap.size := (Array.getElem?_eq_some_iff.1 h).1
theorem im_other [Inhabited Hold] {w : World} {g k j : Nat} {s : ByteArray} {p : Nat} (h : ImBox w g s p) (hne : k ≠ g) (u : Value) : ImBox (w.setCell ⟨k, j, none⟩ u) g s p := by
 unfold ImBox; rw [Below.heap_setCell w ⟨k, j, none⟩ u g (fun e => hne e.symm)]; exact h
theorem im_fin4 [Inhabited Hold] {w W : World} {g : Nat} {s : ByteArray} {p : Nat} (hb : ImBox W g s p) (hg : w.grownBy W (some g)) (hlt : g < w.heap.size) (a b c d : Value) :
 ImBox ((((W.setCell ⟨w.heap.size, 0, none⟩ a).setCell ⟨w.heap.size, 1, none⟩ b).setCell ⟨w.heap.size, 2, none⟩ c).setCell ⟨w.heap.size, 3, none⟩ d) g s p ∧
 w.grownBy ((((W.setCell ⟨w.heap.size, 0, none⟩ a).setCell ⟨w.heap.size, 1, none⟩ b).setCell ⟨w.heap.size, 2, none⟩ c).setCell ⟨w.heap.size, 3, none⟩ d) (some g) :=
 ⟨im_other (im_other (im_other (im_other hb (by omega) _) (by omega) _) (by omega) _) (by omega) _, gsetNew (gsetNew (gsetNew (gsetNew hg (Nat.le_refl _) _) (Nat.le_refl _) _) (Nat.le_refl _) _) (Nat.le_refl _) _⟩
structure Ir [Inhabited Hold] (w W : World) (g : Nat) (s : ByteArray) (p : Nat) (m : Int) : Prop where
 sc : ImBox W g s p
 res : TkBox W w.heap.size 0 ByteArray.empty ByteArray.empty (.slice none 0 0)
 env : Env W m
 grown : w.grownBy W (some g)
 lt : g < w.heap.size
 far : Far g
theorem Ir.start [Inhabited Hold] {w : World} {g : Nat} {s : ByteArray} {p : Nat} {m : Int} (h : ImBox w g s p) (he : Env w m) (hf : Far g) : Ir w (w.alloc zTok) g s p m :=
 ⟨im_alloc h _, tk_alloc w, he.keep hf (gallocI w _ _), gallocI w _ _, im_lt h, hf⟩
theorem Ir.step [Inhabited Hold] {w W W' : World} {g : Nat} {s : ByteArray} {p p' : Nat} {m : Int} (h : Ir w W g s p m) (hb : ImBox W' g s p') (hg : W.grownBy W' (some g)) : Ir w W' g s p' m :=
 ⟨hb, tk_keep h.res hg (by have := h.lt; omega), h.env.keep h.far hg, im_gtrans h.grown hg, h.lt, h.far⟩
theorem Ir.fails [Inhabited Hold] {w W : World} {g : Nat} {s : ByteArray} {p f : Nat} {m : Int} (h : Ir w W g s p m) (hf : f ≠ 0) (hp : p ≤ s.size) (kd : Int) (nm tx : ByteArray) (v : Value) (hv : ∃ ao an ac, v = .slice ao an ac := by exact ⟨_, _, _, rfl⟩) :
 TtSays w g s (failT f) (.returned (.tuple #[.agg #[.int .i64 kd, .string nm, .string tx, v], errV f])) ((((W.setCell ⟨w.heap.size, 0, none⟩ (.int .i64 kd)).setCell ⟨w.heap.size, 1, none⟩ (.string nm)).setCell ⟨w.heap.size, 2, none⟩ (.string tx)).setCell ⟨w.heap.size, 3, none⟩ v) := by
 obtain ⟨ao, an, ac, rfl⟩ := hv
 have hF := im_fin4 h.sc h.grown h.lt (.int .i64 kd) (.string nm) (.string tx) (.slice ao an ac)
 exact ⟨kd, nm, tx, ao, an, ac, p, rfl, hF.1, hp, fun h => absurd h hf, hF.2⟩
theorem Ir.tells [Inhabited Hold] {w W : World} {g : Nat} {s : ByteArray} {p : Nat} {m : Int} (h : Ir w W g s p m) (hp : p ≤ s.size) (kd : Int) (nm tx : ByteArray) :
 TtSays w g s ⟨0, kd, nm, tx, [], p⟩ (.returned (.tuple #[.agg #[.int .i64 kd, .string nm, .string tx, .slice none 0 0], errV 0])) ((((W.setCell ⟨w.heap.size, 0, none⟩ (.int .i64 kd)).setCell ⟨w.heap.size, 1, none⟩ (.string nm)).setCell ⟨w.heap.size, 2, none⟩ (.string tx)).setCell ⟨w.heap.size, 3, none⟩ (.slice none 0 0)) := by
 have hF := im_fin4 h.sc h.grown h.lt (.int .i64 kd) (.string nm) (.string tx) (.slice none 0 0)
 exact ⟨kd, nm, tx, none, 0, 0, p, rfl, hF.1, hp, fun _ => ⟨rfl, rfl, rfl, rfl, World.ownsRow_nil _ _ _ _⟩, hF.2⟩
theorem Ir.must [Inhabited Hold] {w W : World} {g : Nat} {s : ByteArray} {p f : Nat} {m : Int} {T : Tk} (h : Ir w W g s (if f = 0 then T.pos else p) m) (hp : p ≤ s.size) (hq : f = 0 → T.pos ≤ s.size) (hT : T.fl = 0 ∧ T.attrs = []) :
 TtSays w g s (if f = 0 then T else failT f) (.returned (.tuple #[.agg #[.int .i64 T.kind, .string T.name, .string T.text, .slice none 0 0], errV f])) ((((W.setCell ⟨w.heap.size, 0, none⟩ (.int .i64 T.kind)).setCell ⟨w.heap.size, 1, none⟩ (.string T.name)).setCell ⟨w.heap.size, 2, none⟩ (.string T.text)).setCell ⟨w.heap.size, 3, none⟩ (.slice none 0 0)) := by
 obtain ⟨fl, kd, nm, tx, at', pos⟩ := T
 obtain ⟨rfl, rfl⟩ := hT
 by_cases hf : f = 0
 · subst hf
   rw [if_pos rfl] at h ⊢
   exact h.tells (hq rfl) kd nm tx
 · rw [if_neg hf] at h ⊢
   exact h.fails hf hp kd nm tx _
set_option maxHeartbeats 2000000 in
theorem imComment_any [Inhabited Hold] {w : World} {g : Nat} {s : ByteArray} {p : Nat} {m : Int} (h : ImBox w g s p) (he : Env w m) (hF : Far g) (hs : s.size ≤ 1048576) (hp : p ≤ s.size) :
 Calls Tryz.prog 66 #[.pointer (some ⟨g, 0, none⟩)] w fun e w' => TtSays w g s (commentZ s p) e w' := by
 have F0 := mkHidI1 (Ir.start h he hF)
 have hc := upTo_any (sg := ⟨#[45, 45]⟩) F0.out.sc F0.out.env.mx hs hp
 obtain ⟨Z, hZ⟩ : ∃ Z, commentZ s p = Z := ⟨_, rfl⟩
 rw [hZ]
 have HZ := mkHidI1 hZ
 clear h he hF hZ
 go_enter Tryz.func66, Tryz.ntmps66
 go_wp2_with fail
 refine hc.mono ?_
 rintro e w1 ⟨t, q, rfl, hb1, hq, hT, hg1⟩
 have F1 := mkHidI1 (F0.out.step hb1 hg1)
 clear hc F0 hb1 hg1
 obtain ⟨r0, r1, r2, r3, s0, s1, s2, s3⟩ := tkcells F1.out.res
 by_cases hf : upF s p [45, 45] = 0
 · obtain ⟨ht, hq'⟩ := hT hf
   have hZ1 : Z = if mustF s q [62] = 0 then ⟨0, 6, ByteArray.empty, t, [], q + 1⟩ else failT (mustF s q [62]) := by
    rw [← HZ.out]; unfold commentZ; rw [if_neg (by omega)]; rw [ht, hq']
   have HZ1 := mkHidI1 hZ1
   have hm := imMust_any (sg := ⟨#[62]⟩) F1.out.sc hs hq
   simp only [hf, errV0]
   clear hT ht hq' hZ1 hf HZ
   go_wp2_with fail
   refine hm.mono ?_
   rintro e w2 ⟨rfl, hb2, hg2⟩
   have F2 := mkHidI1 (F1.out.step hb2 hg2)
   clear hm F1 hb2 hg2 r0 r1 r2 r3 s0 s1 s2 s3
   obtain ⟨r0, r1, r2, r3, s0, s1, s2, s3⟩ := tkcells F2.out.res
   go_wp2
   refine bodyPost_ret (v := .tuple #[.agg #[.int .i64 6, .string ⟨#[]⟩, .string t, .slice none 0 0], errV (mustF s q [62])]) (by simp [results, Tryz.results66, go_sem, r0, r1, r2, r3]) rfl ?_
   rw [HZ1.out]
   exact Ir.must (T := ⟨0, 6, ByteArray.empty, t, [], q + 1⟩) F2.out hq (fun h0 => by have := has_room (must_has.1 h0) hq; simpa using this) ⟨rfl, rfl⟩
 · have hf1 : upF s p [45, 45] = 1 := (cut_no hf).2
   have hZ1 : Z = failT 1 := by rw [← HZ.out]; unfold commentZ; rw [if_pos hf, hf1]
   have HZ1 := mkHidI1 hZ1
   simp only [hf1, errV1]
   clear hT hZ1 hf hf1 HZ
   go_wp2
   refine bodyPost_ret (v := .tuple #[.agg #[.int .i64 0, .string ⟨#[]⟩, .string ⟨#[]⟩, .slice none 0 0], errV 1]) (by simp [results, Tryz.results66, go_sem, r0, r1, r2, r3, errV1]) rfl ?_
   rw [HZ1.out]
   exact F1.out.fails (by omega) hq 0 ByteArray.empty ByteArray.empty (.slice none 0 0)
open Go.RowKit Plain9 Plain10 Plain11
theorem nmF_012 (s : ByteArray) (p : Nat) : nmF s p = 0 ∨ nmF s p = 1 ∨ nmF s p = 2 := by
 unfold nmF; split <;> (try split) <;> (try split) <;> simp
theorem partF_012 (s : ByteArray) (p : Nat) : partF s p = 0 ∨ partF s p = 1 ∨ partF s p = 2 := by
 unfold partF lackZ; split <;> (try split) <;> simp
set_option maxHeartbeats 2000000 in
theorem imEnd_any [Inhabited Hold] {w : World} {g : Nat} {s : ByteArray} {p : Nat} {m : Int} (h : ImBox w g s p) (he : Env w m) (hF : Far g) (hv : VB s p) (hs : s.size ≤ 1048576) (hp : p ≤ s.size) :
 Calls Tryz.prog 70 #[.pointer (some ⟨g, 0, none⟩)] w fun e w' => TtSays w g s (endZ s p) e w' := by
 have F0 := mkHidI1 (Ir.start h he hF)
 have hc := imName_any F0.out.sc F0.out.env.tabs hv hs hp
 obtain ⟨Z, hZ⟩ : ∃ Z, endZ s p = Z := ⟨_, rfl⟩
 rw [hZ]
 have HZ := mkHidI1 hZ
 clear h he hF hZ
 go_enter Tryz.func70, Tryz.ntmps70
 go_wp2_with fail
 refine hc.mono ?_
 rintro e w1 ⟨t, q, rfl, hb1, hq, hT, hg1⟩
 have F1 := mkHidI1 (F0.out.step hb1 hg1)
 clear hc F0 hb1 hg1
 obtain ⟨r0, r1, r2, r3, s0, s1, s2, s3⟩ := tkcells F1.out.res
 by_cases hf : nmF s p = 0
 · obtain ⟨ht, hq'⟩ := hT hf
   have hwh := imWhite_any F1.out.sc hs hq
   have hZ1 : Z = if mustF s (whiteZ s q) [62] = 0 then ⟨0, 2, t, ByteArray.empty, [], whiteZ s q + 1⟩ else failT (mustF s (whiteZ s q) [62]) := by
    rw [← HZ.out]; unfold endZ; rw [if_neg (by omega)]; rw [ht, hq']
   have HZ1 := mkHidI1 hZ1
   simp only [hf, errV0]
   clear hT ht hq' hZ1 hf HZ
   go_wp2_with fail
   refine hwh.mono ?_
   rintro e w2 ⟨rfl, hb2, hg2⟩
   have F2 := mkHidI1 (F1.out.step hb2 hg2)
   have hr := whiteZ_le (s := s) hq
   obtain ⟨r, hrd⟩ : ∃ r, whiteZ s q = r := ⟨_, rfl⟩
   rw [hrd] at F2 hr HZ1
   have hm := imMust_any (sg := ⟨#[62]⟩) F2.out.sc hs hr
   clear hwh F1 hb2 hg2 r0 r1 r2 r3 s0 s1 s2 s3 hrd
   go_wp2_with fail
   refine hm.mono ?_
   rintro e w3 ⟨rfl, hb3, hg3⟩
   have F3 := mkHidI1 (F2.out.step hb3 hg3)
   clear hm F2 hb3 hg3
   obtain ⟨r0, r1, r2, r3, s0, s1, s2, s3⟩ := tkcells F3.out.res
   go_wp2
   refine bodyPost_ret (v := .tuple #[.agg #[.int .i64 2, .string t, .string ⟨#[]⟩, .slice none 0 0], errV (mustF s r [62])]) (by simp [results, Tryz.results70, go_sem, r0, r1, r2, r3]) rfl ?_
   rw [HZ1.out]
   exact Ir.must (T := ⟨0, 2, t, ByteArray.empty, [], r + 1⟩) F3.out hr (fun h0 => by have := has_room (must_has.1 h0) hr; simpa using this) ⟨rfl, rfl⟩
 · have hZ1 : Z = failT (nmF s p) := by rw [← HZ.out]; unfold endZ; rw [if_pos hf]
   rcases nmF_012 s p with h0 | h0 | h0
   · exact absurd h0 hf
   all_goals
    rw [h0] at hZ1
    have HZ1 := mkHidI1 hZ1
    simp only [h0, errV1, errV2]
    clear hT hZ1 hf HZ h0
    go_wp2
    refine bodyPost_ret (v := .tuple #[.agg #[.int .i64 0, .string ⟨#[]⟩, .string ⟨#[]⟩, .slice none 0 0], _]) (by simp [results, Tryz.results70, go_sem, r0, r1, r2, r3]; rfl) rfl ?_
    rw [HZ1.out]
    exact F1.out.fails (by omega) hq 0 ByteArray.empty ByteArray.empty (.slice none 0 0)
def pnF (s : ByteArray) (p : Nat) : Nat := if partF s p = 0 then nmF s (whiteZ s p) else partF s p
set_option maxHeartbeats 2000000 in
theorem imPartedName_any [Inhabited Hold] {w : World} {g : Nat} {s : ByteArray} {p : Nat} {m : Int} (h : ImBox w g s p) (he : Env w m) (hF : Far g) (hv0 : VB s 0) (hv : VB s p) (hs : s.size ≤ 1048576) (hp : p ≤ s.size) :
 Calls Tryz.prog 101 #[.pointer (some ⟨g, 0, none⟩)] w fun e w' => StSays w g s (pnF s p) (nmT s (whiteZ s p)) (nmP s (whiteZ s p)) e w' := by
 have hc := imParted_any h hs hp
 have hq := whiteZ_le (s := s) hp
 have hvq := whiteZ_VB hv0 hv
 obtain ⟨q, hqd⟩ : ∃ q, whiteZ s p = q := ⟨_, rfl⟩
 unfold pnF
 rw [hqd] at hc hq hvq ⊢
 clear hqd h
 by_cases hf : partF s p = 0
 · rw [if_pos hf]
   rw [hf, errV0] at hc
   clear hf
   go_enter Tryz.func101, Tryz.ntmps101
   go_wp2_with fail
   refine hc.mono ?_
   rintro e w1 ⟨rfl, hb1, hg1⟩
   have HG1 := mkHidI1 hg1
   have hn := imName_any hb1 (he.keep hF hg1).tabs hvq hs hq
   clear hc hb1 hg1
   go_wp2_with fail
   refine hn.mono ?_
   rintro e w2 ⟨t, q2, rfl, hb2, hq2, hT, hg2⟩
   have HB2 := mkHidI1 hb2
   have HT := mkHidI1 hT
   have HG2 := mkHidI1 (im_gtrans HG1.out hg2)
   clear hn hb2 hT hg2
   go_wp2
   go_ret2
   exact ⟨t, q2, rfl, HB2.out, hq2, HT.out, HG2.out⟩
 · rw [if_neg hf]
   generalize nmT s q = T
   generalize nmP s q = P
   rcases partF_012 s p with h0 | h0 | h0
   · exact absurd h0 hf
   all_goals
    rw [h0] at hc ⊢
    clear hf h0
    simp only [errV1, errV2] at hc
    go_enter Tryz.func101, Tryz.ntmps101
    go_wp2_with fail
    refine hc.mono ?_
    rintro e w1 ⟨rfl, hb1, hg1⟩
    have HB1 := mkHidI1 hb1
    have HG1 := mkHidI1 hg1
    clear hc hb1 hg1
    go_wp2
    go_ret2
    exact st_fail (by omega) HB1.out hq HG1.out
open Go.RowKit Strs2 Plain9 Plain10 Plain11 Plain13
theorem text_cut {s : ByteArray} {p : Nat} (hp : p ≤ s.size) : ∃ b : Bool, (Lib.cut (rest s p) [60]).2.2 = b ∧ (⟨(Lib.cut (rest s p) [60]).1.toArray⟩ : ByteArray) = s.extract p (textE s p) ∧ p ≤ textE s p ∧ textE s p ≤ s.size ∧ (b = false ↔ textE s p = s.size) := by
 by_cases hf : upF s p [60] = 0
 · obtain ⟨e1, e2, e3⟩ := cut_yes hp hf
   have hz : ¬ fz s p [60] = -1 := by unfold upF at hf; intro h; rw [if_pos h] at hf; cases hf
   have hE : textE s p = (fz s p [60]).toNat := by unfold textE; rw [if_neg hz]
   rcases fz_spec s p [60] hp with h0 | ⟨i, h0, h1, h2, _⟩
   · exact absurd h0 hz
   · rw [h0, Int.toNat_natCast] at hE
     simp only [List.length_cons, List.length_nil] at h2
     refine ⟨true, e1, ?_, by omega, by omega, ?_⟩
     · rw [e2]; unfold upT; rw [h0, Int.toNat_natCast, hE]
     · constructor
       · intro h; cases h
       · intro h; omega
 · obtain ⟨e1, e2⟩ := cut_no hf
   have hz : fz s p [60] = -1 := by
    unfold upF at hf
    by_cases h : fz s p [60] = -1
    · exact h
    · rw [if_neg h] at hf; exact absurd rfl hf
   have hE : textE s p = s.size := by unfold textE; rw [if_pos hz]
   rw [e1, hE]
   refine ⟨false, rfl, ?_, hp, Nat.le_refl _, by simp⟩
   have := take_ext (s := s) hp
   rw [← this, List.take_of_length_le (by rw [rest_len]; omega)]
set_option maxHeartbeats 4000000 in
theorem imPlain_any [Inhabited Hold] {w : World} {g : Nat} {s : ByteArray} {p : Nat} {m : Int} (closed : Bool) (h : ImBox w g s p) (he : Env w m) (hF : Far g) (hs : s.size ≤ 1048576) (hp : p ≤ s.size) :
 Calls Tryz.prog 65 #[.pointer (some ⟨g, 0, none⟩), .bool closed] w fun e w' => TtSays w g s (textZ s p closed) e w' := by
 have F0 := mkHidI1 (Ir.start h he hF)
 obtain ⟨W0, hW0⟩ : ∃ W0, w.alloc zTok = W0 := ⟨_, rfl⟩
 rw [hW0] at F0
 have HW0 : Hid (w.alloc (.cells #[.int .i64 0, .string ⟨#[]⟩, .string ⟨#[]⟩, .slice none 0 0] 78) = W0) := mkHidI1 hW0
 clear hW0
 have hsl : ∀ wx, (Instr.slice 9 (.string s) (some (.int .i64 (p : Int))) none none).run Tryz.prog wx = .ok (.string (s.extract p s.size)) wx := fun wx => sub_from wx _ s p _ rfl hp Tryz.underlying9
 have hcut := fun n => Tryz.strings_Cut (s.extract p s.size) ⟨#[60]⟩ m (W0.drewN n) (by rw [ext_sz]; omega) F0.out.env.mx
 simp only [ext_rest] at hcut
 obtain ⟨b, hb, hX, hpe, hes, hbe⟩ := text_cut hp
 have hZ : textZ s p closed = if Lib.index (s.extract p (textE s p)).data.toList [93, 93, 62] ≠ -1 then failT 2 else if textE s p = s.size ∧ closed = false then failT 1 else ⟨0, 4, ByteArray.empty, s.extract p (textE s p), [], textE s p⟩ := rfl
 rw [hZ]
 obtain ⟨E, hE⟩ : ∃ E, textE s p = E := ⟨_, rfl⟩
 rw [hE] at hX hpe hes hbe ⊢
 obtain ⟨X, hXd⟩ : ∃ X, s.extract p E = X := ⟨_, rfl⟩
 have hXs : X.size = E - p := by rw [← hXd, ext_size hes]
 rw [hXd] at hX ⊢
 rw [hb, hX] at hcut
 have hct := fun n => Tryz.strings_Contains X ⟨#[93, 93, 62]⟩ m (W0.drewN n) (by omega) F0.out.env.mx
 simp only at hct
 have hw1 : IntKind.i64.wrap ((p : Int) + (X.size : Int)) = (E : Int) := by rw [wrapSm (by omega) (by omega)]; omega
 have hfr := fun wx => fresh_any X wx (by omega)
 obtain ⟨c0, c1, f1⟩ := imcells F0.out.sc
 obtain ⟨B, hB⟩ : ∃ B, Lib.contains X.data.toList [93, 93, 62] = B := ⟨_, rfl⟩
 rw [hB] at hct
 have hBi : Hid (B = false ↔ Lib.index X.data.toList [93, 93, 62] = -1) := by
  refine mkHidI1 ?_
  rw [← hB]
  unfold Lib.contains
  rcases Lib.index_spec X.data.toList [93, 93, 62] with ⟨h1, _⟩ | ⟨i, h1, _⟩
  · rw [h1]; simp
  · rw [h1]; simp
 have HXS := mkHidI1 hXs
 have HBE := mkHidI1 hbe
 clear h he hF hZ hb hX hE hXd hB hXs hbe
 cases hBb : B with
 | true =>
  have hi : ¬ Lib.index X.data.toList [93, 93, 62] = -1 := fun h => by have := hBi.out.2 h; rw [hBb] at this; cases this
  rw [if_pos hi]
  subst hBb
  clear hBi hi
  go_enter Tryz.func65, Tryz.ntmps65
  go_wp2_with fail
  rw [HW0.out]
  go_quiet ((go_at_call 98; exact Calls.quiet_of (hcut _)))
  have F1 := mkHidI1 (F0.out.step (W' := W0.drewN nq) F0.out.sc (im_gdrew _ nq _))
  go_wp2_with fail
  refine (hct nq).mono ?_
  rintro e w1 ⟨rfl, hww⟩
  have F2 := mkHidI1 (hww.symm ▸ F1.out)
  clear hww F0 F1 hct hcut c0 c1 f1
  obtain ⟨r0, r1, r2, r3, s0, s1, s2, s3⟩ := tkcells F2.out.res
  go_wp2
  refine bodyPost_ret (v := .tuple #[.agg #[.int .i64 0, .string ⟨#[]⟩, .string ⟨#[]⟩, .slice none 0 0], errV 2]) (by simp [results, Tryz.results65, go_sem, r0, r1, r2, r3, errV2]) rfl ?_
  exact F2.out.fails (by omega) hp 0 ByteArray.empty ByteArray.empty (.slice none 0 0)
 | false =>
  have hi : Lib.index X.data.toList [93, 93, 62] = -1 := hBi.out.1 hBb
  rw [if_neg (by omega)]
  subst hBb
  clear hBi hi
  by_cases hsh : b = false ∧ closed = false
  · obtain ⟨hb0, hc0⟩ := hsh
    rw [if_pos ⟨HBE.out.1 hb0, hc0⟩]
    subst hb0 hc0
    go_enter Tryz.func65, Tryz.ntmps65
    go_wp2_with fail
    rw [HW0.out]
    go_quiet ((go_at_call 98; exact Calls.quiet_of (hcut _)))
    have F1 := mkHidI1 (F0.out.step (W' := W0.drewN nq) F0.out.sc (im_gdrew _ nq _))
    go_wp2_with fail
    refine (hct nq).mono ?_
    rintro e w1 ⟨rfl, hww⟩
    have F2 := mkHidI1 (hww.symm ▸ F1.out)
    clear hww F0 F1 hct hcut c0 c1 f1
    obtain ⟨r0, r1, r2, r3, s0, s1, s2, s3⟩ := tkcells F2.out.res
    go_wp2
    refine bodyPost_ret (v := .tuple #[.agg #[.int .i64 0, .string ⟨#[]⟩, .string ⟨#[]⟩, .slice none 0 0], errV 1]) (by simp [results, Tryz.results65, go_sem, r0, r1, r2, r3, errV1]) rfl ?_
    exact F2.out.fails (by omega) hp 0 ByteArray.empty ByteArray.empty (.slice none 0 0)
  · rw [if_neg (fun hh => hsh ⟨HBE.out.2 hh.1, hh.2⟩)]
    have hbc : (b = true) ∨ (b = false ∧ closed = true) := by
     cases b <;> cases closed <;> simp at hsh ⊢
    clear hsh HBE
    rcases hbc with rfl | ⟨rfl, rfl⟩
    all_goals
     go_enter Tryz.func65, Tryz.ntmps65
     go_wp2_with fail
     rw [HW0.out]
     go_quiet ((go_at_call 98; exact Calls.quiet_of (hcut _)))
     have F1 := mkHidI1 (F0.out.step (W' := W0.drewN nq) F0.out.sc (im_gdrew _ nq _))
     go_wp2_with fail
     refine (hct nq).mono ?_
     rintro e w1 ⟨rfl, hww⟩
     have F2 := mkHidI1 (hww.symm ▸ F1.out)
     clear hww F0 F1 hct hcut c0 c1 f1
     obtain ⟨c0, c1, f1⟩ := imcells F2.out.sc
     go_wp2_with fail
     refine (hfr _).mono ?_
     rintro e w2 ⟨rfl, hg2⟩
     have F3 := mkHidI1 ((F2.out.step (im_set F2.out.sc E rfl) (im_gset _)).step (im_grown (im_set F2.out.sc E rfl) hg2) (gnone hg2))
     clear hg2 hfr F2 c0 c1 f1
     obtain ⟨r0, r1, r2, r3, s0, s1, s2, s3⟩ := tkcells F3.out.res
     go_wp2
     refine bodyPost_ret (v := .tuple #[.agg #[.int .i64 4, .string ⟨#[]⟩, .string X, .slice none 0 0], errV 0]) (by simp [results, Tryz.results65, go_sem, r0, r1, r2, r3, errV0]) rfl ?_
     exact F3.out.tells hes 4 ByteArray.empty X
end Go.Proofs.YtmaoefokimjkbaaGreatDoor
