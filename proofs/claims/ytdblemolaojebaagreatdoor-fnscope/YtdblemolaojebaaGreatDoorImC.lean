import Derived.Test.YtdblemolaojebaaGreatDoorImB
import Derived.Test.YtdblemolaojebaaGreatDoorFreA
set_option maxHeartbeats 4000000
namespace Go.Proofs.YtdblemolaojebaaGreatDoor
open Go.RowKit Lists Plain9 Plain10 Plain11 Plain13
def bZ0 : List (Nat × Int) := [(120, 88), (88, 120), (109, 77), (77, 109), (108, 76), (76, 108)]
structure Env (w : World) (m : Int) : Prop where
 tabs : Tabs w
 mx : w.cell? ⟨1, 0, none⟩ = some (.int .i64 m)
 fo : ∀ i z, (i, z) ∈ bZ0 → w.cell? ⟨4, i, none⟩ = some (.int .u16 z)
def Far (g : Nat) : Prop := 7 ≠ g ∧ 8 ≠ g ∧ 1 ≠ g ∧ 4 ≠ g
theorem aZ4 {w w' : World} {b o : Nat} {v : Value} (h : w'.heap[b]? = w.heap[b]?) (hc : w.cell? ⟨b, o, none⟩ = some v) : w'.cell? ⟨b, o, none⟩ = some v := by
 rw [World.cell?_of_block (w := w) (a := ⟨b, o, none⟩) h]; exact hc
theorem Env.keep {w w' : World} {m : Int} {g : Nat} (h : Env w m) (hF : Far g) (hg : w.grownBy w' (some g)) : Env w' m := by
 obtain ⟨f1, f2, f3, f4⟩ := hF
 obtain ⟨⟨t, fr, h1⟩, ⟨t', fr', h2⟩⟩ := h.tabs
 refine ⟨⟨⟨t, fr, ?_⟩, ⟨t', fr', ?_⟩⟩, ?_, fun i z hz => ?_⟩
 · rw [hg.block _ (gLt h1) (fun e => f1 (Option.some.inj e))]; exact h1
 · rw [hg.block _ (gLt h2) (fun e => f2 (Option.some.inj e))]; exact h2
 · exact aZ4 (hg.block _ (aQf h.mx) (fun e => f3 (Option.some.inj e))) h.mx
 · exact aZ4 (hg.block _ (aQf (h.fo i z hz)) (fun e => f4 (Option.some.inj e))) (h.fo i z hz)
def aKw [Inhabited Hold] (w : World) (g : Nat) (s : ByteArray) (T : Tk) (e : Ending) (w' : World) : Prop :=
 ∃ kd nm tx ao an ac q, e = .returned (.tuple #[.agg #[.int .i64 kd, .string nm, .string tx, .slice ao an ac], errV T.fl]) ∧ aQi w' g s q ∧ q ≤ s.size ∧
  (T.fl = 0 → kd = T.kind ∧ nm = T.name ∧ tx = T.text ∧ q = T.pos ∧ w'.ownsRow w.heap.size 148 2 (.slice ao an ac) T.attrs.length (aQ8 T.attrs)) ∧ w.grownBy w' (some g)
theorem bXh [Inhabited Hold] {w : World} {g : Nat} {s : ByteArray} {p : Nat} (h : aQi w g s p) : g < w.heap.size := (gLt h)
theorem aZd [Inhabited Hold] {w : World} {g k j : Nat} {s : ByteArray} {p : Nat} (h : aQi w g s p) (hne : k ≠ g) (u : Value) : aQi (w.setCell ⟨k, j, none⟩ u) g s p := by
 unfold aQi; rw [Below.heap_setCell w ⟨k, j, none⟩ u g (fun e => hne e.symm)]; exact h
theorem bW0 [Inhabited Hold] {w W : World} {g : Nat} {s : ByteArray} {p : Nat} (hb : aQi W g s p) (hg : w.grownBy W (some g)) (hlt : g < w.heap.size) (a b c d : Value) :
 aQi ((((W.setCell ⟨w.heap.size, 0, none⟩ a).setCell ⟨w.heap.size, 1, none⟩ b).setCell ⟨w.heap.size, 2, none⟩ c).setCell ⟨w.heap.size, 3, none⟩ d) g s p ∧
 w.grownBy ((((W.setCell ⟨w.heap.size, 0, none⟩ a).setCell ⟨w.heap.size, 1, none⟩ b).setCell ⟨w.heap.size, 2, none⟩ c).setCell ⟨w.heap.size, 3, none⟩ d) (some g) :=
 ⟨aZd (aZd (aZd (aZd hb (by omega) _) (by omega) _) (by omega) _) (by omega) _, aJ1 (aJ1 (aJ1 (aJ1 hg (Nat.le_refl _) _) (Nat.le_refl _) _) (Nat.le_refl _) _) (Nat.le_refl _) _⟩
structure Ir [Inhabited Hold] (w W : World) (g : Nat) (s : ByteArray) (p : Nat) (m : Int) : Prop where
 sc : aQi W g s p
 res : aQt W w.heap.size 0 ByteArray.empty ByteArray.empty (.slice none 0 0)
 env : Env W m
 grown : w.grownBy W (some g)
 lt : g < w.heap.size
 far : Far g
theorem Ir.start [Inhabited Hold] {w : World} {g : Nat} {s : ByteArray} {p : Nat} {m : Int} (h : aQi w g s p) (he : Env w m) (hf : Far g) : Ir w (w.alloc zTok) g s p m :=
 ⟨aZu h _, tk_alloc w, he.keep hf (aZg w _ _), aZg w _ _, bXh h, hf⟩
theorem Ir.step [Inhabited Hold] {w W W' : World} {g : Nat} {s : ByteArray} {p p' : Nat} {m : Int} (h : Ir w W g s p m) (hb : aQi W' g s p') (hg : W.grownBy W' (some g)) : Ir w W' g s p' m :=
 ⟨hb, tk_keep h.res hg (by have := h.lt; omega), h.env.keep h.far hg, aQ3 h.grown hg, h.lt, h.far⟩
theorem Ir.fails [Inhabited Hold] {w W : World} {g : Nat} {s : ByteArray} {p f : Nat} {m : Int} (h : Ir w W g s p m) (hf : f ≠ 0) (hp : p ≤ s.size) (kd : Int) (nm tx : ByteArray) (v : Value) (hv : ∃ ao an ac, v = .slice ao an ac := by exact ⟨_, _, _, rfl⟩) :
 aKw w g s (aQy f) (.returned (.tuple #[.agg #[.int .i64 kd, .string nm, .string tx, v], errV f])) ((((W.setCell ⟨w.heap.size, 0, none⟩ (.int .i64 kd)).setCell ⟨w.heap.size, 1, none⟩ (.string nm)).setCell ⟨w.heap.size, 2, none⟩ (.string tx)).setCell ⟨w.heap.size, 3, none⟩ v) := by
 obtain ⟨ao, an, ac, rfl⟩ := hv
 have hF := bW0 h.sc h.grown h.lt (.int .i64 kd) (.string nm) (.string tx) (.slice ao an ac)
 exact ⟨kd, nm, tx, ao, an, ac, p, rfl, hF.1, hp, fun h => absurd h hf, hF.2⟩
theorem Ir.tells [Inhabited Hold] {w W : World} {g : Nat} {s : ByteArray} {p : Nat} {m : Int} (h : Ir w W g s p m) (hp : p ≤ s.size) (kd : Int) (nm tx : ByteArray) :
 aKw w g s ⟨0, kd, nm, tx, [], p⟩ (.returned (.tuple #[.agg #[.int .i64 kd, .string nm, .string tx, .slice none 0 0], errV 0])) ((((W.setCell ⟨w.heap.size, 0, none⟩ (.int .i64 kd)).setCell ⟨w.heap.size, 1, none⟩ (.string nm)).setCell ⟨w.heap.size, 2, none⟩ (.string tx)).setCell ⟨w.heap.size, 3, none⟩ (.slice none 0 0)) := by
 have hF := bW0 h.sc h.grown h.lt (.int .i64 kd) (.string nm) (.string tx) (.slice none 0 0)
 exact ⟨kd, nm, tx, none, 0, 0, p, rfl, hF.1, hp, fun _ => ⟨rfl, rfl, rfl, rfl, World.ownsRow_nil _ _ _ _⟩, hF.2⟩
theorem Ir.must [Inhabited Hold] {w W : World} {g : Nat} {s : ByteArray} {p f : Nat} {m : Int} {T : Tk} (h : Ir w W g s (if f = 0 then T.pos else p) m) (hp : p ≤ s.size) (hq : f = 0 → T.pos ≤ s.size) (hT : T.fl = 0 ∧ T.attrs = []) :
 aKw w g s (if f = 0 then T else aQy f) (.returned (.tuple #[.agg #[.int .i64 T.kind, .string T.name, .string T.text, .slice none 0 0], errV f])) ((((W.setCell ⟨w.heap.size, 0, none⟩ (.int .i64 T.kind)).setCell ⟨w.heap.size, 1, none⟩ (.string T.name)).setCell ⟨w.heap.size, 2, none⟩ (.string T.text)).setCell ⟨w.heap.size, 3, none⟩ (.slice none 0 0)) := by
 obtain ⟨fl, kd, nm, tx, at', pos⟩ := T
 obtain ⟨rfl, rfl⟩ := hT
 by_cases hf : f = 0
 · subst hf
   rw [if_pos rfl] at h ⊢
   exact h.tells (hq rfl) kd nm tx
 · rw [if_neg hf] at h ⊢
   exact h.fails hf hp kd nm tx _
theorem bQr [Inhabited Hold] {w : World} {g : Nat} {s : ByteArray} {p : Nat} {m : Int} (h : aQi w g s p) (he : Env w m) (hF : Far g) (hs : s.size ≤ 1048576) (hp : p ≤ s.size) :
 Calls Tryz.prog 61 #[.pointer (some ⟨g, 0, none⟩)] w fun e w' => aKw w g s (aXa s p) e w' := by
 have F0 := aQ1 (Ir.start h he hF)
 have hc := aKr (sg := ⟨#[45, 45]⟩) F0.out.sc F0.out.env.mx hs hp
 obtain ⟨Z, hZ⟩ : ∃ Z, aXa s p = Z := ⟨_, rfl⟩
 rw [hZ]
 have HZ := aQ1 hZ
 clear h he hF hZ
 go_enter Tryz.func61, Tryz.ntmps61
 go_wp2_with fail
 refine hc.mono ?_
 rintro e w1 ⟨t, q, rfl, hb1, hq, hT, hg1⟩
 have F1 := aQ1 (F0.out.step hb1 hg1)
 clear hc F0 hb1 hg1
 obtain ⟨r0, r1, r2, r3, s0, s1, s2, s3⟩ := aQ6 F1.out.res
 by_cases hf : upF s p [45, 45] = 0
 · obtain ⟨ht, hq'⟩ := hT hf
   have hZ1 : Z = if aQm s q [62] = 0 then ⟨0, 6, ByteArray.empty, t, [], q + 1⟩ else aQy (aQm s q [62]) := by
    rw [← HZ.out]; unfold aXa; rw [if_neg (by omega)]; rw [ht, hq']
   have HZ1 := aQ1 hZ1
   have hm := aZ8 (sg := ⟨#[62]⟩) F1.out.sc hs hq
   simp only [hf, aXq]
   clear hT ht hq' hZ1 hf HZ
   go_wp2_with fail
   refine hm.mono ?_
   rintro e w2 ⟨rfl, hb2, hg2⟩
   have F2 := aQ1 (F1.out.step hb2 hg2)
   clear hm F1 hb2 hg2 r0 r1 r2 r3 s0 s1 s2 s3
   obtain ⟨r0, r1, r2, r3, s0, s1, s2, s3⟩ := aQ6 F2.out.res
   go_wp2
   refine bodyPost_ret (v := .tuple #[.agg #[.int .i64 6, .string ⟨#[]⟩, .string t, .slice none 0 0], errV (aQm s q [62])]) (by simp [results, Tryz.results61, go_sem, r0, r1, r2, r3]) rfl ?_
   rw [HZ1.out]
   exact Ir.must (T := ⟨0, 6, ByteArray.empty, t, [], q + 1⟩) F2.out hq (fun h0 => by have := aQ9 (aX8.1 h0) hq; simpa using this) ⟨rfl, rfl⟩
 · have hf1 : upF s p [45, 45] = 1 := (aYw hf).2
   have hZ1 : Z = aQy 1 := by rw [← HZ.out]; unfold aXa; rw [if_pos hf, hf1]
   have HZ1 := aQ1 hZ1
   simp only [hf1, aZ1]
   clear hT hZ1 hf hf1 HZ
   go_wp2
   refine bodyPost_ret (v := .tuple #[.agg #[.int .i64 0, .string ⟨#[]⟩, .string ⟨#[]⟩, .slice none 0 0], errV 1]) (by simp [results, Tryz.results61, go_sem, r0, r1, r2, r3, aZ1]) rfl ?_
   rw [HZ1.out]
   exact F1.out.fails (by omega) hq 0 ByteArray.empty ByteArray.empty (.slice none 0 0)
open Go.RowKit Plain9 Plain10 Plain11
theorem aWl (s : ByteArray) (p : Nat) : nmF s p = 0 ∨ nmF s p = 1 ∨ nmF s p = 2 := by
 unfold nmF; split <;> (try split) <;> (try split) <;> simp
theorem aJ8 (s : ByteArray) (p : Nat) : aKp s p = 0 ∨ aKp s p = 1 ∨ aKp s p = 2 := by
 unfold aKp aW5; split <;> (try split) <;> simp
theorem imEnd_any [Inhabited Hold] {w : World} {g : Nat} {s : ByteArray} {p : Nat} {m : Int} (h : aQi w g s p) (he : Env w m) (hF : Far g) (hv : VB s p) (hs : s.size ≤ 1048576) (hp : p ≤ s.size) :
 Calls Tryz.prog 65 #[.pointer (some ⟨g, 0, none⟩)] w fun e w' => aKw w g s (endZ s p) e w' := by
 have F0 := aQ1 (Ir.start h he hF)
 have hc := aV9 F0.out.sc F0.out.env.tabs hv hs hp
 obtain ⟨Z, hZ⟩ : ∃ Z, endZ s p = Z := ⟨_, rfl⟩
 rw [hZ]
 have HZ := aQ1 hZ
 clear h he hF hZ
 go_enter Tryz.func65, Tryz.ntmps65
 go_wp2_with fail
 refine hc.mono ?_
 rintro e w1 ⟨t, q, rfl, hb1, hq, hT, hg1⟩
 have F1 := aQ1 (F0.out.step hb1 hg1)
 clear hc F0 hb1 hg1
 obtain ⟨r0, r1, r2, r3, s0, s1, s2, s3⟩ := aQ6 F1.out.res
 by_cases hf : nmF s p = 0
 · obtain ⟨ht, hq'⟩ := hT hf
   have hwh := aXi F1.out.sc hs hq
   have hZ1 : Z = if aQm s (whiteZ s q) [62] = 0 then ⟨0, 2, t, ByteArray.empty, [], whiteZ s q + 1⟩ else aQy (aQm s (whiteZ s q) [62]) := by
    rw [← HZ.out]; unfold endZ; rw [if_neg (by omega)]; rw [ht, hq']
   have HZ1 := aQ1 hZ1
   simp only [hf, aXq]
   clear hT ht hq' hZ1 hf HZ
   go_wp2_with fail
   refine hwh.mono ?_
   rintro e w2 ⟨rfl, hb2, hg2⟩
   have F2 := aQ1 (F1.out.step hb2 hg2)
   have hr := aQq (s := s) hq
   obtain ⟨r, hrd⟩ : ∃ r, whiteZ s q = r := ⟨_, rfl⟩
   rw [hrd] at F2 hr HZ1
   have hm := aZ8 (sg := ⟨#[62]⟩) F2.out.sc hs hr
   clear hwh F1 hb2 hg2 r0 r1 r2 r3 s0 s1 s2 s3 hrd
   go_wp2_with fail
   refine hm.mono ?_
   rintro e w3 ⟨rfl, hb3, hg3⟩
   have F3 := aQ1 (F2.out.step hb3 hg3)
   clear hm F2 hb3 hg3
   obtain ⟨r0, r1, r2, r3, s0, s1, s2, s3⟩ := aQ6 F3.out.res
   go_wp2
   refine bodyPost_ret (v := .tuple #[.agg #[.int .i64 2, .string t, .string ⟨#[]⟩, .slice none 0 0], errV (aQm s r [62])]) (by simp [results, Tryz.results65, go_sem, r0, r1, r2, r3]) rfl ?_
   rw [HZ1.out]
   exact Ir.must (T := ⟨0, 2, t, ByteArray.empty, [], r + 1⟩) F3.out hr (fun h0 => by have := aQ9 (aX8.1 h0) hr; simpa using this) ⟨rfl, rfl⟩
 · have hZ1 : Z = aQy (nmF s p) := by rw [← HZ.out]; unfold endZ; rw [if_pos hf]
   rcases aWl s p with h0 | h0 | h0
   · exact absurd h0 hf
   all_goals
    rw [h0] at hZ1
    have HZ1 := aQ1 hZ1
    simp only [h0, aZ1, aZp]
    clear hT hZ1 hf HZ h0
    go_wp2
    refine bodyPost_ret (v := .tuple #[.agg #[.int .i64 0, .string ⟨#[]⟩, .string ⟨#[]⟩, .slice none 0 0], _]) (by simp [results, Tryz.results65, go_sem, r0, r1, r2, r3]; rfl) rfl ?_
    rw [HZ1.out]
    exact F1.out.fails (by omega) hq 0 ByteArray.empty ByteArray.empty (.slice none 0 0)
def pnF (s : ByteArray) (p : Nat) : Nat := if aKp s p = 0 then nmF s (whiteZ s p) else aKp s p
theorem aZx [Inhabited Hold] {w : World} {g : Nat} {s : ByteArray} {p : Nat} {m : Int} (h : aQi w g s p) (he : Env w m) (hF : Far g) (hv0 : VB s 0) (hv : VB s p) (hs : s.size ≤ 1048576) (hp : p ≤ s.size) :
 Calls Tryz.prog 96 #[.pointer (some ⟨g, 0, none⟩)] w fun e w' => bXv w g s (pnF s p) (nmT s (whiteZ s p)) (nmP s (whiteZ s p)) e w' := by
 have hc := aZe h hs hp
 have hq := aQq (s := s) hp
 have hvq := aZj hv0 hv
 obtain ⟨q, hqd⟩ : ∃ q, whiteZ s p = q := ⟨_, rfl⟩
 unfold pnF
 rw [hqd] at hc hq hvq ⊢
 clear hqd h
 by_cases hf : aKp s p = 0
 · rw [if_pos hf]
   rw [hf, aXq] at hc
   clear hf
   go_enter Tryz.func96, Tryz.ntmps96
   go_wp2_with fail
   refine hc.mono ?_
   rintro e w1 ⟨rfl, hb1, hg1⟩
   have HG1 := aQ1 hg1
   have hn := aV9 hb1 (he.keep hF hg1).tabs hvq hs hq
   clear hc hb1 hg1
   go_wp2_with fail
   refine hn.mono ?_
   rintro e w2 ⟨t, q2, rfl, hb2, hq2, hT, hg2⟩
   have HB2 := aQ1 hb2
   have HT := aQ1 hT
   have HG2 := aQ1 (aQ3 HG1.out hg2)
   clear hn hb2 hT hg2
   go_wp2
   go_ret2
   exact ⟨t, q2, rfl, HB2.out, hq2, HT.out, HG2.out⟩
 · rw [if_neg hf]
   generalize nmT s q = T
   generalize nmP s q = P
   rcases aJ8 s p with h0 | h0 | h0
   · exact absurd h0 hf
   all_goals
    rw [h0] at hc ⊢
    clear hf h0
    simp only [aZ1, aZp] at hc
    go_enter Tryz.func96, Tryz.ntmps96
    go_wp2_with fail
    refine hc.mono ?_
    rintro e w1 ⟨rfl, hb1, hg1⟩
    have HB1 := aQ1 hb1
    have HG1 := aQ1 hg1
    clear hc hb1 hg1
    go_wp2
    go_ret2
    exact aJu (by omega) HB1.out hq HG1.out
open Go.RowKit Strs2 Plain9 Plain10 Plain11 Plain13
theorem text_cut {s : ByteArray} {p : Nat} (hp : p ≤ s.size) : ∃ b : Bool, (Lib.cut (rest s p) [60]).2.2 = b ∧ (⟨(Lib.cut (rest s p) [60]).1.toArray⟩ : ByteArray) = s.extract p (aJ4 s p) ∧ p ≤ aJ4 s p ∧ aJ4 s p ≤ s.size ∧ (b = false ↔ aJ4 s p = s.size) := by
 by_cases hf : upF s p [60] = 0
 · obtain ⟨e1, e2, e3⟩ := bJt hp hf
   have hz : ¬ fz s p [60] = -1 := by unfold upF at hf; intro h; rw [if_pos h] at hf; cases hf
   have hE : aJ4 s p = (fz s p [60]).toNat := by unfold aJ4; rw [if_neg hz]
   rcases aJh s p [60] hp with h0 | ⟨i, h0, h1, h2, _⟩
   · exact absurd h0 hz
   · rw [h0, Int.toNat_natCast] at hE
     simp only [List.length_cons, List.length_nil] at h2
     refine ⟨true, e1, ?_, by omega, by omega, ?_⟩
     · rw [e2]; unfold upT; rw [h0, Int.toNat_natCast, hE]
     · constructor
       · intro h; cases h
       · intro h; omega
 · obtain ⟨e1, e2⟩ := aYw hf
   have hz : fz s p [60] = -1 := by
    unfold upF at hf
    by_cases h : fz s p [60] = -1
    · exact h
    · rw [if_neg h] at hf; exact absurd rfl hf
   have hE : aJ4 s p = s.size := by unfold aJ4; rw [if_pos hz]
   rw [e1, hE]
   refine ⟨false, rfl, ?_, hp, Nat.le_refl _, by simp⟩
   have := bK6 (s := s) hp
   rw [← this, List.take_of_length_le (by rw [aVx]; omega)]
theorem imPlain_any [Inhabited Hold] {w : World} {g : Nat} {s : ByteArray} {p : Nat} {m : Int} (closed : Bool) (h : aQi w g s p) (he : Env w m) (hF : Far g) (hs : s.size ≤ 1048576) (hp : p ≤ s.size) :
 Calls Tryz.prog 60 #[.pointer (some ⟨g, 0, none⟩), .bool closed] w fun e w' => aKw w g s (aWe s p closed) e w' := by
 have F0 := aQ1 (Ir.start h he hF)
 obtain ⟨W0, hW0⟩ : ∃ W0, w.alloc zTok = W0 := ⟨_, rfl⟩
 rw [hW0] at F0
 have HW0 : Hid (w.alloc (.cells #[.int .i64 0, .string ⟨#[]⟩, .string ⟨#[]⟩, .slice none 0 0] 73) = W0) := aQ1 hW0
 clear hW0
 have hsl : ∀ wx, (Instr.slice 9 (.string s) (some (.int .i64 (p : Int))) none none).run Tryz.prog wx = .ok (.string (s.extract p s.size)) wx := fun wx => aZh wx _ s p _ rfl hp Tryz.underlying9
 have hcut := fun n => Tryz.strings_Cut (s.extract p s.size) ⟨#[60]⟩ m (W0.drewN n) (by rw [aWx]; omega) F0.out.env.mx
 simp only [aJl] at hcut
 obtain ⟨b, hb, hX, hpe, hes, hbe⟩ := text_cut hp
 have hZ : aWe s p closed = if Lib.index (s.extract p (aJ4 s p)).data.toList [93, 93, 62] ≠ -1 then aQy 2 else if aJ4 s p = s.size ∧ closed = false then aQy 1 else ⟨0, 4, ByteArray.empty, s.extract p (aJ4 s p), [], aJ4 s p⟩ := rfl
 rw [hZ]
 obtain ⟨E, hE⟩ : ∃ E, aJ4 s p = E := ⟨_, rfl⟩
 rw [hE] at hX hpe hes hbe ⊢
 obtain ⟨X, hXd⟩ : ∃ X, s.extract p E = X := ⟨_, rfl⟩
 have hXs : X.size = E - p := by rw [← hXd, aX7 hes]
 rw [hXd] at hX ⊢
 rw [hb, hX] at hcut
 have hct := fun n => Tryz.strings_Contains X ⟨#[93, 93, 62]⟩ m (W0.drewN n) (by omega) F0.out.env.mx
 simp only at hct
 have hw1 : IntKind.i64.wrap ((p : Int) + (X.size : Int)) = (E : Int) := by rw [aZ2 (by omega) (by omega)]; omega
 have hfr := fun wx => aVl X wx (by omega)
 obtain ⟨c0, c1, f1⟩ := aQz F0.out.sc
 obtain ⟨B, hB⟩ : ∃ B, Lib.contains X.data.toList [93, 93, 62] = B := ⟨_, rfl⟩
 rw [hB] at hct
 have hBi : Hid (B = false ↔ Lib.index X.data.toList [93, 93, 62] = -1) := by
  refine aQ1 ?_
  rw [← hB]
  unfold Lib.contains
  rcases Lib.index_spec X.data.toList [93, 93, 62] with ⟨h1, _⟩ | ⟨i, h1, _⟩
  · rw [h1]; simp
  · rw [h1]; simp
 have HXS := aQ1 hXs
 have HBE := aQ1 hbe
 clear h he hF hZ hb hX hE hXd hB hXs hbe
 cases hBb : B with
 | true =>
  have hi : ¬ Lib.index X.data.toList [93, 93, 62] = -1 := fun h => by have := hBi.out.2 h; rw [hBb] at this; cases this
  rw [if_pos hi]
  subst hBb
  clear hBi hi
  go_enter Tryz.func60, Tryz.ntmps60
  go_wp2_with fail
  rw [HW0.out]
  go_quiet ((go_at_call 93; exact Calls.quiet_of (hcut _)))
  have F1 := aQ1 (F0.out.step (W' := W0.drewN nq) F0.out.sc (aQb _ nq _))
  go_wp2_with fail
  refine (hct nq).mono ?_
  rintro e w1 ⟨rfl, hww⟩
  have F2 := aQ1 (hww.symm ▸ F1.out)
  clear hww F0 F1 hct hcut c0 c1 f1
  obtain ⟨r0, r1, r2, r3, s0, s1, s2, s3⟩ := aQ6 F2.out.res
  go_wp2
  refine bodyPost_ret (v := .tuple #[.agg #[.int .i64 0, .string ⟨#[]⟩, .string ⟨#[]⟩, .slice none 0 0], errV 2]) (by simp [results, Tryz.results60, go_sem, r0, r1, r2, r3, aZp]) rfl ?_
  exact F2.out.fails (by omega) hp 0 ByteArray.empty ByteArray.empty (.slice none 0 0)
 | false =>
  have hi : Lib.index X.data.toList [93, 93, 62] = -1 := hBi.out.1 hBb
  rw [if_neg (by omega)]
  subst hBb
  clear hBi hi
  by_cases hsh : b = false ∧ closed = false
  · obtain ⟨hb0, hc0⟩ := hsh
    rw [if_pos ⟨HBE.out.1 hb0, hc0⟩]
    subst hb0 hc0
    go_enter Tryz.func60, Tryz.ntmps60
    go_wp2_with fail
    rw [HW0.out]
    go_quiet ((go_at_call 93; exact Calls.quiet_of (hcut _)))
    have F1 := aQ1 (F0.out.step (W' := W0.drewN nq) F0.out.sc (aQb _ nq _))
    go_wp2_with fail
    refine (hct nq).mono ?_
    rintro e w1 ⟨rfl, hww⟩
    have F2 := aQ1 (hww.symm ▸ F1.out)
    clear hww F0 F1 hct hcut c0 c1 f1
    obtain ⟨r0, r1, r2, r3, s0, s1, s2, s3⟩ := aQ6 F2.out.res
    go_wp2
    refine bodyPost_ret (v := .tuple #[.agg #[.int .i64 0, .string ⟨#[]⟩, .string ⟨#[]⟩, .slice none 0 0], errV 1]) (by simp [results, Tryz.results60, go_sem, r0, r1, r2, r3, aZ1]) rfl ?_
    exact F2.out.fails (by omega) hp 0 ByteArray.empty ByteArray.empty (.slice none 0 0)
  · rw [if_neg (fun hh => hsh ⟨HBE.out.2 hh.1, hh.2⟩)]
    have hbc : (b = true) ∨ (b = false ∧ closed = true) := by
     cases b <;> cases closed <;> simp at hsh ⊢
    clear hsh HBE
    rcases hbc with rfl | ⟨rfl, rfl⟩
    all_goals
     go_enter Tryz.func60, Tryz.ntmps60
     go_wp2_with fail
     rw [HW0.out]
     go_quiet ((go_at_call 93; exact Calls.quiet_of (hcut _)))
     have F1 := aQ1 (F0.out.step (W' := W0.drewN nq) F0.out.sc (aQb _ nq _))
     go_wp2_with fail
     refine (hct nq).mono ?_
     rintro e w1 ⟨rfl, hww⟩
     have F2 := aQ1 (hww.symm ▸ F1.out)
     clear hww F0 F1 hct hcut c0 c1 f1
     obtain ⟨c0, c1, f1⟩ := aQz F2.out.sc
     go_wp2_with fail
     refine (hfr _).mono ?_
     rintro e w2 ⟨rfl, hg2⟩
     have F3 := aQ1 ((F2.out.step (aW7 F2.out.sc E rfl) (aQa _)).step (aJd (aW7 F2.out.sc E rfl) hg2) (bJf hg2))
     clear hg2 hfr F2 c0 c1 f1
     obtain ⟨r0, r1, r2, r3, s0, s1, s2, s3⟩ := aQ6 F3.out.res
     go_wp2
     refine bodyPost_ret (v := .tuple #[.agg #[.int .i64 4, .string ⟨#[]⟩, .string X, .slice none 0 0], errV 0]) (by simp [results, Tryz.results60, go_sem, r0, r1, r2, r3, aXq]) rfl ?_
     exact F3.out.tells hes 4 ByteArray.empty X
end Go.Proofs.YtdblemolaojebaaGreatDoor
