import Derived.Test.YtdblemolaojebaaGreatDoorHdC
import Derived.Test.YtdblemolaojebaaGreatDoorImG
set_option maxHeartbeats 8000000
set_option maxRecDepth 100000
namespace Go.Proofs.YtdblemolaojebaaGreatDoor
open Go.RowKit Plain9 Plain10 Plain11 Plain23 Go.Lib Ents
def zAtr : Obj := .cells #[.string ⟨#[]⟩, .string ⟨#[]⟩, .bool false, .bool false, .string ⟨#[]⟩] 199
theorem aQp [Inhabited Hold] {w W : World} {g : Nat} {s : ByteArray} {p : Nat} {m : Int} (h : Hf w W g s p m zAtr) :
 (W.cell? ⟨w.heap.size, 0, none⟩ = some (.string ⟨#[]⟩) ∧ W.cell? ⟨w.heap.size, 1, none⟩ = some (.string ⟨#[]⟩) ∧ W.cell? ⟨w.heap.size, 2, none⟩ = some (.bool false) ∧ W.cell? ⟨w.heap.size, 3, none⟩ = some (.bool false) ∧ W.cell? ⟨w.heap.size, 4, none⟩ = some (.string ⟨#[]⟩)) ∧
 W.frozen? ⟨w.heap.size, 0, none⟩ = false ∧ W.frozen? ⟨w.heap.size, 1, none⟩ = false ∧ W.frozen? ⟨w.heap.size, 2, none⟩ = false ∧ W.frozen? ⟨w.heap.size, 3, none⟩ = false ∧ W.frozen? ⟨w.heap.size, 4, none⟩ = false := by
 simp [World.cell?, World.frozen?, h.res, zAtr]
theorem Hf.fin5 [Inhabited Hold] {w W : World} {g : Nat} {s : ByteArray} {p : Nat} {m : Int} {o : Obj} (h : Hf w W g s p m o) (a b c d x : Value) :
 let W' := ((((W.setCell ⟨w.heap.size, 0, none⟩ a).setCell ⟨w.heap.size, 1, none⟩ b).setCell ⟨w.heap.size, 2, none⟩ c).setCell ⟨w.heap.size, 3, none⟩ d).setCell ⟨w.heap.size, 4, none⟩ x
 aQi W' g s p ∧ w.grownBy W' (some g) :=
 ⟨aZd (aZd (aZd (aZd (aZd h.sc (by have := h.lt; omega) _) (by have := h.lt; omega) _) (by have := h.lt; omega) _) (by have := h.lt; omega) _) (by have := h.lt; omega) _,
  aJ1 (aJ1 (aJ1 (aJ1 (aJ1 h.grown (Nat.le_refl _) _) (Nat.le_refl _) _) (Nat.le_refl _) _) (Nat.le_refl _) _) (Nat.le_refl _) _⟩
def AtSays [Inhabited Hold] (w : World) (g : Nat) (s : ByteArray) (r : Option (At5 × Nat)) (e : Ending) (w' : World) : Prop :=
 ∃ a : At5, ∃ f q, e = .returned (.tuple #[.agg #[.string a.of, .string a.nm, .bool a.words, .bool a.has, .string a.val], errV f]) ∧ aQi w' g s q ∧ q ≤ s.size ∧ w.grownBy w' (some g) ∧ ((f = 0 ∧ r = some (a, q)) ∨ ((f = 1 ∨ f = 2) ∧ r = none))
def at0 : At5 := ⟨⟨#[]⟩, ⟨#[]⟩, false, false, ⟨#[]⟩⟩
structure Ha [Inhabited Hold] (w W : World) (g : Nat) (s : ByteArray) (p : Nat) (m : Int) (kb : Nat) (a : At5) : Prop where
 f : Hf w W g s p m zAtr
 box : W.heap[kb]? = some (.cells #[.string a.of, .string a.nm, .bool a.words, .bool a.has, .string a.val] 150)
 kl : w.heap.size < kb
 fk : FarH kb
theorem Ha.step [Inhabited Hold] {w W W' : World} {g : Nat} {s : ByteArray} {p p' : Nat} {m : Int} {kb : Nat} {a : At5} (h : Ha w W g s p m kb a) (hb : aQi W' g s p') (hg : W.grownBy W' (some g)) : Ha w W' g s p' m kb a :=
 ⟨h.f.step hb hg, by rw [hg.block _ (gLt h.box) (fun e => by have := h.f.lt; have := h.kl; have := Option.some.inj e; omega)]; exact h.box, h.kl, h.fk⟩
theorem Ha.cells [Inhabited Hold] {w W : World} {g : Nat} {s : ByteArray} {p : Nat} {m : Int} {kb : Nat} {a : At5} (h : Ha w W g s p m kb a) :
 (W.cell? ⟨kb, 0, none⟩ = some (.string a.of) ∧ W.cell? ⟨kb, 1, none⟩ = some (.string a.nm) ∧ W.cell? ⟨kb, 2, none⟩ = some (.bool a.words) ∧ W.cell? ⟨kb, 3, none⟩ = some (.bool a.has) ∧ W.cell? ⟨kb, 4, none⟩ = some (.string a.val)) ∧
 W.frozen? ⟨kb, 2, none⟩ = false ∧ W.frozen? ⟨kb, 3, none⟩ = false ∧ W.frozen? ⟨kb, 4, none⟩ = false := by
 simp [World.cell?, World.frozen?, h.box]
theorem kind_ways (k : ByteArray) :
 ((k.toList == [67, 68, 65, 84, 65]) = true ∧ bV4 k = some false) ∨
 ((k.toList == [67, 68, 65, 84, 65]) = false ∧ (k.toList == [73, 68]) = true ∧ bV4 k = some true) ∨
 ((k.toList == [67, 68, 65, 84, 65]) = false ∧ (k.toList == [73, 68]) = false ∧ (k.toList == [73, 68, 82, 69, 70]) = true ∧ bV4 k = some true) ∨
 ((k.toList == [67, 68, 65, 84, 65]) = false ∧ (k.toList == [73, 68]) = false ∧ (k.toList == [73, 68, 82, 69, 70]) = false ∧ (k.toList == [78, 77, 84, 79, 75, 69, 78]) = true ∧ bV4 k = some true) ∨
 ((k.toList == [67, 68, 65, 84, 65]) = false ∧ (k.toList == [73, 68]) = false ∧ (k.toList == [73, 68, 82, 69, 70]) = false ∧ (k.toList == [78, 77, 84, 79, 75, 69, 78]) = false ∧ (k.toList == [78, 77, 84, 79, 75, 69, 78, 83]) = true ∧ bV4 k = some true) ∨
 ((k.toList == [67, 68, 65, 84, 65]) = false ∧ (k.toList == [73, 68]) = false ∧ (k.toList == [73, 68, 82, 69, 70]) = false ∧ (k.toList == [78, 77, 84, 79, 75, 69, 78]) = false ∧ (k.toList == [78, 77, 84, 79, 75, 69, 78, 83]) = false ∧ bV4 k = none) := by
 rw [Lib.toList_data]
 unfold bV4
 generalize k.data.toList = l
 by_cases h1 : l = [67, 68, 65, 84, 65]
 · left; subst h1; exact ⟨rfl, rfl⟩
 right
 by_cases h2 : l = [73, 68]
 · left; subst h2; exact ⟨rfl, rfl, rfl⟩
 right
 by_cases h3 : l = [73, 68, 82, 69, 70]
 · left; subst h3; exact ⟨rfl, rfl, rfl, rfl⟩
 right
 by_cases h4 : l = [78, 77, 84, 79, 75, 69, 78]
 · left; subst h4; exact ⟨rfl, rfl, rfl, rfl, rfl⟩
 right
 by_cases h5 : l = [78, 77, 84, 79, 75, 69, 78, 83]
 · left; subst h5; exact ⟨rfl, rfl, rfl, rfl, rfl, rfl⟩
 right
 refine ⟨beq_eq_false_iff_ne.2 h1, beq_eq_false_iff_ne.2 h2, beq_eq_false_iff_ne.2 h3, beq_eq_false_iff_ne.2 h4, beq_eq_false_iff_ne.2 h5, ?_⟩
 rw [if_neg h1, if_neg (fun hc => hc.elim h2 (fun hc => hc.elim h3 (fun hc => hc.elim h4 h5)))]
theorem def_dv {s : ByteArray} {p : Nat} (h1 : ¬ aQ5 s p reqL = true) (h2 : ¬ aQ5 s p impL = true) : defZ s p = (dvZ s p).bind fun v => some (true, v.1, v.2) := by
 unfold defZ dvZ
 rw [if_neg h1, if_neg h2]
 by_cases h3 : aQ5 s p fixL = true
 · rw [if_pos h3, if_pos h3, Option.bind_assoc]
 · rw [if_neg h3, if_neg h3]
theorem Ha.start [Inhabited Hold] {w W : World} {g : Nat} {s : ByteArray} {p : Nat} {m : Int} (h : Hf w W g s p m zAtr) (a : At5) : Ha w (W.alloc (.cells #[.string a.of, .string a.nm, .bool a.words, .bool a.has, .string a.val] 150)) g s p m W.heap.size a :=
 ⟨h.step (aZu h.sc _) (aZg W _ _), heap_alloc_new W _, (gLt h.res), h.env.far⟩
theorem Hf.other [Inhabited Hold] {w W : World} {g k j : Nat} {s : ByteArray} {p : Nat} {m : Int} {o : Obj} (h : Hf w W g s p m o) (hk : w.heap.size < k) (hf : FarH k) (u : Value) : Hf w (W.setCell ⟨k, j, none⟩ u) g s p m o := by
 have hl := h.lt
 refine ⟨aZd h.sc (by omega) _, ?_, h.env.keep hf (aQa u), aJ1 h.grown (by omega) _, hl, h.far⟩
 rw [Below.heap_setCell W ⟨k, j, none⟩ u w.heap.size (by simp only; omega)]; exact h.res
theorem Ha.set3 [Inhabited Hold] {w W : World} {g : Nat} {s : ByteArray} {p : Nat} {m : Int} {kb : Nat} {a : At5} (h : Ha w W g s p m kb a) (b : Bool) : Ha w (W.setCell ⟨kb, 3, none⟩ (.bool b)) g s p m kb { a with has := b } := by
 refine ⟨h.f.other h.kl h.fk _, ?_, h.kl, h.fk⟩
 have hlt : kb < W.heap.size := (gLt h.box)
 have hv := (Array.getElem?_eq_some_iff.1 h.box).2
 unfold World.setCell
 rw [Array.getElem?_eq_getElem (by simpa using hlt)]
 simp [Array.getElem_modify, hv]
theorem Ha.set4 [Inhabited Hold] {w W : World} {g : Nat} {s : ByteArray} {p : Nat} {m : Int} {kb : Nat} {a : At5} (h : Ha w W g s p m kb a) (t : ByteArray) : Ha w (W.setCell ⟨kb, 4, none⟩ (.string t)) g s p m kb { a with val := t } := by
 refine ⟨h.f.other h.kl h.fk _, ?_, h.kl, h.fk⟩
 have hlt : kb < W.heap.size := (gLt h.box)
 have hv := (Array.getElem?_eq_some_iff.1 h.box).2
 unfold World.setCell
 rw [Array.getElem?_eq_getElem (by simpa using hlt)]
 simp [Array.getElem_modify, hv]
theorem bJv [Inhabited Hold] {w : World} {g : Nat} {s o : ByteArray} {p : Nat} {m : Int} (h : aQi w g s p) (he : EnvH w m) (hF : FarH g) (hv0 : VB s 0) (hv : VB s p) (hs : s.size ≤ 1048576) (hp : p ≤ s.size) :
 Calls Tryz.prog 130 #[.pointer (some ⟨g, 0, none⟩), .string o] w fun e w' => AtSays w g s (attZ s o p) e w' := by
 have F0 := aQ1 (Hf.start h he hF zAtr)
 have hc := aV9 F0.out.sc F0.out.env.env.tabs hv hs hp
 obtain ⟨Z, hZ⟩ : ∃ Z, attZ s o p = Z := ⟨_, rfl⟩
 rw [hZ]
 unfold attZ at hZ
 have HZ := aQ1 hZ
 have HV0 := aQ1 hv0
 have HV := aQ1 hv
 clear h he hZ hv0 hv
 go_enter Tryz.func130, Tryz.ntmps130
 go_wp2_with fail
 refine hc.mono ?_
 rintro e w1 ⟨t, q, rfl, hb1, hq, hT, hg1⟩
 have F1 := aQ1 (F0.out.step hb1 hg1)
 clear hc hb1 hg1 F0
 obtain ⟨⟨r0, r1, r2, r3, r4⟩, s0, s1, s2, s3, s4⟩ := aQp F1.out
 rcases aWl s p with h0 | h0 | h0
 · obtain ⟨ht, hq'⟩ := hT h0
   have hz := HZ.out
   rw [name_yes h0] at hz
   change ((gapO s (nmP s p)).bind fun a => (aVt s a).bind _) = Z at hz
   rw [bZv] at hz
   simp only [← hq', ← ht] at hz
   have HZ := aQ1 hz
   have hvq : VB s q := by rw [hq']; exact nm_VB HV.out
   have hc := aZx F1.out.sc F1.out.env.env F1.out.far.1 HV0.out hvq hs hq
   simp only [h0, aXq]
   clear hT ht hq' hz h0 hvq
   go_wp2_with fail
   refine hc.mono ?_
   rintro e w2 ⟨k, q2, rfl, hb2, hq2, hT, hg2⟩
   have F2 := aQ1 (F1.out.step hb2 hg2)
   clear hc hb2 hg2 F1 r0 r1 r2 r3 r4 s0 s1 s2 s3 s4
   obtain ⟨⟨r0, r1, r2, r3, r4⟩, s0, s1, s2, s3, s4⟩ := aQp F2.out
   rcases bKi s q with h0 | h0 | h0
   · obtain ⟨ht, hq'⟩ := hT h0
     have hz := HZ.out
     rw [if_pos h0] at hz
     simp only [← hq', ← ht] at hz
     have HZ := aQ1 hz
     simp only [h0, aXq]
     clear hT ht hq' hz h0
     rcases kind_ways k with ⟨k1, hkz⟩ | ⟨k1, k2, hkz⟩ | ⟨k1, k2, k3, hkz⟩ | ⟨k1, k2, k3, k4, hkz⟩ | ⟨k1, k2, k3, k4, k5, hkz⟩ | ⟨k1, k2, k3, k4, k5, hkz⟩
     · have hz := HZ.out
       rw [hkz] at hz
       change ((gapO s q2).bind fun b => (defZ s b).bind fun d => some ((⟨o, t, false, d.1, d.2.1⟩ : At5), d.2.2)) = Z at hz
       rw [aVe] at hz
       have HZ := aQ1 hz
       have A3 : Hid (Ha w (w2.alloc (.cells #[.string o, .string t, .bool false, .bool false, .string ⟨#[]⟩] 150)) g s q2 m w2.heap.size ⟨o, t, false, false, ⟨#[]⟩⟩) := aQ1 (Ha.start F2.out ⟨o, t, false, false, ⟨#[]⟩⟩)
       have hc := aZe A3.out.f.sc hs hq2
       clear hz hkz F2 r0 r1 r2 r3 r4 s0 s1 s2 s3 s4
       obtain ⟨⟨r0, r1, r2, r3, r4⟩, s0, s1, s2, s3, s4⟩ := aQp A3.out.f
       obtain ⟨⟨a0, a1, a2, a3, a4⟩, b2, b3, b4⟩ := A3.out.cells
       go_wp2_with fail
       refine hc.mono ?_
       rintro e w4 ⟨rfl, hb4, hg4⟩
       have A4 := aQ1 (A3.out.step hb4 hg4)
       have hq4 := aQq (s := s) hq2
       clear hc hb4 hg4 A3
       clear r0 r1 r2 r3 r4 s0 s1 s2 s3 s4 a0 a1 a2 a3 a4 b2 b3 b4
       generalize w2.heap.size = kb at A4 ⊢
       obtain ⟨⟨r0, r1, r2, r3, r4⟩, s0, s1, s2, s3, s4⟩ := aQp A4.out.f
       obtain ⟨⟨a0, a1, a2, a3, a4⟩, b2, b3, b4⟩ := A4.out.cells
       obtain ⟨q4, hqd⟩ : ∃ q4, whiteZ s q2 = q4 := ⟨_, rfl⟩
       rw [hqd] at HZ A4 hq4
       clear hqd
       rcases aJ8 s q2 with h0 | h0 | h0
       · have hz := HZ.out
         rw [if_pos h0] at hz
         have HZ := aQ1 (show ((defZ s q4).bind fun d => some ((⟨o, t, false, d.1, d.2.1⟩ : At5), d.2.2)) = Z from hz)
         have hc := aQc (sg := ⟨#[35, 82, 69, 81, 85, 73, 82, 69, 68]⟩) A4.out.f.sc hs hq4
         rw [show (⟨#[35, 82, 69, 81, 85, 73, 82, 69, 68]⟩ : ByteArray).data.toList = reqL from rfl] at hc
         simp only [h0, aXq]
         clear hz h0
         cases hx : aQ5 s q4 reqL with
         | true =>
          have hz := HZ.out
          unfold defZ at hz
          rw [if_pos hx] at hz
          have HZ := aQ1 (show some ((⟨o, t, false, false, ⟨#[]⟩⟩ : At5), q4 + 9) = Z from hz)
          have hroom : q4 + 9 ≤ s.size := by have := aQ9 hx hq4; simpa [reqL] using this
          rw [hx] at hc
          simp only [if_true, show reqL.length = 9 from rfl] at hc
          clear hz hx
          go_wp2_with fail
          refine hc.mono ?_
          rintro e w5 ⟨rfl, hb5, hg5⟩
          have A5 := aQ1 (A4.out.step hb5 hg5)
          clear hc hb5 hg5 A4
          clear r0 r1 r2 r3 r4 s0 s1 s2 s3 s4 a0 a1 a2 a3 a4 b2 b3 b4
          obtain ⟨⟨r0, r1, r2, r3, r4⟩, s0, s1, s2, s3, s4⟩ := aQp A5.out.f
          obtain ⟨⟨a0, a1, a2, a3, a4⟩, b2, b3, b4⟩ := A5.out.cells
          go_wp2
          refine bodyPost_ret (v := .tuple #[.agg #[.string o, .string t, .bool false, .bool false, .string ⟨#[]⟩], errV 0]) (by simp [results, Tryz.results130, go_sem, r0, r1, r2, r3, r4, aXq]) rfl ?_
          have hfin := A5.out.f.fin5 (.string o) (.string t) (.bool false) (.bool false) (.string ⟨#[]⟩)
          exact ⟨⟨o, t, false, false, ⟨#[]⟩⟩, 0, q4 + 9, rfl, hfin.1, hroom, hfin.2, .inl ⟨rfl, HZ.out.symm⟩⟩
         | false =>
          rw [hx, if_neg (by simp)] at hc
          have HX := aQ1 hx
          clear hx
          go_wp2_with fail
          refine hc.mono ?_
          rintro e w5 ⟨rfl, hb5, hg5⟩
          have A5 := aQ1 (A4.out.step hb5 hg5)
          clear hc hb5 hg5 A4
          clear r0 r1 r2 r3 r4 s0 s1 s2 s3 s4 a0 a1 a2 a3 a4 b2 b3 b4
          obtain ⟨⟨r0, r1, r2, r3, r4⟩, s0, s1, s2, s3, s4⟩ := aQp A5.out.f
          obtain ⟨⟨a0, a1, a2, a3, a4⟩, b2, b3, b4⟩ := A5.out.cells
          have hc := aQc (sg := ⟨#[35, 73, 77, 80, 76, 73, 69, 68]⟩) A5.out.f.sc hs hq4
          rw [show (⟨#[35, 73, 77, 80, 76, 73, 69, 68]⟩ : ByteArray).data.toList = impL from rfl] at hc
          cases hx : aQ5 s q4 impL with
          | true =>
           have hz := HZ.out
           unfold defZ at hz
           rw [if_neg (by rw [HX.out]; simp), if_pos hx] at hz
           have HZ := aQ1 (show some ((⟨o, t, false, false, ⟨#[]⟩⟩ : At5), q4 + 8) = Z from hz)
           have hroom : q4 + 8 ≤ s.size := by have := aQ9 hx hq4; simpa [impL] using this
           rw [hx] at hc
           simp only [if_true, show impL.length = 8 from rfl] at hc
           clear hz hx
           go_wp2_with fail
           refine hc.mono ?_
           rintro e w6 ⟨rfl, hb6, hg6⟩
           have A6 := aQ1 (A5.out.step hb6 hg6)
           clear hc hb6 hg6 A5
           clear r0 r1 r2 r3 r4 s0 s1 s2 s3 s4 a0 a1 a2 a3 a4 b2 b3 b4
           obtain ⟨⟨r0, r1, r2, r3, r4⟩, s0, s1, s2, s3, s4⟩ := aQp A6.out.f
           obtain ⟨⟨a0, a1, a2, a3, a4⟩, b2, b3, b4⟩ := A6.out.cells
           go_wp2
           refine bodyPost_ret (v := .tuple #[.agg #[.string o, .string t, .bool false, .bool false, .string ⟨#[]⟩], errV 0]) (by simp [results, Tryz.results130, go_sem, r0, r1, r2, r3, r4, aXq]) rfl ?_
           have hfin := A6.out.f.fin5 (.string o) (.string t) (.bool false) (.bool false) (.string ⟨#[]⟩)
           exact ⟨⟨o, t, false, false, ⟨#[]⟩⟩, 0, q4 + 8, rfl, hfin.1, hroom, hfin.2, .inl ⟨rfl, HZ.out.symm⟩⟩
          | false =>
           rw [hx, if_neg (by simp)] at hc
           have hz := HZ.out
           rw [def_dv (by rw [HX.out]; simp) (by rw [hx]; simp), Option.bind_assoc] at hz
           have HZ := aQ1 (show ((dvZ s q4).bind fun v => some ((⟨o, t, false, true, v.1⟩ : At5), v.2)) = Z from hz)
           clear hz hx
           go_wp2_with fail
           refine hc.mono ?_
           rintro e w6 ⟨rfl, hb6, hg6⟩
           have A6 := aQ1 (A5.out.step hb6 hg6)
           have A7 := aQ1 (A6.out.set3 true)
           clear hc hb6 hg6 A5
           clear r0 r1 r2 r3 r4 s0 s1 s2 s3 s4 a0 a1 a2 a3 a4 b2 b3 b4
           obtain ⟨⟨r0, r1, r2, r3, r4⟩, s0, s1, s2, s3, s4⟩ := aQp A6.out.f
           obtain ⟨⟨a0, a1, a2, a3, a4⟩, b2, b3, b4⟩ := A6.out.cells
           have hc := aZy A7.out.f.sc A7.out.f.env A7.out.f.far hs hq4
           clear A6
           go_wp2_with fail
           refine hc.mono ?_
           rintro e w7 ⟨v, f7, q7, rfl, hb7, hq7, hg7, hR7⟩
           have A8 := aQ1 (A7.out.step hb7 hg7)
           have A9 := aQ1 (A8.out.set4 v)
           have HR7 := aQ1 hR7
           clear hc hb7 hg7 A7 hR7
           clear r0 r1 r2 r3 r4 s0 s1 s2 s3 s4 a0 a1 a2 a3 a4 b2 b3 b4
           obtain ⟨⟨a0, a1, a2, a3, a4⟩, b2, b3, b4⟩ := A8.out.cells
           obtain ⟨⟨r0, r1, r2, r3, r4⟩, s0, s1, s2, s3, s4⟩ := aQp A9.out.f
           obtain ⟨⟨d0, d1, d2, d3, d4⟩, _, _, _⟩ := A9.out.cells
           simp only at d0 d1 d2 d3 d4 a0 a1 a2 a3 a4
           go_wp2
           refine bodyPost_ret (v := .tuple #[.agg #[.string o, .string t, .bool false, .bool true, .string v], errV f7]) (by simp [results, Tryz.results130, go_sem, r0, r1, r2, r3, r4]) rfl ?_
           have hfin := A9.out.f.fin5 (.string o) (.string t) (.bool false) (.bool true) (.string v)
           refine ⟨⟨o, t, false, true, v⟩, f7, q7, rfl, hfin.1, hq7, hfin.2, ?_⟩
           rcases HR7.out with ⟨h1, h2⟩ | ⟨h1, h2⟩
           · exact .inl ⟨h1, by rw [← HZ.out, h2]; rfl⟩
           · exact .inr ⟨h1, by rw [← HZ.out, h2]; rfl⟩
       all_goals
        have hz := HZ.out
        rw [if_neg (by omega)] at hz
        have HZ := aQ1 (show none = Z from hz)
        simp only [h0, aZ1, aZp]
        clear hz h0
        go_wp2
        refine bodyPost_ret (v := .tuple #[.agg #[.string ⟨#[]⟩, .string ⟨#[]⟩, .bool false, .bool false, .string ⟨#[]⟩], _]) (by simp [results, Tryz.results130, go_sem, r0, r1, r2, r3, r4]; rfl) rfl ?_
        have hfin := A4.out.f.fin5 (.string ⟨#[]⟩) (.string ⟨#[]⟩) (.bool false) (.bool false) (.string ⟨#[]⟩)
        first
         | exact ⟨at0, 1, q4, rfl, hfin.1, hq4, hfin.2, .inr ⟨.inl rfl, HZ.out.symm⟩⟩
         | exact ⟨at0, 2, q4, rfl, hfin.1, hq4, hfin.2, .inr ⟨.inr rfl, HZ.out.symm⟩⟩
     · have hz := HZ.out
       rw [hkz] at hz
       change ((gapO s q2).bind fun b => (defZ s b).bind fun d => some ((⟨o, t, true, d.1, d.2.1⟩ : At5), d.2.2)) = Z at hz
       rw [aVe] at hz
       have HZ := aQ1 hz
       have A3 : Hid (Ha w (w2.alloc (.cells #[.string o, .string t, .bool true, .bool false, .string ⟨#[]⟩] 150)) g s q2 m w2.heap.size ⟨o, t, true, false, ⟨#[]⟩⟩) := aQ1 (Ha.start F2.out ⟨o, t, true, false, ⟨#[]⟩⟩)
       have hc := aZe A3.out.f.sc hs hq2
       clear hz hkz F2 r0 r1 r2 r3 r4 s0 s1 s2 s3 s4
       obtain ⟨⟨r0, r1, r2, r3, r4⟩, s0, s1, s2, s3, s4⟩ := aQp A3.out.f
       obtain ⟨⟨a0, a1, a2, a3, a4⟩, b2, b3, b4⟩ := A3.out.cells
       go_wp2_with fail
       refine hc.mono ?_
       rintro e w4 ⟨rfl, hb4, hg4⟩
       have A4 := aQ1 (A3.out.step hb4 hg4)
       have hq4 := aQq (s := s) hq2
       clear hc hb4 hg4 A3
       clear r0 r1 r2 r3 r4 s0 s1 s2 s3 s4 a0 a1 a2 a3 a4 b2 b3 b4
       generalize w2.heap.size = kb at A4 ⊢
       obtain ⟨⟨r0, r1, r2, r3, r4⟩, s0, s1, s2, s3, s4⟩ := aQp A4.out.f
       obtain ⟨⟨a0, a1, a2, a3, a4⟩, b2, b3, b4⟩ := A4.out.cells
       obtain ⟨q4, hqd⟩ : ∃ q4, whiteZ s q2 = q4 := ⟨_, rfl⟩
       rw [hqd] at HZ A4 hq4
       clear hqd
       rcases aJ8 s q2 with h0 | h0 | h0
       · have hz := HZ.out
         rw [if_pos h0] at hz
         have HZ := aQ1 (show ((defZ s q4).bind fun d => some ((⟨o, t, true, d.1, d.2.1⟩ : At5), d.2.2)) = Z from hz)
         have hc := aQc (sg := ⟨#[35, 82, 69, 81, 85, 73, 82, 69, 68]⟩) A4.out.f.sc hs hq4
         rw [show (⟨#[35, 82, 69, 81, 85, 73, 82, 69, 68]⟩ : ByteArray).data.toList = reqL from rfl] at hc
         simp only [h0, aXq]
         clear hz h0
         cases hx : aQ5 s q4 reqL with
         | true =>
          have hz := HZ.out
          unfold defZ at hz
          rw [if_pos hx] at hz
          have HZ := aQ1 (show some ((⟨o, t, true, false, ⟨#[]⟩⟩ : At5), q4 + 9) = Z from hz)
          have hroom : q4 + 9 ≤ s.size := by have := aQ9 hx hq4; simpa [reqL] using this
          rw [hx] at hc
          simp only [if_true, show reqL.length = 9 from rfl] at hc
          clear hz hx
          go_wp2_with fail
          refine hc.mono ?_
          rintro e w5 ⟨rfl, hb5, hg5⟩
          have A5 := aQ1 (A4.out.step hb5 hg5)
          clear hc hb5 hg5 A4
          clear r0 r1 r2 r3 r4 s0 s1 s2 s3 s4 a0 a1 a2 a3 a4 b2 b3 b4
          obtain ⟨⟨r0, r1, r2, r3, r4⟩, s0, s1, s2, s3, s4⟩ := aQp A5.out.f
          obtain ⟨⟨a0, a1, a2, a3, a4⟩, b2, b3, b4⟩ := A5.out.cells
          go_wp2
          refine bodyPost_ret (v := .tuple #[.agg #[.string o, .string t, .bool true, .bool false, .string ⟨#[]⟩], errV 0]) (by simp [results, Tryz.results130, go_sem, r0, r1, r2, r3, r4, aXq]) rfl ?_
          have hfin := A5.out.f.fin5 (.string o) (.string t) (.bool true) (.bool false) (.string ⟨#[]⟩)
          exact ⟨⟨o, t, true, false, ⟨#[]⟩⟩, 0, q4 + 9, rfl, hfin.1, hroom, hfin.2, .inl ⟨rfl, HZ.out.symm⟩⟩
         | false =>
          rw [hx, if_neg (by simp)] at hc
          have HX := aQ1 hx
          clear hx
          go_wp2_with fail
          refine hc.mono ?_
          rintro e w5 ⟨rfl, hb5, hg5⟩
          have A5 := aQ1 (A4.out.step hb5 hg5)
          clear hc hb5 hg5 A4
          clear r0 r1 r2 r3 r4 s0 s1 s2 s3 s4 a0 a1 a2 a3 a4 b2 b3 b4
          obtain ⟨⟨r0, r1, r2, r3, r4⟩, s0, s1, s2, s3, s4⟩ := aQp A5.out.f
          obtain ⟨⟨a0, a1, a2, a3, a4⟩, b2, b3, b4⟩ := A5.out.cells
          have hc := aQc (sg := ⟨#[35, 73, 77, 80, 76, 73, 69, 68]⟩) A5.out.f.sc hs hq4
          rw [show (⟨#[35, 73, 77, 80, 76, 73, 69, 68]⟩ : ByteArray).data.toList = impL from rfl] at hc
          cases hx : aQ5 s q4 impL with
          | true =>
           have hz := HZ.out
           unfold defZ at hz
           rw [if_neg (by rw [HX.out]; simp), if_pos hx] at hz
           have HZ := aQ1 (show some ((⟨o, t, true, false, ⟨#[]⟩⟩ : At5), q4 + 8) = Z from hz)
           have hroom : q4 + 8 ≤ s.size := by have := aQ9 hx hq4; simpa [impL] using this
           rw [hx] at hc
           simp only [if_true, show impL.length = 8 from rfl] at hc
           clear hz hx
           go_wp2_with fail
           refine hc.mono ?_
           rintro e w6 ⟨rfl, hb6, hg6⟩
           have A6 := aQ1 (A5.out.step hb6 hg6)
           clear hc hb6 hg6 A5
           clear r0 r1 r2 r3 r4 s0 s1 s2 s3 s4 a0 a1 a2 a3 a4 b2 b3 b4
           obtain ⟨⟨r0, r1, r2, r3, r4⟩, s0, s1, s2, s3, s4⟩ := aQp A6.out.f
           obtain ⟨⟨a0, a1, a2, a3, a4⟩, b2, b3, b4⟩ := A6.out.cells
           go_wp2
           refine bodyPost_ret (v := .tuple #[.agg #[.string o, .string t, .bool true, .bool false, .string ⟨#[]⟩], errV 0]) (by simp [results, Tryz.results130, go_sem, r0, r1, r2, r3, r4, aXq]) rfl ?_
           have hfin := A6.out.f.fin5 (.string o) (.string t) (.bool true) (.bool false) (.string ⟨#[]⟩)
           exact ⟨⟨o, t, true, false, ⟨#[]⟩⟩, 0, q4 + 8, rfl, hfin.1, hroom, hfin.2, .inl ⟨rfl, HZ.out.symm⟩⟩
          | false =>
           rw [hx, if_neg (by simp)] at hc
           have hz := HZ.out
           rw [def_dv (by rw [HX.out]; simp) (by rw [hx]; simp), Option.bind_assoc] at hz
           have HZ := aQ1 (show ((dvZ s q4).bind fun v => some ((⟨o, t, true, true, v.1⟩ : At5), v.2)) = Z from hz)
           clear hz hx
           go_wp2_with fail
           refine hc.mono ?_
           rintro e w6 ⟨rfl, hb6, hg6⟩
           have A6 := aQ1 (A5.out.step hb6 hg6)
           have A7 := aQ1 (A6.out.set3 true)
           clear hc hb6 hg6 A5
           clear r0 r1 r2 r3 r4 s0 s1 s2 s3 s4 a0 a1 a2 a3 a4 b2 b3 b4
           obtain ⟨⟨r0, r1, r2, r3, r4⟩, s0, s1, s2, s3, s4⟩ := aQp A6.out.f
           obtain ⟨⟨a0, a1, a2, a3, a4⟩, b2, b3, b4⟩ := A6.out.cells
           have hc := aZy A7.out.f.sc A7.out.f.env A7.out.f.far hs hq4
           clear A6
           go_wp2_with fail
           refine hc.mono ?_
           rintro e w7 ⟨v, f7, q7, rfl, hb7, hq7, hg7, hR7⟩
           have A8 := aQ1 (A7.out.step hb7 hg7)
           have A9 := aQ1 (A8.out.set4 v)
           have HR7 := aQ1 hR7
           clear hc hb7 hg7 A7 hR7
           clear r0 r1 r2 r3 r4 s0 s1 s2 s3 s4 a0 a1 a2 a3 a4 b2 b3 b4
           obtain ⟨⟨a0, a1, a2, a3, a4⟩, b2, b3, b4⟩ := A8.out.cells
           obtain ⟨⟨r0, r1, r2, r3, r4⟩, s0, s1, s2, s3, s4⟩ := aQp A9.out.f
           obtain ⟨⟨d0, d1, d2, d3, d4⟩, _, _, _⟩ := A9.out.cells
           simp only at d0 d1 d2 d3 d4 a0 a1 a2 a3 a4
           go_wp2
           refine bodyPost_ret (v := .tuple #[.agg #[.string o, .string t, .bool true, .bool true, .string v], errV f7]) (by simp [results, Tryz.results130, go_sem, r0, r1, r2, r3, r4]) rfl ?_
           have hfin := A9.out.f.fin5 (.string o) (.string t) (.bool true) (.bool true) (.string v)
           refine ⟨⟨o, t, true, true, v⟩, f7, q7, rfl, hfin.1, hq7, hfin.2, ?_⟩
           rcases HR7.out with ⟨h1, h2⟩ | ⟨h1, h2⟩
           · exact .inl ⟨h1, by rw [← HZ.out, h2]; rfl⟩
           · exact .inr ⟨h1, by rw [← HZ.out, h2]; rfl⟩
       all_goals
        have hz := HZ.out
        rw [if_neg (by omega)] at hz
        have HZ := aQ1 (show none = Z from hz)
        simp only [h0, aZ1, aZp]
        clear hz h0
        go_wp2
        refine bodyPost_ret (v := .tuple #[.agg #[.string ⟨#[]⟩, .string ⟨#[]⟩, .bool false, .bool false, .string ⟨#[]⟩], _]) (by simp [results, Tryz.results130, go_sem, r0, r1, r2, r3, r4]; rfl) rfl ?_
        have hfin := A4.out.f.fin5 (.string ⟨#[]⟩) (.string ⟨#[]⟩) (.bool false) (.bool false) (.string ⟨#[]⟩)
        first
         | exact ⟨at0, 1, q4, rfl, hfin.1, hq4, hfin.2, .inr ⟨.inl rfl, HZ.out.symm⟩⟩
         | exact ⟨at0, 2, q4, rfl, hfin.1, hq4, hfin.2, .inr ⟨.inr rfl, HZ.out.symm⟩⟩
     · have hz := HZ.out
       rw [hkz] at hz
       change ((gapO s q2).bind fun b => (defZ s b).bind fun d => some ((⟨o, t, true, d.1, d.2.1⟩ : At5), d.2.2)) = Z at hz
       rw [aVe] at hz
       have HZ := aQ1 hz
       have A3 : Hid (Ha w (w2.alloc (.cells #[.string o, .string t, .bool true, .bool false, .string ⟨#[]⟩] 150)) g s q2 m w2.heap.size ⟨o, t, true, false, ⟨#[]⟩⟩) := aQ1 (Ha.start F2.out ⟨o, t, true, false, ⟨#[]⟩⟩)
       have hc := aZe A3.out.f.sc hs hq2
       clear hz hkz F2 r0 r1 r2 r3 r4 s0 s1 s2 s3 s4
       obtain ⟨⟨r0, r1, r2, r3, r4⟩, s0, s1, s2, s3, s4⟩ := aQp A3.out.f
       obtain ⟨⟨a0, a1, a2, a3, a4⟩, b2, b3, b4⟩ := A3.out.cells
       go_wp2_with fail
       refine hc.mono ?_
       rintro e w4 ⟨rfl, hb4, hg4⟩
       have A4 := aQ1 (A3.out.step hb4 hg4)
       have hq4 := aQq (s := s) hq2
       clear hc hb4 hg4 A3
       clear r0 r1 r2 r3 r4 s0 s1 s2 s3 s4 a0 a1 a2 a3 a4 b2 b3 b4
       generalize w2.heap.size = kb at A4 ⊢
       obtain ⟨⟨r0, r1, r2, r3, r4⟩, s0, s1, s2, s3, s4⟩ := aQp A4.out.f
       obtain ⟨⟨a0, a1, a2, a3, a4⟩, b2, b3, b4⟩ := A4.out.cells
       obtain ⟨q4, hqd⟩ : ∃ q4, whiteZ s q2 = q4 := ⟨_, rfl⟩
       rw [hqd] at HZ A4 hq4
       clear hqd
       rcases aJ8 s q2 with h0 | h0 | h0
       · have hz := HZ.out
         rw [if_pos h0] at hz
         have HZ := aQ1 (show ((defZ s q4).bind fun d => some ((⟨o, t, true, d.1, d.2.1⟩ : At5), d.2.2)) = Z from hz)
         have hc := aQc (sg := ⟨#[35, 82, 69, 81, 85, 73, 82, 69, 68]⟩) A4.out.f.sc hs hq4
         rw [show (⟨#[35, 82, 69, 81, 85, 73, 82, 69, 68]⟩ : ByteArray).data.toList = reqL from rfl] at hc
         simp only [h0, aXq]
         clear hz h0
         cases hx : aQ5 s q4 reqL with
         | true =>
          have hz := HZ.out
          unfold defZ at hz
          rw [if_pos hx] at hz
          have HZ := aQ1 (show some ((⟨o, t, true, false, ⟨#[]⟩⟩ : At5), q4 + 9) = Z from hz)
          have hroom : q4 + 9 ≤ s.size := by have := aQ9 hx hq4; simpa [reqL] using this
          rw [hx] at hc
          simp only [if_true, show reqL.length = 9 from rfl] at hc
          clear hz hx
          go_wp2_with fail
          refine hc.mono ?_
          rintro e w5 ⟨rfl, hb5, hg5⟩
          have A5 := aQ1 (A4.out.step hb5 hg5)
          clear hc hb5 hg5 A4
          clear r0 r1 r2 r3 r4 s0 s1 s2 s3 s4 a0 a1 a2 a3 a4 b2 b3 b4
          obtain ⟨⟨r0, r1, r2, r3, r4⟩, s0, s1, s2, s3, s4⟩ := aQp A5.out.f
          obtain ⟨⟨a0, a1, a2, a3, a4⟩, b2, b3, b4⟩ := A5.out.cells
          go_wp2
          refine bodyPost_ret (v := .tuple #[.agg #[.string o, .string t, .bool true, .bool false, .string ⟨#[]⟩], errV 0]) (by simp [results, Tryz.results130, go_sem, r0, r1, r2, r3, r4, aXq]) rfl ?_
          have hfin := A5.out.f.fin5 (.string o) (.string t) (.bool true) (.bool false) (.string ⟨#[]⟩)
          exact ⟨⟨o, t, true, false, ⟨#[]⟩⟩, 0, q4 + 9, rfl, hfin.1, hroom, hfin.2, .inl ⟨rfl, HZ.out.symm⟩⟩
         | false =>
          rw [hx, if_neg (by simp)] at hc
          have HX := aQ1 hx
          clear hx
          go_wp2_with fail
          refine hc.mono ?_
          rintro e w5 ⟨rfl, hb5, hg5⟩
          have A5 := aQ1 (A4.out.step hb5 hg5)
          clear hc hb5 hg5 A4
          clear r0 r1 r2 r3 r4 s0 s1 s2 s3 s4 a0 a1 a2 a3 a4 b2 b3 b4
          obtain ⟨⟨r0, r1, r2, r3, r4⟩, s0, s1, s2, s3, s4⟩ := aQp A5.out.f
          obtain ⟨⟨a0, a1, a2, a3, a4⟩, b2, b3, b4⟩ := A5.out.cells
          have hc := aQc (sg := ⟨#[35, 73, 77, 80, 76, 73, 69, 68]⟩) A5.out.f.sc hs hq4
          rw [show (⟨#[35, 73, 77, 80, 76, 73, 69, 68]⟩ : ByteArray).data.toList = impL from rfl] at hc
          cases hx : aQ5 s q4 impL with
          | true =>
           have hz := HZ.out
           unfold defZ at hz
           rw [if_neg (by rw [HX.out]; simp), if_pos hx] at hz
           have HZ := aQ1 (show some ((⟨o, t, true, false, ⟨#[]⟩⟩ : At5), q4 + 8) = Z from hz)
           have hroom : q4 + 8 ≤ s.size := by have := aQ9 hx hq4; simpa [impL] using this
           rw [hx] at hc
           simp only [if_true, show impL.length = 8 from rfl] at hc
           clear hz hx
           go_wp2_with fail
           refine hc.mono ?_
           rintro e w6 ⟨rfl, hb6, hg6⟩
           have A6 := aQ1 (A5.out.step hb6 hg6)
           clear hc hb6 hg6 A5
           clear r0 r1 r2 r3 r4 s0 s1 s2 s3 s4 a0 a1 a2 a3 a4 b2 b3 b4
           obtain ⟨⟨r0, r1, r2, r3, r4⟩, s0, s1, s2, s3, s4⟩ := aQp A6.out.f
           obtain ⟨⟨a0, a1, a2, a3, a4⟩, b2, b3, b4⟩ := A6.out.cells
           go_wp2
           refine bodyPost_ret (v := .tuple #[.agg #[.string o, .string t, .bool true, .bool false, .string ⟨#[]⟩], errV 0]) (by simp [results, Tryz.results130, go_sem, r0, r1, r2, r3, r4, aXq]) rfl ?_
           have hfin := A6.out.f.fin5 (.string o) (.string t) (.bool true) (.bool false) (.string ⟨#[]⟩)
           exact ⟨⟨o, t, true, false, ⟨#[]⟩⟩, 0, q4 + 8, rfl, hfin.1, hroom, hfin.2, .inl ⟨rfl, HZ.out.symm⟩⟩
          | false =>
           rw [hx, if_neg (by simp)] at hc
           have hz := HZ.out
           rw [def_dv (by rw [HX.out]; simp) (by rw [hx]; simp), Option.bind_assoc] at hz
           have HZ := aQ1 (show ((dvZ s q4).bind fun v => some ((⟨o, t, true, true, v.1⟩ : At5), v.2)) = Z from hz)
           clear hz hx
           go_wp2_with fail
           refine hc.mono ?_
           rintro e w6 ⟨rfl, hb6, hg6⟩
           have A6 := aQ1 (A5.out.step hb6 hg6)
           have A7 := aQ1 (A6.out.set3 true)
           clear hc hb6 hg6 A5
           clear r0 r1 r2 r3 r4 s0 s1 s2 s3 s4 a0 a1 a2 a3 a4 b2 b3 b4
           obtain ⟨⟨r0, r1, r2, r3, r4⟩, s0, s1, s2, s3, s4⟩ := aQp A6.out.f
           obtain ⟨⟨a0, a1, a2, a3, a4⟩, b2, b3, b4⟩ := A6.out.cells
           have hc := aZy A7.out.f.sc A7.out.f.env A7.out.f.far hs hq4
           clear A6
           go_wp2_with fail
           refine hc.mono ?_
           rintro e w7 ⟨v, f7, q7, rfl, hb7, hq7, hg7, hR7⟩
           have A8 := aQ1 (A7.out.step hb7 hg7)
           have A9 := aQ1 (A8.out.set4 v)
           have HR7 := aQ1 hR7
           clear hc hb7 hg7 A7 hR7
           clear r0 r1 r2 r3 r4 s0 s1 s2 s3 s4 a0 a1 a2 a3 a4 b2 b3 b4
           obtain ⟨⟨a0, a1, a2, a3, a4⟩, b2, b3, b4⟩ := A8.out.cells
           obtain ⟨⟨r0, r1, r2, r3, r4⟩, s0, s1, s2, s3, s4⟩ := aQp A9.out.f
           obtain ⟨⟨d0, d1, d2, d3, d4⟩, _, _, _⟩ := A9.out.cells
           simp only at d0 d1 d2 d3 d4 a0 a1 a2 a3 a4
           go_wp2
           refine bodyPost_ret (v := .tuple #[.agg #[.string o, .string t, .bool true, .bool true, .string v], errV f7]) (by simp [results, Tryz.results130, go_sem, r0, r1, r2, r3, r4]) rfl ?_
           have hfin := A9.out.f.fin5 (.string o) (.string t) (.bool true) (.bool true) (.string v)
           refine ⟨⟨o, t, true, true, v⟩, f7, q7, rfl, hfin.1, hq7, hfin.2, ?_⟩
           rcases HR7.out with ⟨h1, h2⟩ | ⟨h1, h2⟩
           · exact .inl ⟨h1, by rw [← HZ.out, h2]; rfl⟩
           · exact .inr ⟨h1, by rw [← HZ.out, h2]; rfl⟩
       all_goals
        have hz := HZ.out
        rw [if_neg (by omega)] at hz
        have HZ := aQ1 (show none = Z from hz)
        simp only [h0, aZ1, aZp]
        clear hz h0
        go_wp2
        refine bodyPost_ret (v := .tuple #[.agg #[.string ⟨#[]⟩, .string ⟨#[]⟩, .bool false, .bool false, .string ⟨#[]⟩], _]) (by simp [results, Tryz.results130, go_sem, r0, r1, r2, r3, r4]; rfl) rfl ?_
        have hfin := A4.out.f.fin5 (.string ⟨#[]⟩) (.string ⟨#[]⟩) (.bool false) (.bool false) (.string ⟨#[]⟩)
        first
         | exact ⟨at0, 1, q4, rfl, hfin.1, hq4, hfin.2, .inr ⟨.inl rfl, HZ.out.symm⟩⟩
         | exact ⟨at0, 2, q4, rfl, hfin.1, hq4, hfin.2, .inr ⟨.inr rfl, HZ.out.symm⟩⟩
     · have hz := HZ.out
       rw [hkz] at hz
       change ((gapO s q2).bind fun b => (defZ s b).bind fun d => some ((⟨o, t, true, d.1, d.2.1⟩ : At5), d.2.2)) = Z at hz
       rw [aVe] at hz
       have HZ := aQ1 hz
       have A3 : Hid (Ha w (w2.alloc (.cells #[.string o, .string t, .bool true, .bool false, .string ⟨#[]⟩] 150)) g s q2 m w2.heap.size ⟨o, t, true, false, ⟨#[]⟩⟩) := aQ1 (Ha.start F2.out ⟨o, t, true, false, ⟨#[]⟩⟩)
       have hc := aZe A3.out.f.sc hs hq2
       clear hz hkz F2 r0 r1 r2 r3 r4 s0 s1 s2 s3 s4
       obtain ⟨⟨r0, r1, r2, r3, r4⟩, s0, s1, s2, s3, s4⟩ := aQp A3.out.f
       obtain ⟨⟨a0, a1, a2, a3, a4⟩, b2, b3, b4⟩ := A3.out.cells
       go_wp2_with fail
       refine hc.mono ?_
       rintro e w4 ⟨rfl, hb4, hg4⟩
       have A4 := aQ1 (A3.out.step hb4 hg4)
       have hq4 := aQq (s := s) hq2
       clear hc hb4 hg4 A3
       clear r0 r1 r2 r3 r4 s0 s1 s2 s3 s4 a0 a1 a2 a3 a4 b2 b3 b4
       generalize w2.heap.size = kb at A4 ⊢
       obtain ⟨⟨r0, r1, r2, r3, r4⟩, s0, s1, s2, s3, s4⟩ := aQp A4.out.f
       obtain ⟨⟨a0, a1, a2, a3, a4⟩, b2, b3, b4⟩ := A4.out.cells
       obtain ⟨q4, hqd⟩ : ∃ q4, whiteZ s q2 = q4 := ⟨_, rfl⟩
       rw [hqd] at HZ A4 hq4
       clear hqd
       rcases aJ8 s q2 with h0 | h0 | h0
       · have hz := HZ.out
         rw [if_pos h0] at hz
         have HZ := aQ1 (show ((defZ s q4).bind fun d => some ((⟨o, t, true, d.1, d.2.1⟩ : At5), d.2.2)) = Z from hz)
         have hc := aQc (sg := ⟨#[35, 82, 69, 81, 85, 73, 82, 69, 68]⟩) A4.out.f.sc hs hq4
         rw [show (⟨#[35, 82, 69, 81, 85, 73, 82, 69, 68]⟩ : ByteArray).data.toList = reqL from rfl] at hc
         simp only [h0, aXq]
         clear hz h0
         cases hx : aQ5 s q4 reqL with
         | true =>
          have hz := HZ.out
          unfold defZ at hz
          rw [if_pos hx] at hz
          have HZ := aQ1 (show some ((⟨o, t, true, false, ⟨#[]⟩⟩ : At5), q4 + 9) = Z from hz)
          have hroom : q4 + 9 ≤ s.size := by have := aQ9 hx hq4; simpa [reqL] using this
          rw [hx] at hc
          simp only [if_true, show reqL.length = 9 from rfl] at hc
          clear hz hx
          go_wp2_with fail
          refine hc.mono ?_
          rintro e w5 ⟨rfl, hb5, hg5⟩
          have A5 := aQ1 (A4.out.step hb5 hg5)
          clear hc hb5 hg5 A4
          clear r0 r1 r2 r3 r4 s0 s1 s2 s3 s4 a0 a1 a2 a3 a4 b2 b3 b4
          obtain ⟨⟨r0, r1, r2, r3, r4⟩, s0, s1, s2, s3, s4⟩ := aQp A5.out.f
          obtain ⟨⟨a0, a1, a2, a3, a4⟩, b2, b3, b4⟩ := A5.out.cells
          go_wp2
          refine bodyPost_ret (v := .tuple #[.agg #[.string o, .string t, .bool true, .bool false, .string ⟨#[]⟩], errV 0]) (by simp [results, Tryz.results130, go_sem, r0, r1, r2, r3, r4, aXq]) rfl ?_
          have hfin := A5.out.f.fin5 (.string o) (.string t) (.bool true) (.bool false) (.string ⟨#[]⟩)
          exact ⟨⟨o, t, true, false, ⟨#[]⟩⟩, 0, q4 + 9, rfl, hfin.1, hroom, hfin.2, .inl ⟨rfl, HZ.out.symm⟩⟩
         | false =>
          rw [hx, if_neg (by simp)] at hc
          have HX := aQ1 hx
          clear hx
          go_wp2_with fail
          refine hc.mono ?_
          rintro e w5 ⟨rfl, hb5, hg5⟩
          have A5 := aQ1 (A4.out.step hb5 hg5)
          clear hc hb5 hg5 A4
          clear r0 r1 r2 r3 r4 s0 s1 s2 s3 s4 a0 a1 a2 a3 a4 b2 b3 b4
          obtain ⟨⟨r0, r1, r2, r3, r4⟩, s0, s1, s2, s3, s4⟩ := aQp A5.out.f
          obtain ⟨⟨a0, a1, a2, a3, a4⟩, b2, b3, b4⟩ := A5.out.cells
          have hc := aQc (sg := ⟨#[35, 73, 77, 80, 76, 73, 69, 68]⟩) A5.out.f.sc hs hq4
          rw [show (⟨#[35, 73, 77, 80, 76, 73, 69, 68]⟩ : ByteArray).data.toList = impL from rfl] at hc
          cases hx : aQ5 s q4 impL with
          | true =>
           have hz := HZ.out
           unfold defZ at hz
           rw [if_neg (by rw [HX.out]; simp), if_pos hx] at hz
           have HZ := aQ1 (show some ((⟨o, t, true, false, ⟨#[]⟩⟩ : At5), q4 + 8) = Z from hz)
           have hroom : q4 + 8 ≤ s.size := by have := aQ9 hx hq4; simpa [impL] using this
           rw [hx] at hc
           simp only [if_true, show impL.length = 8 from rfl] at hc
           clear hz hx
           go_wp2_with fail
           refine hc.mono ?_
           rintro e w6 ⟨rfl, hb6, hg6⟩
           have A6 := aQ1 (A5.out.step hb6 hg6)
           clear hc hb6 hg6 A5
           clear r0 r1 r2 r3 r4 s0 s1 s2 s3 s4 a0 a1 a2 a3 a4 b2 b3 b4
           obtain ⟨⟨r0, r1, r2, r3, r4⟩, s0, s1, s2, s3, s4⟩ := aQp A6.out.f
           obtain ⟨⟨a0, a1, a2, a3, a4⟩, b2, b3, b4⟩ := A6.out.cells
           go_wp2
           refine bodyPost_ret (v := .tuple #[.agg #[.string o, .string t, .bool true, .bool false, .string ⟨#[]⟩], errV 0]) (by simp [results, Tryz.results130, go_sem, r0, r1, r2, r3, r4, aXq]) rfl ?_
           have hfin := A6.out.f.fin5 (.string o) (.string t) (.bool true) (.bool false) (.string ⟨#[]⟩)
           exact ⟨⟨o, t, true, false, ⟨#[]⟩⟩, 0, q4 + 8, rfl, hfin.1, hroom, hfin.2, .inl ⟨rfl, HZ.out.symm⟩⟩
          | false =>
           rw [hx, if_neg (by simp)] at hc
           have hz := HZ.out
           rw [def_dv (by rw [HX.out]; simp) (by rw [hx]; simp), Option.bind_assoc] at hz
           have HZ := aQ1 (show ((dvZ s q4).bind fun v => some ((⟨o, t, true, true, v.1⟩ : At5), v.2)) = Z from hz)
           clear hz hx
           go_wp2_with fail
           refine hc.mono ?_
           rintro e w6 ⟨rfl, hb6, hg6⟩
           have A6 := aQ1 (A5.out.step hb6 hg6)
           have A7 := aQ1 (A6.out.set3 true)
           clear hc hb6 hg6 A5
           clear r0 r1 r2 r3 r4 s0 s1 s2 s3 s4 a0 a1 a2 a3 a4 b2 b3 b4
           obtain ⟨⟨r0, r1, r2, r3, r4⟩, s0, s1, s2, s3, s4⟩ := aQp A6.out.f
           obtain ⟨⟨a0, a1, a2, a3, a4⟩, b2, b3, b4⟩ := A6.out.cells
           have hc := aZy A7.out.f.sc A7.out.f.env A7.out.f.far hs hq4
           clear A6
           go_wp2_with fail
           refine hc.mono ?_
           rintro e w7 ⟨v, f7, q7, rfl, hb7, hq7, hg7, hR7⟩
           have A8 := aQ1 (A7.out.step hb7 hg7)
           have A9 := aQ1 (A8.out.set4 v)
           have HR7 := aQ1 hR7
           clear hc hb7 hg7 A7 hR7
           clear r0 r1 r2 r3 r4 s0 s1 s2 s3 s4 a0 a1 a2 a3 a4 b2 b3 b4
           obtain ⟨⟨a0, a1, a2, a3, a4⟩, b2, b3, b4⟩ := A8.out.cells
           obtain ⟨⟨r0, r1, r2, r3, r4⟩, s0, s1, s2, s3, s4⟩ := aQp A9.out.f
           obtain ⟨⟨d0, d1, d2, d3, d4⟩, _, _, _⟩ := A9.out.cells
           simp only at d0 d1 d2 d3 d4 a0 a1 a2 a3 a4
           go_wp2
           refine bodyPost_ret (v := .tuple #[.agg #[.string o, .string t, .bool true, .bool true, .string v], errV f7]) (by simp [results, Tryz.results130, go_sem, r0, r1, r2, r3, r4]) rfl ?_
           have hfin := A9.out.f.fin5 (.string o) (.string t) (.bool true) (.bool true) (.string v)
           refine ⟨⟨o, t, true, true, v⟩, f7, q7, rfl, hfin.1, hq7, hfin.2, ?_⟩
           rcases HR7.out with ⟨h1, h2⟩ | ⟨h1, h2⟩
           · exact .inl ⟨h1, by rw [← HZ.out, h2]; rfl⟩
           · exact .inr ⟨h1, by rw [← HZ.out, h2]; rfl⟩
       all_goals
        have hz := HZ.out
        rw [if_neg (by omega)] at hz
        have HZ := aQ1 (show none = Z from hz)
        simp only [h0, aZ1, aZp]
        clear hz h0
        go_wp2
        refine bodyPost_ret (v := .tuple #[.agg #[.string ⟨#[]⟩, .string ⟨#[]⟩, .bool false, .bool false, .string ⟨#[]⟩], _]) (by simp [results, Tryz.results130, go_sem, r0, r1, r2, r3, r4]; rfl) rfl ?_
        have hfin := A4.out.f.fin5 (.string ⟨#[]⟩) (.string ⟨#[]⟩) (.bool false) (.bool false) (.string ⟨#[]⟩)
        first
         | exact ⟨at0, 1, q4, rfl, hfin.1, hq4, hfin.2, .inr ⟨.inl rfl, HZ.out.symm⟩⟩
         | exact ⟨at0, 2, q4, rfl, hfin.1, hq4, hfin.2, .inr ⟨.inr rfl, HZ.out.symm⟩⟩
     · have hz := HZ.out
       rw [hkz] at hz
       change ((gapO s q2).bind fun b => (defZ s b).bind fun d => some ((⟨o, t, true, d.1, d.2.1⟩ : At5), d.2.2)) = Z at hz
       rw [aVe] at hz
       have HZ := aQ1 hz
       have A3 : Hid (Ha w (w2.alloc (.cells #[.string o, .string t, .bool true, .bool false, .string ⟨#[]⟩] 150)) g s q2 m w2.heap.size ⟨o, t, true, false, ⟨#[]⟩⟩) := aQ1 (Ha.start F2.out ⟨o, t, true, false, ⟨#[]⟩⟩)
       have hc := aZe A3.out.f.sc hs hq2
       clear hz hkz F2 r0 r1 r2 r3 r4 s0 s1 s2 s3 s4
       obtain ⟨⟨r0, r1, r2, r3, r4⟩, s0, s1, s2, s3, s4⟩ := aQp A3.out.f
       obtain ⟨⟨a0, a1, a2, a3, a4⟩, b2, b3, b4⟩ := A3.out.cells
       go_wp2_with fail
       refine hc.mono ?_
       rintro e w4 ⟨rfl, hb4, hg4⟩
       have A4 := aQ1 (A3.out.step hb4 hg4)
       have hq4 := aQq (s := s) hq2
       clear hc hb4 hg4 A3
       clear r0 r1 r2 r3 r4 s0 s1 s2 s3 s4 a0 a1 a2 a3 a4 b2 b3 b4
       generalize w2.heap.size = kb at A4 ⊢
       obtain ⟨⟨r0, r1, r2, r3, r4⟩, s0, s1, s2, s3, s4⟩ := aQp A4.out.f
       obtain ⟨⟨a0, a1, a2, a3, a4⟩, b2, b3, b4⟩ := A4.out.cells
       obtain ⟨q4, hqd⟩ : ∃ q4, whiteZ s q2 = q4 := ⟨_, rfl⟩
       rw [hqd] at HZ A4 hq4
       clear hqd
       rcases aJ8 s q2 with h0 | h0 | h0
       · have hz := HZ.out
         rw [if_pos h0] at hz
         have HZ := aQ1 (show ((defZ s q4).bind fun d => some ((⟨o, t, true, d.1, d.2.1⟩ : At5), d.2.2)) = Z from hz)
         have hc := aQc (sg := ⟨#[35, 82, 69, 81, 85, 73, 82, 69, 68]⟩) A4.out.f.sc hs hq4
         rw [show (⟨#[35, 82, 69, 81, 85, 73, 82, 69, 68]⟩ : ByteArray).data.toList = reqL from rfl] at hc
         simp only [h0, aXq]
         clear hz h0
         cases hx : aQ5 s q4 reqL with
         | true =>
          have hz := HZ.out
          unfold defZ at hz
          rw [if_pos hx] at hz
          have HZ := aQ1 (show some ((⟨o, t, true, false, ⟨#[]⟩⟩ : At5), q4 + 9) = Z from hz)
          have hroom : q4 + 9 ≤ s.size := by have := aQ9 hx hq4; simpa [reqL] using this
          rw [hx] at hc
          simp only [if_true, show reqL.length = 9 from rfl] at hc
          clear hz hx
          go_wp2_with fail
          refine hc.mono ?_
          rintro e w5 ⟨rfl, hb5, hg5⟩
          have A5 := aQ1 (A4.out.step hb5 hg5)
          clear hc hb5 hg5 A4
          clear r0 r1 r2 r3 r4 s0 s1 s2 s3 s4 a0 a1 a2 a3 a4 b2 b3 b4
          obtain ⟨⟨r0, r1, r2, r3, r4⟩, s0, s1, s2, s3, s4⟩ := aQp A5.out.f
          obtain ⟨⟨a0, a1, a2, a3, a4⟩, b2, b3, b4⟩ := A5.out.cells
          go_wp2
          refine bodyPost_ret (v := .tuple #[.agg #[.string o, .string t, .bool true, .bool false, .string ⟨#[]⟩], errV 0]) (by simp [results, Tryz.results130, go_sem, r0, r1, r2, r3, r4, aXq]) rfl ?_
          have hfin := A5.out.f.fin5 (.string o) (.string t) (.bool true) (.bool false) (.string ⟨#[]⟩)
          exact ⟨⟨o, t, true, false, ⟨#[]⟩⟩, 0, q4 + 9, rfl, hfin.1, hroom, hfin.2, .inl ⟨rfl, HZ.out.symm⟩⟩
         | false =>
          rw [hx, if_neg (by simp)] at hc
          have HX := aQ1 hx
          clear hx
          go_wp2_with fail
          refine hc.mono ?_
          rintro e w5 ⟨rfl, hb5, hg5⟩
          have A5 := aQ1 (A4.out.step hb5 hg5)
          clear hc hb5 hg5 A4
          clear r0 r1 r2 r3 r4 s0 s1 s2 s3 s4 a0 a1 a2 a3 a4 b2 b3 b4
          obtain ⟨⟨r0, r1, r2, r3, r4⟩, s0, s1, s2, s3, s4⟩ := aQp A5.out.f
          obtain ⟨⟨a0, a1, a2, a3, a4⟩, b2, b3, b4⟩ := A5.out.cells
          have hc := aQc (sg := ⟨#[35, 73, 77, 80, 76, 73, 69, 68]⟩) A5.out.f.sc hs hq4
          rw [show (⟨#[35, 73, 77, 80, 76, 73, 69, 68]⟩ : ByteArray).data.toList = impL from rfl] at hc
          cases hx : aQ5 s q4 impL with
          | true =>
           have hz := HZ.out
           unfold defZ at hz
           rw [if_neg (by rw [HX.out]; simp), if_pos hx] at hz
           have HZ := aQ1 (show some ((⟨o, t, true, false, ⟨#[]⟩⟩ : At5), q4 + 8) = Z from hz)
           have hroom : q4 + 8 ≤ s.size := by have := aQ9 hx hq4; simpa [impL] using this
           rw [hx] at hc
           simp only [if_true, show impL.length = 8 from rfl] at hc
           clear hz hx
           go_wp2_with fail
           refine hc.mono ?_
           rintro e w6 ⟨rfl, hb6, hg6⟩
           have A6 := aQ1 (A5.out.step hb6 hg6)
           clear hc hb6 hg6 A5
           clear r0 r1 r2 r3 r4 s0 s1 s2 s3 s4 a0 a1 a2 a3 a4 b2 b3 b4
           obtain ⟨⟨r0, r1, r2, r3, r4⟩, s0, s1, s2, s3, s4⟩ := aQp A6.out.f
           obtain ⟨⟨a0, a1, a2, a3, a4⟩, b2, b3, b4⟩ := A6.out.cells
           go_wp2
           refine bodyPost_ret (v := .tuple #[.agg #[.string o, .string t, .bool true, .bool false, .string ⟨#[]⟩], errV 0]) (by simp [results, Tryz.results130, go_sem, r0, r1, r2, r3, r4, aXq]) rfl ?_
           have hfin := A6.out.f.fin5 (.string o) (.string t) (.bool true) (.bool false) (.string ⟨#[]⟩)
           exact ⟨⟨o, t, true, false, ⟨#[]⟩⟩, 0, q4 + 8, rfl, hfin.1, hroom, hfin.2, .inl ⟨rfl, HZ.out.symm⟩⟩
          | false =>
           rw [hx, if_neg (by simp)] at hc
           have hz := HZ.out
           rw [def_dv (by rw [HX.out]; simp) (by rw [hx]; simp), Option.bind_assoc] at hz
           have HZ := aQ1 (show ((dvZ s q4).bind fun v => some ((⟨o, t, true, true, v.1⟩ : At5), v.2)) = Z from hz)
           clear hz hx
           go_wp2_with fail
           refine hc.mono ?_
           rintro e w6 ⟨rfl, hb6, hg6⟩
           have A6 := aQ1 (A5.out.step hb6 hg6)
           have A7 := aQ1 (A6.out.set3 true)
           clear hc hb6 hg6 A5
           clear r0 r1 r2 r3 r4 s0 s1 s2 s3 s4 a0 a1 a2 a3 a4 b2 b3 b4
           obtain ⟨⟨r0, r1, r2, r3, r4⟩, s0, s1, s2, s3, s4⟩ := aQp A6.out.f
           obtain ⟨⟨a0, a1, a2, a3, a4⟩, b2, b3, b4⟩ := A6.out.cells
           have hc := aZy A7.out.f.sc A7.out.f.env A7.out.f.far hs hq4
           clear A6
           go_wp2_with fail
           refine hc.mono ?_
           rintro e w7 ⟨v, f7, q7, rfl, hb7, hq7, hg7, hR7⟩
           have A8 := aQ1 (A7.out.step hb7 hg7)
           have A9 := aQ1 (A8.out.set4 v)
           have HR7 := aQ1 hR7
           clear hc hb7 hg7 A7 hR7
           clear r0 r1 r2 r3 r4 s0 s1 s2 s3 s4 a0 a1 a2 a3 a4 b2 b3 b4
           obtain ⟨⟨a0, a1, a2, a3, a4⟩, b2, b3, b4⟩ := A8.out.cells
           obtain ⟨⟨r0, r1, r2, r3, r4⟩, s0, s1, s2, s3, s4⟩ := aQp A9.out.f
           obtain ⟨⟨d0, d1, d2, d3, d4⟩, _, _, _⟩ := A9.out.cells
           simp only at d0 d1 d2 d3 d4 a0 a1 a2 a3 a4
           go_wp2
           refine bodyPost_ret (v := .tuple #[.agg #[.string o, .string t, .bool true, .bool true, .string v], errV f7]) (by simp [results, Tryz.results130, go_sem, r0, r1, r2, r3, r4]) rfl ?_
           have hfin := A9.out.f.fin5 (.string o) (.string t) (.bool true) (.bool true) (.string v)
           refine ⟨⟨o, t, true, true, v⟩, f7, q7, rfl, hfin.1, hq7, hfin.2, ?_⟩
           rcases HR7.out with ⟨h1, h2⟩ | ⟨h1, h2⟩
           · exact .inl ⟨h1, by rw [← HZ.out, h2]; rfl⟩
           · exact .inr ⟨h1, by rw [← HZ.out, h2]; rfl⟩
       all_goals
        have hz := HZ.out
        rw [if_neg (by omega)] at hz
        have HZ := aQ1 (show none = Z from hz)
        simp only [h0, aZ1, aZp]
        clear hz h0
        go_wp2
        refine bodyPost_ret (v := .tuple #[.agg #[.string ⟨#[]⟩, .string ⟨#[]⟩, .bool false, .bool false, .string ⟨#[]⟩], _]) (by simp [results, Tryz.results130, go_sem, r0, r1, r2, r3, r4]; rfl) rfl ?_
        have hfin := A4.out.f.fin5 (.string ⟨#[]⟩) (.string ⟨#[]⟩) (.bool false) (.bool false) (.string ⟨#[]⟩)
        first
         | exact ⟨at0, 1, q4, rfl, hfin.1, hq4, hfin.2, .inr ⟨.inl rfl, HZ.out.symm⟩⟩
         | exact ⟨at0, 2, q4, rfl, hfin.1, hq4, hfin.2, .inr ⟨.inr rfl, HZ.out.symm⟩⟩
     · have hz := HZ.out
       rw [hkz] at hz
       have HZ := aQ1 (show none = Z from hz)
       have A3 : Hid (Ha w (w2.alloc (.cells #[.string o, .string t, .bool false, .bool false, .string ⟨#[]⟩] 150)) g s q2 m w2.heap.size ⟨o, t, false, false, ⟨#[]⟩⟩) := aQ1 (Ha.start F2.out ⟨o, t, false, false, ⟨#[]⟩⟩)
       clear hz hkz F2 r0 r1 r2 r3 r4 s0 s1 s2 s3 s4
       obtain ⟨⟨r0, r1, r2, r3, r4⟩, s0, s1, s2, s3, s4⟩ := aQp A3.out.f
       obtain ⟨⟨a0, a1, a2, a3, a4⟩, b2, b3, b4⟩ := A3.out.cells
       go_wp2
       refine bodyPost_ret (v := .tuple #[.agg #[.string ⟨#[]⟩, .string ⟨#[]⟩, .bool false, .bool false, .string ⟨#[]⟩], errV 2]) (by simp [results, Tryz.results130, go_sem, r0, r1, r2, r3, r4, aZp]) rfl ?_
       have hfin := A3.out.f.fin5 (.string ⟨#[]⟩) (.string ⟨#[]⟩) (.bool false) (.bool false) (.string ⟨#[]⟩)
       exact ⟨at0, 2, q2, rfl, hfin.1, hq2, hfin.2, .inr ⟨.inr rfl, HZ.out.symm⟩⟩
   all_goals
    have hz := HZ.out
    rw [if_neg (by omega)] at hz
    have HZ := aQ1 hz
    simp only [h0, aZ1, aZp]
    clear hT hz h0
    go_wp2
    refine bodyPost_ret (v := .tuple #[.agg #[.string ⟨#[]⟩, .string ⟨#[]⟩, .bool false, .bool false, .string ⟨#[]⟩], _]) (by simp [results, Tryz.results130, go_sem, r0, r1, r2, r3, r4]; rfl) rfl ?_
    have hfin := F2.out.fin5 (.string ⟨#[]⟩) (.string ⟨#[]⟩) (.bool false) (.bool false) (.string ⟨#[]⟩)
    first
     | exact ⟨at0, 1, q2, rfl, hfin.1, hq2, hfin.2, .inr ⟨.inl rfl, HZ.out.symm⟩⟩
     | exact ⟨at0, 2, q2, rfl, hfin.1, hq2, hfin.2, .inr ⟨.inr rfl, HZ.out.symm⟩⟩
 all_goals
  have hz := HZ.out
  rw [name_none (by omega)] at hz
  have HZ := aQ1 (show none = Z from hz)
  simp only [h0, aZ1, aZp]
  clear hT hz h0
  go_wp2
  refine bodyPost_ret (v := .tuple #[.agg #[.string ⟨#[]⟩, .string ⟨#[]⟩, .bool false, .bool false, .string ⟨#[]⟩], _]) (by simp [results, Tryz.results130, go_sem, r0, r1, r2, r3, r4]; rfl) rfl ?_
  have hfin := F1.out.fin5 (.string ⟨#[]⟩) (.string ⟨#[]⟩) (.bool false) (.bool false) (.string ⟨#[]⟩)
  first
   | exact ⟨at0, 1, q, rfl, hfin.1, hq, hfin.2, .inr ⟨.inl rfl, HZ.out.symm⟩⟩
   | exact ⟨at0, 2, q, rfl, hfin.1, hq, hfin.2, .inr ⟨.inr rfl, HZ.out.symm⟩⟩
open Go.RowKit Plain9 Plain10 Plain11 Plain23 Plain24 Plain26 Go.Lib Ents
theorem infoDef : (Tryz.prog.info? 189).map (fun i => (i.zero, i.size, i.bytes)) = some (some .nilIface, 1, 16) := by kernel_rfl
structure Hl [Inhabited Hold] (w W : World) (g : Nat) (s : ByteArray) (k : Nat) (v : Value) (acc : List At5) (m : Int) : Prop where
 h : Hp w W g s k m
 own : W.ownsRow w.heap.size 189 1 v acc.length ((acc.map Sum.inr).map dfV)
 lt : g < w.heap.size
 e0 : EnvH w m
theorem Hl.ne [Inhabited Hold] {w W : World} {g : Nat} {s : ByteArray} {k : Nat} {v : Value} {acc : List At5} {m : Int} (h : Hl w W g s k v acc m) : v.ownBlock ≠ some g := fun e => by have := (h.own.lt g e).1; have := h.lt; omega
theorem Hl.step [Inhabited Hold] {w W W' : World} {g : Nat} {s : ByteArray} {k k' : Nat} {v : Value} {acc : List At5} {m : Int} (h : Hl w W g s k v acc m) (hb : aQi W' g s k') (hg : W.grownBy W' (some g)) : Hl w W' g s k' v acc m :=
 ⟨h.h.step hb hg, bKj h.own hg h.ne, h.lt, h.e0⟩
theorem Hl.app [Inhabited Hold] {w W W' : World} {g : Nat} {s : ByteArray} {k : Nat} {v v' : Value} {acc acc' : List At5} {m : Int} (h : Hl w W g s k v acc m) (hg : W.grownBy W' v.ownBlock) (ho : W'.ownsRow w.heap.size 189 1 v' acc'.length ((acc'.map Sum.inr).map dfV)) : Hl w W' g s k v' acc' m := by
 have hge : ∀ b, v.ownBlock = some b → w.heap.size ≤ b := fun b hb => (h.own.lt b hb).1
 have hlt := h.lt
 have hgr : w.grownBy W' (some g) := ⟨hg.os.trans h.h.grown.os, hg.tape.trans h.h.grown.tape, hg.output.trans h.h.grown.output, Nat.le_trans h.h.grown.size hg.size, fun i hi hr => (hg.block i (Nat.lt_of_lt_of_le hi h.h.grown.size) (fun e => by have := hge i e.symm; omega)).trans (h.h.grown.block i hi hr)⟩
 refine ⟨⟨?_, h.e0.keep h.h.far hgr, hgr, h.h.far⟩, ho, hlt, h.e0⟩
 unfold aQi
 rw [hg.block g (bXh h.h.sc) (fun e => by have := hge g e.symm; omega)]
 exact h.h.sc
theorem Hl.alloc [Inhabited Hold] {w W : World} {g : Nat} {s : ByteArray} {k : Nat} {v : Value} {acc : List At5} {m : Int} (h : Hl w W g s k v acc m) (o : Obj) : Hl w (W.alloc o) g s k v acc m := h.step (aZu h.h.sc o) (aZg W o _)
theorem atts_yes {s o : ByteArray} {f k : Nat} {acc : List At5} (h : aQ5 s (whiteZ s k) [62] = true) : aZz s o (f + 1) k acc = some (acc, whiteZ s k + 1) := by
 unfold aZz; rw [if_pos h]
theorem atts_no {s o : ByteArray} {f k : Nat} {acc : List At5} (h : ¬ aQ5 s (whiteZ s k) [62] = true) (h1 : whiteZ s k = k) : aZz s o (f + 1) k acc = none := by
 unfold aZz; rw [if_neg h, if_pos h1]
theorem atts_bad {s o : ByteArray} {f k : Nat} {acc : List At5} (h : ¬ aQ5 s (whiteZ s k) [62] = true) (h1 : ¬ whiteZ s k = k) (h2 : attZ s o (whiteZ s k) = none) : aZz s o (f + 1) k acc = none := by
 unfold aZz; rw [if_neg h, if_neg h1, h2]
theorem atts_on {s o : ByteArray} {f k q : Nat} {acc : List At5} {a : At5} (h : ¬ aQ5 s (whiteZ s k) [62] = true) (h1 : ¬ whiteZ s k = k) (h2 : attZ s o (whiteZ s k) = some (a, q)) : aZz s o (f + 1) k acc = aZz s o f q (acc ++ [a]) := by
 conv => lhs; unfold aZz
 rw [if_neg h, if_neg h1, h2]
theorem bJw [Inhabited Hold] {w : World} {g : Nat} {s : ByteArray} {p : Nat} {m : Int} (h : aQi w g s p) (he : EnvH w m) (hF : FarH g) (hv0 : VB s 0) (hv : VB s p) (hs : s.size ≤ 1048576) (hp : p ≤ s.size) :
 Calls Tryz.prog 105 #[.pointer (some ⟨g, 0, none⟩)] w fun e w' => bX3 w g s (aV2 s p) e w' := by
 have F0 := aQ1 (Hp.start h he hF)
 have hlt := bXh h
 have hc := aZx h he.env hF.1 hv0 hv hs hp
 obtain ⟨Z, hZ⟩ : ∃ Z, aV2 s p = Z := ⟨_, rfl⟩
 rw [hZ]
 unfold aV2 at hZ
 rw [bZv] at hZ
 have HZ := aQ1 hZ
 have HV0 := aQ1 hv0
 have HV := aQ1 hv
 have HE0 := aQ1 he
 clear h he hZ hv0 hv
 obtain ⟨i0, hi, hz0, hz1, hz2⟩ := info_parts infoDef
 go_enter Tryz.func105, Tryz.ntmps105
 go_wp2_with fail
 refine hc.mono ?_
 rintro e w1 ⟨o, q, rfl, hb1, hq, hT, hg1⟩
 have F1 := aQ1 (F0.out.step hb1 hg1)
 clear hc hb1 hg1 F0
 rcases bKi s p with h0 | h0 | h0
 · obtain ⟨ht, hq'⟩ := hT h0
   have hz := HZ.out
   rw [if_pos h0, ← hq', ← ht] at hz
   obtain ⟨R, hR⟩ : ∃ R, aZz s o (s.size + 1) q [] = R := ⟨_, rfl⟩
   rw [hR] at hz
   have HZ := aQ1 (show (R.bind fun l => some (l.1.map Sum.inr, l.2)) = Z from hz)
   have HR := aQ1 hR
   have HVQ : Hid (VB s q) := by rw [hq']; exact aQ1 (pn_VB HV0.out HV.out)
   simp only [h0, aXq]
   have L0 : Hid (Hl w w1 g s q (.slice none 0 0) [] m) := aQ1 ⟨F1.out, World.ownsRow_nil _ _ _ _, hlt, HE0.out⟩
   clear hT ht hq' hz h0 hR
   go_wp2_with fail
   go_loopw [6] (fun lv wr => ∃ (f k : Nat) (acc : List At5), k ≤ s.size ∧ acc.length ≤ k ∧ VB s k ∧ Hl w wr g s k lv acc m ∧ aZz s o f k acc = R ∧ s.size < k + f) (fun _ wr => s.size - imAt wr g)
   case atStart => exact ⟨s.size + 1, q, [], hq, Nat.zero_le _, HVQ.out, L0.out, HR.out, by omega⟩
   case round =>
    obtain ⟨f, k, acc, hk, hacc, hvk, hL, hgo, hfu⟩ := hrel
    have HGO := aQ1 hgo
    have HL := aQ1 hL
    have HVK := aQ1 hvk
    obtain ⟨ao, cv, hlv⟩ := aQh hL.own
    subst hlv
    obtain ⟨f', rfl⟩ : ∃ f', f = f' + 1 := ⟨f - 1, by omega⟩
    have hc := aXi hL.h.sc hs hk
    have hq2 := aQq (s := s) hk
    have hge := aQw s k
    obtain ⟨q2, hqd⟩ : ∃ q2, whiteZ s k = q2 := ⟨_, rfl⟩
    have HQD := aQ1 hqd
    rw [hqd] at hc hq2 hge
    clear hgo hL hvk hqd L0
    by_cases hwh : k < q2
    · rw [decide_eq_true hwh] at hc
      go_wp2_with fail
      refine hc.mono ?_
      rintro e w2 ⟨rfl, hb2, hg2⟩
      have L2 := aQ1 (HL.out.step hb2 hg2)
      have hah := aJc (sg := ⟨#[62]⟩) L2.out.h.sc hq2
      rw [show (⟨#[62]⟩ : ByteArray).data.toList = [62] from rfl] at hah
      clear hc hb2 hg2
      cases hx : aQ5 s q2 [62] with
      | true =>
       rw [hx] at hah
       have hRz : R = some (acc, q2 + 1) := by rw [← HGO.out, atts_yes (by rw [HQD.out]; exact hx), HQD.out]
       have hz := HZ.out
       rw [hRz] at hz
       have HZ2 := aQ1 (show some (acc.map Sum.inr, q2 + 1) = Z from hz)
       have hm62 : aQm s q2 [62] = 0 := aX8.2 hx
       have HX := aQ1 hx
       clear hz hRz hx hm62
       go_wp2_with fail
       refine (hah _ rfl).mono ?_
       rintro e w3 ⟨rfl, n3, hw3⟩
       have L3 : Hid (Hl w w3 g s q2 (.slice ao acc.length cv) acc m) := by rw [hw3]; exact aQ1 (L2.out.step L2.out.h.sc (aQb w2 n3 _))
       clear hw3 hah L2
       have hc := aZ8 (sg := ⟨#[62]⟩) L3.out.h.sc hs hq2
       go_wp2_with fail
       refine hc.mono ?_
       rintro e w4 ⟨rfl, hb4, hg4⟩
       have L4 := aQ1 (L3.out.step hb4 hg4)
       clear hc hb4 hg4 L3
       go_wp2
       go_ret2
       exact ds_must (l := acc.map Sum.inr) L4.out.h hq2 (by rw [List.length_map]; exact L4.out.own) (by rw [← HZ2.out]; unfold bQ6; rw [if_pos HX.out]; rfl)
      | false =>
       rw [hx] at hah
       have HX := aQ1 hx
       have HNX : Hid (¬ aQ5 s (whiteZ s k) [62] = true) := by rw [HQD.out, hx]; exact aQ1 (by simp)
       have HNE : Hid (¬ whiteZ s k = k) := by rw [HQD.out]; exact aQ1 (by omega)
       clear hx
       go_wp2_with fail
       refine (hah _ rfl).mono ?_
       rintro e w3 ⟨rfl, n3, hw3⟩
       have L3 : Hid (Hl w w3 g s q2 (.slice ao acc.length cv) acc m) := by rw [hw3]; exact aQ1 (L2.out.step L2.out.h.sc (aQb w2 n3 _))
       have HVQ2 : Hid (VB s q2) := by rw [← HQD.out]; exact aQ1 (aZj HV0.out HVK.out)
       clear hw3 hah L2
       have hc := bJv (o := o) L3.out.h.sc L3.out.h.env L3.out.h.far HV0.out HVQ2.out hs hq2
       go_wp2_with fail
       refine hc.mono ?_
       rintro e w4 ⟨a, f4, q4, rfl, hb4, hq4, hg4, hR4⟩
       have L4 := aQ1 (L3.out.step hb4 hg4)
       clear hc hb4 hg4 L3
       rcases hR4 with ⟨rfl, ha⟩ | ⟨hf4, ha⟩
       · have hap := att_pos ha
         have hav := (e_att (bKb s) HV0.out HVQ2.out ha).2
         have hRz : aZz s o f' q4 (acc ++ [a]) = R := by rw [← HGO.out, atts_on HNX.out HNE.out (by rw [HQD.out]; exact ha)]
         have HRZ := aQ1 hRz
         have HAV := aQ1 hav
         have HAP := aQ1 hap.1
         have HAT := aQ1 (aX9 HL.out.h.sc)
         have L5 := aQ1 (L4.out.alloc (.cells #[.string a.of, .string a.nm, .bool a.words, .bool a.has, .string a.val] 199))
         simp only [aXq]
         clear ha hap hav hRz HL L4 hwh
         go_wp2_with (at_builtin; refine wpList_append_own _ rfl _ _ 142 rfl w.heap.size 189 i0 .nilIface 1 16 Tryz.underlying142 hi hz0 hz1 hz2 rfl (by decide) _ _ _ rfl (L5.out.own.alloc _) ⟨w4.heap.size + 1, 0, none⟩ 1 1 [dfV (.inr a)] rfl rfl ?c1 ?c2 ?c3 ?c4 ?c5 ?c6)
         case c1 =>
          intro j u hj
          match j, hj with
          | 0, hj => simp at hj; subst hj; simp; rfl
          | (j + 1), hj => simp at hj
         case c2 => first | rfl | exact fun u hu => by simp at hu; subst hu; rfl
         case c3 => unfold maxLen; omega
         case c4 => omega
         case c5 => have := L5.out.h.grown.size; simp at this; omega
         intro v' w6 hown' hgrow _
         have L6 : Hid (Hl w w6 g s q4 v' (acc ++ [a]) m) := aQ1 ((L5.out.alloc _).app hgrow (by simpa using hown'))
         clear hown' hgrow L5
         go_wp2
         go_roundw
         case rel => exact ⟨f', q4, acc ++ [a], hq4, by have := HAP.out; simp; omega, HAV.out, L6.out, HRZ.out, by have := HAP.out; omega⟩
         case measure => rw [HAT.out, aX9 L6.out.h.sc]; have := HAP.out; omega
       · have hRz : R = none := by rw [← HGO.out, atts_bad HNX.out HNE.out (by rw [HQD.out]; exact ha)]
         have hz := HZ.out
         rw [hRz] at hz
         have HZ2 := aQ1 (show none = Z from hz)
         clear hz hRz ha
         rcases hf4 with rfl | rfl
         all_goals
          simp only [aZ1, aZp]
          go_wp2
          go_ret2
          first
           | exact ds_1 (L4.out.alloc _).h hq4 HZ2.out.symm _ _ _
           | exact ds_2 (L4.out.alloc _).h hq4 HZ2.out.symm _ _ _
    · have hqk : q2 = k := by omega
      rw [decide_eq_false hwh] at hc
      have hz := HZ.out
      have hRz : R = if aQ5 s q2 [62] = true then some (acc, q2 + 1) else none := by
       rw [← HGO.out]
       by_cases hx : aQ5 s q2 [62] = true
       · rw [if_pos hx, atts_yes (by rw [HQD.out]; exact hx), HQD.out]
       · rw [if_neg hx, atts_no (by rw [HQD.out]; exact hx) (by rw [HQD.out, hqk])]
      rw [hRz] at hz
      have HZ2 := aQ1 hz
      clear hz hRz hqk
      go_wp2_with fail
      refine hc.mono ?_
      rintro e w2 ⟨rfl, hb2, hg2⟩
      have L2 := aQ1 (HL.out.step hb2 hg2)
      clear hc hb2 hg2
      have hc := aZ8 (sg := ⟨#[62]⟩) L2.out.h.sc hs hq2
      go_wp2_with fail
      refine hc.mono ?_
      rintro e w4 ⟨rfl, hb4, hg4⟩
      have L4 := aQ1 (L2.out.step hb4 hg4)
      clear hc hb4 hg4 L2
      go_wp2
      go_ret2
      refine ds_must (l := acc.map Sum.inr) L4.out.h hq2 (by rw [List.length_map]; exact L4.out.own) ?_
      rw [← HZ2.out]
      unfold bQ6
      by_cases hx : aQ5 s q2 [62] = true
      · rw [if_pos hx, if_pos hx]; rfl
      · rw [if_neg hx, if_neg hx]; rfl
 all_goals
  have hz := HZ.out
  rw [if_neg (by omega)] at hz
  have HZ := aQ1 hz
  simp only [h0, aZ1, aZp]
  clear hT hz h0
  go_wp2
  go_ret2
  first
   | exact ds_1 F1.out hq HZ.out.symm _ _ _
   | exact ds_2 F1.out hq HZ.out.symm _ _ _
open Go.RowKit Plain9 Plain10 Plain11 Plain23 Go.Lib Ents
theorem fail_fl (f : Nat) : (aQy f).fl = f := rfl
theorem comment_012 (s : ByteArray) (p : Nat) : (aXa s p).fl = 0 ∨ (aXa s p).fl = 1 ∨ (aXa s p).fl = 2 := by
 unfold aXa
 split
 · rename_i h; rw [fail_fl]; unfold upF at h ⊢; split <;> simp_all
 · split
   · exact .inl rfl
   · rw [fail_fl]; exact bQp _ _ _
theorem pi_012 (s : ByteArray) (p : Nat) : (piZ s p).fl = 0 ∨ (piZ s p).fl = 1 ∨ (piZ s p).fl = 2 := by
 unfold piZ
 split
 · rw [fail_fl]; exact aWl _ _
 · split
   · exact .inr (.inr rfl)
   · simp only
     split
     · split
       · exact .inl rfl
       · rename_i h; rw [fail_fl]; unfold upF at h ⊢; split <;> simp_all
     · split
       · exact .inl rfl
       · rw [fail_fl]; exact bQp _ _ _
theorem Hp.alloc [Inhabited Hold] {w W : World} {g : Nat} {s : ByteArray} {p : Nat} {m : Int} (h : Hp w W g s p m) (o : Obj) : Hp w (W.alloc o) g s p m := h.step (aZu h.sc o) (aZg W o _)
theorem bKk {w : World} {B B' : Nat} {e : TypeId} {size : Nat} {v : Value} {n : Nat} {xs : List Value} (h : w.ownsRow B e size v n xs) (hB : B' ≤ B) : w.ownsRow B' e size v n xs := by
 refine ⟨h.1, ?_⟩
 rcases h.2 with hn | ⟨g, cap, cur, h1, h2, rest⟩
 · exact .inl hn
 · exact .inr ⟨g, cap, cur, h1, Nat.le_trans hB h2, rest⟩
theorem ds_lift [Inhabited Hold] {w W W' : World} {g : Nat} {s : ByteArray} {Z : Option (List Df × Nat)} {e : Ending} (hg : w.grownBy W (some g)) (h : bX3 W g s Z e W') : bX3 w g s Z e W' := by
 obtain ⟨a, n, c, f, q, he, hb, hq, hg2, hr⟩ := h
 refine ⟨a, n, c, f, q, he, hb, hq, aQ3 hg hg2, ?_⟩
 rcases hr with ⟨h1, l, h2, h3⟩ | hr
 · exact .inl ⟨h1, l, h2, bKk h3 hg.size⟩
 · exact .inr hr
theorem element_nil {s : ByteArray} {p q : Nat} (h : (aJ3 s p).map (·.2) = some q) : aJ3 s p = some ([], q) := by
 unfold aJ3 at h ⊢
 rw [bZv] at h ⊢
 by_cases h1 : pnF s p = 0
 · rw [if_pos h1] at h ⊢
   rw [aVe] at h ⊢
   by_cases h2 : aKp s (nmP s (whiteZ s p)) = 0
   · rw [if_pos h2] at h ⊢
     change Option.map _ (if _ then _ else _) = _ at h
     change (if _ then _ else _) = _
     split at h
     · rename_i h3; rw [if_pos h3]; have := Option.some.inj h; rw [← this]
     · cases h
   · rw [if_neg h2] at h; cases h
 · rw [if_neg h1] at h; cases h
theorem ds_none [Inhabited Hold] {w W : World} {g : Nat} {s : ByteArray} {p : Nat} {m : Int} {Z : Option (List Df × Nat)} (h : Hp w W g s p m) (hp : p ≤ s.size) (hZ : Z = some ([], p)) : bX3 w g s Z (.returned (.tuple #[.slice none 0 0, .nilIface])) W :=
 ⟨none, 0, 0, 0, p, rfl, h.sc, hp, h.grown, .inl ⟨rfl, [], hZ, World.ownsRow_nil _ _ _ _⟩⟩
theorem headMark_any [Inhabited Hold] {w : World} {g : Nat} {s : ByteArray} {p : Nat} {m : Int} (h : aQi w g s p) (he : EnvH w m) (hF : FarH g) (hv0 : VB s 0) (hs : s.size ≤ 1048576) (hp : p ≤ s.size) :
 Calls Tryz.prog 72 #[.pointer (some ⟨g, 0, none⟩)] w fun e w' => bX3 w g s (aKh s p) e w' := by
 have F0 := aQ1 (Hp.start h he hF)
 obtain ⟨Z, hZ⟩ : ∃ Z, aKh s p = Z := ⟨_, rfl⟩
 rw [hZ]
 unfold aKh at hZ
 have HZ := aQ1 hZ
 have HV0 := aQ1 hv0
 clear h he hZ hv0
 go_enter Tryz.func72, Tryz.ntmps72
 have hc := aQc (sg := ⟨#[60, 33, 45, 45]⟩) F0.out.sc hs hp
 rw [show (⟨#[60, 33, 45, 45]⟩ : ByteArray).data.toList = [60, 33, 45, 45] from rfl] at hc
 cases hx : aQ5 s p [60, 33, 45, 45] with
 | true =>
  rw [hx] at hc
  simp only [if_true, show ([60, 33, 45, 45] : List UInt8).length = 4 from rfl] at hc
  have hroom : p + 4 ≤ s.size := by have := aQ9 hx hp; simpa using this
  have hvk : VB s (p + 4) := aXh (sg := [60, 33, 45, 45]) HV0.out hx hp (by decide) (by decide)
  have hz := HZ.out
  rw [if_pos hx] at hz
  have HZ := aQ1 hz
  clear hz hx
  go_wp2_with fail
  refine hc.mono ?_
  rintro e w1 ⟨rfl, hb, hg⟩
  have F1 := aQ1 (F0.out.step hb hg)
  clear hc hb hg F0
  have hc := bQr F1.out.sc F1.out.env.env F1.out.far.1 hs hroom
  go_wp2_with fail
  refine hc.mono ?_
  rintro e wz ⟨kd, nm, tx, ao, an, ac, q, rfl, hb, hq, hT, hg⟩
  have FZ := aQ1 (F1.out.step hb hg)
  clear hc hb hg F1
  rcases comment_012 s (p + 4) with h0 | h0 | h0
  · have hq' := (hT h0).2.2.2.1
    have hz := HZ.out
    rw [if_pos h0, ← hq'] at hz
    have HZ := aQ1 hz
    simp only [h0, aXq]
    clear hT hz h0 hq'
    go_wp2
    go_ret2
    exact ds_none (FZ.out.alloc _) hq HZ.out.symm
  all_goals
   have hz := HZ.out
   rw [if_neg (by omega)] at hz
   have HZ := aQ1 hz
   simp only [h0, aZ1, aZp]
   clear hT hz h0
   go_wp2
   go_ret2
   first
    | exact ds_1 (FZ.out.alloc _) hq HZ.out.symm _ _ _
    | exact ds_2 (FZ.out.alloc _) hq HZ.out.symm _ _ _
 | false =>
  rw [hx, if_neg (by simp)] at hc
  have hz := HZ.out
  rw [if_neg (by rw [hx]; simp)] at hz
  have HZ := aQ1 hz
  clear hz hx
  go_wp2_with fail
  refine hc.mono ?_
  rintro e w1 ⟨rfl, hb, hg⟩
  have F1 := aQ1 (F0.out.step hb hg)
  clear hc hb hg F0
  have hc := aQc (sg := ⟨#[60, 63]⟩) F1.out.sc hs hp
  rw [show (⟨#[60, 63]⟩ : ByteArray).data.toList = [60, 63] from rfl] at hc
  cases hx : aQ5 s p [60, 63] with
  | true =>
   rw [hx] at hc
   simp only [if_true, show ([60, 63] : List UInt8).length = 2 from rfl] at hc
   have hroom : p + 2 ≤ s.size := by have := aQ9 hx hp; simpa using this
   have hvk : VB s (p + 2) := aXh (sg := [60, 63]) HV0.out hx hp (by decide) (by decide)
   have hz := HZ.out
   rw [if_pos hx] at hz
   have HZ := aQ1 hz
   clear hz hx
   go_wp2_with fail
   refine hc.mono ?_
   rintro e w2 ⟨rfl, hb, hg⟩
   have F2 := aQ1 (F1.out.step hb hg)
   clear hc hb hg F1
   have hc := imPi_any F2.out.sc F2.out.env.env F2.out.far.1 hvk hs hroom
   go_wp2_with fail
   refine hc.mono ?_
   rintro e wz ⟨kd, nm, tx, ao, an, ac, q, rfl, hb, hq, hT, hg⟩
   have FZ := aQ1 (F2.out.step hb hg)
   clear hc hb hg F2
   rcases pi_012 s (p + 2) with h0 | h0 | h0
   · have hq' := (hT h0).2.2.2.1
     have hz := HZ.out
     rw [if_pos h0, ← hq'] at hz
     have HZ := aQ1 hz
     simp only [h0, aXq]
     clear hT hz h0 hq'
     go_wp2
     go_ret2
     exact ds_none (FZ.out.alloc _) hq HZ.out.symm
   all_goals
    have hz := HZ.out
    rw [if_neg (by omega)] at hz
    have HZ := aQ1 hz
    simp only [h0, aZ1, aZp]
    clear hT hz h0
    go_wp2
    go_ret2
    first
     | exact ds_1 (FZ.out.alloc _) hq HZ.out.symm _ _ _
     | exact ds_2 (FZ.out.alloc _) hq HZ.out.symm _ _ _
  | false =>
   rw [hx, if_neg (by simp)] at hc
   have hz := HZ.out
   rw [if_neg (by rw [hx]; simp)] at hz
   have HZ := aQ1 hz
   clear hz hx
   go_wp2_with fail
   refine hc.mono ?_
   rintro e w2 ⟨rfl, hb, hg⟩
   have F2 := aQ1 (F1.out.step hb hg)
   clear hc hb hg F1
   have hc := aQc (sg := ⟨#[60, 33, 69, 78, 84, 73, 84, 89]⟩) F2.out.sc hs hp
   rw [show (⟨#[60, 33, 69, 78, 84, 73, 84, 89]⟩ : ByteArray).data.toList = entL from rfl] at hc
   cases hx : aQ5 s p entL with
   | true =>
    rw [hx] at hc
    simp only [if_true, show (entL : List UInt8).length = 8 from rfl] at hc
    have hroom : p + 8 ≤ s.size := by have := aQ9 hx hp; simpa [entL] using this
    have hvk : VB s (p + 8) := aXh (sg := entL) HV0.out hx hp (by decide) (by decide)
    have hz := HZ.out
    rw [if_pos hx] at hz
    have HZ := aQ1 hz
    clear hz hx
    go_wp2_with fail
    refine hc.mono ?_
    rintro e w3 ⟨rfl, hb, hg⟩
    have F3 := aQ1 (F2.out.step hb hg)
    clear hc hb hg F2
    have hc := bV9 F3.out.sc F3.out.env F3.out.far HV0.out hvk hs hroom
    rw [HZ.out] at hc
    go_wp2_with fail
    refine hc.mono ?_
    rintro e wz hS
    have hS2 := ds_lift F3.out.grown hS
    obtain ⟨a, n, c, f, q, he, hr⟩ := hS2
    subst he
    have HR := aQ1 hr
    clear hc hS hr F3
    go_wp2
    go_ret2
    exact ⟨a, n, c, f, q, rfl, HR.out⟩
   | false =>
    rw [hx, if_neg (by simp)] at hc
    have hz := HZ.out
    rw [if_neg (by rw [hx]; simp)] at hz
    have HZ := aQ1 hz
    clear hz hx
    go_wp2_with fail
    refine hc.mono ?_
    rintro e w3 ⟨rfl, hb, hg⟩
    have F3 := aQ1 (F2.out.step hb hg)
    clear hc hb hg F2
    have hc := aQc (sg := ⟨#[60, 33, 65, 84, 84, 76, 73, 83, 84]⟩) F3.out.sc hs hp
    rw [show (⟨#[60, 33, 65, 84, 84, 76, 73, 83, 84]⟩ : ByteArray).data.toList = attL from rfl] at hc
    cases hx : aQ5 s p attL with
    | true =>
     rw [hx] at hc
     simp only [if_true, show (attL : List UInt8).length = 9 from rfl] at hc
     have hroom : p + 9 ≤ s.size := by have := aQ9 hx hp; simpa [attL] using this
     have hvk : VB s (p + 9) := aXh (sg := attL) HV0.out hx hp (by decide) (by decide)
     have hz := HZ.out
     rw [if_pos hx] at hz
     have HZ := aQ1 hz
     clear hz hx
     go_wp2_with fail
     refine hc.mono ?_
     rintro e w4 ⟨rfl, hb, hg⟩
     have F4 := aQ1 (F3.out.step hb hg)
     clear hc hb hg F3
     have hc := bJw F4.out.sc F4.out.env F4.out.far HV0.out hvk hs hroom
     rw [HZ.out] at hc
     go_wp2_with fail
     refine hc.mono ?_
     rintro e wz hS
     have hS2 := ds_lift F4.out.grown hS
     obtain ⟨a, n, c, f, q, he, hr⟩ := hS2
     subst he
     have HR := aQ1 hr
     clear hc hS hr F4
     go_wp2
     go_ret2
     exact ⟨a, n, c, f, q, rfl, HR.out⟩
    | false =>
     rw [hx, if_neg (by simp)] at hc
     have hz := HZ.out
     rw [if_neg (by rw [hx]; simp)] at hz
     have HZ := aQ1 hz
     clear hz hx
     go_wp2_with fail
     refine hc.mono ?_
     rintro e w4 ⟨rfl, hb, hg⟩
     have F4 := aQ1 (F3.out.step hb hg)
     clear hc hb hg F3
     have hc := aQc (sg := ⟨#[60, 33, 69, 76, 69, 77, 69, 78, 84]⟩) F4.out.sc hs hp
     rw [show (⟨#[60, 33, 69, 76, 69, 77, 69, 78, 84]⟩ : ByteArray).data.toList = eleL from rfl] at hc
     cases hx : aQ5 s p eleL with
     | true =>
      rw [hx] at hc
      simp only [if_true, show (eleL : List UInt8).length = 9 from rfl] at hc
      have hroom : p + 9 ≤ s.size := by have := aQ9 hx hp; simpa [eleL] using this
      have hvk : VB s (p + 9) := aXh (sg := eleL) HV0.out hx hp (by decide) (by decide)
      have hz := HZ.out
      rw [if_pos hx] at hz
      have HZ := aQ1 hz
      clear hz hx
      go_wp2_with fail
      refine hc.mono ?_
      rintro e w5 ⟨rfl, hb, hg⟩
      have F5 := aQ1 (F4.out.step hb hg)
      clear hc hb hg F4
      have hc := bJq F5.out.sc F5.out.env F5.out.far HV0.out hvk hs hroom
      go_wp2_with fail
      refine hc.mono ?_
      rintro e wz ⟨f, q, rfl, hb, hq, hg, hR⟩
      have FZ := aQ1 (F5.out.step hb hg)
      clear hc hb hg F5
      go_wp2
      go_ret2
      rcases hR with ⟨rfl, h2⟩ | ⟨h1, h2⟩
      · exact ds_none FZ.out hq (by rw [← HZ.out]; exact element_nil h2)
      · refine ⟨none, 0, 0, f, q, rfl, FZ.out.sc, hq, FZ.out.grown, .inr ⟨h1, ?_⟩⟩
        rw [← HZ.out]
        cases he : aJ3 s (p + 9) with
        | none => rfl
        | some x => rw [he] at h2; cases h2
     | false =>
      rw [hx, if_neg (by simp)] at hc
      have hz := HZ.out
      rw [if_neg (by rw [hx]; simp)] at hz
      have HZ := aQ1 hz
      clear hz hx
      go_wp2_with fail
      refine hc.mono ?_
      rintro e w5 ⟨rfl, hb, hg⟩
      have F5 := aQ1 (F4.out.step hb hg)
      clear hc hb hg F4
      go_wp2
      go_ret2
      exact ds_2 F5.out hp HZ.out.symm _ _ _
end Go.Proofs.YtdblemolaojebaaGreatDoor
