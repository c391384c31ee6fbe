import Derived.Test.YtdblemolaojebaaGreatDoorHdF
import Derived.Test.YtdblemolaojebaaGreatDoorImI
set_option maxHeartbeats 8000000
set_option maxRecDepth 100000
namespace Go.Proofs.YtdblemolaojebaaGreatDoor
open Go.RowKit Lists Plain9 Plain11 Plain23 Plain26 Plain30 Plain31 Go.Lib Ents
open Go.Maps
theorem EnvH.farG {w : World} {m : Int} (h : EnvH w m) {g : Nat} (hg : w.heap.size ≤ g) : FarH g := by
 obtain ⟨ev, h1, _⟩ := h.syn
 have a1 := aQf h1
 exact ⟨h.env.far hg, by omega⟩
structure Hr [Inhabited Hold] (w W : World) (g hb mb B : Nat) (ov : Value) (L : List Df) (s : ByteArray) (q : Nat) (m : Int) : Prop where
 sc : aQi W g s q
 hm : Hm W hb mb B ov L
 env : EnvH w m
 et : aV3 w
 bel : Below w.heap.size w W
 res : W.heap[w.heap.size]? = some zDtd
 g1 : w.heap.size < g
 g2 : g < B
 gh : g ≠ hb
 gm : g ≠ mb
 h1 : w.heap.size < hb
 m1 : w.heap.size < mb
 sz : B ≤ W.heap.size
theorem Hr.envW [Inhabited Hold] {w W : World} {g hb mb B : Nat} {ov : Value} {L : List Df} {s : ByteArray} {q : Nat} {m : Int} (h : Hr w W g hb mb B ov L s q m) : EnvH W m := h.env.below h.bel
theorem Hr.far [Inhabited Hold] {w W : World} {g hb mb B : Nat} {ov : Value} {L : List Df} {s : ByteArray} {q : Nat} {m : Int} (h : Hr w W g hb mb B ov L s q m) : FarH g := h.env.farG (by have := h.g1; omega)
theorem Hr.step [Inhabited Hold] {w W W' : World} {g hb mb B : Nat} {ov : Value} {L : List Df} {s : ByteArray} {q q' : Nat} {m : Int} (h : Hr w W g hb mb B ov L s q m) (hb' : aQi W' g s q') (hg : W.grownBy W' (some g)) : Hr w W' g hb mb B ov L s q' m := by
 have g1 := h.g1
 have g2 := h.g2
 refine ⟨hb', h.hm.keep hg (fun e => h.gh (Option.some.inj e).symm) (fun e => h.gm (Option.some.inj e).symm) (fun b e => ?_), h.env, h.et, h.bel.grown hg h.bel.size (fun j hj => by have := Option.some.inj hj; omega), ?_, g1, g2, h.gh, h.gm, h.h1, h.m1, Nat.le_trans h.sz hg.size⟩
 · intro hc
   have := (h.hm.ord.lt b hc).1
   have := Option.some.inj e
   omega
 · rw [hg.block _ (gLt h.res) (fun e => by have := Option.some.inj e; omega)]; exact h.res
theorem Hr.added [Inhabited Hold] {w W W' : World} {g hb mb B lb : Nat} {ov ov' : Value} {L L' : List Df} {s : ByteArray} {q : Nat} {m : Int} (h : Hr w W g hb mb B ov L s q m) (ha : As W W' hb mb B lb ov' L') : Hr w W' g hb mb B ov' L' s q m := by
 have g1 := h.g1
 have g2 := h.g2
 have h1 := h.h1
 have m1 := h.m1
 obtain ⟨r1, r2, r3, r4, r5⟩ := ha.rest
 refine ⟨?_, ha.hm, h.env, h.et, ⟨r1.trans h.bel.os, r2.trans h.bel.tape, r3.trans h.bel.output, Nat.le_trans h.bel.size r4, fun i hi => (ha.kept i (by omega) (by omega) (by omega)).trans (h.bel.block i hi)⟩, ?_, g1, g2, h.gh, h.gm, h1, m1, r5⟩
 · unfold aQi
   rw [ha.kept g g2 h.gh h.gm]
   exact h.sc
 · rw [ha.kept w.heap.size (by omega) (by omega) (by omega)]; exact h.res
theorem Hr.grew [Inhabited Hold] {w W W' : World} {g hb mb B : Nat} {ov : Value} {L : List Df} {s : ByteArray} {q : Nat} {m : Int} (h : Hr w W g hb mb B ov L s q m) (hg : W.grownBy W' none) : Hr w W' g hb mb B ov L s q m := by
 refine h.step ?_ ⟨hg.os, hg.tape, hg.output, hg.size, fun i hi _ => hg.block i hi (by simp)⟩
 unfold aQi
 rw [hg.block _ (bXh h.sc) (by simp)]
 exact h.sc
theorem Hr.rcells [Inhabited Hold] {w W : World} {g hb mb B : Nat} {ov : Value} {L : List Df} {s : ByteArray} {q : Nat} {m : Int} (h : Hr w W g hb mb B ov L s q m) : (W.cell? ⟨w.heap.size, 0, none⟩ = some (.slice none 0 0) ∧ W.cell? ⟨w.heap.size, 1, none⟩ = some (.slice none 0 0) ∧ W.cell? ⟨w.heap.size, 2, none⟩ = some (.int .i64 0) ∧ W.cell? ⟨w.heap.size, 3, none⟩ = some (.int .i64 0)) ∧ W.frozen? ⟨w.heap.size, 0, none⟩ = false ∧ W.frozen? ⟨w.heap.size, 1, none⟩ = false ∧ W.frozen? ⟨w.heap.size, 2, none⟩ = false ∧ W.frozen? ⟨w.heap.size, 3, none⟩ = false := by
 simp [World.cell?, World.frozen?, h.res, zDtd]
theorem dt_fail {w W : World} (hb : Below w.heap.size w W) {R : DOut} {a c : Int} (hR : R = bWf a c) : DtSays w R (.returned (.agg #[.slice none 0 0, .slice none 0 0, .int .i64 a, .int .i64 c])) ((((W.setCell ⟨w.heap.size, 0, none⟩ (.slice none 0 0)).setCell ⟨w.heap.size, 1, none⟩ (.slice none 0 0)).setCell ⟨w.heap.size, 2, none⟩ (.int .i64 a)).setCell ⟨w.heap.size, 3, none⟩ (.int .i64 c)) := by
 rw [hR]
 exact ⟨none, 0, none, 0, rfl, World.ownsRow_nil _ _ _ _, World.ownsRow_nil _ _ _ _, aXg (aXg (aXg (aXg hb (Nat.le_refl _) _ _) (Nat.le_refl _) _ _) (Nat.le_refl _) _ _) (Nat.le_refl _) _ _⟩
theorem fault_any (w : World) (f : Nat) (hf : f = 1 ∨ f = 2) (hg : aV3 w) : Calls Tryz.prog 30 #[errV f, .bool true] w fun e w' => e = .returned (.int .i64 3) ∧ w.grownBy w' none := by
 rcases hf with rfl | rfl
 · exact bJk w true hg
 · exact bQ9 w true 3 hg
theorem add_nil {w : World} {hb : Nat} (a : Option Addr) (c : Nat) : Calls Tryz.prog 73 #[.pointer (some ⟨hb, 0, none⟩), .slice a 0 c] w fun e w' => e = .returned (.tuple #[]) ∧ w' = w := by
 go_enter Tryz.func73, Tryz.ntmps73
 go_wp2_with fail
 go_loopw [11] (fun iv wr => iv = .int .i64 0 ∧ wr = w) (fun _ _ => 0)
 case atStart => exact ⟨rfl, rfl⟩
 case round =>
  obtain ⟨rfl, rfl⟩ := hrel
  go_wp2
  go_end0
  exact ⟨rfl, rfl⟩
theorem go_over {s : ByteArray} {f p : Nat} {d : Dt} {fu : Int} (h : ¬ whiteZ s p < s.size) : aV4 s (f + 1) p d fu = if fu < 0 then ⟨d, 0, 0⟩ else bWf fu 7 := by
 conv => lhs; unfold aV4
 rw [if_neg h]
theorem go_bad {s : ByteArray} {f p : Nat} {d : Dt} {fu : Int} (h : whiteZ s p < s.size) (hm : aKh s (whiteZ s p) = none) : aV4 s (f + 1) p d fu = bWf (whiteZ s p : Int) 3 := by
 conv => lhs; unfold aV4
 rw [if_pos h, hm]
theorem go_next {s : ByteArray} {f p q : Nat} {d : Dt} {fu : Int} {l : List Df} (h : whiteZ s p < s.size) (hm : aKh s (whiteZ s p) = some (l, q)) : aV4 s (f + 1) p d fu = aV4 s f q (aVo d l) (if fu < 0 ∧ fullB (aVo d l) = true then (whiteZ s p : Int) else fu) := by
 conv => lhs; unfold aV4
 rw [if_pos h, hm]
theorem add_row {W : World} {hb mb B B' : Nat} {ov : Value} {L l : List Df} {a : Option Addr} {n c : Nat} (h : Hm W hb mb B ov L) (hB : B ≤ W.heap.size) (ho : W.ownsRow B' 189 1 (.slice a n c) l.length (l.map dfV)) (hL : L.length + l.length ≤ 2097152) (hn : ∀ x ∈ l, aWd x) (hsm : ∀ x ∈ l, aWz x) :
 Calls Tryz.prog 73 #[.pointer (some ⟨hb, 0, none⟩), .slice a n c] W fun e w' => e = .returned (.tuple #[]) ∧ ∃ lb ov', As W w' hb mb B lb ov' (bQ8 L l) := by
 rcases ho.2 with ⟨hv, h0⟩ | ⟨lb, cap, cur, hv, _, hblk, _, _, _, _⟩
 · injection hv with h1 h2 h3
   subst h1 h2 h3
   have hl : l = [] := List.eq_nil_of_length_eq_zero h0
   subst hl
   refine (add_nil none 0).mono ?_
   rintro e w' ⟨rfl, rfl⟩
   exact ⟨rfl, hb, ov, ⟨h, rfl, Nat.lt_of_lt_of_le h.lh hB, fun _ _ _ _ => rfl, rfl, rfl, rfl, Nat.le_refl _, hB⟩⟩
 · injection hv with h1 h2 h3
   subst h1 h2 h3
   have hA : As W W hb mb B lb ov L := ⟨h, rfl, (gLt hblk), fun _ _ _ _ => rfl, rfl, rfl, rfl, Nat.le_refl _, hB⟩
   refine (add_any c hA hblk (fun i hi => ?_) hL hn hsm).mono ?_
   · have := ho.cells (g := lb) rfl i (dfV (l[i]'hi)) (by simp [hi])
     have hadd : (⟨lb, 0, none⟩ : Addr).add i = ⟨lb, i, none⟩ := by unfold Addr.add; split <;> simp_all
     rw [hadd] at this
     exact this
   · rintro e w' ⟨rfl, ov', hA'⟩
     exact ⟨rfl, lb, ov', hA'⟩
theorem Hr.start [Inhabited Hold] (hx : IsSc) {w w1 : World} {s : ByteArray} {m : Int} (he : EnvH w m) (het : aV3 w) (hb : Below w.heap.size w w1) (hz : w1.heap[w.heap.size]? = some zDtd) :
 Hr w (((w1.alloc (.cells #[.string s, .int .i64 0] 58)).alloc (.map #[] 0)).alloc (.cells #[.map (some (w1.heap.size + 1)), .slice none 0 0, .int .i64 0, .int .i64 0] 140)) w1.heap.size (w1.heap.size + 1 + 1) (w1.heap.size + 1) (w1.heap.size + 3) (.slice none 0 0) [] s 0 m := by
 have hlt := (gLt hz)
 have hbel : Below w1.heap.size w1 (((w1.alloc (.cells #[.string s, .int .i64 0] 58)).alloc (.map #[] 0)).alloc (.cells #[.map (some (w1.heap.size + 1)), .slice none 0 0, .int .i64 0, .int .i64 0] 140)) := ((bAl).alloc (by simp) _).alloc (by simp; omega) _
 refine ⟨?_, ⟨?_, ?_, World.ownsRow_nil _ _ _ _, okay_nil, by omega, by omega, by omega⟩, he, het, hb.trans (hbel.mono hb.size), (hbel.block _ hlt).trans hz, hlt, by omega, by omega, by omega, by omega, by omega, by simp⟩
 · refine im_sc hx ?_
   rw [heap_alloc_old _ _ (by simp; omega), heap_alloc_old _ _ (by simp)]
   exact heap_alloc_new _ _
 · have := heap_alloc_new ((w1.alloc (.cells #[.string s, .int .i64 0] 58)).alloc (.map #[] 0)) (.cells #[.map (some (w1.heap.size + 1)), .slice none 0 0, .int .i64 0, .int .i64 0] 140)
   simpa [dtOf] using this
 · have h1 := World.ownsMap_made (w1.alloc (.cells #[.string s, .int .i64 0] 58)) Tryz.prog 191 bV7
   have h2 := h1.kept (aZg _ (.cells #[.map (some (w1.heap.size + 1)), .slice none 0 0, .int .i64 0, .int .i64 0] 140) none) (by simp)
   simpa [mapD] using h2
theorem implDtd_go [Inhabited Hold] (hx : IsSc) (s : ByteArray) (w : World) (m : Int) (he : EnvH w m) (het : aV3 w) :
 Calls Tryz.prog 41 #[.string s] w fun e w' => DtSays w (aZ7 s) e w' := by
 obtain ⟨R, hR⟩ : ∃ R, aZ7 s = R := ⟨_, rfl⟩
 rw [hR]
 unfold aZ7 at hR
 have HR := aQ1 hR
 have HE := aQ1 he
 have HT := aQ1 het
 have B0 := aQ1 (show Below w.heap.size w (w.alloc zDtd) from bAl)
 have Z0 := aQ1 (heap_alloc_new w zDtd)
 clear hR he het
 by_cases h4 : 4000 < s.size
 · have hr := HR.out
   rw [if_pos h4] at hr
   have HR := aQ1 hr
   have h4i : (4000 : Int) < (s.size : Int) := by omega
   clear hr
   go_enter Tryz.func41, Tryz.ntmps41
   go_wp2
   refine bodyPost_ret (v := .agg #[.slice none 0 0, .slice none 0 0, .int .i64 0, .int .i64 2]) (by simp [results, Tryz.results41, go_sem]) rfl ?_
   rw [← HR.out]
   exact ⟨none, 0, none, 0, rfl, World.ownsRow_nil _ _ _ _, World.ownsRow_nil _ _ _ _, bAl⟩
 have hr := HR.out
 rw [if_neg h4] at hr
 have h4i : ¬ (4000 : Int) < (s.size : Int) := by omega
 have hmr := aYq s (w.alloc zDtd) m (by omega) (HE.out.below B0.out).env.mx
 by_cases hok : headOk s
 · rw [if_pos hok] at hr
   have HR2 := aQ1 hr
   rw [decide_eq_true hok] at hmr
   have HV0 := aQ1 (bK0 hok.1)
   clear hr
   go_enter Tryz.func41, Tryz.ntmps41
   go_wp2_with fail
   refine hmr.mono ?_
   rintro e w1 ⟨rfl, hb1⟩
   have B1 := aQ1 (B0.out.trans (hb1.mono B0.out.size))
   have Z1 := aQ1 ((hb1.block _ (by simp)).trans Z0.out)
   clear hmr hb1
   have hmm := @run_makeMap Tryz.prog
   have HR0 := aQ1 (Hr.start hx (s := s) HE.out HT.out B1.out Z1.out)
   have hsz1 := B1.out.size
   go_wp2_with fail
   clear hmm
   have HS0 := aQ1 (aXi HR0.out.sc (by omega) (Nat.zero_le _))
   refine HS0.out.mono ?_
   rintro e w2 ⟨rfl, hb2, hg2⟩
   have HQ0 := aQ1 (HR0.out.step hb2 hg2)
   clear HS0 HR0 hb2 hg2 Z1 B1
   generalize w1.heap.size = g at HQ0 hsz1 ⊢
   go_wp2_with fail
   go_loopw [5] (fun fv wr => ∃ (f p : Nat) (L : List Df) (ov : Value) (fu : Int), fv = .int .i64 fu ∧ Hr w wr g (g + 1 + 1) (g + 1) (g + 3) ov L s (whiteZ s p) m ∧ aV4 s f p (dtOf L) fu = R ∧ s.size < p + f ∧ p ≤ s.size ∧ L.length ≤ p ∧ -1 ≤ fu ∧ fu ≤ s.size) (fun _ wr => s.size - imAt wr g)
   case atStart => exact ⟨s.size + 1, 0, [], .slice none 0 0, -1, rfl, HQ0.out, HR2.out, by omega, Nat.zero_le _, Nat.zero_le _, by omega, by omega⟩
   case round =>
    obtain ⟨f, p, L, ov, fu, rfl, hH, hgo, hfu, hp, hlen, hfu1, hfu2⟩ := hrel
    have HGO := aQ1 hgo
    have HH := aQ1 hH
    have HAT := aQ1 (aX9 hH.sc)
    obtain ⟨f', rfl⟩ : ∃ f', f = f' + 1 := ⟨f - 1, by omega⟩
    have hqs := aQq (s := s) hp
    have hge := aQw s p
    obtain ⟨q, hqd⟩ : ∃ q, whiteZ s p = q := ⟨_, rfl⟩
    have HQD := aQ1 hqd
    rw [hqd] at HH HAT hqs hge
    clear hgo hH hqd HQ0
    obtain ⟨c0, c1, c2⟩ := aQz HH.out.sc
    by_cases hlt : q < s.size
    · have hlti : (q : Int) < (s.size : Int) := by omega
      have HLT : Hid (whiteZ s p < s.size) := by rw [HQD.out]; exact aQ1 hlt
      have HC := aQ1 (headMark_any HH.out.sc HH.out.envW HH.out.far HV0.out (by omega) hqs)
      go_wp2_with fail
      refine HC.out.mono ?_
      rintro e w3 ⟨a, n, c, f3, q3, rfl, hb3, hq3, hg3, hR3⟩
      have H3 := aQ1 (HH.out.step hb3 hg3)
      clear HC hb3 hg3 c0 c1 c2 HH
      rcases hR3 with ⟨rfl, l, hm, ho⟩ | ⟨hf3, hm⟩
      · have hmk := mark_okay (s := s) (by omega) hm
        have hln := mark_len HV0.out hqs hm
        have hen := bZ5 HV0.out hqs hm
        have hgo := HGO.out
        rw [go_next HLT.out (by rw [HQD.out]; exact hm), HQD.out, ← dt_fold l L H3.out.hm.ok hmk] at hgo
        have HGO := aQ1 hgo
        have hen1 := hen.2.1
        have hen2 := hen.2.2
        have HAD := aQ1 (add_row H3.out.hm H3.out.sz ho (by simp only at hln; omega) (fun x hx => (hmk x hx).1) (fun x hx => (hmk x hx).2))
        have hfl := bW4 l L
        simp only at hln hen1 hen2
        have hlen2 : (bQ8 L l).length ≤ q3 := by omega
        simp only [aXq]
        clear hm ho hmk hgo hen
        go_wp2_with fail
        refine HAD.out.mono ?_
        rintro e w4 ⟨rfl, lb, ov', hA⟩
        have H4 := aQ1 (H3.out.added hA)
        clear HAD hA H3
        change Hid (aV4 s f' q3 (dtOf (bQ8 L l)) (if fu < 0 ∧ fullB (dtOf (bQ8 L l)) = true then (q : Int) else fu) = R) at HGO
        generalize bQ8 L l = M at H4 HGO hlen2 hfl
        by_cases hneg : fu < 0
        · have HFU := aQ1 (full_any H4.out.hm)
          have hgo := HGO.out
          cases hfb : fullB (dtOf M) with
          | false =>
           rw [hfb] at HFU hgo
           rw [if_neg (by simp)] at hgo
           have HGO := aQ1 hgo
           clear hgo hfb
           go_wp2_with fail
           refine HFU.out.mono ?_
           rintro e w5 ⟨rfl, n5, hw5⟩
           have H5 : Hid (Hr w w5 g (g + 1 + 1) (g + 1) (g + 3) ov' M s q3 m) := by rw [hw5]; exact aQ1 (H4.out.step H4.out.sc (aQb w4 n5 _))
           clear hw5 HFU H4
           have HW := aQ1 (aXi H5.out.sc (by omega) hq3)
           go_wp2_with fail
           refine HW.out.mono ?_
           rintro e w6 ⟨rfl, hb6, hg6⟩
           have H6 := aQ1 (H5.out.step hb6 hg6)
           clear HW hb6 hg6
           have hw3 := aQw s q3
           go_wp2
           go_roundw
           case rel => exact ⟨f', q3, M, ov', fu, rfl, H6.out, HGO.out, by omega, hq3, hlen2, by omega, by omega⟩
           case measure => rw [HAT.out, aX9 H6.out.sc]; omega
          | true =>
           rw [hfb] at HFU hgo
           rw [if_pos ⟨hneg, rfl⟩] at hgo
           have HGO := aQ1 hgo
           clear hgo hfb
           go_wp2_with fail
           refine HFU.out.mono ?_
           rintro e w5 ⟨rfl, n5, hw5⟩
           have H5 : Hid (Hr w w5 g (g + 1 + 1) (g + 1) (g + 3) ov' M s q3 m) := by rw [hw5]; exact aQ1 (H4.out.step H4.out.sc (aQb w4 n5 _))
           clear hw5 HFU H4
           have HW := aQ1 (aXi H5.out.sc (by omega) hq3)
           go_wp2_with fail
           refine HW.out.mono ?_
           rintro e w6 ⟨rfl, hb6, hg6⟩
           have H6 := aQ1 (H5.out.step hb6 hg6)
           clear HW hb6 hg6
           have hw3 := aQw s q3
           go_wp2
           go_roundw
           case rel => exact ⟨f', q3, M, ov', (q : Int), rfl, H6.out, HGO.out, by omega, hq3, hlen2, by omega, by omega⟩
           case measure => rw [HAT.out, aX9 H6.out.sc]; omega
        · have hgo := HGO.out
          rw [if_neg (fun h => hneg h.1)] at hgo
          have HGO := aQ1 hgo
          clear hgo
          have HW := aQ1 (aXi H4.out.sc (by omega) hq3)
          go_wp2_with fail
          refine HW.out.mono ?_
          rintro e w6 ⟨rfl, hb6, hg6⟩
          have H6 := aQ1 (H4.out.step hb6 hg6)
          clear HW hb6 hg6
          have hw3 := aQw s q3
          go_wp2
          go_roundw
          case rel => exact ⟨f', q3, M, ov', fu, rfl, H6.out, HGO.out, by omega, hq3, hlen2, by omega, by omega⟩
          case measure => rw [HAT.out, aX9 H6.out.sc]; omega
      · have hRz : R = bWf (q : Int) 3 := by rw [← HGO.out, go_bad HLT.out (by rw [HQD.out]; exact hm), HQD.out]
        have HRZ := aQ1 hRz
        have HFC := aQ1 (fault_any w3 f3 hf3 (H3.out.et.below H3.out.bel))
        clear hm hRz
        rcases hf3 with rfl | rfl
        all_goals
         simp only [aZ1, aZp] at HFC ⊢
         go_wp2_with fail
         refine HFC.out.mono ?_
         rintro e w4 ⟨rfl, hg4⟩
         have H4 := aQ1 (H3.out.grew hg4)
         clear HFC hg4 H3
         obtain ⟨⟨r0, r1, r2, r3⟩, s0, s1, s2, s3⟩ := H4.out.rcells
         go_wp2
         refine bodyPost_ret (v := .agg #[.slice none 0 0, .slice none 0 0, .int .i64 (q : Int), .int .i64 3]) (by simp [results, Tryz.results41, go_sem, r0, r1, r2, r3]) rfl ?_
         exact dt_fail H4.out.bel HRZ.out
    · have hlti : ¬ (q : Int) < (s.size : Int) := by omega
      have hgo := HGO.out
      rw [go_over (by rw [HQD.out]; exact hlt)] at hgo
      obtain ⟨⟨r0, r1, r2, r3⟩, s0, s1, s2, s3⟩ := HH.out.rcells
      by_cases hneg : fu < 0
      · rw [if_pos hneg] at hgo
        have HGO := aQ1 hgo
        clear hgo
        have hnegi : ¬ (0 : Int) ≤ fu := by omega
        have HDT := aQ1 (dtd_any HH.out.hm (by omega))
        go_wp2_with fail
        refine HDT.out.mono ?_
        rintro e w4 ⟨ae, ce, aa, ca, rfl, ho1, ho2, hb4⟩
        have hz4 : w4.heap[w.heap.size]? = some zDtd := (hb4.block _ (gLt HH.out.res)).trans HH.out.res
        have BW := aQ1 (HH.out.bel.trans (hb4.mono HH.out.bel.size))
        have O1 := aQ1 ho1
        have O2 := aQ1 ho2
        have hws : w.heap.size < wr.heap.size := (gLt HH.out.res)
        clear HDT ho1 ho2 hb4 r0 r1 r2 r3 s0 s1 s2 s3
        have r0 : w4.cell? ⟨w.heap.size, 0, none⟩ = some (.slice none 0 0) := by simp [World.cell?, hz4, zDtd]
        have r1 : w4.cell? ⟨w.heap.size, 1, none⟩ = some (.slice none 0 0) := by simp [World.cell?, hz4, zDtd]
        have r2 : w4.cell? ⟨w.heap.size, 2, none⟩ = some (.int .i64 0) := by simp [World.cell?, hz4, zDtd]
        have r3 : w4.cell? ⟨w.heap.size, 3, none⟩ = some (.int .i64 0) := by simp [World.cell?, hz4, zDtd]
        have s0 : w4.frozen? ⟨w.heap.size, 0, none⟩ = false := by simp [World.frozen?, hz4, zDtd]
        have s1 : w4.frozen? ⟨w.heap.size, 1, none⟩ = false := by simp [World.frozen?, hz4, zDtd]
        have s2 : w4.frozen? ⟨w.heap.size, 2, none⟩ = false := by simp [World.frozen?, hz4, zDtd]
        have s3 : w4.frozen? ⟨w.heap.size, 3, none⟩ = false := by simp [World.frozen?, hz4, zDtd]
        clear hz4
        go_wp2
        refine bodyPost_ret (v := .agg #[.slice ae (dtOf L).ents.length ce, .slice aa (dtOf L).atts.length ca, .int .i64 0, .int .i64 0]) (by simp [results, Tryz.results41, go_sem, r0, r1, r2, r3]) rfl ?_
        rw [← HGO.out]
        exact ⟨ae, ce, aa, ca, rfl, aZi (aJf (aJf (aJf (aJf O1.out hws _ _) hws _ _) hws _ _) hws _ _) (by omega), aZi (aJf (aJf (aJf (aJf O2.out hws _ _) hws _ _) hws _ _) hws _ _) (by omega), aXg (aXg (aXg (aXg BW.out (Nat.le_refl _) _ _) (Nat.le_refl _) _ _) (Nat.le_refl _) _ _) (Nat.le_refl _) _ _⟩
      · rw [if_neg hneg] at hgo
        have HGO := aQ1 hgo
        clear hgo
        have hnegi : (0 : Int) ≤ fu := by omega
        go_wp2
        refine bodyPost_ret (v := .agg #[.slice none 0 0, .slice none 0 0, .int .i64 fu, .int .i64 7]) (by simp [results, Tryz.results41, go_sem, r0, r1, r2, r3]) rfl ?_
        exact dt_fail HH.out.bel HGO.out.symm
 · rw [if_neg hok] at hr
   have HR2 := aQ1 hr
   rw [decide_eq_false hok] at hmr
   clear hr
   go_enter Tryz.func41, Tryz.ntmps41
   go_wp2_with fail
   refine hmr.mono ?_
   rintro e w1 ⟨rfl, hb1⟩
   have B1 := aQ1 (B0.out.trans (hb1.mono B0.out.size))
   have Z1 : w1.heap[w.heap.size]? = some zDtd := (hb1.block _ (by simp)).trans Z0.out
   clear hmr hb1
   have r0 : w1.cell? ⟨w.heap.size, 0, none⟩ = some (.slice none 0 0) := by simp [World.cell?, Z1, zDtd]
   have r1 : w1.cell? ⟨w.heap.size, 1, none⟩ = some (.slice none 0 0) := by simp [World.cell?, Z1, zDtd]
   have r2 : w1.cell? ⟨w.heap.size, 2, none⟩ = some (.int .i64 0) := by simp [World.cell?, Z1, zDtd]
   have r3 : w1.cell? ⟨w.heap.size, 3, none⟩ = some (.int .i64 0) := by simp [World.cell?, Z1, zDtd]
   have s0 : w1.frozen? ⟨w.heap.size, 0, none⟩ = false := by simp [World.frozen?, Z1, zDtd]
   have s1 : w1.frozen? ⟨w.heap.size, 1, none⟩ = false := by simp [World.frozen?, Z1, zDtd]
   have s2 : w1.frozen? ⟨w.heap.size, 2, none⟩ = false := by simp [World.frozen?, Z1, zDtd]
   have s3 : w1.frozen? ⟨w.heap.size, 3, none⟩ = false := by simp [World.frozen?, Z1, zDtd]
   clear Z1
   go_wp2
   refine bodyPost_ret (v := .agg #[.slice none 0 0, .slice none 0 0, .int .i64 0, .int .i64 1]) (by simp [results, Tryz.results41, go_sem, r0, r1, r2, r3]) rfl ?_
   exact dt_fail B1.out HR2.out.symm
theorem implDtd_any (s : ByteArray) (w : World) (m : Int) (he : EnvH w m) (het : aV3 w) :
 Calls Tryz.prog 41 #[.string s] w fun e w' => DtSays w (aZ7 s) e w' := @implDtd_go scE rfl s w m he het
end Go.Proofs.YtdblemolaojebaaGreatDoor
