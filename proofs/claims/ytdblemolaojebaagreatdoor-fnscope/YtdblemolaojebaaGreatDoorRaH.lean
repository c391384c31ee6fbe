import Derived.Test.YtdblemolaojebaaGreatDoorRaG
set_option maxRecDepth 100000
set_option maxHeartbeats 4000000
set_option linter.unusedVariables false
set_option linter.unusedSectionVars false
namespace Go.Proofs.YtdblemolaojebaaGreatDoor
open Go.RowKit Strs2 Lists Plain10 Plain11 Plain23 PlainR Go.Lib Ents
variable [Inhabited aJ5]
def CoSays (w0 W : World) (r mb g : Nat) (s : ByteArray) (cl : Bool) (de da : Value) (R : Rs × Except Int Nat) (e : Ending) (W' : World) : Prop :=
 match R.2 with
 | .ok q => e = .returned (.tuple #[]) ∧ Goes w0 W r mb (some g) R.1 de da W' ∧ aQd W' g s q cl
 | .error c => Fell w0 r R.1 c e W'
theorem as_ok {w0 W W' : World} {r mb : Nat} {de da : Value} {R : Rs × Except Int (List (ByteArray × ByteArray))} {v' : Value} (h : AsSays w0 W r mb de da R (.returned v') W') : ∃ st2 l, R = (st2, .ok l) ∧ Goes w0 W r mb none st2 de da W' ∧ W'.ownsRow w0.heap.size 148 2 v' l.length (aQ8 l) := by
 obtain ⟨st2, oc⟩ := R
 cases oc with
 | error c => obtain ⟨he, _⟩ := h; cases he
 | ok l => obtain ⟨av, he, h1, h2⟩ := h; cases he; exact ⟨st2, l, rfl, h1, h2⟩
theorem as_bad {w0 W W' : World} {r mb : Nat} {de da : Value} {R : Rs × Except Int (List (ByteArray × ByteArray))} {ch : _} (h : AsSays w0 W r mb de da R (.panicked ch) W') : ∃ st2 c, R = (st2, .error c) ∧ Fell w0 r st2 c (.panicked ch) W' := by
 obtain ⟨st2, oc⟩ := R
 cases oc with
 | error c => exact ⟨st2, c, rfl, h⟩
 | ok l => obtain ⟨av, he, _⟩ := h; cases he
theorem as_out {w0 W W' : World} {r mb : Nat} {de da : Value} {R : Rs × Except Int (List (ByteArray × ByteArray))} (h : AsSays w0 W r mb de da R .outgrown W') : False := by
 obtain ⟨st2, oc⟩ := R
 cases oc with
 | error c => obtain ⟨he, _⟩ := h; cases he
 | ok v => obtain ⟨av, he, _⟩ := h; cases he
theorem vals_ok : ∀ (l : List (ByteArray × ByteArray × Bool)) (st st' : Rs) (acc out : List (ByteArray × ByteArray)), DOk st.dt → st.spent ≤ 4000 → aKo l st acc = (st', .ok out) → bVc st st'
 | [], st, st', acc, out, hD, hs, h => by
  simp only [aKo] at h
  cases h
  exact ⟨aK4.refl _, rfl, rfl, Nat.le_refl _, hs⟩
 | a :: l, st, st', acc, out, hD, hs, h => by
  cases hv : aK9 st a.2.1 a.2.2 with
  | mk st1 oc =>
   cases oc with
   | error c => rw [bK3 hv] at h; cases h
   | ok v =>
    rw [bZf hv] at h
    have h1 := bK2 (st := st) (t := a.2.1) (words := a.2.2) (v := v) hD hs (by rw [hv])
    rw [hv] at h1
    exact h1.trans (vals_ok l st1 st' _ out (by rw [h1.dt]; exact hD) h1.sp4 h)
theorem aQd.fr {w0 W W' : World} {r mb g : Nat} {st : Rs} {de da ev tx : Value} {s : ByteArray} {p : Nat} {cl : Bool} (h : aQd W g s p cl) (hr : Rm w0 W r mb st de da ev tx) (hF : Fr W W' r mb none) : aQd W' g s p cl :=
 h.keep ((hF.block (t := 60) (aXo h) (by decide) (by decide) (aQe (aXo h) hr.box (by decide)) (aJb (aXo h) hr.map) (by simp)).trans (aXo h).symm)
theorem el_no {f : Nat} {s : ByteArray} {T : Tk} {cl : Bool} {st st3 : Rs} (h : aKd st T = (st3, none)) (hk : ¬ T.kind = 1) : aWa f s T cl st = (endR st3 T.name, .ok T.pos) := by
 unfold aWa; rw [h]; dsimp only; rw [if_neg hk]
theorem el_bad {f : Nat} {s : ByteArray} {T : Tk} {cl : Bool} {st st3 a : Rs} {c : Int} (h : aKd st T = (st3, none)) (hk : T.kind = 1) (hc : aZ3 f (some T.name) s T.pos cl { st3 with deep := st3.deep + 1 } = (a, .error c)) : aWa f s T cl st = (a, .error c) := by
 unfold aWa; rw [h]; dsimp only; rw [if_pos hk, hc]
theorem el_ok {f : Nat} {s : ByteArray} {T : Tk} {cl : Bool} {st st3 a : Rs} {q : Nat} (h : aKd st T = (st3, none)) (hk : T.kind = 1) (hc : aZ3 f (some T.name) s T.pos cl { st3 with deep := st3.deep + 1 } = (a, .ok q)) : aWa f s T cl st = (endR { a with deep := st3.deep } T.name, .ok q) := by
 unfold aWa; rw [h]; dsimp only; rw [if_pos hk, hc]
theorem bJp {w0 W : World} {r mb g : Nat} {st : Rs} {de da ev tx av : Value} {T : Tk} {m : Int} {s : ByteArray} {cl : Bool} {f : Nat} (hctx : Ctx w0 m) (h : Rm w0 W r mb st de da ev tx) (hs : aQd W g s T.pos cl) (hg0 : w0.heap.size ≤ g) (hav : W.ownsRow w0.heap.size 148 2 av T.attrs.length (aQ8 T.attrs)) (hTl : T.attrs.length ≤ 1048576) (hTa : ∀ a ∈ T.attrs, a.2.size ≤ 4000 ∧ VB a.2 0) (hD : DOk st.dt) (hA : AOk st.dt) (hsp : st.spent ≤ 4000) (hwl : st.wi.length ≤ 40000) (hpot : st.txt.length + st.evs.length ≤ 900000) (hdp : st.deep ≤ 1000)
 (hcon : ∀ st2 eb Wx, aKd st T = (st2, none) → T.kind = 1 → (∃ ev tx, Rm w0 Wx r mb { st2 with deep := st2.deep + 1 } de da ev tx) → aQd Wx g s T.pos cl → aYp Wx (some T.name) eb → eb ≠ g → w0.heap.size ≤ eb → Calls Tryz.prog 43 #[.pointer (some ⟨r, 0, none⟩), .pointer (some ⟨g, 0, none⟩), endV (some T.name) eb] Wx fun e W' => CoSays w0 Wx r mb g s cl de da (aZ3 f (some T.name) s T.pos cl { st2 with deep := st2.deep + 1 }) e W')
 (hsm : ∀ st2, aKd st T = (st2, none) → (st2.evs.length ≤ 1000000 ∧ st2.txt.length ≤ 1000000) ∧ (∀ q, (aZ3 f (some T.name) s T.pos cl { st2 with deep := st2.deep + 1 }).2 = .ok q → (aZ3 f (some T.name) s T.pos cl { st2 with deep := st2.deep + 1 }).1.evs.length ≤ 1000000 ∧ (aZ3 f (some T.name) s T.pos cl { st2 with deep := st2.deep + 1 }).1.txt.length ≤ 1000000 ∧ (aZ3 f (some T.name) s T.pos cl { st2 with deep := st2.deep + 1 }).1.deep = st2.deep + 1)) :
 Calls Tryz.prog 23 #[.pointer (some ⟨r, 0, none⟩), .pointer (some ⟨g, 0, none⟩), .agg #[.int .i64 T.kind, .string T.name, .string T.text, av]] W fun e W' => CoSays w0 W r mb g s cl de da (aWa f s T cl st) e W' := by
 obtain ⟨R, hR⟩ : ∃ R, aWa f s T cl st = R := ⟨_, rfl⟩
 rw [hR]
 have HR := aQ0 hR
 obtain ⟨aa, ca, hal⟩ := aQh hav
 subst hal
 obtain ⟨eb, heb⟩ : ∃ eb, W.heap.size = eb := ⟨_, rfl⟩
 obtain ⟨W0, hW0⟩ : ∃ W0, W.alloc (.cells #[.int .i64 T.kind, .string T.name, .string T.text, .slice aa T.attrs.length ca] 73) = W0 := ⟨_, rfl⟩
 have HW0 := aQ0 hW0
 have hB0 : Below W.heap.size W W0 := by rw [← hW0]; exact bAl
 have R0 := aQ0 (h.below hB0)
 have S0 := aQ0 (hs.keep (hB0.block g hs.lt))
 have F0 := aQ0 (Fr.below (r := r) (mb := mb) (g := none) hB0)
 have K0 : Hid (W0.heap[eb]? = some (.cells #[.int .i64 T.kind, .string T.name, .string T.text, .slice aa T.attrs.length ca] 73)) := aQ0 (by rw [← hW0, ← heb]; exact heap_alloc_new _ _)
 have V0 : Hid (W0.ownsRow w0.heap.size 148 2 (.slice aa T.attrs.length ca) T.attrs.length (aQ8 T.attrs)) := aQ0 (by rw [← hW0]; exact hav.alloc _)
 obtain ⟨⟨c0, c1, c2, c3, c4, c5, c6, c7⟩, f0, f1, f2, f3, f4, f5, f7⟩ := R0.out.cells
 obtain ⟨y0, y1, y2, y3⟩ : W0.cell? ⟨eb, 0, none⟩ = some (.int .i64 T.kind) ∧ W0.cell? ⟨eb, 1, none⟩ = some (.string T.name) ∧ W0.cell? ⟨eb, 2, none⟩ = some (.string T.text) ∧ W0.cell? ⟨eb, 3, none⟩ = some (.slice aa T.attrs.length ca) := by simp [World.cell?, K0.out]
 rw [← HW0.out] at c5
 have hat := fun wx (hb : Below W0.heap.size W0 wx) => attrs_any hctx (R0.out.below hb) (aQj V0.out (fun j hj => by obtain ⟨cs, hc, _⟩ := aQ4 V0.out hj; exact hb.block j (gLt hc))) hTl hTa hD hA hsp hwl hpot
 have HEB := aQ0 heb
 have HS := aQ0 hs
 have HRM := aQ0 h
 have HCON := aQ0 hcon
 have HSM := aQ0 hsm
 have HD := aQ0 hD
 clear hR hW0 hB0 h hs hcon hsm hctx hav hTa hD hA c0 c1 c2 c3 c4 c6 c7 f0 f1 f2 f3 f4 f5 f7
 by_cases hd : st.deep = 30
 · have hRR : R = (st, .error 8) := by rw [← HR.out]; unfold aWa aKd; rw [if_pos hd]
   subst hRR
   have hdb : ((st.deep : Int) == 30) = true := by rw [hd]; rfl
   have hfail := fun wx => aX3 (.pointer (some ⟨r, 0, none⟩)) 8 wx
   clear hd
   go_enter Tryz.func23, Tryz.ntmps23
   go_wp2_with fail
   refine (hfail _).mono ?_
   rintro e w3 ⟨he, rfl⟩
   unfold aQr at he
   subst he
   go_wp2
   refine ⟨rfl, ?_⟩
   rw [HW0.out]
   exact R0.out.fell 8
 · have hdb : ((st.deep : Int) == 30) = false := by simp; omega
   go_enter Tryz.func23, Tryz.ntmps23
   go_wp2_with fail
   rw [HW0.out]
   have HBAD : Hid (∀ st2 c, aKo (ownA st.dt T.name T.attrs ++ defA st.dt T.name T.attrs) st [] = (st2, .error c) → (st2, .error c) = R) := aQ0 (fun st2 c hvz => by rw [← HR.out]; unfold aWa aKd; rw [if_neg hd, hvz])
   have HST : Hid (∀ st2 l, aKo (ownA st.dt T.name T.attrs ++ defA st.dt T.name T.attrs) st [] = (st2, .ok l) → aKd st T = (bX6 st2 ⟨1, T.name, ⟨#[]⟩, l⟩, none) ∧ bVc st st2) := aQ0 (fun st2 l hvz => ⟨by unfold aKd; rw [if_neg hd, hvz], vals_ok _ _ _ _ _ HD.out hsp hvz⟩)
   have hentA := fun a w => aQu Tryz.func42 (by kernel_rfl) rfl a w
   have hentT := fun a w => aQu Tryz.func33 (by kernel_rfl) rfl a w
   clear hd hdb c5
   go_region_law (first | (refine aVg rfl 42 #[.tmp 16, .tmp 17] #[72, 73] rfl #[.pointer (some ⟨r, 0, none⟩), .agg #[.int .i64 T.kind, .string T.name, .string T.text, .slice aa T.attrs.length ca]] (by simp [Act.eval]) hentA (hat _ (by exact (Below.refl _ _).drew)) ?_ (fun ch w3 hP => by (obtain ⟨st2, c, hvz, he, hrest⟩ := as_bad hP; have hRR := HBAD.out st2 c hvz; subst hRR; unfold aQr at he; cases he; go_wp2; exact ⟨rfl, rfl, hrest⟩)) (fun w' hP => as_out hP); intro v' w1 hP; obtain ⟨st2, l, hvz, ⟨ev1, tx1, hr1, hf1⟩, hrow⟩ := as_ok hP; obtain ⟨va, vc, hv'⟩ := aQh hrow; subst hv'; obtain ⟨hst, hvo⟩ := HST.out st2 l hvz; have K1 : Hid (w1.heap[eb]? = some (.cells #[.int .i64 T.kind, .string T.name, .string T.text, .slice aa T.attrs.length ca] 73)) := aQ0 (hf1.block (W := W0.drew) K0.out (by decide) (by decide) (aQe K0.out R0.out.box (by decide)) (aJb K0.out R0.out.map) (by simp)); have y1 : w1.cell? ⟨eb, 1, none⟩ = some (.string T.name) := (by simp [World.cell?, K1.out]); have htell := bZ2 (E := ⟨1, T.name, ⟨#[]⟩, l⟩) (av := .slice va l.length vc) hr1 hrow (by rw [hvo.alike.evs]; omega) (by rw [hvo.alike.txt]; omega); have ST := aQ0 hst; have VO := aQ0 hvo; have R1 := aQ0 hr1; have F1 := aQ0 hf1; clear hst hvo hr1 hf1 hvz hrow) | (refine aVg rfl 33 #[.tmp 13, .tmp 19] #[72, 66] rfl #[.pointer (some ⟨r, 0, none⟩), .agg #[.int .i64 1, .string T.name, .string ⟨#[]⟩, .slice va l.length vc]] (by first | (simp [Act.eval, Act.put]; done) | rfl) hentT htell ?_ (fun ch w3 hP => by (obtain ⟨he, _⟩ := hP; cases he)) (fun w' hP => by (obtain ⟨he, _⟩ := hP; cases he)); intro v2 w2 hP; obtain ⟨he, ev2, tx2, hr2, hf2⟩ := hP; cases he; have R2 := aQ0 hr2; have F2 := aQ0 hf2; clear hr2 hf2 htell))
   all_goals
    obtain ⟨st3, hst3⟩ : ∃ st3, bX6 st2 ⟨1, T.name, ⟨#[]⟩, l⟩ = st3 := ⟨_, rfl⟩
    have hdp3 : st3.deep ≤ 1000 := by rw [← hst3]; show st2.deep ≤ 1000; rw [VO.out.alike.deep]; exact hdp
    rw [hst3] at R2 ST
    have K2 : Hid (w2.heap[eb]? = some (.cells #[.int .i64 T.kind, .string T.name, .string T.text, .slice aa T.attrs.length ca] 73)) := aQ0 (F2.out.block K1.out (by decide) (by decide) (aQe K1.out R1.out.box (by decide)) (aJb K1.out R1.out.map) (by simp))
    have S1 : Hid (aQd w1 g s T.pos cl) := aQ0 (aQd.fr (W := W0.drew) S0.out (R0.out.below ((Below.refl W0.heap.size W0).drew)) F1.out)
    have S2 : Hid (aQd w2 g s T.pos cl) := aQ0 (S1.out.fr R1.out F2.out)
    have FF : Hid (Fr W w2 r mb none) := aQ0 (((F0.out.trans (Fr.below (g := none) ((Below.refl W0.heap.size W0).drew)) (fun j hj => by cases hj)).trans F1.out (fun j hj => by cases hj)).trans F2.out (fun j hj => by cases hj))
    have SM := aQ0 (HSM.out st3 ST.out)
    obtain ⟨y0, y1⟩ : w2.cell? ⟨eb, 0, none⟩ = some (.int .i64 T.kind) ∧ w2.cell? ⟨eb, 1, none⟩ = some (.string T.name) := by simp [World.cell?, K2.out]
    obtain ⟨⟨c0, c1, c2, c3, c4, c5, c6, c7⟩, f0, f1, f2, f3, f4, f5, f7⟩ := R2.out.cells
    clear hst3 HBAD HST hat K1 R1 F1 F2 S1 F0 R0 K0 V0 c0 c1 c2 c3 c4 c6 c7 f0 f1 f2 f3 f4 f7 hentA hentT
    by_cases hk : T.kind = 1
    · have hkb : (T.kind == 1) = true := by simp [hk]
      have HK := aQ0 hk
      clear hk
      have hw : IntKind.i64.wrap ((st3.deep : Int) + 1) = (st3.deep : Int) + 1 := by rw [aZ2 (by omega) (by omega)]
      go_wp2_with fail
      obtain ⟨W3, hW3⟩ : ∃ W3, w2.setCell ⟨r, 5, none⟩ (.int .i64 ((st3.deep : Int) + 1)) = W3 := ⟨_, rfl⟩
      rw [hW3]
      have R3 : Hid (Rm w0 W3 r mb { st3 with deep := st3.deep + 1 } de da ev2 tx2) := aQ0 (by rw [← hW3]; exact R2.out.setDeep (st3.deep + 1) (by omega))
      have hg23 : w2.grownBy W3 (some r) := by rw [← hW3]; exact aQa _
      have hner : g ≠ r := S2.out.ner R2.out
      have heg : eb ≠ g := by have h1 := HS.out.lt; have h2 := HEB.out; omega
      have S3 : Hid (aQd W3 g s T.pos cl) := aQ0 (S2.out.keep (hg23.block g S2.out.lt (fun e => hner (Option.some.inj e))))
      have K3 : Hid (W3.heap[eb]? = some (.cells #[.int .i64 T.kind, .string T.name, .string T.text, .slice aa T.attrs.length ca] 73)) := aQ0 ((hg23.block eb (gLt K2.out) (fun e => aQe K2.out R2.out.box (by decide) (Option.some.inj e))).trans K2.out)
      have F3 : Hid (Fr W W3 r mb (some g)) := aQ0 (Fr.trans (g' := none) ⟨FF.out.size, fun k hk a b c d => FF.out.keep k hk a b (by simp) d⟩ (Fr.grown (g := none) hg23 (fun j hj => .inl (Option.some.inj hj).symm)) (fun k hk => by cases hk))
      have hcall := HCON.out st3 eb W3 ST.out HK.out ⟨_, _, R3.out⟩ S3.out ⟨_, _, _, K3.out⟩ heg (by have h1 := HRM.out.bel.size; have h2 := HEB.out; omega)
      simp only [endV] at hcall
      clear hg23 hW3 y0 y1 c5 f5 hw
      refine hcall.mono ?_
      rintro e w4 hP
      cases hcg : aZ3 f (some T.name) s T.pos cl { st3 with deep := st3.deep + 1 } with
      | mk st4 oc =>
       rw [hcg] at hP
       cases oc with
       | error c =>
        obtain ⟨he, hrest⟩ := hP
        have hRR := HR.out
        rw [el_bad ST.out HK.out hcg] at hRR
        subst hRR
        unfold aQr at he
        subst he
        go_wp2
        exact ⟨rfl, rfl, hrest⟩
       | ok q =>
        obtain ⟨rfl, ⟨ev4, tx4, hr4, hf4⟩, hs4⟩ := hP
        have hsm := SM.out.2 q (by rw [hcg])
        rw [hcg] at hsm
        obtain ⟨b1, b2, b3⟩ := hsm
        simp only at hr4 b1 b2 b3
        have hRR := HR.out
        rw [el_ok ST.out HK.out hcg] at hRR
        have K4 : Hid (w4.heap[eb]? = some (.cells #[.int .i64 T.kind, .string T.name, .string T.text, .slice aa T.attrs.length ca] 73)) := aQ0 (hf4.block K3.out (by decide) (by decide) (aQe K3.out R3.out.box (by decide)) (aJb K3.out R3.out.map) (fun e => heg (Option.some.inj e)))
        have y1 : w4.cell? ⟨eb, 1, none⟩ = some (.string T.name) := by simp [World.cell?, K4.out]
        have her : eb ≠ r := aQe K4.out hr4.box (by decide)
        obtain ⟨⟨c0, c1, c2, c3, c4, c5, c6, c7⟩, f0, f1, f2, f3, f4, f5, f7⟩ := hr4.cells
        have hw4 : IntKind.i64.wrap ((st4.deep : Int) - 1) = (st4.deep : Int) - 1 := by rw [aZ2 (by omega) (by omega)]
        have R5 : Rm w0 (w4.setCell ⟨r, 5, none⟩ (.int .i64 ((st4.deep : Int) - 1))) r mb { st4 with deep := st3.deep } de da ev4 tx4 := hr4.setDeep st3.deep (by omega)
        have htell2 := bZ2 (E := ⟨2, T.name, ⟨#[]⟩, []⟩) (av := .slice none 0 0) R5 (World.ownsRow_nil _ _ _ _) (by simp only; omega) (by simp only; omega)
        have hg45 : w4.grownBy (w4.setCell ⟨r, 5, none⟩ (.int .i64 ((st4.deep : Int) - 1))) (some r) := aQa _
        have S5 : Hid (aQd (w4.setCell ⟨r, 5, none⟩ (.int .i64 ((st4.deep : Int) - 1))) g s q cl) := aQ0 (hs4.keep (hg45.block g hs4.lt (fun e => hner (Option.some.inj e))))
        have F5 : Hid (Fr W (w4.setCell ⟨r, 5, none⟩ (.int .i64 ((st4.deep : Int) - 1))) r mb (some g)) := aQ0 ((F3.out.trans hf4 (fun k hk => .inl hk)).trans (Fr.grown (g := none) hg45 (fun j hj => .inl (Option.some.inj hj).symm)) (fun k hk => by cases hk))
        have R5' := aQ0 R5
        have HRR := aQ0 hRR
        clear c0 c1 c2 c3 c4 c6 c7 f0 f1 f2 f3 f4 f7 hcall hcg hr4 hf4 hs4 R5 hg45 b1 b2 b3 hRR
        go_wp2_with fail
        refine htell2.mono ?_
        rintro e w6 ⟨rfl, ev6, tx6, hr6, hf6⟩
        go_wp2
        go_end0
        rw [← HRR.out]
        exact ⟨rfl, ⟨ev6, tx6, hr6, F5.out.trans hf6 (fun k hk => by cases hk)⟩, S5.out.fr R5'.out hf6⟩
    · have hkb : (T.kind == 1) = false := by simpa using hk
      have htell2 := bZ2 (E := ⟨2, T.name, ⟨#[]⟩, []⟩) (av := .slice none 0 0) R2.out (World.ownsRow_nil _ _ _ _) (by have := SM.out.1.1; omega) (by have := SM.out.1.2; omega)
      have hRR := HR.out
      rw [el_no ST.out hk] at hRR
      clear hk
      go_wp2_with fail
      refine htell2.mono ?_
      rintro e w5 ⟨rfl, ev5, tx5, hr5, hf5⟩
      go_wp2
      go_end0
      rw [← hRR]
      have F5 := FF.out.trans hf5 (fun j hj => by cases hj)
      exact ⟨rfl, ⟨ev5, tx5, hr5, ⟨F5.size, fun k hk a b c d => F5.keep k hk a b (by simp) d⟩⟩, S2.out.fr R2.out hf5⟩
open Go.RowKit Lists Plain5 Plain9 Plain10 Plain23 PlainR Go.Lib Ents
variable [Inhabited aJ5]
theorem entityC_any {w0 W : World} {r mb tb : Nat} {de da : Value} {σ : Sg} {t : ByteArray} {m : Int} {f : Nat} (hctx : Ctx w0 m) (h : Inv w0 W r mb tb de da false σ) (h4 : t.size ≤ 4000)
 (hcon : ∀ g Wx, bJ7 t = true → (∃ ev tx, Rm w0 Wx r mb σ.1 de da ev tx) → aQd Wx g t 0 true → w0.heap.size ≤ g → Calls Tryz.prog 43 #[.pointer (some ⟨r, 0, none⟩), .pointer (some ⟨g, 0, none⟩), endV none 0] Wx fun e W' => CoSays w0 Wx r mb g t true de da (aZ3 f none t 0 true σ.1) e W') :
 Calls Tryz.prog 190 #[.agg #[.pointer (some ⟨r, 0, none⟩)], .string t] W fun e W' => bX2 w0 W r mb tb de da false (entC f σ t) e W' := by
 obtain ⟨ev, tx, hr, _, hn⟩ := h
 have hn := hn rfl
 obtain ⟨W0, hW0⟩ : ∃ W0, W.alloc (.cells #[.pointer (some ⟨r, 0, none⟩)] 156) = W0 := ⟨_, rfl⟩
 have HW0 := aQ0 hW0
 have hB0 : Below W.heap.size W W0 := by rw [← hW0]; exact bAl
 have R0 := aQ0 (hr.below hB0)
 have F0 := aQ0 (Fr.below (r := r) (mb := mb) (g := none) hB0)
 have B0 : Hid (W0.heap[W.heap.size]? = some (.cells #[.pointer (some ⟨r, 0, none⟩)] 156)) := aQ0 (by rw [← hW0]; exact heap_alloc_new _ _)
 obtain ⟨eb, heb⟩ : ∃ eb, W.heap.size = eb := ⟨_, rfl⟩
 rw [heb] at B0
 have hmr := aYq t W0 m h4 (hctx.env.below R0.out.bel).env.mx
 rw [show decide ((aQv t).2 < 0 ∧ fz t 0 [13] = -1) = bJ7 t from rfl] at hmr
 have HN := aQ0 hn
 have HCON := aQ0 hcon
 have HB := aQ0 R0.out.bel.size
 clear hW0 hB0 hr hcon hn
 obtain ⟨R, hR⟩ : ∃ R, entC f σ t = R := ⟨_, rfl⟩
 rw [hR]
 have HR := aQ0 hR
 clear hR
 obtain ⟨mk, hmk⟩ : ∃ mk, bJ7 t = mk := ⟨_, rfl⟩
 have HMK := aQ0 hmk
 rw [hmk] at hmr
 clear hmk
 cases mk with
 | false =>
  have hRR : R = (σ, some 1) := by rw [← HR.out]; unfold entC; rw [if_pos HMK.out]
  subst hRR
  have hfail := fun wx => aX3 (.pointer (some ⟨r, 0, none⟩)) 1 wx
  go_enter Tryz.func190, Tryz.ntmps190
  go_wp2_with fail
  rw [HW0.out]
  refine hmr.mono ?_
  rintro e w1 ⟨rfl, hb1⟩
  have c0 : w1.cell? ⟨eb, 0, none⟩ = some (.pointer (some ⟨r, 0, none⟩)) := by simp [World.cell?, (hb1.block eb (gLt B0.out)).trans B0.out]
  have R1 := aQ0 (R0.out.below hb1)
  clear hmr hb1
  go_wp2_with fail
  refine (hfail _).mono ?_
  rintro e w3 ⟨he, rfl⟩
  unfold aQr at he
  subst he
  go_wp2
  exact ⟨rfl, R1.out.fell 1⟩
 | true =>
  go_enter Tryz.func190, Tryz.ntmps190
  go_wp2_with fail
  rw [HW0.out]
  refine hmr.mono ?_
  rintro e w1 ⟨rfl, hb1⟩
  have c0 : w1.cell? ⟨eb, 0, none⟩ = some (.pointer (some ⟨r, 0, none⟩)) := by simp [World.cell?, (hb1.block eb (gLt B0.out)).trans B0.out]
  have R1 := aQ0 (R0.out.below hb1)
  have F1 := aQ0 (F0.out.trans (Fr.below (g := none) hb1) (fun k hk => by cases hk))
  clear hmr hb1
  go_wp2_with fail
  obtain ⟨gb, hgb⟩ : ∃ gb, w1.heap.size = gb := ⟨_, rfl⟩
  obtain ⟨W2, hW2⟩ : ∃ W2, w1.alloc (.cells #[.string t, .int .i64 0, .bool true] 60) = W2 := ⟨_, rfl⟩
  have hB2 : Below w1.heap.size w1 W2 := by rw [← hW2]; exact bAl
  have R2 := aQ0 (R1.out.below hB2)
  have S2 : Hid (aQd W2 gb t 0 true) := aQ0 (by rw [← hW2, ← hgb]; exact heap_alloc_new _ _)
  have F2 := aQ0 (F1.out.trans (Fr.below (g := none) hB2) (fun k hk => by cases hk))
  have hcall := HCON.out gb W2 HMK.out ⟨_, _, R2.out⟩ S2.out (by have := R1.out.bel.size; omega)
  have hgW : W.heap.size ≤ gb := by have := F1.out.size; omega
  simp only [endV] at hcall
  rw [hW2, hgb]
  clear hW2 hB2 c0
  refine hcall.mono ?_
  rintro e w3 hP
  cases hcg : aZ3 f none t 0 true σ.1 with
  | mk st3 oc =>
   rw [hcg] at hP
   cases oc with
   | error c =>
    have hRR : R = ((st3, σ.2), some c) := by rw [← HR.out]; unfold entC; rw [if_neg (by rw [HMK.out]; simp), hcg]
    subst hRR
    obtain ⟨he, hrest⟩ := hP
    unfold aQr at he
    subst he
    go_wp2
    exact ⟨rfl, rfl, hrest⟩
   | ok q =>
    have hRR : R = ((st3, σ.2), none) := by rw [← HR.out]; unfold entC; rw [if_neg (by rw [HMK.out]; simp), hcg]
    subst hRR
    obtain ⟨rfl, ⟨ev3, tx3, hr3, hf3⟩, _⟩ := hP
    go_wp2
    go_end0
    exact ⟨rfl, ⟨ev3, tx3, hr3, (fun h => by cases h), fun _ => HN.out⟩, F2.out.trans hf3 (fun k hk => .inr (by have := Option.some.inj hk; omega))⟩
end Go.Proofs.YtdblemolaojebaaGreatDoor
