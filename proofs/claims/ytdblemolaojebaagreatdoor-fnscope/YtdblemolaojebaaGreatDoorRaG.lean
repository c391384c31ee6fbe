import Derived.Test.YtdblemolaojebaaGreatDoorRaF
set_option maxRecDepth 100000
set_option maxHeartbeats 4000000
set_option linter.unusedVariables false
set_option linter.unusedSectionVars false
namespace Go.Proofs.YtdblemolaojebaaGreatDoor
open Go.RowKit Lists Plain10 Plain11 Plain23 PlainR Go.Lib Ents
variable [Inhabited aJ5]
def AsSays (w0 W : World) (r mb : Nat) (de da : Value) (R : Rs × Except Int (List (ByteArray × ByteArray))) (e : Ending) (W' : World) : Prop :=
 match R.2 with
 | .ok l => ∃ av, e = .returned av ∧ Goes w0 W r mb none R.1 de da W' ∧ W'.ownsRow w0.heap.size 148 2 av l.length (aQ8 l)
 | .error c => Fell w0 r R.1 c e W'
theorem bK3 {a : ByteArray × ByteArray × Bool} {l : List (ByteArray × ByteArray × Bool)} {st st' : Rs} {acc : List (ByteArray × ByteArray)} {c : Int} (h : aK9 st a.2.1 a.2.2 = (st', .error c)) : aKo (a :: l) st acc = (st', .error c) := by
 simp only [aKo]; rw [h]
theorem bZf {a : ByteArray × ByteArray × Bool} {l : List (ByteArray × ByteArray × Bool)} {st st' : Rs} {acc : List (ByteArray × ByteArray)} {v : ByteArray} (h : aK9 st a.2.1 a.2.2 = (st', .ok v)) : aKo (a :: l) st acc = aKo l st' (acc ++ [(a.1, v)]) := by
 simp only [aKo]; rw [h]
theorem own_step (D : Dt) (nm : ByteArray) (l : List (ByteArray × ByteArray)) {k : Nat} (h : k < l.length) : ownA D nm (l.drop k) = ((l[k]'h).1, (l[k]'h).2, (attR D.atts nm (l[k]'h).1).words) :: ownA D nm (l.drop (k + 1)) := by
 rw [List.drop_eq_getElem_cons h]
 rfl
def defL (nm : ByteArray) (l : List (ByteArray × ByteArray)) (ats : List At5) : List (ByteArray × ByteArray × Bool) := (ats.filter fun a => (a.of.toList == nm.toList) && (a.has && !hasZ l a.nm)).map fun a => (a.nm, a.val, a.words)
theorem def_yes (nm : ByteArray) (l : List (ByteArray × ByteArray)) (ats : List At5) {k : Nat} (h : k < ats.length) (hy : (((ats[k]'h).of.toList == nm.toList) && ((ats[k]'h).has && !hasZ l (ats[k]'h).nm)) = true) : defL nm l (ats.drop k) = ((ats[k]'h).nm, (ats[k]'h).val, (ats[k]'h).words) :: defL nm l (ats.drop (k + 1)) := by
 rw [List.drop_eq_getElem_cons h]
 unfold defL
 rw [List.filter_cons, if_pos hy]
 rfl
theorem def_no (nm : ByteArray) (l : List (ByteArray × ByteArray)) (ats : List At5) {k : Nat} (h : k < ats.length) (hy : (((ats[k]'h).of.toList == nm.toList) && ((ats[k]'h).has && !hasZ l (ats[k]'h).nm)) = false) : defL nm l (ats.drop k) = defL nm l (ats.drop (k + 1)) := by
 rw [List.drop_eq_getElem_cons h]
 unfold defL
 rw [List.filter_cons, if_neg (by rw [hy]; simp)]
structure Al (w0 W wr : World) (r mb : Nat) (de da : Value) (st st1 : Rs) (v : Value) (acc : List (ByteArray × ByteArray)) : Prop where
 rm : ∃ ev tx, Rm w0 wr r mb st1 de da ev tx
 low : Low w0.heap.size wr r
 ok : bVc st st1
 row : wr.ownsRow (default : aJ5).n 148 2 v acc.length (aQ8 acc)
 fr : Fr W wr r mb none
theorem aVg {P : Program} {ops : Array Oper} {o : Oper} {a : Act} {w : World} {K : Act → World → Prop} {Q : Exit → Act → World → Prop} {F : Prop} (hg : o.guard = none) (f : FuncId) (xs : Array Operand) (ts : Array TypeId)
 (ho : o.op = .call { callee := .value (.func f), args := xs, argTypes := ts }) (vs : Array Value) (hx : xs.map a.eval = vs) (he : ∀ args w, (callFunc f args).run P w = .ok (.enter f args) w) {post : Ending → World → Prop} (hc : Calls P f vs w post)
 (h1 : ∀ v w', post (.returned v) w' → K (a.put o.dst v) w') (h2 : ∀ c w', post (.panicked c) w' → Q (.panic c) a w') (h3 : ∀ w', ¬ post .outgrown w') :
 if Region.wanted o (yielded ops a.tmps) = true then Oper.wp P o a w K Q else F := by
 have hw : Region.wanted o (yielded ops a.tmps) = true := by simp [Region.wanted, hg]
 rw [if_pos hw]
 unfold Oper.wp execOp
 simp [ho, resolve, invoke, hx, Act.eval, he, Deferred.ofValue]
 rw [Oper.upon_enter]
 refine hc.mono ?_
 intro e w' hp
 cases e with
 | returned v => exact h1 v w' hp
 | panicked c => exact h2 c w' hp
 | outgrown => exact absurd hp (h3 w')
theorem va_ok {w0 W W' : World} {r mb : Nat} {de da : Value} {R : Rs × Except Int ByteArray} {v' : Value} (h : VaSays w0 W r mb de da R (.returned v') W') : ∃ st2 v, R = (st2, .ok v) ∧ v' = .string v ∧ Goes w0 W r mb none st2 de da W' ∧ Low w0.heap.size W' r := by
 obtain ⟨st2, oc⟩ := R
 cases oc with
 | error c => obtain ⟨he, _⟩ := h; cases he
 | ok v => obtain ⟨he, h1, h2⟩ := h; cases he; exact ⟨st2, v, rfl, rfl, h1, h2⟩
theorem va_bad {w0 W W' : World} {r mb : Nat} {de da : Value} {R : Rs × Except Int ByteArray} {ch : _} (h : VaSays w0 W r mb de da R (.panicked ch) W') : ∃ st2 c, R = (st2, .error c) ∧ Fell w0 r st2 c (.panicked ch) W' := by
 obtain ⟨st2, oc⟩ := R
 cases oc with
 | error c => exact ⟨st2, c, rfl, h⟩
 | ok v => obtain ⟨he, _⟩ := h; cases he
theorem va_out {w0 W W' : World} {r mb : Nat} {de da : Value} {R : Rs × Except Int ByteArray} (h : VaSays w0 W r mb de da R .outgrown W') : False := by
 obtain ⟨st2, oc⟩ := R
 cases oc with
 | error c => obtain ⟨he, _⟩ := h; cases he
 | ok v => obtain ⟨he, _⟩ := h; cases he
theorem own_low {W : World} {B B' : Nat} {e : TypeId} {size : Nat} {v : Value} {n : Nat} {xs : List Value} (h : W.ownsRow B e size v n xs) (hb : B' ≤ B) : W.ownsRow B' e size v n xs := by
 refine ⟨h.1, ?_⟩
 rcases h.2 with h2 | ⟨g, cap, cur, h1, h2, h3⟩
 · exact .inl h2
 · exact .inr ⟨g, cap, cur, h1, Nat.le_trans hb h2, h3⟩
theorem fld_words (a b : ByteArray) (c d : Bool) (e : ByteArray) (w : World) : (Instr.field 150 (.agg #[.string a, .string b, .bool c, .bool d, .string e]) 2).run Tryz.prog w = .ok (.bool c) w := by kernel_rfl
theorem attrs_aux {w0 W : World} {r mb : Nat} {st : Rs} {de da ev tx av : Value} {T : Tk} {m : Int} (hlim : (default : aJ5).n = W.heap.size) (hlo : Low w0.heap.size W r) (hctx : Ctx w0 m) (h : Rm w0 W r mb st de da ev tx) (hav : W.ownsRow w0.heap.size 148 2 av T.attrs.length (aQ8 T.attrs)) (hTl : T.attrs.length ≤ 1048576) (hTa : ∀ a ∈ T.attrs, a.2.size ≤ 4000 ∧ VB a.2 0) (hD : DOk st.dt) (hA : AOk st.dt) (hsp : st.spent ≤ 4000) (hwl : st.wi.length ≤ 40000) (hpot : st.txt.length + st.evs.length ≤ 900000) :
 Calls Tryz.prog 42 #[.pointer (some ⟨r, 0, none⟩), .agg #[.int .i64 T.kind, .string T.name, .string T.text, av]] W fun e W' => AsSays w0 W r mb de da (aKo (ownA st.dt T.name T.attrs ++ defA st.dt T.name T.attrs) st []) e W' := by
 obtain ⟨R, hR⟩ : ∃ R, aKo (ownA st.dt T.name T.attrs ++ defA st.dt T.name T.attrs) st [] = R := ⟨_, rfl⟩
 rw [hR]
 obtain ⟨aa, ca, hal, hat⟩ := aVn hav
 subst hal
 obtain ⟨ba, cb, hbl, hbt⟩ := aWu h.atts
 subst hbl
 obtain ⟨be, cc, hel, _⟩ := bJl h.ents
 subst hel
 obtain ⟨W0, hW0⟩ : ∃ W0, W.alloc (.cells #[.int .i64 T.kind, .string T.name, .string T.text, .slice aa T.attrs.length ca] 73) = W0 := ⟨_, rfl⟩
 have HW0 := aQ0 hW0
 have hB0 : Below W.heap.size W W0 := by rw [← hW0]; exact bAl
 have A0 : Hid (Al w0 W W0 r mb (.slice be st.dt.ents.length cc) (.slice ba st.dt.atts.length cb) st st (.slice none 0 0) []) := aQ0 ⟨⟨_, _, h.below hB0⟩, hlo.below h.lt hB0, ⟨aK4.refl _, rfl, rfl, Nat.le_refl _, hsp⟩, World.ownsRow_nil _ _ _ _, Fr.below hB0⟩
 have T0 : Hid (W0.heap[W.heap.size]? = some (.cells #[.int .i64 T.kind, .string T.name, .string T.text, .slice aa T.attrs.length ca] 73)) := aQ0 (by rw [← hW0]; exact heap_alloc_new _ _)
 obtain ⟨t1, t3⟩ : W0.cell? ⟨W.heap.size, 1, none⟩ = some (.string T.name) ∧ W0.cell? ⟨W.heap.size, 3, none⟩ = some (.slice aa T.attrs.length ca) := by simp [World.cell?, T0.out]
 obtain ⟨tk, htk⟩ : ∃ tk, W.heap.size = tk := ⟨_, rfl⟩
 rw [htk] at t1 t3 T0
 have HR : Hid (aKo (ownA st.dt T.name (T.attrs.drop 0) ++ defL T.name T.attrs (st.dt.atts.drop 0)) st [] = R) := aQ0 hR
 have HAV := aQ0 hav
 have HRM := aQ0 h
 have HTA := aQ0 hTa
 have HD := aQ0 hD
 have HA := aQ0 hA
 have HC := aQ0 hctx
 have HLIM := aQ0 hlim
 have HTK := aQ0 htk
 clear hW0 hB0 hR hav h hTa hD hA hctx hlim hat hbt hlo
 go_enter Tryz.func42, Tryz.ntmps42
 go_wp2_with fail
 rw [HW0.out]
 go_loopw [5, 14] (fun l i wr => ∃ (k : Nat) (st1 : Rs) (acc : List (ByteArray × ByteArray)), k ≤ T.attrs.length ∧ i = .int .i64 k ∧ acc.length = k ∧ Al w0 W wr r mb (.slice be st.dt.ents.length cc) (.slice ba st.dt.atts.length cb) st st1 l acc ∧ aKo (ownA st.dt T.name (T.attrs.drop k) ++ defL T.name T.attrs (st.dt.atts.drop 0)) st1 acc = R ∧ wr.heap[tk]? = some (.cells #[.int .i64 T.kind, .string T.name, .string T.text, .slice aa T.attrs.length ca] 73)) (fun _ i _ => T.attrs.length - (intOf i).toNat)
 case atStart => exact ⟨0, st, [], Nat.zero_le _, rfl, rfl, A0.out, HR.out, T0.out⟩
 case round =>
  obtain ⟨k, st1, acc, hk, rfl, hacc, hAl, hgo, htok⟩ := hrel
  have AL := aQ0 hAl
  have GO := aQ0 hgo
  have TK := aQ0 htok
  obtain ⟨la, lc, hl⟩ := aQh hAl.row
  subst hl
  obtain ⟨t1, t3⟩ : wr.cell? ⟨tk, 1, none⟩ = some (.string T.name) ∧ wr.cell? ⟨tk, 3, none⟩ = some (.slice aa T.attrs.length ca) := by simp [World.cell?, TK.out]
  clear hAl hgo htok HR A0 T0
  by_cases hlt : k < T.attrs.length
  · obtain ⟨ev1, tx1, hrm⟩ := AL.out.rm
    have hAv1 : wr.ownsRow w0.heap.size 148 2 (.slice aa T.attrs.length ca) T.attrs.length (aQ8 T.attrs) := aQj HAV.out (fun j hj => by
     obtain ⟨cs, hc, _⟩ := aQ4 HAV.out hj
     exact (AL.out.fr.block hc (by decide) (by decide) (aQe hc HRM.out.box (by decide)) (aJb hc HRM.out.map) (by simp)).trans hc.symm)
    obtain ⟨X, hX⟩ : ∃ X, T.attrs[k]'hlt = X := ⟨_, rfl⟩
    obtain ⟨hz, hvb⟩ := HTA.out X (by rw [← hX]; exact List.getElem_mem hlt)
    have hlti : (k : Int) < (T.attrs.length : Int) := by omega
    obtain ⟨a', c', hfm, hE⟩ := aVn hAv1
    injection hfm with hf1 _ hf3
    subst hf1 hf3
    rcases hE with hE | ⟨G, hG, hE⟩
    · rw [hE] at hlt; exact absurd hlt (by simp)
    subst hG
    obtain ⟨x0, x1⟩ := hE k hlt
    rw [hX] at x0 x1
    clear hE
    obtain ⟨W1, hW1⟩ : ∃ W1, wr.alloc (.cells #[.string X.1, .string X.2] 148) = W1 := ⟨_, rfl⟩
    have HW1 := aQ0 hW1
    have hB1 : Below wr.heap.size wr W1 := by rw [← hW1]; exact bAl
    have R1 := aQ0 (hrm.below hB1)
    have L1 := aQ0 (AL.out.low.below hrm.lt hB1)
    have O1 : Hid (W1.ownsRow (default : aJ5).n 148 2 (.slice la acc.length lc) acc.length (aQ8 acc)) := aQ0 (by rw [← hW1]; exact AL.out.row.alloc _)
    have F1 := aQ0 (AL.out.fr.trans (Fr.below (g := none) hB1) (fun j hj => by cases hj))
    have K1 : Hid (W1.heap[tk]? = some (.cells #[.int .i64 T.kind, .string T.name, .string T.text, .slice (some ⟨G, 0, none⟩) T.attrs.length ca] 73)) := aQ0 ((hB1.block tk (gLt TK.out)).trans TK.out)
    have X1 : Hid (W1.heap[wr.heap.size]? = some (.cells #[.string X.1, .string X.2] 148)) := aQ0 (by rw [← hW1]; exact heap_alloc_new _ _)
    obtain ⟨⟨c0, c1, c2, c3, c4, c5, c6, c7⟩, f0, f1, f2, f3, f4, f5, f7⟩ := R1.out.cells
    obtain ⟨y1, y3⟩ : W1.cell? ⟨tk, 1, none⟩ = some (.string T.name) ∧ W1.cell? ⟨tk, 3, none⟩ = some (.slice (some ⟨G, 0, none⟩) T.attrs.length ca) := by simp [World.cell?, K1.out]
    obtain ⟨z0, z1⟩ : W1.cell? ⟨wr.heap.size, 0, none⟩ = some (.string X.1) ∧ W1.cell? ⟨wr.heap.size, 1, none⟩ = some (.string X.2) := by simp [World.cell?, X1.out]
    have hSZ : W1.heap.size = wr.heap.size + 1 := by rw [← hW1]; simp
    have HSZ := aQ0 hSZ
    obtain ⟨gb, hgb⟩ : ∃ gb, wr.heap.size = gb := ⟨_, rfl⟩
    have hdt1 : st1.dt = st.dt := AL.out.ok.dt
    obtain ⟨pa, pc, hpl, hpt⟩ := aWu R1.out.atts
    clear hSZ hB1 hW1 hrm hAv1 c2 c3 c4 c5 c6 c7 f0 f1 f2 f3 f4 f5 f7
    go_wp2_with fail
    rw [HW1.out]
    rw [hgb] at z0 z1 X1 HSZ
    rw [hdt1] at hpl hpt
    injection hpl with hp1 _ hp3
    subst hp1 hp3
    have hat := fun wx (hx : aY0 wx ba st.dt.atts) => bKz wx be ba st.dt.ents.length cc st.dt.atts.length cb st.dt.atts T.name X.1 rfl HA.out.len (fun e he => by obtain ⟨p1, p2, p3, _⟩ := HA.out.atts e he; exact ⟨p1, p2, by omega⟩) hx
    obtain ⟨Y, hY⟩ : ∃ Y, attR st.dt.atts T.name X.1 = Y := ⟨_, rfl⟩
    rw [hY] at hat
    have HPT := aQ0 hpt
    have LTS : Hid (r < W1.heap.size ∧ tk < W1.heap.size ∧ gb < W1.heap.size) := aQ0 ⟨R1.out.lt, (gLt K1.out), (gLt X1.out)⟩
    clear hpt
    have hfw := fun wx => fld_words Y.of Y.nm Y.words Y.has Y.val wx
    go_region_held3 (fun W => W.cell? ⟨r, 0, none⟩ = some (.slice be st.dt.ents.length cc) ∧ W.cell? ⟨r, 1, none⟩ = some (.slice ba st.dt.atts.length cb) ∧ W.cell? ⟨tk, 1, none⟩ = some (.string T.name) ∧ W.cell? ⟨gb, 0, none⟩ = some (.string X.1)) (first | go_keep | exact ⟨c0, c1, y1, z0⟩ | exact ⟨d0, d1, d2, d3⟩) (first | (go_at_call 76; refine (hat _ (by exact HPT.out)).mono ?_; rintro e w2 ⟨rfl, hg2⟩; have d0 : w2.cell? ⟨r, 0, none⟩ = some (.slice be st.dt.ents.length cc) := (World.cell?_of_block (a := ⟨r, 0, none⟩) (hg2.block r LTS.out.1 (by simp))).trans c0; have d1 : w2.cell? ⟨r, 1, none⟩ = some (.slice ba st.dt.atts.length cb) := (World.cell?_of_block (a := ⟨r, 1, none⟩) (hg2.block r LTS.out.1 (by simp))).trans c1; have d2 : w2.cell? ⟨tk, 1, none⟩ = some (.string T.name) := (World.cell?_of_block (a := ⟨tk, 1, none⟩) (hg2.block tk LTS.out.2.1 (by simp))).trans y1; have d3 : w2.cell? ⟨gb, 0, none⟩ = some (.string X.1) := (World.cell?_of_block (a := ⟨gb, 0, none⟩) (hg2.block gb LTS.out.2.2 (by simp))).trans z0; replace hg2 := aQ0 hg2))
    have hB2 : Below W1.heap.size W1 w2 := ⟨hg2.out.os, hg2.out.tape, hg2.out.output, hg2.out.size, fun k hk => hg2.out.block k hk (by simp)⟩
    have R2 := aQ0 (R1.out.below hB2)
    have L2 := aQ0 (L1.out.below R1.out.lt hB2)
    have O2 : Hid (w2.ownsRow (default : aJ5).n 148 2 (.slice la acc.length lc) acc.length (aQ8 acc)) := aQ0 (aQj O1.out (fun j hj => by obtain ⟨cs, hc, _⟩ := aQ4 O1.out hj; exact hB2.block j (gLt hc)))
    have F2 := aQ0 (F1.out.trans (Fr.below (g := none) hB2) (fun j hj => by cases hj))
    have K2 := aQ0 ((hB2.block tk LTS.out.2.1).trans K1.out)
    have X2 := aQ0 ((hB2.block gb LTS.out.2.2).trans X1.out)
    obtain ⟨z0, z1⟩ : w2.cell? ⟨gb, 0, none⟩ = some (.string X.1) ∧ w2.cell? ⟨gb, 1, none⟩ = some (.string X.2) := by simp [World.cell?, X2.out]
    have hok1 := AL.out.ok
    have hval := fun wx (hb : Below w2.heap.size w2 wx) => value_any (words := Y.words) HC.out (R2.out.below hb) hz hvb (D := st.dt) HD.out hok1.dt hok1.sp4 (by rw [hok1.wi]; omega) (L2.out.below R2.out.lt hb) (by rw [hok1.alike.txt, hok1.alike.evs]; omega)
    have hent := fun a w => aQu Tryz.func77 (by kernel_rfl) rfl a w
    obtain ⟨i0, hi, hz0, hz1, hz2⟩ := info_parts bZ6
    clear hat hfw hB2 R1 L1 O1 F1 K1 X1 hg2 d0 d1 d2 d3 c0 c1 y1 y3
    go_wp2_with fail
    have HBAD : Hid (∀ st2 c, aK9 st1 X.2 Y.words = (st2, .error c) → (st2, .error c) = R) := aQ0 (fun st2 c hvz => by
     rw [← GO.out, own_step _ _ _ hlt, hX, List.cons_append]
     exact (bK3 (a := (X.1, X.2, (attR st.dt.atts T.name X.1).words)) (by rw [hY]; exact hvz)).symm)
    have HGOOD : Hid (∀ st2 v, aK9 st1 X.2 Y.words = (st2, .ok v) → aKo (ownA st.dt T.name (T.attrs.drop (k + 1)) ++ defL T.name T.attrs (st.dt.atts.drop 0)) st2 (acc ++ [(X.1, v)]) = R ∧ bVc st1 st2) := aQ0 (fun st2 v hvz => by
     refine ⟨?_, ?_⟩
     · rw [← GO.out, own_step _ _ _ hlt, hX, List.cons_append]
       exact (bZf (a := (X.1, X.2, (attR st.dt.atts T.name X.1).words)) (by rw [hY]; exact hvz)).symm
     · have := bK2 (st := st1) (t := X.2) (words := Y.words) (v := v) (by rw [hok1.dt]; exact HD.out) hok1.sp4 (by rw [hvz])
       rw [hvz] at this
       exact this)
    have HOK := aQ0 hok1
    have h0 : w0.heap.size ≤ (default : aJ5).n := by rw [HLIM.out]; exact HRM.out.bel.size
    have hal1 : acc.length ≤ 1048576 := by omega
    clear hok1
    go_region_law (first | (refine aVg rfl 77 #[.tmp 31, .tmp 33, .tmp 34] #[72, 9, 4] rfl #[.pointer (some ⟨r, 0, none⟩), .string X.2, .bool Y.words] (by simp [Act.eval]) hent (hval _ (by exact (Below.refl _ _).drew)) ?_ (fun ch w3 hP => by (obtain ⟨st2, c, hvz, he, hrest⟩ := va_bad hP; have hRR := HBAD.out st2 c hvz; subst hRR; unfold aQr at he; cases he; go_wp2; exact ⟨rfl, rfl, hrest⟩)) (fun w' hP => va_out hP); intro v' w3 hP; obtain ⟨st2, v, hvz, hve, ⟨ev3, tx3, hr3, hf3⟩, hl3⟩ := va_ok hP; subst hve; have HRR := aQ0 (HGOOD.out st2 v hvz).1; have VO := aQ0 (HGOOD.out st2 v hvz).2; clear hvz; have R3 := aQ0 hr3; have F3 := aQ0 hf3; have L3 := aQ0 hl3; have X3 : Hid (w3.heap[gb]? = some (.cells #[.string X.1, .string X.2] 148)) := aQ0 (hf3.block (W := w2.drew) X2.out (by decide) (by decide) (aQe X2.out R2.out.box (by decide)) (aJb X2.out R2.out.map) (by simp)); have z0 : w3.cell? ⟨gb, 0, none⟩ = some (.string X.1) := (by simp [World.cell?, X3.out]); have K3 : Hid (w3.heap[tk]? = some (.cells #[.int .i64 T.kind, .string T.name, .string T.text, .slice (some ⟨G, 0, none⟩) T.attrs.length ca] 73)) := aQ0 (hf3.block (W := w2.drew) K2.out (by decide) (by decide) (aQe K2.out R2.out.box (by decide)) (aJb K2.out R2.out.map) (by simp)); have O3 : Hid ((w3.alloc (.cells #[.string X.1, .string v] 148)).ownsRow (default : aJ5).n 148 2 (.slice la acc.length lc) acc.length (aQ8 acc)) := aQ0 (World.ownsRow.alloc (aQj O2.out (fun j hj => (by obtain ⟨cs, hc, _⟩ := aQ4 O2.out hj; exact (hf3.block (W := w2.drew) hc (by decide) (by decide) (aQe hc R2.out.box (by decide)) (aJb hc R2.out.map) (by simp)).trans hc.symm))) _); have hb3 : (default : aJ5).n ≤ w3.heap.size + 1 := (by have h1 := hf3.size; have h2 := F2.out.size; have h4 := HLIM.out; simp only [World.drew] at h1; omega); clear hr3 hf3 hl3) | (refine aXu rfl (.tmp 28) (.tmp 37) 35 rfl (default : aJ5).n 148 i0 (.agg #[.string ByteArray.empty, .string ByteArray.empty]) 2 32 Tryz.underlying35 hi hz0 hz1 hz2 rfl (by decide) (.slice la acc.length lc) acc.length (aQ8 acc) (by simp [Act.eval, hacc]) O3.out ⟨w3.heap.size, 0, none⟩ 1 1 [.string X.1, .string v] (by simp [Act.eval]) rfl (aK2 w3 _ _ _) (by intro u hu; simp at hu; rcases hu with rfl | rfl <;> rfl) (by unfold maxLen; omega) (by omega) (by simp; exact hb3) ?_; intro v' wa hoa hga; obtain ⟨ao', cv', hv'⟩ := aQh hoa; subst hv'; replace hoa := aQ0 hoa; replace hga := aQ0 hga))
    all_goals
     have hB4 : Below w3.heap.size w3 (w3.alloc (.cells #[.string X.1, .string v] 148)) := bAl
     obtain ⟨r4, l4⟩ := (R3.out.below hB4).newRow (L3.out.below R3.out.lt hB4) O3.out h0 hga.out
     have A4 : Hid (Al w0 W wa r mb (.slice be st.dt.ents.length cc) (.slice ba st.dt.atts.length cb) st st2 (.slice ao' (acc.length + 1) cv') (acc ++ [(X.1, v)])) := aQ0 ⟨⟨_, _, r4⟩, l4, HOK.out.trans VO.out, by rw [List.length_append, aWv]; exact hoa.out, (((F2.out.trans (Fr.below (g := none) ((Below.refl w2.heap.size w2).drew)) (fun j hj => by cases hj)).trans F3.out (fun j hj => by cases hj)).trans (Fr.below (g := none) hB4) (fun j hj => by cases hj)).trans (Fr.grown (g := (Value.slice la acc.length lc).ownBlock) hga.out (fun j hj => .inr (.inr (.inl hj.symm)))) (fun j hj => .inr (by have h1 := (aQ4 O3.out hj).choose_spec.2; have h2 := HLIM.out; omega))⟩
     have K4 := aQ0 (aVb O3.out hga.out ((hB4.block tk (gLt K3.out)).trans K3.out) (by decide))
     clear r4 l4 hB4 hoa hga
     go_wp2
     rw [hacc] at A4
     refine ⟨⟨k + 1, st2, acc ++ [(X.1, v)], by omega, by go_num, by simp [hacc], A4.out, HRR.out, K4.out⟩, by show T.attrs.length - ((k : Int) + 1).toNat < T.attrs.length - ((k : Int)).toNat; omega⟩
  · have hkn : ¬ (k : Int) < (T.attrs.length : Int) := by omega
    have hk2 : k = T.attrs.length := by omega
    have GO2 : Hid (aKo (defL T.name T.attrs (st.dt.atts.drop 0)) st1 acc = R) := aQ0 (by
     have := GO.out
     rw [hk2, List.drop_length] at this
     exact this)
    obtain ⟨ev1, tx1, hrm⟩ := AL.out.rm
    obtain ⟨⟨c0, c1, c2, c3, c4, c5, c6, c7⟩, f0, f1, f2, f3, f4, f5, f7⟩ := hrm.cells
    clear GO hrm c0 c2 c3 c4 c5 c6 c7 f0 f1 f2 f3 f4 f5 f7
    rw [hacc, hk2] at AL
    go_wp2_with fail
    go_loopw [5, 46] (fun l i wr => ∃ (k : Nat) (st2 : Rs) (acc2 : List (ByteArray × ByteArray)), k ≤ st.dt.atts.length ∧ i = .int .i64 k ∧ acc2.length ≤ T.attrs.length + k ∧ Al w0 W wr r mb (.slice be st.dt.ents.length cc) (.slice ba st.dt.atts.length cb) st st2 l acc2 ∧ aKo (defL T.name T.attrs (st.dt.atts.drop k)) st2 acc2 = R ∧ wr.heap[tk]? = some (.cells #[.int .i64 T.kind, .string T.name, .string T.text, .slice aa T.attrs.length ca] 73)) (fun _ i _ => st.dt.atts.length - (intOf i).toNat)
    case atStart => exact ⟨0, st1, acc, Nat.zero_le _, rfl, by omega, AL.out, GO2.out, TK.out⟩
    case round =>
     clear AL GO2 TK hacc hk hlt hkn hk2 t1 t3 c1
     obtain ⟨k, st2, acc, hk, rfl, hacc, hAl, hgo, htok⟩ := hrel
     have AL := aQ0 hAl
     have GO := aQ0 hgo
     have TK := aQ0 htok
     obtain ⟨la, lc, hl⟩ := aQh hAl.row
     subst hl
     clear hAl hgo htok
     by_cases hlt : k < st.dt.atts.length
     · obtain ⟨ev2, tx2, hrm⟩ := AL.out.rm
       have hlti : (k : Int) < (st.dt.atts.length : Int) := by omega
       obtain ⟨Z, hZ⟩ : ∃ Z, st.dt.atts[k]'hlt = Z := ⟨_, rfl⟩
       obtain ⟨_, _, hz, hvb⟩ := HA.out.atts Z (by rw [← hZ]; exact List.getElem_mem hlt)
       have hrow := hrm.atts
       rw [AL.out.ok.dt] at hrow
       obtain ⟨pa, pc, hpl, P, O, hPO, hE⟩ := aWu hrow
       injection hpl with hp1 _ hp3
       subst hp1 hp3
       have hba := hPO (by omega)
       subst hba
       obtain ⟨x0, x1, x2, x3, x4⟩ := hE k hlt
       rw [hZ] at x0 x1 x2 x3 x4
       obtain ⟨hs, hhs⟩ : ∃ hs, Z.has = hs := ⟨_, rfl⟩
       have HHS := aQ0 hhs
       rw [hhs] at x3
       clear hhs
       have hAl := HA.out.len
       obtain ⟨W1, hW1⟩ : ∃ W1, wr.alloc (.cells #[.string Z.of, .string Z.nm, .bool Z.words, .bool hs, .string Z.val] 150) = W1 := ⟨_, rfl⟩
       have HW1 := aQ0 hW1
       have hB1 : Below wr.heap.size wr W1 := by rw [← hW1]; exact bAl
       have R1 := aQ0 (hrm.below hB1)
       have L1 := aQ0 (AL.out.low.below hrm.lt hB1)
       have O1 : Hid (W1.ownsRow (default : aJ5).n 148 2 (.slice la acc.length lc) acc.length (aQ8 acc)) := aQ0 (by rw [← hW1]; exact AL.out.row.alloc _)
       have F1 := aQ0 (AL.out.fr.trans (Fr.below (g := none) hB1) (fun j hj => by cases hj))
       have K1 : Hid (W1.heap[tk]? = some (.cells #[.int .i64 T.kind, .string T.name, .string T.text, .slice aa T.attrs.length ca] 73)) := aQ0 ((hB1.block tk (gLt TK.out)).trans TK.out)
       have X1 : Hid (W1.heap[wr.heap.size]? = some (.cells #[.string Z.of, .string Z.nm, .bool Z.words, .bool hs, .string Z.val] 150)) := aQ0 (by rw [← hW1]; exact heap_alloc_new _ _)
       obtain ⟨y1, y3⟩ : W1.cell? ⟨tk, 1, none⟩ = some (.string T.name) ∧ W1.cell? ⟨tk, 3, none⟩ = some (.slice aa T.attrs.length ca) := by simp [World.cell?, K1.out]
       obtain ⟨z0, z1, z2, z3, z4⟩ : W1.cell? ⟨wr.heap.size, 0, none⟩ = some (.string Z.of) ∧ W1.cell? ⟨wr.heap.size, 1, none⟩ = some (.string Z.nm) ∧ W1.cell? ⟨wr.heap.size, 2, none⟩ = some (.bool Z.words) ∧ W1.cell? ⟨wr.heap.size, 3, none⟩ = some (.bool hs) ∧ W1.cell? ⟨wr.heap.size, 4, none⟩ = some (.string Z.val) := by simp [World.cell?, X1.out]
       have A1 : Hid (Al w0 W W1 r mb (.slice be st.dt.ents.length cc) (.slice (some ⟨P, O, none⟩) st.dt.atts.length cb) st st2 (.slice la acc.length lc) acc) := aQ0 ⟨⟨_, _, R1.out⟩, L1.out, AL.out.ok, O1.out, F1.out⟩
       have NOGO : Hid (((Z.of.toList == T.name.toList) && (hs && !hasZ T.attrs Z.nm)) = false → aKo (defL T.name T.attrs (st.dt.atts.drop (k + 1))) st2 acc = R) := aQ0 (fun hn => by
        rw [← GO.out, def_no _ _ _ hlt (by rw [hZ, HHS.out]; exact hn)])
       have AV1 : Hid (W1.ownsRow w0.heap.size 148 2 (.slice aa T.attrs.length ca) T.attrs.length (aQ8 T.attrs)) := aQ0 (aQj HAV.out (fun j hj => by
        obtain ⟨cs, hc, _⟩ := aQ4 HAV.out hj
        exact (F1.out.block hc (by decide) (by decide) (aQe hc HRM.out.box (by decide)) (aJb hc HRM.out.map) (by simp)).trans hc.symm))
       obtain ⟨gb, hgb⟩ : ∃ gb, wr.heap.size = gb := ⟨_, rfl⟩
       have HGB := aQ0 hgb
       rw [← HW1.out] at y1 y3
       rw [hgb] at X1
       clear hB1 hW1 hrm hrow hE hPO z0 z1 z2 z3 z4
       cases h1 : (Z.of.toList == T.name.toList) with
       | false =>
        have HN := aQ0 h1
        go_wp2
        rw [HW1.out]
        refine ⟨⟨k + 1, st2, acc, by omega, by go_num, by omega, A1.out, NOGO.out (by simp [HN.out]), K1.out⟩, by show st.dt.atts.length - ((k : Int) + 1).toNat < st.dt.atts.length - ((k : Int)).toNat; omega⟩
       | true =>
        have HN1 := aQ0 h1
        cases hs with
        | false =>
         go_wp2
         rw [HW1.out]
         refine ⟨⟨k + 1, st2, acc, by omega, by go_num, by omega, A1.out, NOGO.out (by simp), K1.out⟩, by show st.dt.atts.length - ((k : Int) + 1).toNat < st.dt.atts.length - ((k : Int)).toNat; omega⟩
        | true =>
         obtain ⟨a2, c2', hf, hAA⟩ := aVn AV1.out
         injection hf with hf1 _ hf3
         subst hf1 hf3
         have hha := bJe W1 aa ca T.attrs Z.nm hAA hTl
         clear hAA
         go_wp2_with fail
         rw [HW1.out]
         refine hha.mono ?_
         rintro e w2 ⟨rfl, hg2⟩
         have hB2 : Below W1.heap.size W1 w2 := ⟨hg2.os, hg2.tape, hg2.output, hg2.size, fun k hk => hg2.block k hk (by simp)⟩
         have R2 := aQ0 (R1.out.below hB2)
         have L2 := aQ0 (L1.out.below R1.out.lt hB2)
         have O2 : Hid (w2.ownsRow (default : aJ5).n 148 2 (.slice la acc.length lc) acc.length (aQ8 acc)) := aQ0 (aQj O1.out (fun j hj => by obtain ⟨cs, hc, _⟩ := aQ4 O1.out hj; exact hB2.block j (gLt hc)))
         have F2 := aQ0 (F1.out.trans (Fr.below (g := none) hB2) (fun j hj => by cases hj))
         have K2 := aQ0 ((hB2.block tk (gLt K1.out)).trans K1.out)
         have X2 := aQ0 ((hB2.block gb (gLt X1.out)).trans X1.out)
         clear hha y1 y3 hg2 hB2 R1 L1 O1 F1 K1 X1
         obtain ⟨hz', hhz⟩ : ∃ hz', hasZ T.attrs Z.nm = hz' := ⟨_, rfl⟩
         have HHZ := aQ0 hhz
         rw [hhz]
         clear hhz
         cases hz' with
         | true =>
          have A2 : Hid (Al w0 W w2 r mb (.slice be st.dt.ents.length cc) (.slice (some ⟨P, O, none⟩) st.dt.atts.length cb) st st2 (.slice la acc.length lc) acc) := aQ0 ⟨⟨_, _, R2.out⟩, L2.out, AL.out.ok, O2.out, F2.out⟩
          go_wp2
          refine ⟨⟨k + 1, st2, acc, by omega, by go_num, by omega, A2.out, NOGO.out (by simp [HHZ.out]), K2.out⟩, by show st.dt.atts.length - ((k : Int) + 1).toNat < st.dt.atts.length - ((k : Int)).toNat; omega⟩
         | false =>
          obtain ⟨z1, z2, z4⟩ : w2.cell? ⟨gb, 1, none⟩ = some (.string Z.nm) ∧ w2.cell? ⟨gb, 2, none⟩ = some (.bool Z.words) ∧ w2.cell? ⟨gb, 4, none⟩ = some (.string Z.val) := by simp [World.cell?, X2.out]
          have hok1 := AL.out.ok
          have hyes : (((st.dt.atts[k]'hlt).of.toList == T.name.toList) && ((st.dt.atts[k]'hlt).has && !hasZ T.attrs (st.dt.atts[k]'hlt).nm)) = true := by rw [hZ, HN1.out, HHS.out, HHZ.out]; rfl
          have HBAD : Hid (∀ st3 c, aK9 st2 Z.val Z.words = (st3, .error c) → (st3, .error c) = R) := aQ0 (fun st3 c hvz => by
           rw [← GO.out, def_yes _ _ _ hlt hyes, hZ]
           exact (bK3 (a := (Z.nm, Z.val, Z.words)) hvz).symm)
          have HGOOD : Hid (∀ st3 v, aK9 st2 Z.val Z.words = (st3, .ok v) → aKo (defL T.name T.attrs (st.dt.atts.drop (k + 1))) st3 (acc ++ [(Z.nm, v)]) = R ∧ bVc st2 st3) := aQ0 (fun st3 v hvz => by
           refine ⟨?_, ?_⟩
           · rw [← GO.out, def_yes _ _ _ hlt hyes, hZ]
             exact (bZf (a := (Z.nm, Z.val, Z.words)) hvz).symm
           · have := bK2 (st := st2) (t := Z.val) (words := Z.words) (v := v) (by rw [hok1.dt]; exact HD.out) hok1.sp4 (by rw [hvz])
             rw [hvz] at this
             exact this)
          have hval := fun wx (hb : Below w2.heap.size w2 wx) => value_any (words := Z.words) HC.out (R2.out.below hb) hz hvb (D := st.dt) HD.out hok1.dt hok1.sp4 (by rw [hok1.wi]; omega) (L2.out.below R2.out.lt hb) (by rw [hok1.alike.txt, hok1.alike.evs]; omega)
          have hent := fun a w => aQu Tryz.func77 (by kernel_rfl) rfl a w
          obtain ⟨i0, hi, hz0, hz1, hz2⟩ := info_parts bZ6
          have HOK := aQ0 hok1
          have h0 : w0.heap.size ≤ (default : aJ5).n := by rw [HLIM.out]; exact HRM.out.bel.size
          have hal1 : acc.length ≤ 4194304 := by omega
          clear hok1 hyes h1
          go_wp2_with fail
          go_region_law (first | (refine aVg rfl 77 #[.tmp 70, .tmp 72, .tmp 74] #[72, 9, 4] rfl #[.pointer (some ⟨r, 0, none⟩), .string Z.val, .bool Z.words] (by simp [Act.eval]) hent (hval _ (by exact (Below.refl _ _).drew)) ?_ (fun ch w3 hP => by (obtain ⟨st3, c, hvz, he, hrest⟩ := va_bad hP; have hRR := HBAD.out st3 c hvz; subst hRR; unfold aQr at he; cases he; go_wp2; exact ⟨rfl, rfl, hrest⟩)) (fun w' hP => va_out hP); intro v' w3 hP; obtain ⟨st3, v, hvz, hve, ⟨ev3, tx3, hr3, hf3⟩, hl3⟩ := va_ok hP; subst hve; have HRR := aQ0 (HGOOD.out st3 v hvz).1; have VO := aQ0 (HGOOD.out st3 v hvz).2; clear hvz; have R3 := aQ0 hr3; have F3 := aQ0 hf3; have L3 := aQ0 hl3; have X3 : Hid (w3.heap[gb]? = some (.cells #[.string Z.of, .string Z.nm, .bool Z.words, .bool true, .string Z.val] 150)) := aQ0 (hf3.block (W := w2.drew) X2.out (by decide) (by decide) (aQe X2.out R2.out.box (by decide)) (aJb X2.out R2.out.map) (by simp)); have z1 : w3.cell? ⟨gb, 1, none⟩ = some (.string Z.nm) := (by simp [World.cell?, X3.out]); have K3 : Hid (w3.heap[tk]? = some (.cells #[.int .i64 T.kind, .string T.name, .string T.text, .slice aa T.attrs.length ca] 73)) := aQ0 (hf3.block (W := w2.drew) K2.out (by decide) (by decide) (aQe K2.out R2.out.box (by decide)) (aJb K2.out R2.out.map) (by simp)); have O3 : Hid ((w3.alloc (.cells #[.string Z.nm, .string v] 148)).ownsRow (default : aJ5).n 148 2 (.slice la acc.length lc) acc.length (aQ8 acc)) := aQ0 (World.ownsRow.alloc (aQj O2.out (fun j hj => (by obtain ⟨cs, hc, _⟩ := aQ4 O2.out hj; exact (hf3.block (W := w2.drew) hc (by decide) (by decide) (aQe hc R2.out.box (by decide)) (aJb hc R2.out.map) (by simp)).trans hc.symm))) _); have hb3 : (default : aJ5).n ≤ w3.heap.size + 1 := (by have h1 := hf3.size; have h2 := F2.out.size; have h4 := HLIM.out; simp only [World.drew] at h1; omega); clear hr3 hf3 hl3) | (refine aXu rfl (.tmp 67) (.tmp 77) 35 rfl (default : aJ5).n 148 i0 (.agg #[.string ByteArray.empty, .string ByteArray.empty]) 2 32 Tryz.underlying35 hi hz0 hz1 hz2 rfl (by decide) (.slice la acc.length lc) acc.length (aQ8 acc) (by simp [Act.eval]) O3.out ⟨w3.heap.size, 0, none⟩ 1 1 [.string Z.nm, .string v] (by simp [Act.eval]) rfl (aK2 w3 _ _ _) (by intro u hu; simp at hu; rcases hu with rfl | rfl <;> rfl) (by unfold maxLen; omega) (by omega) (by simp; exact hb3) ?_; intro v' wa hoa hga; obtain ⟨ao', cv', hv'⟩ := aQh hoa; subst hv'; replace hoa := aQ0 hoa; replace hga := aQ0 hga))
          all_goals
           have hB4 : Below w3.heap.size w3 (w3.alloc (.cells #[.string Z.nm, .string v] 148)) := bAl
           obtain ⟨r4, l4⟩ := (R3.out.below hB4).newRow (L3.out.below R3.out.lt hB4) O3.out h0 hga.out
           have A4 : Hid (Al w0 W wa r mb (.slice be st.dt.ents.length cc) (.slice (some ⟨P, O, none⟩) st.dt.atts.length cb) st st3 (.slice ao' (acc.length + 1) cv') (acc ++ [(Z.nm, v)])) := aQ0 ⟨⟨_, _, r4⟩, l4, HOK.out.trans VO.out, by rw [List.length_append, aWv]; exact hoa.out, (((F2.out.trans (Fr.below (g := none) ((Below.refl w2.heap.size w2).drew)) (fun j hj => by cases hj)).trans F3.out (fun j hj => by cases hj)).trans (Fr.below (g := none) hB4) (fun j hj => by cases hj)).trans (Fr.grown (g := (Value.slice la acc.length lc).ownBlock) hga.out (fun j hj => .inr (.inr (.inl hj.symm)))) (fun j hj => .inr (by have h1 := (aQ4 O3.out hj).choose_spec.2; have h2 := HLIM.out; omega))⟩
           have K4 := aQ0 (aVb O3.out hga.out ((hB4.block tk (gLt K3.out)).trans K3.out) (by decide))
           clear r4 l4 hB4 hoa hga
           go_wp2
           refine ⟨⟨k + 1, st3, acc ++ [(Z.nm, v)], by omega, by go_num, by rw [List.length_append]; simp only [List.length_cons, List.length_nil]; omega, A4.out, HRR.out, K4.out⟩, by show st.dt.atts.length - ((k : Int) + 1).toNat < st.dt.atts.length - ((k : Int)).toNat; omega⟩
     · have hkn : ¬ (k : Int) < (st.dt.atts.length : Int) := by omega
       have hk2 : k = st.dt.atts.length := by omega
       have hRR : (st2, .ok acc) = R := by
        have := GO.out
        rw [hk2, List.drop_length] at this
        exact this
       subst hRR
       go_wp2
       go_ret
       obtain ⟨ev2, tx2, hrm⟩ := AL.out.rm
       exact ⟨_, rfl, ⟨ev2, tx2, hrm, AL.out.fr⟩, own_low AL.out.row (by rw [HLIM.out]; exact HRM.out.bel.size)⟩
open Go.RowKit Lists Plain10 Plain11 PlainR Go.Lib
theorem ev_cell {l : List (Ev × Value)} {u : Value} (h : u ∈ aXx l) {k : Nat} (hk : u.ownBlock = some k) : ∃ x ∈ l, x.2 = u := by
 induction l with
 | nil => cases h
 | cons y l ih =>
  simp only [aXx, List.mem_cons] at h
  rcases h with rfl | rfl | rfl | rfl | h
  · cases hk
  · cases hk
  · cases hk
  · exact ⟨y, List.mem_cons_self .., rfl⟩
  · obtain ⟨x, hx, e⟩ := ih h
    exact ⟨x, List.mem_cons_of_mem _ hx, e⟩
theorem Rm.low {w0 W : World} {r mb : Nat} {st : Rs} {de da ev tx : Value} (h : Rm w0 W r mb st de da ev tx) : @Low ⟨⟨W.heap.size⟩⟩ w0.heap.size W r := by
 obtain ⟨vs, hl, hrow, ha⟩ := h.evs
 refine ⟨ev, _, _, h.cells.1.2.2.1, hrow, fun u hu k hk => ?_⟩
 obtain ⟨x, hx, rfl⟩ := ev_cell hu hk
 obtain ⟨cs, hc, _⟩ := aQ4 (ha x hx) hk
 exact (gLt hc)
theorem attrs_any {w0 W : World} {r mb : Nat} {st : Rs} {de da ev tx av : Value} {T : Tk} {m : Int} (hctx : Ctx w0 m) (h : Rm w0 W r mb st de da ev tx) (hav : W.ownsRow w0.heap.size 148 2 av T.attrs.length (aQ8 T.attrs)) (hTl : T.attrs.length ≤ 1048576) (hTa : ∀ a ∈ T.attrs, a.2.size ≤ 4000 ∧ VB a.2 0) (hD : DOk st.dt) (hA : AOk st.dt) (hsp : st.spent ≤ 4000) (hwl : st.wi.length ≤ 40000) (hpot : st.txt.length + st.evs.length ≤ 900000) :
 Calls Tryz.prog 42 #[.pointer (some ⟨r, 0, none⟩), .agg #[.int .i64 T.kind, .string T.name, .string T.text, av]] W fun e W' => AsSays w0 W r mb de da (aKo (ownA st.dt T.name T.attrs ++ defA st.dt T.name T.attrs) st []) e W' :=
 @attrs_aux ⟨⟨W.heap.size⟩⟩ w0 W r mb st de da ev tx av T m rfl h.low hctx h hav hTl hTa hD hA hsp hwl hpot
end Go.Proofs.YtdblemolaojebaaGreatDoor
