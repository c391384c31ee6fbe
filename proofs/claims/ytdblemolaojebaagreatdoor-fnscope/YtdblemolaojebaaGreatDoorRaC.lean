import Derived.Test.YtdblemolaojebaaGreatDoorRaA
set_option maxRecDepth 100000
set_option maxHeartbeats 4000000
set_option linter.unusedVariables false
set_option linter.unusedSectionVars false
namespace Go.Proofs.YtdblemolaojebaaGreatDoor
open Go.RowKit Lists Plain7 Plain23 PlainR Go.Lib Ents
open Go.Maps
structure aJ5 where
 n : Nat
variable [Inhabited aJ5]
def Low (B : Nat) (W : World) (r : Nat) : Prop := ∃ ev n xs, W.cell? ⟨r, 2, none⟩ = some ev ∧ W.ownsRow B 66 4 ev n xs ∧ ∀ u ∈ xs, ∀ k, u.ownBlock = some k → k < (default : aJ5).n
theorem Low.keep {B r : Nat} {W W' : World} (h : Low B W r) (h1 : W'.cell? ⟨r, 2, none⟩ = W.cell? ⟨r, 2, none⟩) (h2 : ∀ (k : Nat) (cs : Array Value), W.heap[k]? = some (Obj.cells cs 66) → W'.heap[k]? = W.heap[k]?) : Low B W' r := by
 obtain ⟨ev, n, xs, a, b, c⟩ := h
 exact ⟨ev, n, xs, h1.trans a, aQj b (fun k hk => by obtain ⟨cs, hc, _⟩ := aQ4 b hk; exact h2 k cs hc), c⟩
theorem Low.rm {w0 W W' : World} {r mb : Nat} {st st' : Rs} {de da ev tx tx' : Value} (h : Low w0.heap.size W r) (hr : Rm w0 W r mb st de da ev tx) (hr' : Rm w0 W' r mb st' de da ev tx') (h2 : ∀ (k : Nat) (cs : Array Value), W.heap[k]? = some (Obj.cells cs 66) → W'.heap[k]? = W.heap[k]?) : Low w0.heap.size W' r :=
 h.keep (hr'.cells.1.2.2.1.trans hr.cells.1.2.2.1.symm) h2
theorem Low.below {B r : Nat} {W W' : World} (h : Low B W r) (hr : r < W.heap.size) (hb : Below W.heap.size W W') : Low B W' r :=
 h.keep (World.cell?_of_block (a := ⟨r, 2, none⟩) (hb.block r hr)) (fun k cs hc => hb.block k (gLt hc))
def Vt (w0 W : World) (tb r : Nat) (tx : Value) (acc : List UInt8) : Prop :=
 ∃ vv, W.heap[tb]? = some (.cells #[.pointer (some ⟨r, 0, none⟩), vv] 203) ∧ W.ownsRow tb 5 1 vv acc.length ((numsOf acc).map (Value.int .u8)) ∧ (∀ k, tx.ownBlock = some k → k < tb) ∧ w0.heap.size ≤ tb ∧ Low w0.heap.size W r
def Inv (w0 W : World) (r mb tb : Nat) (de da : Value) (v : Bool) (σ : Sg) : Prop :=
 ∃ ev tx, Rm w0 W r mb σ.1 de da ev tx ∧ (v = true → Vt w0 W tb r tx σ.2) ∧ (v = false → σ.2 = [])
def gv (v : Bool) (tb : Nat) : Option Nat := if v = true then some tb else none
def tkV (v : Bool) (tb r : Nat) : Value := if v = true then .iface 204 (.pointer (some ⟨tb, 0, none⟩)) else .iface 156 (.agg #[.pointer (some ⟨r, 0, none⟩)])
theorem aKb {P : Program} {ops : Array Oper} {o : Oper} {a : Act} {w : World} {K : Act → World → Prop} {Q : Exit → Act → World → Prop} {F : Prop} (hg : o.guard = none) (x y : Operand) (t u : TypeId)
 (ho : o.op = .call { callee := .builtin .append, args := #[x, y], argTypes := #[t, u] })
 (base : Nat) (e : TypeId) (i : TypeInfo) (ht : P.underlying t = some (.slice e)) (hu : P.underlying u = some .string) (hi : P.info? e = some i) (hz : i.zero = some (.int .u8 0)) (hsize : i.size = 1) (hby : i.bytes = 1)
 (v : Value) (n : Nat) (xs : List Value) (hs : a.eval x = v) (hown : w.ownsRow base e 1 v n xs) (s : ByteArray) (hx : a.eval y = .string s)
 (h63 : n + s.size ≤ maxLen) (hbytes : n + s.size ≤ 140737488355328) (hbase : base ≤ w.heap.size)
 (h : ∀ v' w', w'.ownsRow base e 1 v' (n + s.size) (xs ++ strCells s) → w.grownBy w' v.ownBlock → K (a.put o.dst v') w') :
 if Region.wanted o (yielded ops a.tmps) = true then Oper.wp P o a w K Q else F := by
 have hw : Region.wanted o (yielded ops a.tmps) = true := by simp [Region.wanted, hg]
 rw [if_pos hw]
 obtain ⟨v', w', hr, h2, h3, _⟩ := run_append_own_string (P := P) w base t u o.type e i ht hu hi hz hsize hby v n xs hown s h63 hbytes hbase
 unfold Oper.wp execOp
 simp only [ho, resolve, invoke, builtin, Sem.run_bind, Sem.run_pure, Result.andThen_ok, List.map_toArray, List.map_cons, List.map_nil, hs, hx, hr]
 exact h v' w' h2 h3
theorem aYk (s : ByteArray) : strCells s = (numsOf s.data.toList).map (Value.int .u8) := by
 unfold strCells numsOf
 rw [List.map_map]
 rfl
theorem bZ4 (a b : List UInt8) : numsOf (a ++ b) = numsOf a ++ numsOf b := by simp [numsOf]
theorem aVb {W Wa : World} {B : Nat} {e : TypeId} {size n : Nat} {v : Value} {xs : List Value} (hr : W.ownsRow B e size v n xs) (hg : W.grownBy Wa v.ownBlock) {k : Nat} {cs : Array Value} {t : TypeId} (hb : W.heap[k]? = some (.cells cs t)) (hne : t ≠ e) : Wa.heap[k]? = some (.cells cs t) :=
 (hg.block k (gLt hb) (fun er => by obtain ⟨cs', hc', _⟩ := aQ4 hr er.symm; exact aQe hb hc' hne rfl)).trans hb
theorem rowU8 : (Tryz.prog.info? 5).map (fun i => (i.zero, i.size, i.bytes)) = some (some (.int .u8 0), 1, 1) := by kernel_rfl
theorem Rm.fellW {w0 W : World} {r mb : Nat} {st st' : Rs} {de da ev tx : Value} (h : Rm w0 W r mb st de da ev tx) (c : Int) (h1 : st'.evs = st.evs) (h2 : st'.pos = st.pos) : Fell w0 r st' c (aQr c) W := by
 have := h.fell c
 unfold Fell at this ⊢
 rw [h1, h2]; exact this
theorem signC_any {w0 W : World} {r mb : Nat} {st : Rs} {de da ev tx : Value} {t : ByteArray} (h : Rm w0 W r mb st de da ev tx) (htl : st.txt.length ≤ 1048576) (hts : t.size ≤ 1048576) :
 Calls Tryz.prog 192 #[.agg #[.pointer (some ⟨r, 0, none⟩)], .string t] W fun e W' => e = .returned (.tuple #[]) ∧ Goes w0 W r mb none { st with txt := st.txt ++ t.data.toList } de da W' := by
 obtain ⟨i0, hi, hz0, hz1, hz2⟩ := info_parts rowU8
 obtain ⟨W0, hW0⟩ : ∃ W0, W.alloc (.cells #[.pointer (some ⟨r, 0, none⟩)] 156) = W0 := ⟨_, rfl⟩
 have HW0 := aQ0 hW0
 have hB0 : Below W.heap.size W W0 := by rw [← hW0]; exact bAl
 have R0 := aQ0 (h.below hB0)
 have F0 := aQ0 (Fr.below (r := r) (mb := mb) (g := none) hB0)
 have B0 : Hid (W0.heap[W.heap.size]? = some (.cells #[.pointer (some ⟨r, 0, none⟩)] 156)) := aQ0 (by rw [← hW0]; exact heap_alloc_new _ _)
 have c0' : W0.cell? ⟨W.heap.size, 0, none⟩ = some (.pointer (some ⟨r, 0, none⟩)) := by simp [World.cell?, B0.out]
 obtain ⟨at', ct, htx⟩ := aQh h.txt
 subst htx
 obtain ⟨⟨c0, c1, c2, c3, c4, c5, c6, c7⟩, f0, f1, f2, f3, f4, f5, f7⟩ := R0.out.cells
 have hbs := R0.out.bel.size
 have ROW := aQ0 R0.out.txt.drew
 have RD := aQ0 (R0.out.below ((Below.refl W0.heap.size W0).drew))
 clear hW0 hB0 h c0 c1 c2 c4 c5 c6 c7 f0 f1 f2 f4 f5 f7
 go_enter Tryz.func192, Tryz.ntmps192
 go_wp2_with fail
 rw [HW0.out]
 go_region_law (refine aKb rfl (.tmp 10) (.tmp 11) 22 9 rfl w0.heap.size 5 i0 Tryz.underlying22 Tryz.underlying9 hi hz0 hz1 hz2 (.slice at' st.txt.length ct) st.txt.length _ (by simp [Act.eval]) ROW.out t (by simp [Act.eval]) (by unfold maxLen; omega) (by omega) hbs ?_; intro v' wa hoa hga; obtain ⟨ao', cv', hv'⟩ := aQh hoa; subst hv'; obtain ⟨d2, d3, e2, e3⟩ := RD.out.cellsOf ROW.out hga (by decide); have d9 : wa.cell? ⟨W.heap.size, 0, none⟩ = some (.pointer (some ⟨r, 0, none⟩)) := (by simp [World.cell?, aVb ROW.out hga B0.out (by decide)]); replace hoa := aQ0 hoa; replace hga := aQ0 hga)
 all_goals
  go_end0
  obtain ⟨a1, a2⟩ := RD.out.addTx hga.out (l := t.data.toList) (v' := .slice ao' (st.txt.length + t.size) cv') (by rw [List.length_append, bZ4, List.map_append, ← aYk, Array.length_toList]; exact hoa.out)
  exact ⟨rfl, _, _, a1, (F0.out.trans (Fr.below (g := none) ((Below.refl W0.heap.size W0).drew)) (fun k hk => by cases hk)).trans a2 (fun k hk => by cases hk)⟩
theorem plainC_any {w0 W : World} {r mb : Nat} {st : Rs} {de da ev tx : Value} {t : ByteArray} (h : Rm w0 W r mb st de da ev tx) (htl : st.txt.length ≤ 1048576) (hts : t.size ≤ 1048576) :
 Calls Tryz.prog 191 #[.agg #[.pointer (some ⟨r, 0, none⟩)], .string t] W fun e W' => e = .returned (.tuple #[]) ∧ Goes w0 W r mb none { st with txt := st.txt ++ t.data.toList } de da W' := by
 obtain ⟨i0, hi, hz0, hz1, hz2⟩ := info_parts rowU8
 obtain ⟨W0, hW0⟩ : ∃ W0, W.alloc (.cells #[.pointer (some ⟨r, 0, none⟩)] 156) = W0 := ⟨_, rfl⟩
 have HW0 := aQ0 hW0
 have hB0 : Below W.heap.size W W0 := by rw [← hW0]; exact bAl
 have R0 := aQ0 (h.below hB0)
 have F0 := aQ0 (Fr.below (r := r) (mb := mb) (g := none) hB0)
 have B0 : Hid (W0.heap[W.heap.size]? = some (.cells #[.pointer (some ⟨r, 0, none⟩)] 156)) := aQ0 (by rw [← hW0]; exact heap_alloc_new _ _)
 have c0' : W0.cell? ⟨W.heap.size, 0, none⟩ = some (.pointer (some ⟨r, 0, none⟩)) := by simp [World.cell?, B0.out]
 obtain ⟨at', ct, htx⟩ := aQh h.txt
 subst htx
 obtain ⟨⟨c0, c1, c2, c3, c4, c5, c6, c7⟩, f0, f1, f2, f3, f4, f5, f7⟩ := R0.out.cells
 have hbs := R0.out.bel.size
 have ROW := aQ0 R0.out.txt.drew
 have RD := aQ0 (R0.out.below ((Below.refl W0.heap.size W0).drew))
 clear hW0 hB0 h c0 c1 c2 c4 c5 c6 c7 f0 f1 f2 f4 f5 f7
 go_enter Tryz.func191, Tryz.ntmps191
 go_wp2_with fail
 rw [HW0.out]
 go_region_law (refine aKb rfl (.tmp 10) (.tmp 11) 22 9 rfl w0.heap.size 5 i0 Tryz.underlying22 Tryz.underlying9 hi hz0 hz1 hz2 (.slice at' st.txt.length ct) st.txt.length _ (by simp [Act.eval]) ROW.out t (by simp [Act.eval]) (by unfold maxLen; omega) (by omega) hbs ?_; intro v' wa hoa hga; obtain ⟨ao', cv', hv'⟩ := aQh hoa; subst hv'; obtain ⟨d2, d3, e2, e3⟩ := RD.out.cellsOf ROW.out hga (by decide); have d9 : wa.cell? ⟨W.heap.size, 0, none⟩ = some (.pointer (some ⟨r, 0, none⟩)) := (by simp [World.cell?, aVb ROW.out hga B0.out (by decide)]); replace hoa := aQ0 hoa; replace hga := aQ0 hga)
 all_goals
  go_end0
  obtain ⟨a1, a2⟩ := RD.out.addTx hga.out (l := t.data.toList) (v' := .slice ao' (st.txt.length + t.size) cv') (by rw [List.length_append, bZ4, List.map_append, ← aYk, Array.length_toList]; exact hoa.out)
  exact ⟨rfl, _, _, a1, (F0.out.trans (Fr.below (g := none) ((Below.refl W0.heap.size W0).drew)) (fun k hk => by cases hk)).trans a2 (fun k hk => by cases hk)⟩
theorem vt_not : ¬ aY9 203 := by unfold aY9; decide
theorem Rm.val {w0 W Wa : World} {r mb tb : Nat} {st : Rs} {de da ev tx vv : Value} {n : Nat} {xs : List Value} (h : Rm w0 W r mb st de da ev tx) (hb : W.heap[tb]? = some (.cells #[.pointer (some ⟨r, 0, none⟩), vv] 203)) (hr : W.ownsRow tb 5 1 vv n xs) (ht : ∀ k, tx.ownBlock = some k → k < tb) (h0 : w0.heap.size ≤ tb) (hlo : Low w0.heap.size W r) (hg : W.grownBy Wa vv.ownBlock)
 {v' : Value} {acc : List UInt8} (ho : Wa.ownsRow tb 5 1 v' acc.length ((numsOf acc).map (Value.int .u8))) :
 Rm w0 (Wa.setCell ⟨tb, 1, none⟩ v') r mb st de da ev tx ∧ Vt w0 (Wa.setCell ⟨tb, 1, none⟩ v') tb r tx acc ∧ Fr W (Wa.setCell ⟨tb, 1, none⟩ v') r mb (some tb) := by
 have hbel := h.bel.grown hg h.bel.size (fun k hk => Nat.le_trans h0 (aQ4 hr hk).choose_spec.2)
 have hk : ∀ {k : Nat} {cs : Array Value} {t : TypeId}, W.heap[k]? = some (.cells cs t) → t ≠ 5 → Wa.heap[k]? = W.heap[k]? := fun hc ht => (aVb hr hg hc ht).trans hc.symm
 have hm : Wa.heap[mb]? = W.heap[mb]? := hg.block _ h.map.lt (fun ek => by obtain ⟨cs', hc', _⟩ := aQ4 hr ek.symm; exact aJb hc' h.map rfl)
 have htx : Wa.ownsRow w0.heap.size 5 1 tx st.txt.length ((numsOf st.txt).map (Value.int .u8)) := aQj h.txt fun k hk' => hg.block k (by obtain ⟨cs, hc, _⟩ := aQ4 h.txt hk'; exact (gLt hc)) (fun ek => by have := (aQ4 hr ek.symm).choose_spec.2; have := ht k hk'; omega)
 have R1 : Rm w0 Wa r mb st de da ev tx := h.re ((hk h.box (by decide)).trans h.box) (fun k cs t hc ht => hk hc (by rcases ht with rfl | rfl <;> decide)) hm hbel (h.evs.keep (fun k cs hc _ => hk hc (by decide)) (fun k cs _ hc => hk hc (by decide))) htx rfl rfl
 have hbW : Wa.heap[tb]? = some (.cells #[.pointer (some ⟨r, 0, none⟩), vv] 203) := (hk hb (by decide)).trans hb
 have hg2 : Wa.grownBy (Wa.setCell ⟨tb, 1, none⟩ v') (some tb) := aQa v'
 have R2 := R1.off hg2 hbW vt_not h0
 have L2 : Low w0.heap.size (Wa.setCell ⟨tb, 1, none⟩ v') r := hlo.rm h R2 (fun k cs hc => by
  have e1 := hk hc (by decide)
  rw [hg2.block k (gLt (e1.trans hc)) (fun e => aQe (e1.trans hc) hbW (by decide) (Option.some.inj e))]
  exact e1)
 refine ⟨R2, ⟨v', by rw [aQ7 hbW]; rfl, aQj ho (fun k hk' => hg2.block k (by obtain ⟨cs, hc, _⟩ := aQ4 ho hk'; exact (gLt hc)) (fun e => by obtain ⟨cs, hc, _⟩ := aQ4 ho hk'; exact aQe hc hbW (by decide) (Option.some.inj e))), ht, h0, L2⟩, ?_⟩
 refine ⟨Nat.le_trans hg.size hg2.size, fun k hk' a b c d => ?_⟩
 rw [hg2.block k (Nat.lt_of_lt_of_le hk' hg.size) c]
 exact hg.block k hk' (fun ek => d (row_is hr (.inr rfl) ek.symm))
theorem Vt.cells {w0 W : World} {tb r : Nat} {vv : Value} (hb : W.heap[tb]? = some (.cells #[.pointer (some ⟨r, 0, none⟩), vv] 203)) : W.cell? ⟨tb, 0, none⟩ = some (.pointer (some ⟨r, 0, none⟩)) ∧ W.cell? ⟨tb, 1, none⟩ = some vv ∧ W.frozen? ⟨tb, 1, none⟩ = false := by
 simp [World.cell?, World.frozen?, hb]
theorem signV_any {w0 W : World} {r mb tb : Nat} {st : Rs} {de da ev tx : Value} {acc : List UInt8} {t : ByteArray} (h : Rm w0 W r mb st de da ev tx) (hv : Vt w0 W tb r tx acc) (hal : acc.length ≤ 1048576) (hts : t.size ≤ 1048576) :
 Calls Tryz.prog 201 #[.pointer (some ⟨tb, 0, none⟩), .string t] W fun e W' => e = .returned (.tuple #[]) ∧ Rm w0 W' r mb st de da ev tx ∧ Vt w0 W' tb r tx (acc ++ t.data.toList) ∧ Fr W W' r mb (some tb) := by
 obtain ⟨i0, hi, hz0, hz1, hz2⟩ := info_parts rowU8
 obtain ⟨vv, hb, hr, ht, h0, hlo⟩ := hv
 obtain ⟨at', ct, htx⟩ := aQh hr
 subst htx
 obtain ⟨c0, c1, f1⟩ := Vt.cells (w0 := w0) hb
 have hbs : tb ≤ W.heap.size := Nat.le_of_lt (gLt hb)
 have H := aQ0 h
 have HB := aQ0 hb
 have HR := aQ0 hr
 have HT := aQ0 ht
 have HLO := aQ0 hlo
 clear h hb hr ht hlo
 go_enter Tryz.func201, Tryz.ntmps201
 go_wp2_with (at_builtin; refine wpList_append_own_string _ rfl _ _ 22 9 rfl tb 5 i0 Tryz.underlying22 Tryz.underlying9 hi hz0 hz1 hz2 _ _ _ rfl HR.out t rfl (by unfold maxLen; omega) (by omega) hbs ?_; intro v' wa hoa hga _; obtain ⟨ao', cv', hv'⟩ := aQh hoa; subst hv'; obtain ⟨d0, d1, g1⟩ := Vt.cells (w0 := w0) (aVb HR.out hga HB.out (by decide)); replace hoa := aQ0 hoa; replace hga := aQ0 hga)
 go_end0
 have hoa2 : wa.ownsRow tb 5 1 (.slice ao' (acc.length + t.size) cv') (acc ++ t.data.toList).length ((numsOf (acc ++ t.data.toList)).map (Value.int .u8)) := by rw [List.length_append, bZ4, List.map_append, ← aYk, Array.length_toList]; exact hoa.out
 exact ⟨rfl, H.out.val HB.out HR.out HT.out h0 HLO.out hga.out hoa2⟩
open Go.RowKit Strs Lists Plain7 Plain23 PlainR Go.Lib Ents
open Go.Maps
variable [Inhabited aJ5]
def plV (c : UInt8) : UInt8 := if c = 9 ∨ c = 10 then 32 else c
theorem plainV_cons (c : UInt8) (l : List UInt8) (h : c ≠ 60) : aJ7 (c :: l) = (aJ7 l).map fun r => plV c :: r := by
 conv => lhs; unfold aJ7
 rw [if_neg h]; rfl
theorem plainV_bad (l : List UInt8) : aJ7 (60 :: l) = none := by unfold aJ7; rw [if_pos rfl]
theorem plain_step {l done : List UInt8} {k : Nat} {R : Option (List UInt8)} (hR : R = (aJ7 (l.drop k)).map (done ++ ·)) (hk : k < l.length) (hc : l.getD k 0 ≠ 60) : R = (aJ7 (l.drop (k + 1))).map ((done ++ [plV (l.getD k 0)]) ++ ·) := by
 have e : l.drop k = l.getD k 0 :: l.drop (k + 1) := by
  rw [List.drop_eq_getElem_cons hk, List.getD_eq_getElem?_getD, List.getElem?_eq_getElem hk]; rfl
 rw [hR, e, plainV_cons _ _ hc]
 cases aJ7 (l.drop (k + 1)) with
 | none => rfl
 | some x => simp
theorem plain_stop {l done : List UInt8} {k : Nat} {R : Option (List UInt8)} (hR : R = (aJ7 (l.drop k)).map (done ++ ·)) (hk : k < l.length) (hc : l.getD k 0 = 60) : R = none := by
 have e : l.drop k = l.getD k 0 :: l.drop (k + 1) := by
  rw [List.drop_eq_getElem_cons hk, List.getD_eq_getElem?_getD, List.getElem?_eq_getElem hk]; rfl
 rw [hR, e, hc, plainV_bad]; rfl
def PvSays (w0 W : World) (r mb tb : Nat) (st : Rs) (de da ev tx : Value) (acc : List UInt8) (R : Option (List UInt8)) (e : Ending) (W' : World) : Prop :=
 match R with
 | none => Fell w0 r st 3 e W'
 | some l => e = .returned (.tuple #[]) ∧ Rm w0 W' r mb st de da ev tx ∧ Vt w0 W' tb r tx (acc ++ l) ∧ Fr W W' r mb (some tb)
theorem plainV_any {w0 W : World} {r mb tb : Nat} {st : Rs} {de da ev tx : Value} {acc : List UInt8} {t : ByteArray} (h : Rm w0 W r mb st de da ev tx) (hv : Vt w0 W tb r tx acc) (hal : acc.length ≤ 1048576) (hts : t.size ≤ 1048576) :
 Calls Tryz.prog 200 #[.pointer (some ⟨tb, 0, none⟩), .string t] W fun e W' => PvSays w0 W r mb tb st de da ev tx acc (aJ7 t.data.toList) e W' := by
 obtain ⟨i0, hi, hz0, hz1, hz2⟩ := info_parts rowU8
 obtain ⟨R, hR⟩ : ∃ R, aJ7 t.data.toList = R := ⟨_, rfl⟩
 rw [hR]
 have HR := aQ0 hR
 have H := aQ0 h
 have HV := aQ0 hv
 have hfail := fun wx => aX3 (.pointer (some ⟨r, 0, none⟩)) 3 wx
 have hsl : t.data.toList.length = t.size := Array.length_toList
 have HSL := aQ0 hsl
 clear h hv hR hsl
 go_enter Tryz.func200, Tryz.ntmps200
 go_wp2
 go_loopw [7] (fun i wr => ∃ (k : Nat) (done : List UInt8), k ≤ t.size ∧ i = .int .i64 k ∧ done.length = k ∧ R = (aJ7 (t.data.toList.drop k)).map (done ++ ·) ∧ Rm w0 wr r mb st de da ev tx ∧ Vt w0 wr tb r tx (acc ++ done) ∧ Fr W wr r mb (some tb)) (fun i _ => t.size - (RowKit.intOf i).toNat)
 case atStart => exact ⟨0, [], Nat.zero_le _, rfl, rfl, by rw [List.drop_zero, HR.out]; cases R <;> simp, H.out, by simpa using HV.out, Fr.refl _ _ _ _⟩
 case round =>
  obtain ⟨k, done, hk, rfl, hdl, hRR, hRm, hVt, hFr⟩ := hrel
  have HDL := aQ0 hdl
  have hal2 : (acc ++ done).length ≤ 2097152 := by rw [List.length_append]; omega
  obtain ⟨A, hA⟩ : ∃ A, acc ++ done = A := ⟨_, rfl⟩
  rw [hA] at hVt hal2
  have HA := aQ0 hA
  clear hdl hA
  have HRR := aQ0 hRR
  have RM := aQ0 hRm
  have FR := aQ0 hFr
  obtain ⟨vv, hb, hr, ht, h0, hlo⟩ := hVt
  have HLO := aQ0 hlo
  clear hlo
  obtain ⟨at', ct, htx⟩ := aQh hr
  subst htx
  obtain ⟨c0, c1, f1⟩ := Vt.cells (w0 := w0) hb
  have hbs : tb ≤ wr.heap.size := Nat.le_of_lt (gLt hb)
  have HB := aQ0 hb
  have HW := aQ0 hr
  have HT := aQ0 ht
  clear hRR hRm hFr hb hr ht
  by_cases hlt : k < t.size
  · obtain ⟨b0, hb0⟩ : ∃ b, aQ2 t k = b := ⟨_, rfl⟩
    have hix : ∀ wx, (Instr.index 9 (.string t) (.int .i64 (k : Int))).run Tryz.prog wx = .ok (.int .u8 b0) wx := fun wx => by rw [aXl wx 9 t k hlt Tryz.underlying9, hb0]
    have hlti : (k : Int) < (t.size : Int) := by omega
    obtain ⟨c, hc⟩ : ∃ c, t.data.toList.getD k 0 = c := ⟨_, rfl⟩
    have hcb : (c.toNat : Int) = b0 := by rw [← hc]; exact hb0
    have hkl : k < t.data.toList.length := by rw [HSL.out]; exact hlt
    by_cases h60 : b0 = 60
    · have hc60 : c = 60 := (aYz c 60).1 (hcb.trans h60)
      have hRn := plain_stop HRR.out hkl (hc.trans hc60)
      subst hRn
      subst h60
      clear hb0 hcb hc hc60 HRR
      go_wp2_with fail
      refine (hfail _).mono ?_
      rintro e w2 ⟨he, rfl⟩
      unfold aQr at he
      subst he
      go_wp2
      exact ⟨rfl, RM.out.fell 3⟩
    · have hcn : c ≠ 60 := fun e => h60 (by rw [← hcb, e]; rfl)
      have hst := plain_step HRR.out hkl (by rw [hc]; exact hcn)
      rw [hc] at hst
      have HST := aQ0 hst
      by_cases hw : b0 = 9 ∨ b0 = 10
      · have hp : plV c = 32 := by
         unfold plV
         rw [if_pos]
         rcases hw with h9 | h10
         · exact .inl ((aYz c 9).1 (hcb.trans h9))
         · exact .inr ((aYz c 10).1 (hcb.trans h10))
        rw [hp] at HST
        have ROW : Hid ((wr.alloc (.cells #[.int .u8 32] 5)).ownsRow tb 5 1 (.slice at' A.length ct) A.length ((numsOf A).map (Value.int .u8))) := aQ0 (HW.out.alloc _)
        have HB1 : Hid ((wr.alloc (.cells #[.int .u8 32] 5)).heap[tb]? = some (.cells #[.pointer (some ⟨r, 0, none⟩), .slice at' A.length ct] 203)) := aQ0 ((heap_alloc_old _ _ (gLt HB.out)).trans HB.out)
        have NEXT : Hid (∀ (x : UInt8) (v' : Value) (w2 : World), w2.ownsRow tb 5 1 v' (A.length + 1) ((numsOf A).map (Value.int .u8) ++ [.int .u8 (x.toNat : Int)]) → (wr.alloc (.cells #[.int .u8 32] 5)).grownBy w2 (Value.slice at' A.length ct).ownBlock → Rm w0 (w2.setCell ⟨tb, 1, none⟩ v') r mb st de da ev tx ∧ Vt w0 (w2.setCell ⟨tb, 1, none⟩ v') tb r tx (acc ++ (done ++ [x])) ∧ Fr W (w2.setCell ⟨tb, 1, none⟩ v') r mb (some tb)) := aQ0 (fun x v' w2 ho hg => by
         have hB : Below wr.heap.size wr (wr.alloc (.cells #[.int .u8 32] 5)) := bAl
         obtain ⟨a1, a2, a3⟩ := (RM.out.below hB).val HB1.out ROW.out HT.out h0 (HLO.out.below RM.out.lt hB) hg (v' := v') (acc := acc ++ (done ++ [x])) (by rw [← List.append_assoc, HA.out, List.length_append, bJ3, List.map_append]; exact ho)
         exact ⟨a1, a2, (FR.out.trans (Fr.below (g := none) hB) (fun k hk => by cases hk)).trans a3 (fun k hk => .inl hk)⟩)
        clear hb0 hcb hc hst
        rcases hw with h9 | h10
        · subst h9
          go_wp2_with (at_builtin; refine wpList_append_own _ rfl _ _ 22 rfl tb 5 i0 (.int .u8 0) 1 1 Tryz.underlying22 hi hz0 hz1 hz2 rfl (by decide) _ _ _ rfl ROW.out ⟨_, 0, none⟩ 1 1 [.int .u8 (32)] rfl rfl (cell_one_new _ _ _) (by intro u hu; simp at hu; subst hu; rfl) (by unfold maxLen; omega) (by omega) (by simp; omega) ?_; intro v' w2 hoa hga _; obtain ⟨ao', cv', hv'⟩ := aQh hoa; subst hv'; obtain ⟨d0, d1, g1⟩ := Vt.cells (w0 := w0) (aVb ROW.out hga HB1.out (by decide)); replace hoa := aQ0 hoa; replace hga := aQ0 hga)
          go_roundw
          case rel => exact ⟨k + 1, done ++ [32], by omega, by go_num, by simp [HDL.out], HST.out, NEXT.out 32 _ _ hoa.out hga.out⟩
          case measure => simp [RowKit.intOf]; omega
        · subst h10
          go_wp2_with (at_builtin; refine wpList_append_own _ rfl _ _ 22 rfl tb 5 i0 (.int .u8 0) 1 1 Tryz.underlying22 hi hz0 hz1 hz2 rfl (by decide) _ _ _ rfl ROW.out ⟨_, 0, none⟩ 1 1 [.int .u8 (32)] rfl rfl (cell_one_new _ _ _) (by intro u hu; simp at hu; subst hu; rfl) (by unfold maxLen; omega) (by omega) (by simp; omega) ?_; intro v' w2 hoa hga _; obtain ⟨ao', cv', hv'⟩ := aQh hoa; subst hv'; obtain ⟨d0, d1, g1⟩ := Vt.cells (w0 := w0) (aVb ROW.out hga HB1.out (by decide)); replace hoa := aQ0 hoa; replace hga := aQ0 hga)
          go_roundw
          case rel => exact ⟨k + 1, done ++ [32], by omega, by go_num, by simp [HDL.out], HST.out, NEXT.out 32 _ _ hoa.out hga.out⟩
          case measure => simp [RowKit.intOf]; omega
      · have hp : plV c = c := by
         unfold plV
         rw [if_neg]
         rintro (e | e)
         · exact hw (.inl (by rw [← hcb, e]; rfl))
         · exact hw (.inr (by rw [← hcb, e]; rfl))
        rw [hp] at HST
        have n9 : ¬ b0 = 9 := fun e => hw (.inl e)
        have n10 : ¬ b0 = 10 := fun e => hw (.inr e)
        have HCB := aQ0 hcb
        have ROW : Hid ((wr.drew.alloc (.cells #[.int .u8 b0] 5)).ownsRow tb 5 1 (.slice at' A.length ct) A.length ((numsOf A).map (Value.int .u8))) := aQ0 (HW.out.drew.alloc _)
        have HB1 : Hid ((wr.drew.alloc (.cells #[.int .u8 b0] 5)).heap[tb]? = some (.cells #[.pointer (some ⟨r, 0, none⟩), .slice at' A.length ct] 203)) := aQ0 ((heap_alloc_old wr.drew _ (gLt HB.out)).trans HB.out)
        have NEXT : Hid (∀ (v' : Value) (w2 : World), w2.ownsRow tb 5 1 v' (A.length + 1) ((numsOf A).map (Value.int .u8) ++ [.int .u8 b0]) → (wr.drew.alloc (.cells #[.int .u8 b0] 5)).grownBy w2 (Value.slice at' A.length ct).ownBlock → Rm w0 (w2.setCell ⟨tb, 1, none⟩ v') r mb st de da ev tx ∧ Vt w0 (w2.setCell ⟨tb, 1, none⟩ v') tb r tx (acc ++ (done ++ [c])) ∧ Fr W (w2.setCell ⟨tb, 1, none⟩ v') r mb (some tb)) := aQ0 (fun v' w2 ho hg => by
         have hB : Below wr.heap.size wr (wr.drew.alloc (.cells #[.int .u8 b0] 5)) := ((Below.refl _ _).drew).alloc (Nat.le_refl _) _
         obtain ⟨a1, a2, a3⟩ := (RM.out.below hB).val HB1.out ROW.out HT.out h0 (HLO.out.below RM.out.lt hB) hg (v' := v') (acc := acc ++ (done ++ [c])) (by rw [← List.append_assoc, HA.out, List.length_append, bJ3, List.map_append, HCB.out]; exact ho)
         exact ⟨a1, a2, (FR.out.trans (Fr.below (g := none) hB) (fun k hk => by cases hk)).trans a3 (fun k hk => .inl hk)⟩)
        have c1a : (wr.alloc (.cells #[.int .u8 b0] 5)).cell? ⟨tb, 1, none⟩ = some (.slice at' A.length ct) := (World.cell?_of_block (a := ⟨tb, 1, none⟩) (heap_alloc_old _ _ (gLt HB.out))).trans c1
        clear hb0 hcb hc hst hw
        go_wp2_with fail
        go_region_law (refine aXu rfl (.tmp 17) (.tmp 21) 22 rfl tb 5 i0 (.int .u8 0) 1 1 Tryz.underlying22 hi hz0 hz1 hz2 rfl (by decide) (.slice at' A.length ct) A.length _ (by simp [Act.eval]) ROW.out ⟨wr.heap.size, 0, none⟩ 1 1 [.int .u8 b0] (by simp [Act.eval]) rfl (cell_one_new wr.drew _ _) (by intro u hu; simp at hu; subst hu; rfl) (by unfold maxLen; omega) (by omega) (by simp; omega) ?_; intro v' w2 hoa hga; obtain ⟨ao', cv', hv'⟩ := aQh hoa; subst hv'; obtain ⟨d0, d1, g1⟩ := Vt.cells (w0 := w0) (aVb ROW.out hga HB1.out (by decide)); replace hoa := aQ0 hoa; replace hga := aQ0 hga)
        all_goals
         simp only [Exit.inBlock, Exit.then]
         rename_i aK b1 b2 b3
         refine aK _ _ ?_
         clear b1 b2 b3
         go_wp2
         go_roundw
         case rel => exact ⟨k + 1, done ++ [c], by omega, by go_num, by simp [HDL.out], HST.out, NEXT.out _ _ hoa.out hga.out⟩
         case measure => simp [RowKit.intOf]; omega
  · have hkn : t.size ≤ k := by omega
    have hd : t.data.toList.drop k = [] := List.drop_eq_nil_of_le (by rw [HSL.out]; exact hkn)
    have hRs : R = some done := by rw [HRR.out, hd]; simp [aJ7]
    subst hRs
    go_wp2
    go_end0
    refine ⟨rfl, RM.out, ?_, FR.out⟩
    rw [HA.out]
    exact ⟨_, HB.out, HW.out, HT.out, h0, HLO.out⟩
open Go.RowKit PlainR Go.Lib Ents
open Go.Maps
variable [Inhabited aJ5]
theorem keyedS : Keyed Tryz.prog 9 := string_keyed Tryz.underlying9
theorem key_str {x : ByteArray} (h : x.size ≤ maxLen) : keyOf Tryz.prog 9 (.string x) = some (.string x.data.toList) := WideMaps.keyOf_string_mk Tryz.underlying9 h
theorem zeroEnt (w : World) : (zeroValue 195).run Tryz.prog w = .ok (.agg #[.string ⟨#[]⟩, .string ⟨#[]⟩]) w := by kernel_rfl
theorem lit_ne {x y : ByteArray} (h : x.toList ≠ y.toList) : Lit.string x.data.toList ≠ Lit.string y.data.toList := fun e => by
 injection e with e
 exact h (by rw [ByteArray.toList_eq, ByteArray.toList_eq, e])
theorem lit_key (x : ByteArray) : WideAt.IsKeyLit (.string x.data.toList) := trivial
theorem bKw {wi : List ByteArray} {nm x : ByteArray} : inB (nm :: wi) x = ((nm.toList == x.toList) || inB wi x) := by unfold inB; rw [List.any_cons]
theorem aWc.look {W : World} {mb : Nat} {wi : List ByteArray} (h : aWc W mb wi) {nm : ByteArray} (hn : nm.size ≤ maxLen) :
 ∃ a b, (Instr.lookup 45 (.map (some mb)) (.string nm) true).run Tryz.prog W = .ok (.tuple #[.agg #[.string a, .string b], .bool (inB wi nm)]) W := by
 obtain ⟨D, hD, hh, hs, ha⟩ := h
 obtain ⟨v, ps, hrun, hR⟩ := hD.look_ok keyedS Tryz.underlying45 (zeroEnt W) (zd := zEntD) (zp := []) rfl (key_str hn)
 obtain ⟨a, b, hab⟩ := ha nm
 rw [hab] at hR
 unfold bV7 at hR
 have hv : v = .agg #[.string a, .string b] := by
  have := congrArg Prod.fst (Option.some.inj hR)
  injection this
 rw [hh nm, hv] at hrun
 exact ⟨a, b, hrun⟩
theorem aWc.store {W : World} {mb : Nat} {wi : List ByteArray} (h : aWc W mb wi) {nm : ByteArray} (hn : nm.size ≤ maxLen) (hno : inB wi nm = false) (hl : wi.length < 1048576) (a b : ByteArray) :
 ∃ w', (Instr.mapUpdate 45 (.map (some mb)) (.string nm) (.agg #[.string a, .string b])).run Tryz.prog W = .ok () w' ∧ aWc w' mb (nm :: wi) ∧ W.grownBy w' (some mb) := by
 obtain ⟨D, hD, hh, hs, ha⟩ := h
 obtain ⟨w', hrun, hown, hturn⟩ := hD.store keyedS Tryz.underlying45 (by unfold maxLen; omega) (key_str hn) (d := .held (.agg #[.string a, .string b])) (ps := []) (val := .agg #[.string a, .string b]) rfl
 refine ⟨w', hrun, ⟨_, hown, fun x => ?_, ?_, fun x => ?_⟩, hturn.grown⟩
 · by_cases e : x.toList = nm.toList
   · have hx : x.data.toList = nm.data.toList := by rw [← ByteArray.toList_eq, ← ByteArray.toList_eq, e]
     rw [hx, Maps.has_put_same hD.isMap (lit_key nm), bKw, e]; simp
   · rw [Maps.has_put_other (lit_ne e), hh x, bKw]
     have : (nm.toList == x.toList) = false := by
      cases hb : (nm.toList == x.toList) with
      | false => rfl
      | true => exact absurd (eq_of_beq hb).symm e
     rw [this]; rfl
 · rw [Maps.size_put (hD.tidy keyedS), hh nm, hno, hs]; rfl
 · by_cases e : x.toList = nm.toList
   · have hx : x.data.toList = nm.data.toList := by rw [← ByteArray.toList_eq, ← ByteArray.toList_eq, e]
     exact ⟨a, b, by rw [hx]; exact Maps.atKey_put_same hD.isMap (lit_key nm) _ _⟩
   · obtain ⟨a', b', h'⟩ := ha x
     exact ⟨a', b', by rw [Maps.atKey_put_other (lit_ne e)]; exact h'⟩
theorem aWc.drop {W : World} {mb : Nat} {wi : List ByteArray} {nm : ByteArray} (h : aWc W mb (nm :: wi)) (hn : nm.size ≤ maxLen) (hno : inB wi nm = false) (ty : TypeId) :
 ∃ w', (Builtin.delete_ #[45, 9] ty #[.map (some mb), .string nm]).run Tryz.prog W = .ok (.tuple #[]) w' ∧ aWc w' mb wi ∧ W.grownBy w' (some mb) := by
 obtain ⟨D, hD, hh, hs, ha⟩ := h
 obtain ⟨w', hrun, hown, hturn⟩ := hD.drop keyedS Tryz.underlying45 (key_str hn) ty
 have hsz : Maps.size (D.del (.string nm.data.toList)) = wi.length := by
  have := Maps.size_del (k := .string nm.data.toList) (hD.tidy keyedS)
  rw [hh nm, bKw, hs] at this
  simp at this
  omega
 refine ⟨w', hrun, ⟨_, ?_, fun x => ?_, hsz, fun x => ?_⟩, hturn.grown⟩
 · obtain ⟨es, clock, h1, h2, h3, h4⟩ := hown
   refine ⟨es, clock, h1, h2, ?_, h4⟩
   have e1 := congrArg Maps.size h4
   rw [hsz] at e1
   simp only [Maps.size] at e1
   rw [DataW.length_sorted, List.length_map] at e1
   simp at e1
   omega
 · by_cases e : x.toList = nm.toList
   · have hx : x.data.toList = nm.data.toList := by rw [← ByteArray.toList_eq, ← ByteArray.toList_eq, e]
     rw [hx, Maps.has_del_same]
     have : inB wi x = inB wi nm := by unfold inB; rw [e]
     rw [this, hno]
   · rw [Maps.has_del_other (lit_ne e), hh x, bKw]
     have : (nm.toList == x.toList) = false := by
      cases hb : (nm.toList == x.toList) with
      | false => rfl
      | true => exact absurd (eq_of_beq hb).symm e
     rw [this]; rfl
 · by_cases e : x.toList = nm.toList
   · have hx : x.data.toList = nm.data.toList := by rw [← ByteArray.toList_eq, ← ByteArray.toList_eq, e]
     exact ⟨_, _, by rw [hx]; exact Maps.atKey_del_same _⟩
   · obtain ⟨a', b', h'⟩ := ha x
     exact ⟨a', b', by rw [Maps.atKey_del_other (lit_ne e)]; exact h'⟩
theorem Rm.mapped {w0 W W' : World} {r mb : Nat} {st : Rs} {de da ev tx : Value} {wi : List ByteArray} (h : Rm w0 W r mb st de da ev tx) (hm : aWc W' mb wi) (hg : W.grownBy W' (some mb)) : Rm w0 W' r mb { st with wi := wi } de da ev tx ∧ Fr W W' r mb none := by
 have hk : ∀ {k : Nat} {cs : Array Value} {t : TypeId}, W.heap[k]? = some (.cells cs t) → W'.heap[k]? = W.heap[k]? := fun hc => hg.block _ (gLt hc) (fun e => aJb hc h.map (Option.some.inj e))
 have hrow : ∀ {e : TypeId} {size : Nat} {v : Value} {n : Nat} {xs : List Value}, W.ownsRow w0.heap.size e size v n xs → W'.ownsRow w0.heap.size e size v n xs := fun ho => aQj ho fun k hk' => by
  obtain ⟨cs, hc, _⟩ := aQ4 ho hk'
  exact hk hc
 exact ⟨⟨(hk h.box).trans h.box, hrow h.ents, hrow h.atts, h.evs.keep (fun k cs hc _ => hk hc) (fun k cs _ hc => hk hc), hrow h.txt, hm, h.bel.grown hg h.bel.size (fun k hk => by have := Option.some.inj hk; have := h.m0; omega), h.r0, h.m0⟩,
  Fr.grown hg (fun j hj => .inr (.inl (Option.some.inj hj).symm))⟩
end Go.Proofs.YtdblemolaojebaaGreatDoor
