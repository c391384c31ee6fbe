import Derived.Test.YtocnfoeaikiecaaGreatDoorMsQ
set_option maxRecDepth 100000
set_option maxHeartbeats 16000000
set_option linter.unusedVariables false
namespace Go.Proofs.YtocnfoeaikiecaaGreatDoor
open Go.RowKit Lists Plain9 PlainS PlainR PlainN PlainW Ents Tryz
def cQc (w : World) (around : List BB) (e : Ev) (en : Ending) (w' : World) : Prop :=
 match bQq around e with
 | .error c => ∃ (n : Nd) (dv av : Value) (ra : Option Addr) (rn rc : Nat), en = .returned (.tuple #[.agg (aQb n dv av), .slice ra rn rc, .int .i64 c]) ∧ (∃ x y z, dv = .slice x y z) ∧ (∃ x y z, av = .slice x y z) ∧ Below w.heap.size w w'
 | .ok n => ∃ dv av rv, en = .returned (.tuple #[.agg (aQb n dv av), rv, .int .i64 0]) ∧ w'.ownsRow w.heap.size 54 2 dv n.decls.length (aQc n.decls) ∧ w'.ownsRow w.heap.size 30 4 av n.attrs.length (aQg n.attrs) ∧ w'.ownsRow w.heap.size 54 2 rv (around ++ n.decls).length (aQc (around ++ n.decls)) ∧ Below w.heap.size w w'
def m0 (e : Ev) (k : Nat) : Nd := ⟨e.kind, zNm, aVa (e.attrs.take k), [], ⟨#[]⟩⟩
theorem bYf {l : List BB} {k : Nat} (hk : k < l.length) : l.take (k + 1) = l.take k ++ [l[k]'hk] := List.take_succ_eq_append_getElem hk
theorem dVp {e : Ev} {k : Nat} (hk : k < e.attrs.length) (h : (aZ9 (e.attrs[k]'hk)).2 = true) : m0 e (k + 1) = { m0 e k with decls := (m0 e k).decls ++ [((aZ9 (e.attrs[k]'hk)).1, (e.attrs[k]'hk).2)] } := by
 unfold m0 aVa
 rw [bYf hk, List.filterMap_append]
 simp [h]
theorem m0_no {e : Ev} {k : Nat} (hk : k < e.attrs.length) (h : (aZ9 (e.attrs[k]'hk)).2 = false) : m0 e (k + 1) = m0 e k := by
 unfold m0 aVa
 rw [bYf hk, List.filterMap_append]
 simp [h]
theorem nm_03 (e : Ev) : aZw e = 0 ∨ aZw e = 3 := by
 unfold aZw
 split
 · exact Or.inr rfl
 · split
   · exact Or.inr rfl
   · split
     · exact Or.inr rfl
     · exact Or.inl rfl
theorem aZy {W : World} {k : Nat} {n : Nd} {dv av : Value} {t : TypeId} (hh : W.heap[k]? = some (.cells (aQb n dv av) t)) : W.cell? ⟨k, 0, none⟩ = some (.int .i64 n.kind) ∧ W.cell? ⟨k, 1, none⟩ = some (.string n.name.pre) ∧ W.cell? ⟨k, 2, none⟩ = some (.string n.name.loc) ∧ W.cell? ⟨k, 3, none⟩ = some (.string n.name.spc) ∧ W.cell? ⟨k, 4, none⟩ = some (.string n.name.val) ∧ W.cell? ⟨k, 5, none⟩ = some dv ∧ W.cell? ⟨k, 6, none⟩ = some av ∧ W.cell? ⟨k, 7, none⟩ = some (.string n.text) := by simp [World.cell?, hh, aQb]
theorem dVi {W : World} {k : Nat} {n : Nd} {dv av : Value} {t : TypeId} (hh : W.heap[k]? = some (.cells (aQb n dv av) t)) : W.frozen? ⟨k, 1, none⟩ = false ∧ W.frozen? ⟨k, 2, none⟩ = false ∧ W.frozen? ⟨k, 3, none⟩ = false ∧ W.frozen? ⟨k, 4, none⟩ = false := by simp [World.frozen?, hh]
theorem cVg {w W : World} {rb : Nat} {cs : Array Value} {f : Nat × Nat} (hr : W.heap[rb]? = some (.cells cs 34 f)) (a b c d e g h i : Value) {t : TypeId} {size : Nat} {v : Value} {m : Nat} {xs : List Value} (hw : W.ownsRow w.heap.size t size v m xs) (ht : t ≠ 34) :
 ((((((((W.setCell ⟨rb, 0, none⟩ a).setCell ⟨rb, 1, none⟩ b).setCell ⟨rb, 2, none⟩ c).setCell ⟨rb, 3, none⟩ d).setCell ⟨rb, 4, none⟩ e).setCell ⟨rb, 5, none⟩ g).setCell ⟨rb, 6, none⟩ h).setCell ⟨rb, 7, none⟩ i).ownsRow w.heap.size t size v m xs :=
 aQ4 hw (fun k hkk => by
  obtain ⟨cs, hc⟩ := aQ3 hw hkk
  have hne := aQ5 hc hr ht
  simp only [aQq _ hne])
def mA (e : Ev) (AL : List BB) (NM : Nm) (DL : List BB) (k : Nat) : Nd := ⟨e.kind, NM, DL, aV4 AL (e.attrs.take k), ⟨#[]⟩⟩
theorem dVo {e : Ev} {AL DL : List BB} {NM : Nm} {k : Nat} (hk : k < e.attrs.length) (h : (aZ9 (e.attrs[k]'hk)).2 = true) : mA e AL NM DL (k + 1) = mA e AL NM DL k := by
 unfold mA aV4
 rw [bYf hk, List.filterMap_append]
 simp [h]
theorem dZ1 {e : Ev} {AL DL : List BB} {NM : Nm} {k : Nat} (hk : k < e.attrs.length) (h : (aZ9 (e.attrs[k]'hk)).2 = false) : mA e AL NM DL (k + 1) = { mA e AL NM DL k with attrs := (mA e AL NM DL k).attrs ++ [bXr AL (e.attrs[k]'hk)] } := by
 unfold mA aV4
 rw [bYf hk, List.filterMap_append]
 simp [h]
theorem dXm {AL l : List BB} {k : Nat} (hk : k < l.length) : okM AL (l.take (k + 1)) = (okM AL (l.take k) && ((aZ9 (l[k]'hk)).2 || aWt AL (l[k]'hk))) := by
 unfold okM
 rw [bYf hk, List.all_append]
 simp
theorem cZy {W : World} {k : Nat} {a b c d : Value} {t : TypeId} (hh : W.heap[k]? = some (.cells #[a, b, c, d] t)) : W.cell? ⟨k, 0, none⟩ = some a ∧ W.cell? ⟨k, 1, none⟩ = some b ∧ W.cell? ⟨k, 2, none⟩ = some c ∧ W.cell? ⟨k, 3, none⟩ = some d ∧ W.frozen? ⟨k, 0, none⟩ = false ∧ W.frozen? ⟨k, 1, none⟩ = false ∧ W.frozen? ⟨k, 2, none⟩ = false := by simp [World.cell?, World.frozen?, hh]
theorem bVa (f : Nat → Bool) (k : Nat) : (List.range (k + 1)).any f = ((List.range k).any f || f k) := by rw [List.range_succ, List.any_append]; simp
theorem dJq (f : Nat → Bool) {k n : Nat} (hk : k < n) (h : f k = true) : (List.range n).any f = true := List.any_eq_true.2 ⟨k, List.mem_range.2 hk, h⟩
theorem dXa {w W : World} {rb : Nat} (h : Below w.heap.size w W) (hr : w.heap.size ≤ rb) (a b c d e f g i : Value) : Below w.heap.size w ((((((((W.setCell ⟨rb, 0, none⟩ a).setCell ⟨rb, 1, none⟩ b).setCell ⟨rb, 2, none⟩ c).setCell ⟨rb, 3, none⟩ d).setCell ⟨rb, 4, none⟩ e).setCell ⟨rb, 5, none⟩ f).setCell ⟨rb, 6, none⟩ g).setCell ⟨rb, 7, none⟩ i) :=
 (((((((h.setCell hr _).setCell hr _).setCell hr _).setCell hr _).setCell hr _).setCell hr _).setCell hr _).setCell hr _
theorem cYl {w : World} {ra : Addr} {l : List BB} (h : aZ2 w (some ra) l) (h0 : 0 < l.length) : ∀ j u, (aQc l)[j]? = some u → w.cell? (ra.add j) = some u := by
 obtain ⟨b, off, h1, h2⟩ := h
 obtain rfl := Option.some.inj (h1 h0)
 intro j u hu
 have hjl : j < (aQc l).length := (List.getElem?_eq_some_iff.1 hu).1
 have hal : (aQc l).length = l.length * 2 := by
  clear h1 h2 h0 hu hjl
  induction l with
  | nil => rfl
  | cons a l ih => rw [aY0]; simp only [List.length_cons, ih]; omega
 have hi : j / 2 < l.length := by omega
 obtain ⟨c1, c2⟩ := h2 (j / 2) hi
 obtain ⟨a1, a2⟩ := aKa l (j / 2) hi
 have e : (⟨b, off, none⟩ : Addr).add j = ⟨b, off + j, none⟩ := by simp [Addr.add]
 rw [e]
 rcases Nat.mod_two_eq_zero_or_one j with h2' | h2'
 · have ej : j = 2 * (j / 2) := by omega
   rw [ej, a1] at hu
   cases hu
   rw [show off + j = off + j / 2 * 2 by omega]
   exact c1
 · have ej : j = 2 * (j / 2) + 1 := by omega
   rw [ej, a2] at hu
   cases hu
   rw [show off + j = off + j / 2 * 2 + 1 by omega]
   exact c2
theorem bXc {P : Program} {ops : Array Oper} {o : Oper} {a : Act} {w : World} {K : Act → World → Prop} {Q : Exit → Act → World → Prop} {F : Prop} (hg : o.guard = none) (x y : Operand) (t : TypeId)
 (ho : o.op = .call { callee := .builtin .append, args := #[x, y], argTypes := #[t, t] })
 (base : Nat) (e : TypeId) (i : TypeInfo) (size : Nat) (ht : P.underlying t = some (.slice e)) (hi : P.info? e = some i)
 (v : Value) (n : Nat) (xs : List Value) (hs : a.eval x = v) (hown : w.ownsRow base e size v n xs) (hx : a.eval y = .slice none 0 0)
 (h : K (a.put o.dst v) w) :
 if Region.wanted o (yielded ops a.tmps) = true then Oper.wp P o a w K Q else F := by
 have hw : Region.wanted o (yielded ops a.tmps) = true := by simp [Region.wanted, hg]
 rw [if_pos hw]
 have hrun := run_append_owned_none (P := P) (w := w) base t o.type e i size ht hi v n xs hown
 unfold Oper.wp
 simp [execOp, ho, resolve, invoke, builtin, hs, hx, hrun, Result.andThen]
 exact h
theorem cVw (a b : List BB) : aQc (a ++ b) = aQc a ++ aQc b := by unfold aQc; rw [List.flatMap_append]
theorem cQb (l : List BB) : (aQc l).length = l.length * 2 := by
 induction l with
 | nil => rfl
 | cons a l ih => rw [aY0]; simp only [List.length_cons, ih]; omega
theorem bKh (l : List BB) : ∀ u ∈ aQc l, u.oneCell' = true := by
 intro u hu
 unfold aQc at hu
 obtain ⟨a, _, ha⟩ := List.mem_flatMap.1 hu
 simp at ha
 rcases ha with rfl | rfl <;> rfl
theorem dVq (w : World) (t : TypeId) (size : Nat) (hs : 0 < size) : (w.alloc (.cells #[] t)).ownsRow w.heap.size t size (.slice (some ⟨w.heap.size, 0, none⟩) 0 0) 0 [] := World.ownsRow_lit (size := size) w #[] 0 (Nat.le_refl _) (by decide) (by simp)
theorem bYi (w : World) (e : Ev) (ao : Option Addr) (ac : Nat) (hA : aZ2 w ao e.attrs) (hl : e.attrs.length ≤ 60) (hnm : e.name.size ≤ 1048576) (hna : ∀ a ∈ e.attrs, a.1.size ≤ 1048576) (ra : Addr) (rc : Nat) (around : List BB) (hR : aZ2 w (some ra) around) (hrl : around.length ≤ 10000) (hr0 : 0 < around.length) :
 Calls prog 32 #[.agg #[.int .i64 e.kind, .string e.name, .string e.text, .slice ao e.attrs.length ac], .slice (some ra) around.length rc] w (cQc w around e) := by
 obtain ⟨X, hX⟩ := nmE (bQq around e)
 have HX := aQ0 hX
 obtain ⟨W2, hW2⟩ := nmE ((w.alloc (.cells #[.int .i64 e.kind, .string e.name, .string e.text, .slice ao e.attrs.length ac] 37)).alloc (.cells #[.int .i64 0, .string ⟨#[]⟩, .string ⟨#[]⟩, .string ⟨#[]⟩, .string ⟨#[]⟩, .slice none 0 0, .slice none 0 0, .string ⟨#[]⟩] 34))
 have hB2 : Below w.heap.size w W2 := by rw [← hW2]; exact (bAl).alloc (by simp) _
 have hev2 : W2.heap[w.heap.size]? = some (.cells #[.int .i64 e.kind, .string e.name, .string e.text, .slice ao e.attrs.length ac] 37) := by rw [← hW2, heap_alloc_old _ _ (by simp)]; exact heap_alloc_new _ _
 have hrs2 : W2.heap[w.heap.size + 1]? = some (.cells zNdC 34) := by
  rw [← hW2]
  have : (w.alloc (.cells #[.int .i64 e.kind, .string e.name, .string e.text, .slice ao e.attrs.length ac] 37)).heap.size = w.heap.size + 1 := by simp
  rw [← this]; exact heap_alloc_new _ _
 have hb3 : Below W2.heap.size W2 (W2.alloc (.cells #[.int .i64 e.kind, .string ⟨#[]⟩, .string ⟨#[]⟩, .string ⟨#[]⟩, .string ⟨#[]⟩, .slice none 0 0, .slice none 0 0, .string ⟨#[]⟩] 34)) := bAl
 have hB3 : Below w.heap.size w (W2.alloc (.cells #[.int .i64 e.kind, .string ⟨#[]⟩, .string ⟨#[]⟩, .string ⟨#[]⟩, .string ⟨#[]⟩, .slice none 0 0, .slice none 0 0, .string ⟨#[]⟩] 34)) := hB2.trans (hb3.mono hB2.size)
 have F3 : Hid (MsF w (W2.alloc (.cells #[.int .i64 e.kind, .string ⟨#[]⟩, .string ⟨#[]⟩, .string ⟨#[]⟩, .string ⟨#[]⟩, .slice none 0 0, .slice none 0 0, .string ⟨#[]⟩] 34)) W2.heap.size (w.heap.size + 1) e ao ac (m0 e 0) (.slice none 0 0) (.slice none 0 0)) := aQ0 ⟨⟨heap_alloc_new _ _, World.ownsRow_nil _ _ _ _, World.ownsRow_nil _ _ _ _⟩, (hb3.block _ (gLt hrs2)).trans hrs2, (hb3.block _ (gLt hev2)).trans hev2, hB3, by have := (gLt hrs2); omega, hB2.size, by omega⟩
 obtain ⟨v0, v1, v2, v3⟩ := aX0 hev2
 have hnms := bYk (W2.alloc (.cells #[.int .i64 e.kind, .string ⟨#[]⟩, .string ⟨#[]⟩, .string ⟨#[]⟩, .string ⟨#[]⟩, .slice none 0 0, .slice none 0 0, .string ⟨#[]⟩] 34)) e ao ac (hA.grown (Ents.below_grown hB3)) (by omega) hnm hna
 obtain ⟨N, hN⟩ := nmE (aZw e)
 rw [hN] at hnms
 have HN := aQ0 hN
 have HA := aQ0 hA
 have HR := aQ0 hR
 have HNA := aQ0 hna
 clear hX hB2 hev2 hrs2 hb3 hB3 hN hA hR hna
 obtain ⟨y0, y1, y2, y3⟩ := aX0 F3.out.ev
 go_enter func32, ntmps32
 go_wp2_with fail
 refine hnms.mono ?_
 rintro en w4 ⟨rfl, hb4⟩
 have F4 := aQ0 (F3.out.below hb4)
 clear hb4 hnms F3 v0 v1 v2 v3 y0 y1 y2 y3 hW2
 generalize hnb : W2.heap.size = nb at F4 ⊢
 generalize hrb : w.heap.size + 1 = rb at F4 ⊢
 clear hnb hrb
 have hPO : ∀ en w', (match X with
  | .error c => ∃ (n : Nd) (dv av : Value) (ra : Option Addr) (rn rc : Nat), en = .returned (.tuple #[.agg (aQb n dv av), .slice ra rn rc, .int .i64 c]) ∧ (∃ x y z, dv = .slice x y z) ∧ (∃ x y z, av = .slice x y z) ∧ Below w.heap.size w w'
  | .ok n => ∃ dv av rv, en = .returned (.tuple #[.agg (aQb n dv av), rv, .int .i64 0]) ∧ w'.ownsRow w.heap.size 54 2 dv n.decls.length (aQc n.decls) ∧ w'.ownsRow w.heap.size 30 4 av n.attrs.length (aQg n.attrs) ∧ w'.ownsRow w.heap.size 54 2 rv (around ++ n.decls).length (aQc (around ++ n.decls)) ∧ Below w.heap.size w w') → cQc w around e en w' := by
  intro en w' h
  unfold cQc
  rw [HX.out]
  exact h
 have HPO := aQ0 hPO
 clear hPO
 by_cases hN0 : N = 0
 · subst hN0
   obtain ⟨i0, hi, hz0, hz1, hz2⟩ := info_parts bQ2
   go_wp2_with fail
   go_loopw [9] (fun iv wr => ∃ (k : Nat) (dv : Value), k ≤ e.attrs.length ∧ iv = .int .i64 k ∧ MsF w wr nb rb e ao ac (m0 e k) dv (.slice none 0 0)) (fun iv _ => e.attrs.length - (intOf iv).toNat)
   case atStart => exact ⟨0, _, Nat.zero_le _, rfl, F4.out⟩
   case round =>
    obtain ⟨k, dv, hk, rfl, hF⟩ := hrel
    have HF := aQ0 hF
    clear hF F4
    obtain ⟨y0, y1, y2, y3⟩ := aX0 HF.out.ev
    by_cases hlt : k < e.attrs.length
    · obtain ⟨b, off, ha, hc⟩ := HA.out.grown (Ents.below_grown HF.out.bel)
      obtain rfl := ha (by omega)
      obtain ⟨c1, c2⟩ := hc k hlt
      have hsz := HNA.out _ (List.getElem_mem hlt)
      have hdc := dVp (e := e) hlt
      have hno := m0_no (e := e) hlt
      obtain ⟨A, hAe⟩ := nmE (e.attrs[k]'hlt)
      rw [hAe] at c1 c2 hsz hdc hno
      have hs2 := fun wx => bQi wx A hsz
      obtain ⟨D, hD⟩ := nmE (aZ9 A)
      simp only [hD] at hs2 hdc hno
      have hcl := aQk c2
      have HDC := aQ0 hdc
      have HNO := aQ0 hno
      clear hc ha hAe hsz hD hdc hno
      go_wp2_with fail
      refine (hs2 _).mono ?_
      rintro en w5 ⟨rfl, hb5⟩
      have F5 := aQ0 (HF.out.below hb5)
      have d2 := aQ2 (hb5.block _ hcl) c2
      clear hb5 hs2 c1 c2 y0 y1 y2 y3 hcl
      obtain ⟨y0, y1, y2, y3⟩ := aX0 F5.out.ev
      obtain ⟨da, dc, rfl, _⟩ := aQr F5.out.nd.decls
      cases hy : D.2 with
      | false =>
       have HNX := aQ0 (HNO.out hy)
       go_wp2
       go_roundw
       case rel => exact ⟨k + 1, _, by omega, by go_num, by rw [HNX.out]; exact F5.out⟩
       case measure => simp [intOf]; omega
      | true =>
       have HNX := aQ0 (HDC.out hy)
       obtain ⟨n5, n6, n7, n8⟩ := aZz F5.out.nd.box
       have hone : ∀ u ∈ [Value.string D.1, .string A.2], u.oneCell' = true := by intro u hu; simp at hu; rcases hu with rfl | rfl <;> rfl
       have hdl : (m0 e k).decls.length ≤ 60 := by
        have : (m0 e k).decls.length ≤ (e.attrs.take k).length := List.length_filterMap_le _ _
        rw [List.length_take] at this; omega
       have hmz := F5.out.bel.size
       have FD := aQ0 (F5.out.below ((Below.refl _ _).drew))
       obtain ⟨a5, a6, a7, a8⟩ := aZz (F5.out.below ((Below.refl _ _).alloc (Nat.le_refl _) (.cells #[.string D.1, .string A.2] 54))).nd.box
       go_wp2_with fail
       go_region_law (refine aJ1 rfl (.tmp 53) (.tmp 62) 31 rfl w.heap.size 54 i0 (.agg #[.string ByteArray.empty, .string ByteArray.empty]) 2 32 underlying31 hi hz0 hz1 hz2 rfl (by decide) (.slice da (m0 e k).decls.length dc) (m0 e k).decls.length (aQc (m0 e k).decls) (by simp [Act.eval]) (aYe FD.out.nd.decls) ⟨w5.heap.size, 0, none⟩ 1 1 [.string D.1, .string A.2] (by simp [Act.eval]) rfl (aWy w5.drew _ _ _ w5.heap.size rfl) hone (by unfold maxLen; omega) (by omega) (by simp; omega) ?_; intro v' wa hown' hgrow; obtain ⟨xo, xc, rfl, _⟩ := aQr hown'; obtain ⟨q0, q1, q2, q3⟩ := FD.out.mid5 _ hgrow; have F6 := aQ0 (FD.out.decl _ (D.1, A.2) hown' hgrow); clear hown' hgrow)
       all_goals
        go_wp2
        go_roundw
        case rel => exact ⟨k + 1, _, by omega, by go_num, by rw [HNX.out]; exact F6.out⟩
        case measure => simp [intOf]; omega
    · have hke : k = e.attrs.length := by omega
      subst hke
      have hm0 : m0 e e.attrs.length = ⟨e.kind, zNm, aVa e.attrs, [], ⟨#[]⟩⟩ := by unfold m0; rw [List.take_of_length_le (Nat.le_refl _)]
      rw [hm0] at HF
      obtain ⟨DL, hDL⟩ := nmE (aVa e.attrs)
      rw [hDL] at HF
      have HDL := aQ0 hDL
      have hdl : DL.length ≤ 60 := by
       rw [← hDL]
       exact Nat.le_trans (List.length_filterMap_le _ _) hl
      clear hm0 hDL
      obtain ⟨da, dc, rfl, hda⟩ := aQr HF.out.nd.decls
      have hbz := HF.out.bel.size
      obtain ⟨n5, n6, n7, n8⟩ := aZz HF.out.nd.box
      obtain ⟨a5, a6, a7, a8⟩ := aZz (HF.out.below ((Below.refl _ _).alloc (Nat.le_refl _) (.cells #[] 54))).nd.box
      have HRn := aQ0 (cYl (HR.out.grown (Ents.below_grown (HF.out.bel.alloc HF.out.bel.size (.cells #[] 54)))) hr0)
      have hone1 := bKh around
      have hln1 := cQb around
      have hOL := aQ0 (dVq wr 54 2 (by decide))
      have hfirst : ∀ (wa : World), (wr.alloc (.cells #[] 54)).drew.grownBy wa (Value.ownBlock (.slice (some ⟨wr.heap.size, 0, none⟩) 0 0)) → Hid (Below wr.heap.size wr wa) := fun wa hg => aQ0 ((bAl).drew.grown hg (by simp) (fun k hk => by
       have : k = wr.heap.size := by simpa [Value.ownBlock] using hk.symm
       omega))
      have hln2 := cQb DL
      have hone2 := bKh DL
      go_wp2_with fail
      go_cut [12] (fun s12 wc => ∃ ra2 rc2, s12 = .slice ra2 (around ++ DL).length rc2 ∧ wc.ownsRow w.heap.size 54 2 (.slice ra2 (around ++ DL).length rc2) (around ++ DL).length (aQc (around ++ DL)) ∧ MsF w wc nb rb e ao ac ⟨e.kind, zNm, DL, [], ⟨#[]⟩⟩ (.slice da DL.length dc) (.slice none 0 0))
      case first =>
       rcases HF.out.nd.decls.2 with ⟨h0, hn⟩ | ⟨g, cap, cur, hv, _⟩
       · obtain ⟨rfl, hn0, rfl⟩ := Value.slice.inj h0
         have HN0 := aQ0 (show DL = [] from List.eq_nil_of_length_eq_zero hn0)
         rw [hn0] at n5 a5 h0
         clear h0 hn
         have arm_b5 : ∀ (wa : World), Below wr.heap.size wr wa → wa.cell? ⟨nb, 5, none⟩ = some (.slice none 0 0) := fun wa hb => by
          have := (aZz (HF.out.below hb).nd.box).1
          rw [hn0] at this
          exact this
         have HB5 := aQ0 arm_b5
         have HNN := aQ0 hn0
         clear arm_b5 hn0
         go_region_law (first | (refine bXc rfl (.tmp 67) (.tmp 69) 31 rfl wr.heap.size 54 i0 2 underlying31 hi (.slice xo (0 + around.length) xc) (0 + around.length) ([] ++ aQc around) (by simp [Act.eval]) O1.out (by simp [Act.eval]) ?_) | (refine aJ1 rfl (.tmp 65) (.tmp 66) 31 rfl wr.heap.size 54 i0 (.agg #[.string ByteArray.empty, .string ByteArray.empty]) 2 32 underlying31 hi hz0 hz1 hz2 rfl (by decide) (.slice (some ⟨wr.heap.size, 0, none⟩) 0 0) 0 [] (by simp [Act.eval]) hOL.out ra around.length rc (aQc around) (by simp [Act.eval]) hln1 HRn.out hone1 (by unfold maxLen; omega) (by omega) (by simp) ?_; intro v1 wa ho1 hg1; have hBa := hfirst wa hg1; obtain ⟨xo, xc, rfl, _⟩ := aQr ho1; have b5 := HB5.out _ hBa.out; have O1 := aQ0 ho1; clear ho1 hg1))
         all_goals
          go_wp2_with fail
          go_meet
          refine ⟨xo, xc, by rw [HN0.out]; simp, ?_, HF.out.below hBa.out⟩
          have := aXw O1.out hbz
          rw [HN0.out]
          simpa using this
       · obtain ⟨rfl, _, rfl⟩ := Value.slice.inj hv
         clear hv
         go_region_law (first | (refine aJ1 rfl (.tmp 67) (.tmp 69) 31 rfl wr.heap.size 54 i0 (.agg #[.string ByteArray.empty, .string ByteArray.empty]) 2 32 underlying31 hi hz0 hz1 hz2 rfl (by decide) (.slice xo (0 + around.length) xc) (0 + around.length) ([] ++ aQc around) (by simp [Act.eval]) O1.out ⟨g, 0, none⟩ DL.length dc (aQc DL) (by simp [Act.eval]) hln2 (FA.out.nd.decls.cells (g := g) rfl) hone2 (by unfold maxLen; omega) (by omega) hBa.out.size ?_; intro v2 wb ho2 hg2; obtain ⟨yo, yc, rfl, _⟩ := aQr ho2; have hBb := aQ0 (hBa.out.grown hg2 hBa.out.size (fun k hk => (O1.out.lt k hk).1)); have O2 := aQ0 ho2; clear ho2 hg2) | (refine aJ1 rfl (.tmp 65) (.tmp 66) 31 rfl wr.heap.size 54 i0 (.agg #[.string ByteArray.empty, .string ByteArray.empty]) 2 32 underlying31 hi hz0 hz1 hz2 rfl (by decide) (.slice (some ⟨wr.heap.size, 0, none⟩) 0 0) 0 [] (by simp [Act.eval]) hOL.out ra around.length rc (aQc around) (by simp [Act.eval]) hln1 HRn.out hone1 (by unfold maxLen; omega) (by omega) (by simp) ?_; intro v1 wa ho1 hg1; have hBa := hfirst wa hg1; obtain ⟨xo, xc, rfl, _⟩ := aQr ho1; have FA := aQ0 (HF.out.below hBa.out); obtain ⟨b5, b6, b7, b8⟩ := aZz FA.out.nd.box; have O1 := aQ0 ho1; clear ho1 hg1))
         all_goals
          go_wp2_with fail
          go_meet
          refine ⟨yo, yc, by rw [List.length_append], ?_, HF.out.below hBb.out⟩
          have := aXw O2.out hbz
          rw [cVw, List.length_append]
          simpa using this
      case rest =>
       obtain ⟨ra2, rc2, rfl, hO, hFc⟩ := hcut
       have FC := aQ0 hFc
       have OC := aQ0 hO
       obtain ⟨AL, hAL⟩ := nmE (around ++ DL)
       rw [hAL] at OC ⊢
       have HAL := aQ0 hAL
       have hall : AL.length ≤ 20000 := by rw [← hAL, List.length_append]; omega
       obtain ⟨Z, hZ⟩ := nmE (aQo e.name)
       have HZ := aQ0 hZ
       have hsp := fun wx => aJy e.name wx hnm
       rw [hZ] at hsp
       obtain ⟨LK, hLK⟩ := nmE (aWv AL Z.1)
       have HLK := aQ0 hLK
       obtain ⟨y0, y1, y2, y3⟩ := aX0 FC.out.ev
       clear HF hFc hO hAL hZ hLK n5 n6 n7 n8 a5 a6 a7 a8 hOL hfirst HRn hone1 hln1 hln2 hone2
       go_wp2_with fail
       refine (hsp _).mono ?_
       rintro en w5 ⟨rfl, hb5⟩
       have F5 := aQ0 (FC.out.below hb5)
       have O5 := aQ0 (aQ4 OC.out (fun k hk => hb5.block _ (OC.out.lt k hk).2))
       clear hb5 hsp FC OC y0 y1 y2 y3
       have hlk := bJl w5 ra2 _ rc2 AL rfl (by
        obtain ⟨x, y, hxy, hE⟩ := aWh O5.out
        rw [(Value.slice.inj hxy).1]
        exact hE) (by omega) Z.1
       rw [HLK.out] at hlk
       go_wp2_with fail
       refine hlk.mono ?_
       rintro en w6 ⟨rfl, hb6⟩
       have F6 := aQ0 (F5.out.below hb6)
       have O6 := aQ0 (aQ4 O5.out (fun k hk => hb6.block _ (O5.out.lt k hk).2))
       clear hb6 hlk F5 O5
       obtain ⟨F7', O7'⟩ := F6.out.named ⟨Z.1, Z.2.1, LK.1, ⟨#[]⟩⟩
       have O7 := aQ0 (O7' O6.out)
       have F7 : Hid (MsF w ((((w6.setCell ⟨nb, 1, none⟩ (.string Z.1)).setCell ⟨nb, 2, none⟩ (.string Z.2.1)).setCell ⟨nb, 3, none⟩ (.string LK.1)).setCell ⟨nb, 4, none⟩ (.string ⟨#[]⟩)) nb rb e ao ac ⟨e.kind, ⟨Z.1, Z.2.1, LK.1, ⟨#[]⟩⟩, DL, [], ⟨#[]⟩⟩ (.slice da DL.length dc) (.slice none 0 0)) := aQ0 F7'
       obtain ⟨n0, n1, n2, n3, n4, n5, n6, n7⟩ := aZy F6.out.nd.box
       obtain ⟨g1, g2, g3, g4⟩ := dVi F6.out.nd.box
       simp only [zNm] at n1 n2 n3 n4
       clear F7' O7'
       go_wp2_with fail
       generalize hwg : (((w6.setCell ⟨nb, 1, none⟩ (.string Z.1)).setCell ⟨nb, 2, none⟩ (.string Z.2.1)).setCell ⟨nb, 3, none⟩ (.string LK.1)).setCell ⟨nb, 4, none⟩ (.string ⟨#[]⟩) = w7 at F7 O7 ⊢
       obtain ⟨NM, hNM⟩ : ∃ NM : Nm, (⟨Z.1, Z.2.1, LK.1, ⟨#[]⟩⟩ : Nm) = NM := ⟨_, rfl⟩
       rw [hNM] at F7
       have HNM := aQ0 hNM
       clear hNM
       clear hwg n0 n1 n2 n3 n4 n5 n6 n7 g1 g2 g3 g4 F6 O6
       obtain ⟨j0, hj, hy0, hy1, hy2⟩ := info_parts bJn
       go_loopw [17, 18] (fun okv iv wr => ∃ (k : Nat) (b : Bool) (av : Value), k ≤ e.attrs.length ∧ iv = .int .i64 k ∧ okv = .bool b ∧ b = (LK.2 && okM AL (e.attrs.take k)) ∧ MsF w wr nb rb e ao ac (mA e AL NM DL k) (.slice da DL.length dc) av ∧ wr.ownsRow w.heap.size 54 2 (.slice ra2 AL.length rc2) AL.length (aQc AL)) (fun _ iv _ => e.attrs.length - (intOf iv).toNat)
       case atStart => exact ⟨0, LK.2, _, Nat.zero_le _, rfl, rfl, by simp [okM], F7.out, O7.out⟩
       case round =>
        obtain ⟨k, bk, av, hk, rfl, rfl, hbk, hF, hO⟩ := hrel
        have HF := aQ0 hF
        have HO := aQ0 hO
        have HBK := aQ0 hbk
        clear hF hO hbk F7 O7
        obtain ⟨y0, y1, y2, y3⟩ := aX0 HF.out.ev
        obtain ⟨aa, ac', rfl, _⟩ := aQr HF.out.nd.attrs
        by_cases hlt : k < e.attrs.length
        · obtain ⟨b, off, ha, hc⟩ := HA.out.grown (Ents.below_grown HF.out.bel)
          obtain rfl := ha (by omega)
          obtain ⟨c1, c2⟩ := hc k hlt
          have hsz := HNA.out _ (List.getElem_mem hlt)
          have hdc := dVo (e := e) (AL := AL) (NM := NM) (DL := DL) hlt
          have hno := dZ1 (e := e) (AL := AL) (NM := NM) (DL := DL) hlt
          have hok := dXm (AL := AL) hlt
          obtain ⟨A, hAe⟩ := nmE (e.attrs[k]'hlt)
          rw [hAe] at c1 c2 hsz hdc hno hok
          have hs2 := fun wx => bQi wx A hsz
          have hs3 := fun wx => aJy A.1 wx hsz
          obtain ⟨D, hD⟩ := nmE (aZ9 A)
          obtain ⟨Y, hY⟩ := nmE (aQo A.1)
          simp only [hD] at hs2 hdc hno hok
          simp only [hY] at hs3
          have hcl := aQk c2
          have HDC := aQ0 hdc
          have HNO := aQ0 hno
          have HOK := aQ0 hok
          have HYY := aQ0 hY
          clear hc ha hAe hsz hD hdc hno hok hY
          go_wp2_with fail
          refine (hs2 _).mono ?_
          rintro en w8 ⟨rfl, hb8⟩
          have F8 := aQ0 (HF.out.below hb8)
          have O8 := aQ0 (aQ4 HO.out (fun k hk => hb8.block _ (HO.out.lt k hk).2))
          have d1 := aQ2 (hb8.block _ (aQk c1)) c1
          have d2 := aQ2 (hb8.block _ hcl) c2
          clear hb8 hs2 c1 c2 y0 y1 y2 y3 hcl HF HO
          obtain ⟨y0, y1, y2, y3⟩ := aX0 F8.out.ev
          cases hy : D.2 with
          | true =>
           have HNX := aQ0 (HDC.out hy)
           have HOX : Hid (bk = (LK.2 && okM AL (e.attrs.take (k + 1)))) := aQ0 (by rw [HOK.out, hy, Bool.true_or, Bool.and_true]; exact HBK.out)
           clear HDC HNO HOK HBK
           go_wp2
           go_roundw
           case rel => exact ⟨k + 1, bk, _, by omega, by go_num, rfl, HOX.out, by rw [HNX.out]; exact F8.out, O8.out⟩
           case measure => simp [intOf]; omega
          | false =>
           have HNX := aQ0 (HNO.out hy)
           have HOX := aQ0 (show okM AL (e.attrs.take (k + 1)) = (okM AL (e.attrs.take k) && aWt AL A) by rw [HOK.out, hy, Bool.false_or])
           clear HDC HNO HOK
           obtain ⟨W9, hW9⟩ := nmE (w8.alloc (.cells #[.string ⟨#[]⟩, .string ⟨#[]⟩, .string ⟨#[]⟩, .string A.2] 30))
           have hb9 : Below w8.heap.size w8 W9 := by rw [← hW9]; exact bAl
           have B9 := aQ0 hb9
           have hx9 : W9.heap[w8.heap.size]? = some (.cells #[.string ⟨#[]⟩, .string ⟨#[]⟩, .string ⟨#[]⟩, .string A.2] 30) := by rw [← hW9]; exact heap_alloc_new _ _
           have HX9 := aQ0 hx9
           have k1 := aQ2 (hb9.block _ (aQk d1)) d1
           obtain ⟨v0, v1, v2, v3⟩ := aX0 (F8.out.below hb9).ev
           clear hb9 hx9
           go_wp2_with fail
           refine (hs3 _).mono ?_
           rintro en w10 ⟨rfl, hb10⟩
           have B10 := aQ0 (B9.out.trans (hb10.mono B9.out.size))
           have hx10 := (hb10.block _ (gLt HX9.out)).trans HX9.out
           obtain ⟨t0, t1, t2, t3, p0, p1, p2⟩ := cZy hx10
           obtain ⟨W11, hW11⟩ := nmE ((w10.setCell ⟨w8.heap.size, 0, none⟩ (.string Y.1)).setCell ⟨w8.heap.size, 1, none⟩ (.string Y.2.1))
           have B11 : Hid (Below w8.heap.size w8 W11) := aQ0 (by rw [← hW11]; exact (B10.out.setCell (Nat.le_refl _) _).setCell (Nat.le_refl _) _)
           have hx11 : W11.heap[w8.heap.size]? = some (.cells #[.string Y.1, .string Y.2.1, .string ⟨#[]⟩, .string A.2] 30) := by
            rw [← hW11, heap_setCell_same _ _ _ _ _ _ (heap_setCell_same _ _ _ _ _ _ hx10)]; rfl
           have HX11 := aQ0 hx11
           obtain ⟨s0, s1, s2, s3, e0, e1, e2⟩ := cZy hx11
           have F11 := aQ0 (F8.out.below B11.out)
           have O11 := aQ0 (aQ4 O8.out (fun k hk => B11.out.block _ (O8.out.lt k hk).2))
           have hatl : (mA e AL NM DL k).attrs.length ≤ 60 := by
            have : (mA e AL NM DL k).attrs.length ≤ (e.attrs.take k).length := List.length_filterMap_le _ _
            rw [List.length_take] at this; omega
           have hmx : (mA e AL NM DL k).attrs.length + 1 ≤ maxLen := by unfold maxLen; omega
           have hmy : ((mA e AL NM DL k).attrs.length + 1) * 64 ≤ 140737488355328 := by omega
           have hw8 := F8.out.bel.size
           clear hs3 hb10 hx10 HX9 B9 v0 v1 v2 v3 y0 y1 y2 y3 hx11
           cases hemp : Y.1.toList.isEmpty with
           | true =>
            have hOT : Hid (bXr AL A = ⟨Y.1, Y.2.1, ⟨#[]⟩, A.2⟩ ∧ aWt AL A = true) := aQ0 (by unfold bXr aWt empB; rw [HYY.out, hemp]; exact ⟨rfl, rfl⟩)
            obtain ⟨n5, n6, n7, n8⟩ := aZz F11.out.nd.box
            have hone : ∀ u ∈ [Value.string Y.1, .string Y.2.1, .string ⟨#[]⟩, .string A.2], u.oneCell' = true := by intro u hu; simp at hu; rcases hu with rfl | rfl | rfl | rfl <;> rfl
            have hmz : ∀ o, w.heap.size ≤ (W11.alloc o).heap.size := by intro o; have := B11.out.size; simp; omega
            go_wp2_with (at_builtin; refine wpList_append_own _ rfl _ _ 32 rfl w.heap.size 30 j0 (.agg #[.string ⟨#[]⟩, .string ⟨#[]⟩, .string ⟨#[]⟩, .string ⟨#[]⟩]) 4 64 underlying32 hj hy0 hy1 hy2 rfl (by decide) _ _ _ rfl (aYe F11.out.nd.attrs) ⟨_, 0, none⟩ 1 1 [.string Y.1, .string Y.2.1, .string ⟨#[]⟩, .string A.2] rfl rfl (aVr _ _ _) hone hmx hmy (hmz _) ?_; intro v' wa hown' hgrow _; obtain ⟨xo, xc, rfl, _⟩ := aQr hown'; obtain ⟨q0, q1, q2, q3⟩ := F11.out.mid6 _ hgrow; obtain ⟨FX', OX'⟩ := F11.out.attr _ ⟨Y.1, Y.2.1, ⟨#[]⟩, A.2⟩ hown' hgrow; have FX := aQ0 FX'; have OX := aQ0 (OX' O11.out); clear hown' hgrow FX' OX')
            go_roundw
            case rel => exact ⟨k + 1, bk, _, by omega, by go_num, rfl, by rw [HOX.out, hOT.out.2, Bool.and_true]; exact HBK.out, by rw [HNX.out, hOT.out.1]; exact FX.out, OX.out⟩
            case measure => simp [intOf]; omega
           | false =>
            obtain ⟨LQ, hLQ⟩ := nmE (aWv AL Y.1)
            have hOT : Hid (bXr AL A = ⟨Y.1, Y.2.1, LQ.1, A.2⟩ ∧ aWt AL A = LQ.2) := aQ0 (by unfold bXr aWt empB; rw [HYY.out, hemp, hLQ]; exact ⟨rfl, rfl⟩)
            have hlq := bJl W11 ra2 _ rc2 AL rfl (by
             obtain ⟨x, y, hxy, hE⟩ := aWh O11.out
             rw [(Value.slice.inj hxy).1]
             exact hE) (by omega) Y.1
            rw [hLQ] at hlq
            clear hLQ
            go_wp2_with fail
            refine hlq.mono ?_
            rintro en w12 ⟨rfl, hb12⟩
            have B12 := aQ0 (B11.out.trans (hb12.mono B11.out.size))
            have hx12 := (hb12.block _ (gLt HX11.out)).trans HX11.out
            clear s0 s1 s2 s3 e0 e1 e2
            obtain ⟨s0, s1, s2, s3, e0, e1, e2⟩ := cZy hx12
            obtain ⟨W13, hW13⟩ := nmE (w12.setCell ⟨w8.heap.size, 2, none⟩ (.string LQ.1))
            have B13 : Hid (Below w8.heap.size w8 W13) := aQ0 (by rw [← hW13]; exact B12.out.setCell (Nat.le_refl _) _)
            have hx13 : W13.heap[w8.heap.size]? = some (.cells #[.string Y.1, .string Y.2.1, .string LQ.1, .string A.2] 30) := by
             rw [← hW13, heap_setCell_same _ _ _ _ _ _ hx12]; rfl
            obtain ⟨i0', i1, i2, i3, _, _, _⟩ := cZy hx13
            have F13 := aQ0 (F8.out.below B13.out)
            have O13 := aQ0 (aQ4 O8.out (fun k hk => B13.out.block _ (O8.out.lt k hk).2))
            obtain ⟨n5, n6, n7, n8⟩ := aZz F13.out.nd.box
            have hone : ∀ u ∈ [Value.string Y.1, .string Y.2.1, .string LQ.1, .string A.2], u.oneCell' = true := by intro u hu; simp at hu; rcases hu with rfl | rfl | rfl | rfl <;> rfl
            have hmz : ∀ o, w.heap.size ≤ (W13.alloc o).heap.size := by intro o; have := B13.out.size; simp; omega
            clear hlq hb12 hx12 hx13
            cases bk
            all_goals
             go_wp2_with (at_builtin; refine wpList_append_own _ rfl _ _ 32 rfl w.heap.size 30 j0 (.agg #[.string ⟨#[]⟩, .string ⟨#[]⟩, .string ⟨#[]⟩, .string ⟨#[]⟩]) 4 64 underlying32 hj hy0 hy1 hy2 rfl (by decide) _ _ _ rfl (aYe F13.out.nd.attrs) ⟨_, 0, none⟩ 1 1 [.string Y.1, .string Y.2.1, .string LQ.1, .string A.2] rfl rfl (aVr _ _ _) hone hmx hmy (hmz _) ?_; intro v' wa hown' hgrow _; obtain ⟨xo, xc, rfl, _⟩ := aQr hown'; obtain ⟨q0, q1, q2, q3⟩ := F13.out.mid6 _ hgrow; obtain ⟨FX', OX'⟩ := F13.out.attr _ ⟨Y.1, Y.2.1, LQ.1, A.2⟩ hown' hgrow; have FX := aQ0 FX'; have OX := aQ0 (OX' O13.out); clear hown' hgrow FX' OX')
             go_roundw
             case rel => exact ⟨k + 1, _, _, by omega, by go_num, rfl, by rw [HOX.out, hOT.out.2, ← Bool.and_assoc, ← HBK.out]; simp, by rw [HNX.out, hOT.out.1]; exact FX.out, OX.out⟩
             case measure => simp [intOf]; omega
        · obtain rfl : k = e.attrs.length := by omega
          have hmA : mA e AL NM DL e.attrs.length = ⟨e.kind, NM, DL, aV4 AL e.attrs, ⟨#[]⟩⟩ := by unfold mA; rw [List.take_of_length_le (Nat.le_refl _)]
          have hbk2 : bk = (LK.2 && okM AL e.attrs) := by rw [HBK.out, List.take_of_length_le (Nat.le_refl _)]
          obtain ⟨L, hL⟩ := nmE (aV4 AL e.attrs)
          rw [hmA, hL] at HF
          have hLl : L.length ≤ 60 := by rw [← hL]; exact Nat.le_trans (List.length_filterMap_le _ _) hl
          have hX2 : X = if bk = false then .error 5 else if ((List.range L.length).any fun i => (List.range i).any fun k => aKw L i k) = true then .error 6 else .ok ⟨e.kind, NM, DL, L, ⟨#[]⟩⟩ := by
           rw [← HX.out]
           unfold bQq
           rw [if_neg (by rw [HN.out]; decide), HDL.out, HAL.out, HZ.out]
           simp only
           rw [HLK.out, HNM.out, hL, hbk2]
          have HX2 := aQ0 hX2
          clear hmA hbk2 hL hX2 HBK
          have G0 : Hid (MsF w wr nb rb e ao ac ⟨e.kind, NM, DL, L, ⟨#[]⟩⟩ (.slice da DL.length dc) (.slice aa L.length ac')) := HF
          clear HF
          cases bk with
          | false =>
           obtain rfl : X = .error 5 := by rw [HX2.out, if_pos rfl]
           obtain ⟨r0, r1, r2, r3, r4, r5, r6, r7, f0, f1, f2, f3, f4, f5, f6, f7⟩ := aX3 G0.out.res
           obtain ⟨z0, z1, z2, z3, z4, z5, z6, z7⟩ := aZy G0.out.nd.box
           simp only at z0 z1 z2 z3 z4 z7
           go_wp2
           refine bodyPost_ret (v := .tuple #[.agg (aQb ⟨e.kind, NM, DL, L, ⟨#[]⟩⟩ (.slice da DL.length dc) (.slice aa L.length ac')), .slice ra2 AL.length rc2, .int .i64 5]) (by simp [results, results32, go_sem, r0, r1, r2, r3, r4, r5, r6, r7, aQb]) rfl (HPO.out _ _ ⟨_, _, _, _, _, _, rfl, ⟨_, _, _, rfl⟩, ⟨_, _, _, rfl⟩, ?_⟩)
           exact dXa G0.out.bel G0.out.r0 _ _ _ _ _ _ _ _
          | true =>
           have HX3 : Hid (X = if ((List.range L.length).any fun i => (List.range i).any fun k => aKw L i k) = true then .error 6 else .ok ⟨e.kind, NM, DL, L, ⟨#[]⟩⟩) := aQ0 (by rw [HX2.out, if_neg (by simp)])
           clear HX2
           go_wp2_with fail
           clear y0 y1 y2 y3
           go_loopw [23] (fun iv wr => ∃ (i : Nat), i ≤ L.length ∧ iv = .int .i64 i ∧ ((List.range i).any fun i => (List.range i).any fun k => aKw L i k) = false ∧ MsF w wr nb rb e ao ac ⟨e.kind, NM, DL, L, ⟨#[]⟩⟩ (.slice da DL.length dc) (.slice aa L.length ac') ∧ wr.ownsRow w.heap.size 54 2 (.slice ra2 AL.length rc2) AL.length (aQc AL)) (fun iv _ => L.length - (intOf iv).toNat)
           case atStart => exact ⟨0, Nat.zero_le _, rfl, rfl, G0.out, HO.out⟩
           case round =>
            obtain ⟨i, hi, rfl, hno, hF, hO⟩ := hrel
            clear G0 HO
            have G1 := aQ0 hF
            have Q1 := aQ0 hO
            have HNO := aQ0 hno
            clear hF hO hno
            obtain ⟨n5, n6, n7, n8⟩ := aZz G1.out.nd.box
            by_cases hil : i < L.length
            · go_wp2_with fail
              clear n5 n6 n7 n8
              go_loopw [24] (fun kv wr => ∃ (k : Nat), k ≤ i ∧ kv = .int .i64 k ∧ ((List.range k).any fun k => aKw L i k) = false ∧ MsF w wr nb rb e ao ac ⟨e.kind, NM, DL, L, ⟨#[]⟩⟩ (.slice da DL.length dc) (.slice aa L.length ac') ∧ wr.ownsRow w.heap.size 54 2 (.slice ra2 AL.length rc2) AL.length (aQc AL)) (fun kv _ => i - (intOf kv).toNat)
              case atStart => exact ⟨0, Nat.zero_le _, rfl, rfl, G1.out, Q1.out⟩
              case round =>
               obtain ⟨k, hk, rfl, hno, hF, hO⟩ := hrel
               clear G1 Q1
               have G2 := aQ0 hF
               have Q2 := aQ0 hO
               have HNK := aQ0 hno
               clear hF hO hno
               by_cases hki : k < i
               · obtain ⟨n5, n6, n7, n8⟩ := aZz G2.out.nd.box
                 have hNm : ∃ b : Nat, aa = some ⟨b, 0, none⟩ ∧ ∀ (j : Nat) (hj : j < L.length), wr.cell? ⟨b, j * 4 + 1, none⟩ = some (.string (L[j]'hj).loc) ∧ wr.cell? ⟨b, j * 4 + 2, none⟩ = some (.string (L[j]'hj).spc) := by
                  obtain ⟨x, y, hxy, b, hb, hc⟩ := cQx G2.out.nd.attrs
                  rw [(Value.slice.inj hxy).1]
                  exact ⟨b, hb (by show 0 < L.length; omega), fun j hj => ⟨(hc j hj).2.1, (hc j hj).2.2.1⟩⟩
                 obtain ⟨b, rfl, hcc⟩ := hNm
                 have hkl : k < L.length := by omega
                 obtain ⟨l1, s1⟩ := hcc k hkl
                 obtain ⟨l2, s2⟩ := hcc i hil
                 have htw : aKw L i k = (aQx (L[k]'hkl).spc (L[i]'hil).spc && aQx (L[k]'hkl).loc (L[i]'hil).loc) := by
                  unfold aKw
                  rw [List.getD_eq_getElem?_getD, List.getD_eq_getElem?_getD, List.getElem?_eq_getElem hkl, List.getElem?_eq_getElem hil]; rfl
                 obtain ⟨U, hU⟩ := nmE (L[k]'hkl)
                 obtain ⟨V, hV⟩ := nmE (L[i]'hil)
                 rw [hU] at l1 s1 htw
                 rw [hV] at l2 s2 htw
                 have HTW := aQ0 htw
                 have G2d := aQ0 (fun q => G2.out.below (aV0 (Below.refl _ _) q))
                 clear hcc htw hU hV
                 cases hs1 : aQx U.spc V.spc with
                 | false =>
                  have hs1' : (U.spc.toList == V.spc.toList) = false := hs1
                  have HTF : Hid (aKw L i k = false) := aQ0 (by rw [HTW.out, hs1]; rfl)
                  clear hs1
                  go_wp2_with fail
                  go_quiet (fail)
                  go_wp2
                  go_roundw
                  case rel => exact ⟨k + 1, by omega, by go_num, by rw [bVa, HNK.out, HTF.out]; rfl, G2d.out _, cZq Q2.out _⟩
                  case measure => simp [intOf]; omega
                 | true =>
                  have hs1' : (U.spc.toList == V.spc.toList) = true := hs1
                  cases hs2 : aQx U.loc V.loc with
                  | false =>
                   have hs2' : (U.loc.toList == V.loc.toList) = false := hs2
                   have HTF : Hid (aKw L i k = false) := aQ0 (by rw [HTW.out, hs1, hs2]; rfl)
                   clear hs1 hs2
                   go_wp2_with fail
                   go_quiet (fail)
                   go_wp2
                   go_roundw
                   case rel => exact ⟨k + 1, by omega, by go_num, by rw [bVa, HNK.out, HTF.out]; rfl, G2d.out _, cZq Q2.out _⟩
                   case measure => simp [intOf]; omega
                  | true =>
                   have hs2' : (U.loc.toList == V.loc.toList) = true := hs2
                   obtain rfl : X = .error 6 := by
                    rw [HX3.out, if_pos (dJq _ hil (dJq _ hki (by rw [HTW.out, hs1, hs2]; rfl)))]
                   clear hs1 hs2
                   obtain ⟨r0, r1, r2, r3, r4, r5, r6, r7, f0, f1, f2, f3, f4, f5, f6, f7⟩ := aX3 G2.out.res
                   obtain ⟨z0, z1, z2, z3, z4, z5, z6, z7⟩ := aZy G2.out.nd.box
                   simp only at z0 z1 z2 z3 z4 z7
                   go_wp2_with fail
                   go_quiet (fail)
                   go_wp2
                   refine bodyPost_ret (v := .tuple #[.agg (aQb ⟨e.kind, NM, DL, L, ⟨#[]⟩⟩ (.slice da DL.length dc) (.slice (some ⟨b, 0, none⟩) L.length ac')), .slice ra2 AL.length rc2, .int .i64 6]) (by simp [results, results32, go_sem, r0, r1, r2, r3, r4, r5, r6, r7, aQb]) rfl (HPO.out _ _ ⟨_, _, _, _, _, _, rfl, ⟨_, _, _, rfl⟩, ⟨_, _, _, rfl⟩, ?_⟩)
                   exact dXa (G2d.out _).bel (G2d.out 0).r0 _ _ _ _ _ _ _ _
               · obtain rfl : k = i := by omega
                 have HNI : Hid (((List.range (k + 1)).any fun i => (List.range i).any fun k => aKw L i k) = false) := aQ0 (by rw [bVa, HNO.out, HNK.out]; rfl)
                 go_wp2
                 go_roundw
                 case rel => exact ⟨k + 1, by omega, by go_num, HNI.out, G2.out, Q2.out⟩
                 case measure => simp [intOf]; omega
            · obtain rfl : i = L.length := by omega
              obtain rfl : X = .ok ⟨e.kind, NM, DL, L, ⟨#[]⟩⟩ := by rw [HX3.out, if_neg (by rw [HNO.out]; simp)]
              obtain ⟨r0, r1, r2, r3, r4, r5, r6, r7, f0, f1, f2, f3, f4, f5, f6, f7⟩ := aX3 G1.out.res
              obtain ⟨z0, z1, z2, z3, z4, z5, z6, z7⟩ := aZy G1.out.nd.box
              simp only at z0 z1 z2 z3 z4 z7
              go_wp2
              refine bodyPost_ret (v := .tuple #[.agg (aQb ⟨e.kind, NM, DL, L, ⟨#[]⟩⟩ (.slice da DL.length dc) (.slice aa L.length ac')), .slice ra2 AL.length rc2, .int .i64 0]) (by simp [results, results32, go_sem, r0, r1, r2, r3, r4, r5, r6, r7, aQb]) rfl (HPO.out _ _ ⟨_, _, _, rfl, ?_, ?_, ?_, ?_⟩)
              · exact (cVg G1.out.res _ _ _ _ _ _ _ _) G1.out.nd.decls (by decide)
              · exact (cVg G1.out.res _ _ _ _ _ _ _ _) G1.out.nd.attrs (by decide)
              · rw [show around ++ (⟨e.kind, NM, DL, L, ⟨#[]⟩⟩ : Nd).decls = AL from HAL.out]
                exact (cVg G1.out.res _ _ _ _ _ _ _ _) Q1.out (by decide)
              · exact dXa G1.out.bel G1.out.r0 _ _ _ _ _ _ _ _
 · obtain rfl : N = 3 := by
    rcases nm_03 e with h | h
    · exact absurd (HN.out.symm.trans h) hN0
    · exact HN.out.symm.trans h
   obtain rfl : X = .error 3 := by rw [← HX.out]; unfold bQq; rw [if_pos (by rw [HN.out]; decide)]
   obtain ⟨r0, r1, r2, r3, r4, r5, r6, r7, f0, f1, f2, f3, f4, f5, f6, f7⟩ := aX3 F4.out.res
   obtain ⟨z0, z1, z2, z3, z4, z5, z6, z7⟩ := aZy F4.out.nd.box
   go_wp2
   refine bodyPost_ret (v := .tuple #[.agg (aQb (m0 e 0) (.slice none 0 0) (.slice none 0 0)), .slice (some ra) around.length rc, .int .i64 3]) (by simp [results, results32, go_sem, r0, r1, r2, r3, r4, r5, r6, r7, aQb]) rfl (HPO.out _ _ ⟨_, _, _, _, _, _, rfl, ⟨_, _, _, rfl⟩, ⟨_, _, _, rfl⟩, ?_⟩)
   exact dXa F4.out.bel F4.out.r0 _ _ _ _ _ _ _ _
end Go.Proofs.YtocnfoeaikiecaaGreatDoor
