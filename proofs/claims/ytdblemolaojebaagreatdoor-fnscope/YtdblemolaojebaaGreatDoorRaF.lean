import Derived.Test.YtdblemolaojebaaGreatDoorRaE
set_option maxRecDepth 100000
set_option maxHeartbeats 4000000
set_option linter.unusedVariables false
set_option linter.unusedSectionVars false
namespace Go.Proofs.YtdblemolaojebaaGreatDoor
open Go.RowKit Lists Plain10 Plain11 Plain23 PlainR Go.Lib Ents
variable [Inhabited aJ5]
theorem blank_any (x : Nat) (hx : x ≤ 1114111) (W : World) : Calls Tryz.prog 109 #[.int .i32 (x : Int)] W fun e w' => e = .returned (.bool (aWy x)) ∧ ∃ q, w' = W.drewN q := by
 have hd : aWy x = ((x : Int) == 32) := by
  unfold aWy
  by_cases h : x = 32
  · subst h; rfl
  · rw [show (x == 32) = false by simpa using h, show ((x : Int) == 32) = false by simp; omega]
 rw [hd]
 go_enter Tryz.func109, Tryz.ntmps109
 go_wp2
 go_ret
 exact ⟨rfl, 0, rfl⟩
theorem aY2 (p : Nat → Bool) (s : ByteArray) : ∀ (f pos : Nat) (st : Option Nat) (acc : List (Nat × Nat)), (spansFromP p s f pos st acc).1.length ≤ acc.length + f
 | 0, pos, st, acc => Nat.le_refl _
 | f + 1, pos, st, acc => by
  unfold spansFromP
  split
  · split
    · cases st with
      | some a =>
       have := aY2 p s f (pos + (Utf8.decode s pos).2) none (acc ++ [(a, pos)])
       rw [List.length_append] at this
       simp only [List.length_cons, List.length_nil] at this
       show (spansFromP p s f _ none (acc ++ [(a, pos)])).1.length ≤ _
       omega
      | none =>
       have := aY2 p s f (pos + (Utf8.decode s pos).2) none acc
       show (spansFromP p s f _ none acc).1.length ≤ _
       omega
    · cases st with
      | some a =>
       have := aY2 p s f (pos + (Utf8.decode s pos).2) (some a) acc
       show (spansFromP p s f _ (some a) acc).1.length ≤ _
       omega
      | none =>
       have := aY2 p s f (pos + (Utf8.decode s pos).2) (some pos) acc
       show (spansFromP p s f _ (some pos) acc).1.length ≤ _
       omega
  · show acc.length ≤ _
    omega
theorem bVv (p : Nat → Bool) (s : ByteArray) : (goFieldsP p s).length ≤ s.size + 1 := by
 unfold goFieldsP spansOfP closeSpans
 rw [List.length_map]
 have := aY2 p s s.size 0 none []
 simp only [List.length_nil] at this
 split
 · rw [List.length_append]
   simp only [List.length_cons, List.length_nil]
   omega
 · omega
theorem fields_each (p : Nat → Bool) (s : ByteArray) : ∀ x ∈ goFieldsP p s, x.size ≤ s.size := by
 intro x hx
 unfold goFieldsP at hx
 rw [List.mem_map] at hx
 obtain ⟨y, _, rfl⟩ := hx
 rw [ByteArray.size_extract]
 omega
theorem lens_le : ∀ (l : List (List UInt8)) (n : Nat), (∀ x ∈ l, x.length ≤ n) → Lib.lens l ≤ l.length * n
 | [], n, h => Nat.zero_le _
 | x :: l, n, h => by
  have h1 := lens_le l n (fun y hy => h y (List.mem_cons_of_mem _ hy))
  have h2 := h x (List.mem_cons_self ..)
  unfold Lib.lens at h1 ⊢
  rw [List.map_cons, List.sum_cons, List.length_cons, Nat.succ_mul]
  omega
theorem join_le (l : List (List UInt8)) (n : Nat) (h : ∀ x ∈ l, x.length ≤ n) : (Lib.join l [32]).length ≤ l.length + l.length * n := by
 cases l with
 | nil => simp [Lib.join_nil]
 | cons x r =>
  rw [Lib.join_length]
  have := lens_le (x :: r) n h
  simp only [List.length_cons, List.length_nil] at this ⊢
  omega
theorem words_le {s : ByteArray} (hs : s.size ≤ 1000000) : (Lib.join ((goFieldsP aWy s).map (·.data.toList)) [32]).length ≤ 140737488355328 := by
 have h1 := join_le ((goFieldsP aWy s).map (·.data.toList)) 1000000 (fun x hx => by
  rw [List.mem_map] at hx
  obtain ⟨y, hy, rfl⟩ := hx
  rw [Array.length_toList]
  exact Nat.le_trans (fields_each _ _ y hy) hs)
 rw [List.length_map] at h1
 have h2 := bVv aWy s
 have h3 : (goFieldsP aWy s).length * 1000000 ≤ 1000001 * 1000000 := Nat.mul_le_mul_right _ (by omega)
 omega
def VaSays (w0 W : World) (r mb : Nat) (de da : Value) (R : Rs × Except Int ByteArray) (e : Ending) (W' : World) : Prop :=
 match R.2 with
 | .ok v => e = .returned (.string v) ∧ Goes w0 W r mb none R.1 de da W' ∧ Low w0.heap.size W' r
 | .error c => Fell w0 r R.1 c e W'
theorem bVf {st : Rs} {t : ByteArray} {words : Bool} {σ : Sg} {c : Int} (h : aX5 true (PlainR.valE aVq) (t.size + 1) t 0 (st, []) = (σ, some c)) : aK9 st t words = (σ.1, .error c) := by
 unfold aK9; rw [h]
theorem bZe {st : Rs} {t : ByteArray} {words : Bool} {σ : Sg} (h : aX5 true (PlainR.valE aVq) (t.size + 1) t 0 (st, []) = (σ, none)) : aK9 st t words = (σ.1, .ok (if words = true then wordsT ⟨σ.2.toArray⟩ else ⟨σ.2.toArray⟩)) := by
 unfold aK9; rw [h]
theorem value_any {w0 W : World} {r mb : Nat} {st : Rs} {de da ev tx : Value} {t : ByteArray} {words : Bool} {D : Dt} {m : Int} (hctx : Ctx w0 m) (h : Rm w0 W r mb st de da ev tx) (ht : t.size ≤ 4000) (hv : VB t 0) (hD : DOk D) (hdt : st.dt = D) (hsp : st.spent ≤ 4000) (hwl : st.wi.length ≤ 40000) (hlo : Low w0.heap.size W r) (hpot : st.txt.length + st.evs.length + 8 * t.size + 8 * (4000 - st.spent) ≤ 1000000) :
 Calls Tryz.prog 77 #[.pointer (some ⟨r, 0, none⟩), .string t, .bool words] W fun e W' => VaSays w0 W r mb de da (aK9 st t words) e W' := by
 obtain ⟨tb, htb⟩ : ∃ tb, W.heap.size = tb := ⟨_, rfl⟩
 obtain ⟨W1, hW1⟩ : ∃ W1, W.alloc (.cells #[.pointer (some ⟨r, 0, none⟩), .slice none 0 0] 203) = W1 := ⟨_, rfl⟩
 have HW1 := aQ0 hW1
 have hB : Below W.heap.size W W1 := by rw [← hW1]; exact bAl
 have I1 : Inv w0 W1 r mb tb de da true (st, []) := ⟨ev, tx, h.below hB, fun _ => ⟨.slice none 0 0, by rw [← hW1, ← htb]; exact heap_alloc_new _ _, World.ownsRow_nil _ _ _ _, fun k hk => by
  obtain ⟨cs, hc, _⟩ := aQ4 h.txt hk
  have := (gLt hc)
  omega, by have := h.bel.size; omega, hlo.below h.lt hB⟩, fun hf => by cases hf⟩
 have F1 := aQ0 (Fr.below (r := r) (mb := mb) (g := none) hB)
 have htl : tb < W1.heap.size := by
  obtain ⟨_, _, _, hvt, _⟩ := I1
  obtain ⟨vv, hb, _⟩ := hvt rfl
  exact (gLt hb)
 have hpo : pot ((st, []) : Sg) + 8 * t.size + 8 * (4000 - st.spent) ≤ 1000000 := by unfold pot; simp only [List.length_nil]; omega
 have hcall := bZx hctx I1 ht hv hD (bZg hD aVq) hdt hsp (by simp only; omega) (show _ ≤ bVm true from hpo) (fun h0 => bVh hctx hD aVq st.spent st.wi.length st.deep (by unfold aVq; omega) (by unfold aVq; omega)) (fun _ => htl)
 have hok := aVy (v := true) (bZg hD aVq) hD (s := t) (t.size + 1) 0 (st, []) (Nat.zero_le _) hdt hsp
 obtain ⟨R, hR⟩ : ∃ R, aX5 true (PlainR.valE aVq) (t.size + 1) t 0 (st, []) = R := ⟨_, rfl⟩
 rw [hR] at hcall hok
 have HR := aQ0 hR
 have HTB := aQ0 htb
 unfold tkV at hcall
 rw [if_pos rfl] at hcall
 clear hR hW1 hB I1 htl h hctx hv hD hwl hlo
 subst hdt
 go_enter Tryz.func77, Tryz.ntmps77
 go_wp2_with fail
 rw [HW1.out]
 refine hcall.mono ?_
 rintro e w2 hP
 clear hcall
 obtain ⟨σ, oc⟩ := R
 cases oc with
 | some c =>
  obtain ⟨he, hrest⟩ := hP
  unfold aQr at he
  subst he
  go_wp2
  rw [bVf HR.out]
  exact ⟨rfl, rfl, hrest⟩
 | none =>
  obtain ⟨rfl, ⟨ev2, tx2, hR2, hV2, _⟩, hF2⟩ := hP
  obtain ⟨_, _, _, _, hpo2, _⟩ := hok rfl
  have HG := aQ0 (bZe (words := words) HR.out)
  have F2 := aQ0 (F1.out.trans hF2 (fun k hk => .inr (by have := Option.some.inj hk; have := HTB.out; omega)))
  obtain ⟨vv, hb, hrow, _, _, hlo2⟩ := hV2 rfl
  have L2 := aQ0 hlo2
  clear hlo2
  have hcv := bK7 hrow
  obtain ⟨c0, c1, f1⟩ := Vt.cells (w0 := w0) hb
  obtain ⟨X, hX⟩ : ∃ X : ByteArray, (⟨σ.2.toArray⟩ : ByteArray) = X := ⟨_, rfl⟩
  have hXs : X.size ≤ 1000000 := by
   rw [← hX]
   show σ.2.toArray.size ≤ _
   unfold pot at hpo2 hpo
   simp only at hpo2 hpo
   simp
   omega
  simp only at hR2
  rw [hX] at hcv HG
  have R2 := aQ0 hR2
  clear hR2 hV2 hF2 hb hrow hX hpo hpo2 hok
  cases words with
  | false =>
   go_wp2
   go_ret
   rw [HG.out]
   exact ⟨rfl, ⟨_, _, R2.out, F2.out⟩, L2.out⟩
  | true =>
   have hff := fun wx => Tryz.strings_FieldsFunc_runes 109 #[] (fun a w => aQu Tryz.func109 (by kernel_rfl) rfl a w) aWy X wx (by omega) (fun W' x hx _ => blank_any x hx W')
   go_wp2_with fail
   refine (hff _).mono ?_
   rintro e w3 ⟨A, rfl, hA, hrow, hB3⟩
   clear hff
   have hj := Tryz.strings_Join A 0 (goFieldsP aWy X).length (goFieldsP aWy X) ⟨#[32]⟩ w3 (fun j x hx => by
    have hlt := (List.getElem?_eq_some_iff.1 hx).1
    rw [Nat.zero_add, hrow.cellAt j (by omega), List.getElem?_map, hx]
    rfl) (by obtain ⟨cs, hc, _⟩ := aQ4 hrow (k := A) rfl; exact (gLt hc)) (by have := bVv aWy X; omega) (Nat.le_refl _) (words_le hXs)
   go_wp2_with fail
   refine hj.mono ?_
   rintro e w4 ⟨rfl, hB4⟩
   go_wp2
   go_ret
   rw [HG.out]
   exact ⟨rfl, ⟨_, _, (R2.out.below hB3).below hB4, (F2.out.trans (Fr.below (g := none) hB3) (fun k hk => by cases hk)).trans (Fr.below (g := none) hB4) (fun k hk => by cases hk)⟩, (L2.out.below R2.out.lt hB3).below (R2.out.below hB3).lt hB4⟩
open Go.RowKit Lists Plain10 Plain11 Plain23 PlainR Go.Lib Ents
variable [Inhabited aJ5]
structure aK4 (a b : Rs) : Prop where
 evs : a.evs = b.evs
 txt : a.txt = b.txt
 pos : a.pos = b.pos
 deep : a.deep = b.deep
theorem aK4.refl (a : Rs) : aK4 a a := ⟨rfl, rfl, rfl, rfl⟩
theorem aK4.trans {a b c : Rs} (h1 : aK4 a b) (h2 : aK4 b c) : aK4 a c := ⟨h1.evs.trans h2.evs, h1.txt.trans h2.txt, h1.pos.trans h2.pos, h1.deep.trans h2.deep⟩
theorem aV7 {EN : Sg → ByteArray → Sg × Option Int} (hE : ∀ σ tx, aK4 (EN σ tx).1.1 σ.1) {s : ByteArray} : ∀ (n p : Nat) (σ : Sg), aK4 (aX5 true EN n s p σ).1.1 σ.1
 | 0, p, σ => aK4.refl _
 | n + 1, p, σ => by
  unfold aX5
  split
  · exact aK4.refl _
  · split
    · have hpl : ∀ σ', aKf true σ (s.extract p (ampE s p)).data.toList = some σ' → aK4 σ'.1 σ.1 := fun σ' h => by
       unfold aKf at h
       rw [if_pos rfl] at h
       cases hl : aJ7 (s.extract p (ampE s p)).data.toList with
       | none => rw [hl] at h; cases h
       | some x => rw [hl] at h; simp at h; subst h; exact aK4.refl _
      cases hp : aKf true σ (s.extract p (ampE s p)).data.toList with
      | none => exact aK4.refl _
      | some σ' => exact (aV7 hE n _ σ').trans (hpl σ' hp)
    · have hsg : ∀ l, aK4 (aWg true σ l).1 σ.1 := fun l => aK4.refl _
      cases hr : refZ s p with
      | none => exact aK4.refl _
      | some x =>
       obtain ⟨x, q⟩ := x
       cases x with
       | inl c => exact (aV7 hE n q _).trans (hsg _)
       | inr nm =>
        simp only
        cases hg : aW8 nm with
        | some b => exact (aV7 hE n q _).trans (hsg _)
        | none =>
         simp only
         cases he : bQt σ.1.dt σ.1.wi σ.1.spent nm with
         | error c => exact aK4.refl _
         | ok tx =>
          simp only
          have h1 : aK4 (EN (goIn σ nm tx) tx).1.1 σ.1 := (hE (goIn σ nm tx) tx).trans ⟨rfl, rfl, rfl, rfl⟩
          cases hx : EN (goIn σ nm tx) tx with
          | mk σ2 oc =>
           rw [hx] at h1
           cases oc with
           | some c => exact h1
           | none => exact (aV7 hE n q _).trans ((⟨rfl, rfl, rfl, rfl⟩ : aK4 (goOut σ.1.wi σ2).1 σ2.1).trans h1)
theorem bVi : ∀ (f : Nat) (σ : Sg) (tx : ByteArray), aK4 (PlainR.valE f σ tx).1.1 σ.1
 | 0, σ, tx => aK4.refl _
 | f + 1, σ, tx => aV7 (bVi f) _ _ _
structure bVc (st st' : Rs) : Prop where
 alike : aK4 st' st
 dt : st'.dt = st.dt
 wi : st'.wi = st.wi
 sp : st.spent ≤ st'.spent
 sp4 : st'.spent ≤ 4000
theorem bVc.trans {a b c : Rs} (h1 : bVc a b) (h2 : bVc b c) : bVc a c := ⟨h2.alike.trans h1.alike, h2.dt.trans h1.dt, h2.wi.trans h1.wi, Nat.le_trans h1.sp h2.sp, h2.sp4⟩
theorem bK2 {st : Rs} {t : ByteArray} {words : Bool} {v : ByteArray} (hD : DOk st.dt) (hs : st.spent ≤ 4000) (h : (aK9 st t words).2 = .ok v) : bVc st (aK9 st t words).1 := by
 have hal := aV7 (bVi aVq) (s := t) (t.size + 1) 0 (st, [])
 have hok := aVy (v := true) (bZg hD aVq) hD (s := t) (t.size + 1) 0 (st, []) (Nat.zero_le _) rfl hs
 cases hR : aX5 true (PlainR.valE aVq) (t.size + 1) t 0 (st, []) with
 | mk σ oc =>
  rw [hR] at hal hok
  cases oc with
  | some c => rw [bVf hR] at h; cases h
  | none =>
   rw [bZe hR]
   obtain ⟨h1, h2, h3, h4, _⟩ := hok rfl
   exact ⟨hal, h1, h2, h3, h4⟩
structure AOk (D : Dt) : Prop where
 len : D.atts.length ≤ 1048576
 atts : ∀ a ∈ D.atts, a.of.size ≤ 1048576 ∧ a.nm.size ≤ 1048576 ∧ a.val.size ≤ 4000 ∧ VB a.val 0
theorem own_same {W : World} {B B' : Nat} {e : TypeId} {size : Nat} {v : Value} {n n' : Nat} {xs ys : List Value} (h : W.ownsRow B e size v n xs) (h' : W.ownsRow B' e size v n' ys) : xs = ys := by
 rcases h.2 with ⟨rfl, rfl⟩ | ⟨g, cap, cur, rfl, _, hc, _, _, _, hx⟩
 · rcases h'.2 with ⟨_, rfl⟩ | ⟨g, cap, cur, he, _⟩
   · have h1 := h.1
     have h2 := h'.1
     rw [Nat.zero_mul] at h1 h2
     rw [List.eq_nil_of_length_eq_zero h1, List.eq_nil_of_length_eq_zero h2]
   · cases he
 · rcases h'.2 with ⟨he, _⟩ | ⟨g', cap', cur', he, _, hc', _, _, _, hx'⟩
   · cases he
   · cases he
     rw [hc] at hc'
     cases hc'
     rw [← hx, ← hx']
theorem ev_mem {l : List (Ev × Value)} {x : Ev × Value} (h : x ∈ l) : x.2 ∈ aXx l := by
 induction l with
 | nil => cases h
 | cons y l ih =>
  rcases List.mem_cons.1 h with rfl | h
  · simp [aXx]
  · have := ih h
    simp [aXx, this]
theorem Rm.newRow {w0 W Wa : World} {r mb : Nat} {st : Rs} {de da ev tx : Value} (h : Rm w0 W r mb st de da ev tx) (hlo : Low w0.heap.size W r) {v : Value} {n : Nat} {xs : List Value} (hr : W.ownsRow (default : aJ5).n 148 2 v n xs) (h0 : w0.heap.size ≤ (default : aJ5).n) (hg : W.grownBy Wa v.ownBlock) : Rm w0 Wa r mb st de da ev tx ∧ Low w0.heap.size Wa r := by
 have hk : ∀ {k : Nat} {cs : Array Value} {t : TypeId}, W.heap[k]? = some (.cells cs t) → t ≠ 148 → Wa.heap[k]? = W.heap[k]? := fun hc ht => (aVb hr hg hc ht).trans hc.symm
 have hbel := h.bel.grown hg h.bel.size (fun k hk => Nat.le_trans h0 (aQ4 hr hk).choose_spec.2)
 have hm : Wa.heap[mb]? = W.heap[mb]? := hg.block _ h.map.lt (fun ek => by obtain ⟨cs', hc', _⟩ := aQ4 hr ek.symm; exact aJb hc' h.map rfl)
 have hevs : aVp Wa w0.heap.size ev st.evs := by
  obtain ⟨ev', n', ys, hc2, hrow, hlow⟩ := hlo
  rw [h.cells.1.2.2.1] at hc2
  cases hc2
  obtain ⟨vs, hl, hrow', ha⟩ := h.evs
  have he := own_same hrow hrow'
  subst he
  refine ⟨vs, hl, aQj hrow' (fun k hk' => by obtain ⟨cs, hc, _⟩ := aQ4 hrow' hk'; exact hk hc (by decide)), fun x hx => aQj (ha x hx) (fun k hk' => ?_)⟩
  obtain ⟨cs, hc, _⟩ := aQ4 (ha x hx) hk'
  refine hg.block k (gLt hc) (fun ek => ?_)
  have h1 := hlow x.2 (ev_mem hx) k hk'
  have h2 := (aQ4 hr ek.symm).choose_spec.2
  omega
 have R1 : Rm w0 Wa r mb st de da ev tx := h.re ((hk h.box (by decide)).trans h.box) (fun k cs t hc ht => hk hc (by rcases ht with rfl | rfl <;> decide)) hm hbel hevs (aQj h.txt (fun k hk' => by obtain ⟨cs, hc, _⟩ := aQ4 h.txt hk'; exact hk hc (by decide))) rfl rfl
 exact ⟨R1, hlo.rm h R1 (fun k cs hc => hk hc (by decide))⟩
end Go.Proofs.YtdblemolaojebaaGreatDoor
