import Derived.Test.YtdblemolaojebaaGreatDoorRaC
set_option maxRecDepth 100000
set_option maxHeartbeats 8000000
set_option linter.unusedVariables false
set_option linter.unusedSectionVars false
namespace Go.Proofs.YtdblemolaojebaaGreatDoor
open Go.RowKit Strs2 Lists PlainR Go.Lib Ents
open Go.Maps
variable [Inhabited aJ5]
theorem Vt.keep {w0 W W' : World} {tb r : Nat} {tx : Value} {acc : List UInt8} (h : Vt w0 W tb r tx acc) (hk : ∀ (k : Nat) (cs : Array Value) (t : TypeId), W.heap[k]? = some (Obj.cells cs t) → t = 203 ∨ t = 5 ∨ t = 66 → W'.heap[k]? = W.heap[k]?) (hc2 : W'.cell? ⟨r, 2, none⟩ = W.cell? ⟨r, 2, none⟩) : Vt w0 W' tb r tx acc := by
 obtain ⟨vv, hb, hr, ht, h0, hlo⟩ := h
 exact ⟨vv, (hk tb _ _ hb (.inl rfl)).trans hb, aQj hr (fun k hk' => by obtain ⟨cs, hc, _⟩ := aQ4 hr hk'; exact hk k cs _ hc (.inr (.inl rfl))), ht, h0, hlo.keep hc2 (fun k cs hc => hk k cs _ hc (.inr (.inr rfl)))⟩
theorem Inv.map {w0 W W' : World} {r mb tb : Nat} {de da : Value} {v : Bool} {σ σ' : Sg} (h : Inv w0 W r mb tb de da v σ) (hR : ∀ ev tx, Rm w0 W r mb σ.1 de da ev tx → Rm w0 W' r mb σ'.1 de da ev tx) (hk : ∀ (k : Nat) (cs : Array Value) (t : TypeId), W.heap[k]? = some (Obj.cells cs t) → t = 203 ∨ t = 5 ∨ t = 66 → W'.heap[k]? = W.heap[k]?) (h2 : σ'.2 = σ.2) : Inv w0 W' r mb tb de da v σ' := by
 obtain ⟨ev, tx, hr, hv, hc⟩ := h
 exact ⟨ev, tx, hR ev tx hr, fun e => by rw [h2]; exact (hv e).keep hk ((hR ev tx hr).cells.1.2.2.1.trans hr.cells.1.2.2.1.symm), fun e => by rw [h2]; exact hc e⟩
theorem Inv.below {w0 W W' : World} {r mb tb : Nat} {de da : Value} {v : Bool} {σ : Sg} (h : Inv w0 W r mb tb de da v σ) (hb : Below W.heap.size W W') : Inv w0 W' r mb tb de da v σ :=
 h.map (fun ev tx hr => hr.below hb) (fun k cs t hc _ => hb.block k (gLt hc)) rfl
def bX2 (w0 W : World) (r mb tb : Nat) (de da : Value) (v : Bool) (R : Sg × Option Int) (e : Ending) (W' : World) : Prop :=
 match R.2 with
 | none => e = .returned (.tuple #[]) ∧ Inv w0 W' r mb tb de da v R.1 ∧ Fr W W' r mb (gv v tb)
 | some c => Fell w0 r R.1.1 c e W'
def aV0 (EN : Sg → ByteArray → Sg × Option Int) (σ : Sg) (nm : ByteArray) : Sg × Option Int :=
 match bQt σ.1.dt σ.1.wi σ.1.spent nm with
 | .error c => (σ, some c)
 | .ok tx =>
  match EN (goIn σ nm tx) tx with
  | (σ2, some c) => (σ2, some c)
  | (σ2, none) => (goOut σ.1.wi σ2, none)
def fnE (v : Bool) : FuncId := if v = true then 199 else 190
def rcv (v : Bool) (tb r : Nat) : Value := if v = true then .pointer (some ⟨tb, 0, none⟩) else .agg #[.pointer (some ⟨r, 0, none⟩)]
theorem mthEV (tb : Addr) (w : World) : (Go.method 424 204 (.pointer (some tb)) "loop.example/g00352/impl.entity").run Tryz.prog w = .ok (199, .pointer (some tb)) w := by kernel_rfl
theorem mthEC (a : Value) (w : World) : (Go.method 424 156 (.agg #[a]) "loop.example/g00352/impl.entity").run Tryz.prog w = .ok (190, .agg #[a]) w := by kernel_rfl
theorem enter_any {w0 W : World} {r mb tb : Nat} {de da : Value} {v : Bool} {σ : Sg} {nm : ByteArray} {EN : Sg → ByteArray → Sg × Option Int} (h : Inv w0 W r mb tb de da v σ) (hn : nm.size ≤ 1048576) (hel : σ.1.dt.ents.length ≤ 1048576) (hez : ∀ e ∈ σ.1.dt.ents, e.1.size ≤ 1048576 ∧ e.2.size ≤ 1048576) (hwl : σ.1.wi.length < 1048576) (hsp : σ.1.spent ≤ 1048576)
 (hwi : ∀ tx, bQt σ.1.dt σ.1.wi σ.1.spent nm = .ok tx → (EN (goIn σ nm tx) tx).2 = none → (EN (goIn σ nm tx) tx).1.1.wi = nm :: σ.1.wi)
 (hEN : ∀ tx Wx, bQt σ.1.dt σ.1.wi σ.1.spent nm = .ok tx → Inv w0 Wx r mb tb de da v (goIn σ nm tx) → Calls Tryz.prog (fnE v) #[rcv v tb r, .string tx] Wx fun e W' => bX2 w0 Wx r mb tb de da v (EN (goIn σ nm tx) tx) e W') :
 Calls Tryz.prog 112 #[.pointer (some ⟨r, 0, none⟩), .string nm, tkV v tb r] W fun e W' => bX2 w0 W r mb tb de da v (aV0 EN σ nm) e W' := by
 obtain ⟨ev, tx, hRm, hVt, hC⟩ := h
 obtain ⟨ae, ce, hde, hEA⟩ := bJl hRm.ents
 obtain ⟨aa, ca, hda, hAA⟩ := aWu hRm.atts
 subst hde hda
 have hent := bKy W ae aa σ.1.dt.ents.length ce σ.1.dt.atts.length ca σ.1.dt.ents nm rfl hel hez hEA
 obtain ⟨E, hE⟩ : ∃ E, entR σ.1.dt.ents nm = E := ⟨_, rfl⟩
 rw [hE] at hent
 have HE := aQ0 hE
 have hEz : E.1.size ≤ 1048576 ∧ E.2.size ≤ 1048576 := by
  rw [← hE]
  unfold entR
  split
  · exact ⟨by decide, by decide⟩
  · cases hf : σ.1.dt.ents.find? (aW6 nm) with
    | none => exact ⟨by decide, by decide⟩
    | some x => exact hez x (List.mem_of_find?_eq_some hf)
 obtain ⟨R, hR⟩ : ∃ R, aV0 EN σ nm = R := ⟨_, rfl⟩
 rw [hR]
 have HR := aQ0 hR
 have RM := aQ0 hRm
 have VT := aQ0 hVt
 have CC := aQ0 hC
 have HEN := aQ0 hEN
 have HWI := aQ0 hwi
 obtain ⟨⟨c0, c1, c2, c3, c4, c5, c6, c7⟩, f0, f1, f2, f3, f4, f5, f7⟩ := hRm.cells
 clear hRm hVt hC hEN hwi hE hR c2 c3 c4 c5 f0 f1 f2 f3 f4 f5
 go_enter Tryz.func112, Tryz.ntmps112
 go_wp2_with fail
 refine hent.mono ?_
 rintro e w1 ⟨rfl, hg1⟩
 obtain ⟨W2, hW2⟩ : ∃ W2, w1.alloc (.cells #[.string E.1, .string E.2] 195) = W2 := ⟨_, rfl⟩
 have HW2 := aQ0 hW2
 have hB2 : Below W.heap.size W W2 := by rw [← hW2]; exact Below.alloc ⟨hg1.os, hg1.tape, hg1.output, hg1.size, fun k hk => hg1.block k hk (by simp)⟩ hg1.size _
 have R2 := aQ0 (RM.out.below hB2)
 have B2 := aQ0 hB2
 have X2 : Hid (W2.heap[w1.heap.size]? = some (.cells #[.string E.1, .string E.2] 195)) := aQ0 (by rw [← hW2]; exact heap_alloc_new _ _)
 obtain ⟨gb, hgb⟩ : ∃ gb, w1.heap.size = gb := ⟨_, rfl⟩
 rw [hgb] at X2
 have x0 : W2.cell? ⟨gb, 0, none⟩ = some (.string E.1) := by simp [World.cell?, X2.out]
 have x1 : W2.cell? ⟨gb, 1, none⟩ = some (.string E.2) := by simp [World.cell?, X2.out]
 clear hent hg1 hW2 hB2 c0 c1 c6 c7 f7
 cases hnm : (E.1.toList == []) with
 | true =>
  have hz : E.1.size = 0 := by
   have := eq_of_beq hnm
   rw [ByteArray.toList_eq] at this
   show E.1.data.size = 0
   rw [← Array.length_toList, this]; rfl
  have hRn : R = (σ, some 5) := by rw [← HR.out]; unfold aV0 bQt; rw [HE.out, if_pos hz]
  subst hRn
  have hfail := fun wx => aX3 (.pointer (some ⟨r, 0, none⟩)) 5 wx
  go_wp2_with fail
  refine (hfail _).mono ?_
  rintro e w3 ⟨he, rfl⟩
  unfold aQr at he
  subst he
  go_wp2
  refine ⟨rfl, ?_⟩
  rw [HW2.out]
  exact R2.out.fell 5
 | false =>
  have hnz : ¬ E.1.size = 0 := fun hz => by
   have he : E.1.data = #[] := Array.eq_empty_of_size_eq_zero hz
   rw [ByteArray.toList_eq, he] at hnm
   exact absurd hnm (by decide)
  obtain ⟨la, lb, hlk⟩ := R2.out.map.look (nm := nm) (by unfold maxLen; omega)
  obtain ⟨⟨c0, c1, c2, c3, c4, c5, c6, c7⟩, f0, f1, f2, f3, f4, f5, f7⟩ := R2.out.cells
  rw [← HW2.out] at hlk c6
  clear c0 c1 c2 c3 c4 c5 c7 f0 f1 f2 f3 f4 f5 f7 x0 x1
  cases hin : inB σ.1.wi nm with
  | true =>
   have hRn : R = (σ, some 9) := by rw [← HR.out]; unfold aV0 bQt; rw [HE.out, if_neg hnz, if_pos hin]
   subst hRn
   rw [hin] at hlk
   have hfail := fun wx => aX3 (.pointer (some ⟨r, 0, none⟩)) 9 wx
   go_wp2_with fail
   refine (hfail _).mono ?_
   rintro e w3 ⟨he, rfl⟩
   unfold aQr at he
   subst he
   go_wp2
   refine ⟨rfl, ?_⟩
   rw [HW2.out]
   exact (R2.out.below (bAl)).fell 9
  | false =>
   rw [hin] at hlk
   go_wp2_with fail
   rw [HW2.out]
   obtain ⟨W3, hW3⟩ : ∃ W3, W2.alloc (.cells #[.string la, .string lb] 195) = W3 := ⟨_, rfl⟩
   rw [hW3]
   have hB3 : Below W2.heap.size W2 W3 := by rw [← hW3]; exact bAl
   have R3 := aQ0 (R2.out.below hB3)
   have B3 := aQ0 (B2.out.trans (hB3.mono B2.out.size))
   have X3 : Hid (W3.heap[gb]? = some (.cells #[.string E.1, .string E.2] 195)) := aQ0 ((hB3.block gb (gLt X2.out)).trans X2.out)
   obtain ⟨⟨c0, c1, c2, c3, c4, c5, c6, c7⟩, f0, f1, f2, f3, f4, f5, f7⟩ := R3.out.cells
   have x0 : W3.cell? ⟨gb, 0, none⟩ = some (.string E.1) := by simp [World.cell?, X3.out]
   have x1 : W3.cell? ⟨gb, 1, none⟩ = some (.string E.2) := by simp [World.cell?, X3.out]
   have hwr : IntKind.i64.wrap ((σ.1.spent : Int) + (E.2.size : Int)) = (σ.1.spent : Int) + (E.2.size : Int) := aZ2 (by omega) (by omega)
   have hrg : gb ≠ r := aQe X3.out R3.out.box (by decide)
   clear hB3 hW3 hlk c0 c1 c2 c3 c4 c5 f0 f1 f2 f3 f4 f5 hgb HW2 R2 B2 X2
   go_region
   simp only [Exit.then]
   rename_i aK
   refine aK _ _ ?_
   obtain ⟨W4, hW4⟩ : ∃ W4, (W3.setCell ⟨r, 7, none⟩ (.int .i64 ((σ.1.spent : Int) + (E.2.size : Int)))).drew = W4 := ⟨_, rfl⟩
   rw [hW4]
   have hg34 : W3.grownBy W4 (some r) := by rw [← hW4]; exact aQ3 (aQa _) (bXr _ _)
   have R4 : Hid (Rm w0 W4 r mb { σ.1 with spent := σ.1.spent + E.2.size } (.slice ae σ.1.dt.ents.length ce) (.slice aa σ.1.dt.atts.length ca) ev tx) := aQ0 (by rw [← hW4]; exact (R3.out.setSpent (σ.1.spent + E.2.size) (by omega)).grew (bXr _ _))
   have X4 : Hid (W4.heap[gb]? = some (.cells #[.string E.1, .string E.2] 195)) := aQ0 ((hg34.block gb (gLt X3.out) (fun e => hrg (Option.some.inj e))).trans X3.out)
   have K4 : Hid (∀ k cs t, W.heap[k]? = some (Obj.cells cs t) → t ≠ 51 → W4.heap[k]? = W.heap[k]?) := aQ0 (fun k cs t hc ht => by
    have h3 := B3.out.block k (gLt hc)
    rw [hg34.block k (Nat.lt_of_lt_of_le (gLt hc) B3.out.size) (fun e => aQe (h3.trans hc) R3.out.box ht (Option.some.inj e)), h3])
   have S4 : Hid (W.heap.size ≤ W4.heap.size) := aQ0 (Nat.le_trans B3.out.size hg34.size)
   have F4 : Hid (Fr W W4 r mb none) := aQ0 ((Fr.below (g := none) B3.out).trans (Fr.grown (g := none) hg34 (fun j hj => .inl (Option.some.inj hj).symm)) (fun k hk => by cases hk))
   clear hW4 hg34 c6 c7 f7 x0 x1 hwr R3 B3 X3 aK
   obtain ⟨⟨c0, c1, c2, c3, c4, c5, c6, c7⟩, f0, f1, f2, f3, f4, f5, f7⟩ := R4.out.cells
   have c7' : W4.cell? ⟨r, 7, none⟩ = some (.int .i64 ((σ.1.spent : Int) + (E.2.size : Int))) := by rw [c7]; simp
   have x0 : W4.cell? ⟨gb, 0, none⟩ = some (.string E.1) := by simp [World.cell?, X4.out]
   have x1 : W4.cell? ⟨gb, 1, none⟩ = some (.string E.2) := by simp [World.cell?, X4.out]
   clear c0 c1 c2 c3 c4 c5 c7 f0 f1 f2 f3 f4 f5 f7
   by_cases hfull : 4000 < σ.1.spent + E.2.size
   · have hRn : R = (σ, some 7) := by rw [← HR.out]; unfold aV0 bQt; rw [HE.out, if_neg hnz, hin, if_neg (by simp), if_pos hfull]
     subst hRn
     have hgt : (σ.1.spent : Int) + (E.2.size : Int) > 4000 := by omega
     have hfail := fun wx => aX3 (.pointer (some ⟨r, 0, none⟩)) 7 wx
     go_wp2_with fail
     refine (hfail _).mono ?_
     rintro e w3 ⟨he, rfl⟩
     unfold aQr at he
     subst he
     go_wp2
     exact ⟨rfl, R4.out.fellW 7 rfl rfl⟩
   · have hgt : ¬ (σ.1.spent : Int) + (E.2.size : Int) > 4000 := by omega
     have hok : bQt σ.1.dt σ.1.wi σ.1.spent nm = .ok E.2 := by unfold bQt; rw [HE.out, if_neg hnz, hin, if_neg (by simp), if_neg hfull]
     have HRR : Hid (R = match EN (goIn σ nm E.2) E.2 with | (σ2, some c) => (σ2, some c) | (σ2, none) => (goOut σ.1.wi σ2, none)) := aQ0 (by rw [← HR.out]; unfold aV0; rw [hok])
     obtain ⟨w5, hst, hm5, hg5⟩ := (R4.out.grew (bXr W4 none)).map.store (nm := nm) (by unfold maxLen; omega) hin hwl E.1 E.2
     obtain ⟨r5, f5⟩ := (R4.out.grew (bXr W4 none)).mapped hm5 hg5
     have hek : ∀ k cs t, W.heap[k]? = some (Obj.cells cs t) → t = 203 ∨ t = 5 ∨ t = 66 → w5.heap[k]? = W.heap[k]? := fun k cs t hc ht => by
      have h4 := K4.out k cs t hc (by rcases ht with rfl | rfl | rfl <;> decide)
      rw [hg5.block k (show k < W4.heap.size by have := (gLt hc); have := S4.out; omega) (fun e => aJb (W := W4) (h4.trans hc) R4.out.map (Option.some.inj e))]
      exact h4
     have I5 : Hid (Inv w0 w5 r mb tb (.slice ae σ.1.dt.ents.length ce) (.slice aa σ.1.dt.atts.length ca) v (goIn σ nm E.2)) := aQ0 ⟨ev, tx, r5, fun e => (VT.out e).keep hek (r5.cells.1.2.2.1.trans RM.out.cells.1.2.2.1.symm), CC.out⟩
     have X5 : Hid (w5.heap[gb]? = some (.cells #[.string E.1, .string E.2] 195)) := aQ0 ((hg5.block gb (gLt X4.out) (fun e => aJb (W := W4) X4.out R4.out.map (Option.some.inj e))).trans X4.out)
     have F5 : Hid (Fr W w5 r mb none) := aQ0 ((F4.out.trans (Fr.below (g := none) ((Below.refl W4.heap.size W4).drew)) (fun k hk => by cases hk)).trans f5 (fun k hk => by cases hk))
     have y1 : w5.cell? ⟨gb, 1, none⟩ = some (.string E.2) := by simp [World.cell?, X5.out]
     have hcall := HEN.out E.2 w5 hok I5.out
     clear hm5 hg5 r5 f5 hek R4 X4 K4 S4 F4
     go_wp2_with fail
     go_region
     simp only [Exit.then]
     rename_i aK
     refine aK _ _ ?_
     clear aK
     cases v with
     | true =>
      have hm1 := fun wx => mthEV ⟨tb, 0, none⟩ wx
      simp only [tkV, fnE, rcv, if_true] at hcall ⊢
      go_wp2_with fail
      refine hcall.mono ?_
      rintro e w6 hP
      obtain ⟨S2, hS2⟩ : ∃ S2, EN (goIn σ nm E.2) E.2 = S2 := ⟨_, rfl⟩
      have hRR := HRR.out
      rw [hS2] at hP hRR
      obtain ⟨σ2, oc⟩ := S2
      clear hcall hm1 hst c6 x0 x1 y1 c7'
      cases oc with
      | some c =>
       simp only at hRR
       subst hRR
       obtain ⟨he, hrest⟩ := hP
       unfold aQr at he
       subst he
       go_wp2
       exact ⟨rfl, rfl, hrest⟩
      | none =>
       simp only at hRR
       subst hRR
       obtain ⟨rfl, hI6, hF6⟩ := hP
       have hw2 : σ2.1.wi = nm :: σ.1.wi := by
        have := HWI.out E.2 hok
        rw [hS2] at this
        exact this rfl
       obtain ⟨ev6, tx6, r6, v6, k6⟩ := hI6
       have hm6 := r6.map
       rw [hw2] at hm6
       obtain ⟨w7, hdr, hm7, hg7⟩ := hm6.drop (by unfold maxLen; omega) hin 0
       obtain ⟨r7, f7⟩ := r6.mapped hm7 hg7
       have R7 := aQ0 r7
       have HF7 : Hid (Fr W w7 r mb (gv true tb)) := aQ0 ((Fr.trans (g' := gv true tb) ⟨F5.out.size, fun k hk a b c d => F5.out.keep k hk a b (by simp) d⟩ hF6 (fun k hk => .inl hk)).trans f7 (fun k hk => by cases hk))
       have I7 : Hid (Inv w0 w7 r mb tb (.slice ae σ.1.dt.ents.length ce) (.slice aa σ.1.dt.atts.length ca) true (goOut σ.1.wi σ2)) := aQ0 ⟨ev6, tx6, r7, fun e => (v6 e).keep (fun k cs t hc ht => hg7.block k (gLt hc) (fun e => aJb hc r6.map (Option.some.inj e))) (r7.cells.1.2.2.1.trans r6.cells.1.2.2.1.symm), k6⟩
       obtain ⟨⟨c0, c1, c2, c3, c4, c5, c6, c7⟩, f0, f1, f2, f3, f4, f5, f7⟩ := r6.cells
       clear c0 c1 c2 c3 c4 c5 c7 f0 f1 f2 f3 f4 f5 f7 r7 r6 v6 k6 hm6 hm7 hg7 hF6 hw2 hS2
       go_wp2
       go_end0
       exact ⟨rfl, I7.out, HF7.out⟩
     | false =>
      have hm1 := fun wx => mthEC (.pointer (some ⟨r, 0, none⟩)) wx
      simp only [tkV, fnE, rcv, Bool.false_eq_true, if_false] at hcall ⊢
      go_wp2_with fail
      refine hcall.mono ?_
      rintro e w6 hP
      obtain ⟨S2, hS2⟩ : ∃ S2, EN (goIn σ nm E.2) E.2 = S2 := ⟨_, rfl⟩
      have hRR := HRR.out
      rw [hS2] at hP hRR
      obtain ⟨σ2, oc⟩ := S2
      clear hcall hm1 hst c6 x0 x1 y1 c7'
      cases oc with
      | some c =>
       simp only at hRR
       subst hRR
       obtain ⟨he, hrest⟩ := hP
       unfold aQr at he
       subst he
       go_wp2
       exact ⟨rfl, rfl, hrest⟩
      | none =>
       simp only at hRR
       subst hRR
       obtain ⟨rfl, hI6, hF6⟩ := hP
       have hw2 : σ2.1.wi = nm :: σ.1.wi := by
        have := HWI.out E.2 hok
        rw [hS2] at this
        exact this rfl
       obtain ⟨ev6, tx6, r6, v6, k6⟩ := hI6
       have hm6 := r6.map
       rw [hw2] at hm6
       obtain ⟨w7, hdr, hm7, hg7⟩ := hm6.drop (by unfold maxLen; omega) hin 0
       obtain ⟨r7, f7⟩ := r6.mapped hm7 hg7
       have R7 := aQ0 r7
       have HF7 : Hid (Fr W w7 r mb (gv false tb)) := aQ0 ((Fr.trans (g' := gv false tb) ⟨F5.out.size, fun k hk a b c d => F5.out.keep k hk a b (by simp) d⟩ hF6 (fun k hk => .inl hk)).trans f7 (fun k hk => by cases hk))
       have I7 : Hid (Inv w0 w7 r mb tb (.slice ae σ.1.dt.ents.length ce) (.slice aa σ.1.dt.atts.length ca) false (goOut σ.1.wi σ2)) := aQ0 ⟨ev6, tx6, r7, fun e => (v6 e).keep (fun k cs t hc ht => hg7.block k (gLt hc) (fun e => aJb hc r6.map (Option.some.inj e))) (r7.cells.1.2.2.1.trans r6.cells.1.2.2.1.symm), k6⟩
       obtain ⟨⟨c0, c1, c2, c3, c4, c5, c6, c7⟩, f0, f1, f2, f3, f4, f5, f7⟩ := r6.cells
       clear c0 c1 c2 c3 c4 c5 c7 f0 f1 f2 f3 f4 f5 f7 r7 r6 v6 k6 hm6 hm7 hg7 hF6 hw2 hS2
       go_wp2
       go_end0
       exact ⟨rfl, I7.out, HF7.out⟩
open Go.RowKit Strs Plain9 Plain10 Plain11 Plain13 Plain23 PlainR Go.Lib Ents
variable [Inhabited aJ5]
theorem amp_cut {s : ByteArray} {p : Nat} (hp : p ≤ s.size) : (⟨(Lib.cut (rest s p) [38]).1.toArray⟩ : ByteArray) = s.extract p (ampE s p) ∧ p ≤ ampE s p ∧ ampE s p ≤ s.size := by
 by_cases hf : upF s p [38] = 0
 · obtain ⟨e1, e2, e3⟩ := bJt hp hf
   have hz : ¬ fz s p [38] = -1 := by unfold upF at hf; intro h; rw [if_pos h] at hf; cases hf
   have hE : ampE s p = (fz s p [38]).toNat := by unfold ampE; rw [if_neg hz]
   rcases aJh s p [38] hp with h0 | ⟨i, h0, h1, h2, _⟩
   · exact absurd h0 hz
   · rw [h0, Int.toNat_natCast] at hE
     simp only [List.length_cons, List.length_nil] at h2
     refine ⟨?_, by omega, by omega⟩
     rw [e2]; unfold upT; rw [h0, Int.toNat_natCast, hE]
 · obtain ⟨e1, e2⟩ := aYw hf
   have hz : fz s p [38] = -1 := by
    unfold upF at hf
    by_cases h : fz s p [38] = -1
    · exact h
    · rw [if_neg h] at hf; exact absurd rfl hf
   have hE : ampE s p = s.size := by unfold ampE; rw [if_pos hz]
   rw [e1, hE]
   refine ⟨?_, hp, Nat.le_refl _⟩
   have := bK6 (s := s) hp
   rw [← this, List.take_of_length_le (by rw [aVx]; omega)]
theorem amp_lt {s : ByteArray} {p : Nat} (hp : p < s.size) (h : aQ2 s p ≠ 38) : p < ampE s p := by
 have h1 := (amp_cut (s := s) (p := p) (by omega)).2.1
 by_cases he : ampE s p = p
 · exfalso
   by_cases hz : fz s p [38] = -1
   · have : ampE s p = s.size := by unfold ampE; rw [if_pos hz]
     omega
   · rcases aJh s p [38] (by omega) with h0 | ⟨i, h0, h1, h2, h3⟩
     · exact hz h0
     · have : ampE s p = i := by unfold ampE; rw [if_neg hz, h0, Int.toNat_natCast]
       have hi : i = p := by omega
       subst hi
       exact h (aXm h3.1 hp)
 · omega
section
variable {v : Bool} {EN : Sg → ByteArray → Sg × Option Int} {n p q : Nat} {s : ByteArray} {σ σ' : Sg}
theorem pg_end (h : s.size ≤ p) : aX5 v EN (n + 1) s p σ = (σ, none) := by unfold aX5; rw [if_pos h]
theorem pg_bad (h : p < s.size) (h38 : aQ2 s p ≠ 38) (hp : aKf v σ (s.extract p (ampE s p)).data.toList = none) : aX5 v EN (n + 1) s p σ = (σ, some 3) := by
 unfold aX5; rw [if_neg (by omega), if_pos h38, hp]
theorem pg_plain (h : p < s.size) (h38 : aQ2 s p ≠ 38) (hp : aKf v σ (s.extract p (ampE s p)).data.toList = some σ') : aX5 v EN (n + 1) s p σ = aX5 v EN n s (ampE s p) σ' := by
 conv => lhs; unfold aX5
 rw [if_neg (by omega), if_pos h38, hp]
theorem pg_none (h : p < s.size) (h38 : aQ2 s p = 38) (hr : refZ s p = none) : aX5 v EN (n + 1) s p σ = (σ, some 3) := by
 unfold aX5; rw [if_neg (by omega), if_neg (by simp [h38]), hr]
theorem pg_char {c : Int} (h : p < s.size) (h38 : aQ2 s p = 38) (hr : refZ s p = some (.inl c, q)) : aX5 v EN (n + 1) s p σ = aX5 v EN n s q (aWg v σ (encB c)) := by
 conv => lhs; unfold aX5
 rw [if_neg (by omega), if_neg (by simp [h38]), hr]
theorem pg_given {nm : ByteArray} {b : UInt8} (h : p < s.size) (h38 : aQ2 s p = 38) (hr : refZ s p = some (.inr nm, q)) (hg : aW8 nm = some b) : aX5 v EN (n + 1) s p σ = aX5 v EN n s q (aWg v σ [b]) := by
 conv => lhs; unfold aX5
 rw [if_neg (by omega), if_neg (by simp [h38]), hr]
 simp only [hg]
theorem pg_enter {nm : ByteArray} (h : p < s.size) (h38 : aQ2 s p = 38) (hr : refZ s p = some (.inr nm, q)) (hg : aW8 nm = none) : aX5 v EN (n + 1) s p σ = match aV0 EN σ nm with | (σ', some c) => (σ', some c) | (σ', none) => aX5 v EN n s q σ' := by
 conv => lhs; unfold aX5
 rw [if_neg (by omega), if_neg (by simp [h38]), hr]
 simp only [hg]
 unfold aV0
 cases bQt σ.1.dt σ.1.wi σ.1.spent nm with
 | error c => rfl
 | ok tx =>
  simp only
  cases hE : EN (goIn σ nm tx) tx with
  | mk σ2 oc => cases oc <;> rfl
end
def pot (σ : Sg) : Nat := σ.1.txt.length + σ.2.length + σ.1.evs.length
structure DOk (D : Dt) : Prop where
 len : D.ents.length ≤ 1048576
 ents : ∀ e ∈ D.ents, e.1.size ≤ 1048576 ∧ e.2.size ≤ 4000 ∧ VB e.2 0
structure EnOk (D : Dt) (EN : Sg → ByteArray → Sg × Option Int) : Prop where
 ok : ∀ σx tx, σx.1.dt = D → σx.1.spent ≤ 4000 → (EN σx tx).2 = none → (EN σx tx).1.1.dt = D ∧ (EN σx tx).1.1.wi = σx.1.wi ∧ σx.1.spent ≤ (EN σx tx).1.1.spent ∧ (EN σx tx).1.1.spent ≤ 4000 ∧ pot (EN σx tx).1 + 8 * (4000 - (EN σx tx).1.1.spent) ≤ pot σx + 8 * tx.size + 8 * (4000 - σx.1.spent) ∧ (EN σx tx).1.1.deep = σx.1.deep
theorem bWc {D : Dt} {wi : List ByteArray} {sp : Nat} {nm tx : ByteArray} (hD : DOk D) (h : bQt D wi sp nm = .ok tx) : sp + tx.size ≤ 4000 ∧ tx.size ≤ 4000 ∧ VB tx 0 ∧ inB wi nm = false := by
 unfold bQt at h
 split at h
 · cases h
 · rename_i h1
   split at h
   · cases h
   · rename_i h2
     split at h
     · cases h
     · rename_i h3
       injection h with h
       subst h
       refine ⟨by omega, by omega, ?_, by simpa using h2⟩
       unfold entR at h1 ⊢
       split
       · rename_i h4
         rw [if_pos h4] at h1
         exact absurd rfl h1
       · rename_i h4
         rw [if_neg h4] at h1
         cases hf : D.ents.find? (aW6 nm) with
         | none => rw [hf] at h1; exact absurd rfl h1
         | some x => exact (hD.ents x (List.mem_of_find?_eq_some hf)).2.2
theorem encB_len (c : Int) : (encB c).length ≤ 4 := by
 unfold encB Utf8.encode
 simp only [Array.length_toList]
 repeat' split
 all_goals simp
theorem enter_ok {D : Dt} {EN : Sg → ByteArray → Sg × Option Int} (hE : EnOk D EN) (hD : DOk D) {σ : Sg} {nm : ByteArray} (hd : σ.1.dt = D) (h : (aV0 EN σ nm).2 = none) :
 (aV0 EN σ nm).1.1.dt = D ∧ (aV0 EN σ nm).1.1.wi = σ.1.wi ∧ σ.1.spent ≤ (aV0 EN σ nm).1.1.spent ∧ (aV0 EN σ nm).1.1.spent ≤ 4000 ∧ pot (aV0 EN σ nm).1 + 8 * (4000 - (aV0 EN σ nm).1.1.spent) ≤ pot σ + 8 * (4000 - σ.1.spent) ∧ (aV0 EN σ nm).1.1.deep = σ.1.deep := by
 unfold aV0 at h ⊢
 cases he : bQt σ.1.dt σ.1.wi σ.1.spent nm with
 | error c => rw [he] at h; cases h
 | ok tx =>
  rw [he] at h
  obtain ⟨h1, h2, _, _⟩ := bWc (by rw [hd]; exact hD) he
  have hk := hE.ok (goIn σ nm tx) tx hd (by unfold goIn; exact h1)
  simp only at h ⊢
  cases hx : EN (goIn σ nm tx) tx with
  | mk σ2 oc =>
   rw [hx] at h hk
   cases oc with
   | some c => cases h
   | none =>
    obtain ⟨k1, k2, k3, k4, k5, k6⟩ := hk rfl
    simp only [goIn, goOut, pot] at k1 k2 k3 k4 k5 k6 ⊢
    exact ⟨k1, trivial, by omega, k4, by omega, k6⟩
open Go.RowKit Plain5 PlainR Go.Lib
variable [Inhabited aJ5]
def bXl (W : World) (g : Nat) (s : ByteArray) (p : Nat) : Prop := @aQi scE W g s p
theorem bZs {W : World} {g : Nat} {s : ByteArray} {p : Nat} (h : bXl W g s p) : W.heap[g]? = some (.cells #[.string s, .int .i64 (p : Int)] 58) := h
theorem sc_not : ¬ aY9 58 := by unfold aY9; decide
theorem Inv.scan {w0 W W' : World} {r mb tb g : Nat} {de da : Value} {v : Bool} {σ : Sg} {s : ByteArray} {p : Nat} (h : Inv w0 W r mb tb de da v σ) (hs : bXl W g s p) (hg : W.grownBy W' (some g)) (h0 : w0.heap.size ≤ g) : Inv w0 W' r mb tb de da v σ :=
 h.map (fun ev tx hr => hr.off hg (bZs hs) sc_not h0) (fun k cs t hc ht => hg.block k (gLt hc) (fun e => aQe hc (bZs hs) (by rcases ht with rfl | rfl | rfl <;> decide) (Option.some.inj e))) rfl
theorem Inv.fell {w0 W : World} {r mb tb : Nat} {de da : Value} {v : Bool} {σ : Sg} (h : Inv w0 W r mb tb de da v σ) (c : Int) : Fell w0 r σ.1 c (aQr c) W := by
 obtain ⟨ev, tx, hr, _, _⟩ := h
 exact hr.fell c
theorem Inv.bel {w0 W : World} {r mb tb : Nat} {de da : Value} {v : Bool} {σ : Sg} (h : Inv w0 W r mb tb de da v σ) : Below w0.heap.size w0 W := by
 obtain ⟨ev, tx, hr, _, _⟩ := h
 exact hr.bel
def fnP (v : Bool) : FuncId := if v = true then 200 else 191
def fnS (v : Bool) : FuncId := if v = true then 201 else 192
theorem mthPV (tb : Addr) (w : World) : (Go.method 424 204 (.pointer (some tb)) "loop.example/g00352/impl.plain").run Tryz.prog w = .ok (200, .pointer (some tb)) w := by kernel_rfl
theorem mthPC (a : Value) (w : World) : (Go.method 424 156 (.agg #[a]) "loop.example/g00352/impl.plain").run Tryz.prog w = .ok (191, .agg #[a]) w := by kernel_rfl
theorem mthSV (tb : Addr) (w : World) : (Go.method 424 204 (.pointer (some tb)) "loop.example/g00352/impl.sign").run Tryz.prog w = .ok (201, .pointer (some tb)) w := by kernel_rfl
theorem mthSC (a : Value) (w : World) : (Go.method 424 156 (.agg #[a]) "loop.example/g00352/impl.sign").run Tryz.prog w = .ok (192, .agg #[a]) w := by kernel_rfl
theorem plainT_any {w0 W : World} {r mb tb : Nat} {de da : Value} {v : Bool} {σ : Sg} {t : ByteArray} (h : Inv w0 W r mb tb de da v σ) (hp : pot σ ≤ 1000000) (ht : t.size ≤ 1048576) :
 Calls Tryz.prog (fnP v) #[rcv v tb r, .string t] W fun e W' => bX2 w0 W r mb tb de da v (match aKf v σ t.data.toList with | none => (σ, some 3) | some σ' => (σ', none)) e W' := by
 obtain ⟨ev, tx, hr, hv, hc⟩ := h
 unfold pot at hp
 cases v with
 | true =>
  refine (plainV_any hr (hv rfl) (by omega) ht).mono ?_
  intro e W' h
  unfold aKf
  rw [if_pos rfl]
  cases hl : aJ7 t.data.toList with
  | none => rw [hl] at h; exact h
  | some l =>
   rw [hl] at h
   obtain ⟨h1, h2, h3, h4⟩ := h
   exact ⟨h1, ⟨ev, tx, h2, fun _ => h3, fun e => by cases e⟩, h4⟩
 | false =>
  refine (plainC_any hr (by omega) ht).mono ?_
  rintro e W' ⟨h1, ev', tx', h2, h3⟩
  unfold aKf
  rw [if_neg (by simp)]
  exact ⟨h1, ⟨ev', tx', h2, (fun e => by cases e), fun _ => hc rfl⟩, h3⟩
theorem signT_any {w0 W : World} {r mb tb : Nat} {de da : Value} {v : Bool} {σ : Sg} {t : ByteArray} (h : Inv w0 W r mb tb de da v σ) (hp : pot σ ≤ 1000000) (ht : t.size ≤ 1048576) :
 Calls Tryz.prog (fnS v) #[rcv v tb r, .string t] W fun e W' => bX2 w0 W r mb tb de da v (aWg v σ t.data.toList, none) e W' := by
 obtain ⟨ev, tx, hr, hv, hc⟩ := h
 unfold pot at hp
 cases v with
 | true =>
  refine (signV_any hr (hv rfl) (by omega) ht).mono ?_
  rintro e W' ⟨h1, h2, h3, h4⟩
  exact ⟨h1, ⟨ev, tx, h2, fun _ => h3, fun e => by cases e⟩, h4⟩
 | false =>
  refine (signC_any hr (by omega) ht).mono ?_
  rintro e W' ⟨h1, ev', tx', h2, h3⟩
  exact ⟨h1, ⟨ev', tx', h2, (fun e => by cases e), fun _ => hc rfl⟩, h3⟩
end Go.Proofs.YtdblemolaojebaaGreatDoor
