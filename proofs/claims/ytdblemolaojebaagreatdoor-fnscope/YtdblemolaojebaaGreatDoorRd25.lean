import Derived.Test.YtdblemolaojebaaGreatDoorRd24
import Derived.Test.YtdblemolaojebaaGreatDoorRaJ
set_option maxRecDepth 100000
set_option maxHeartbeats 16000000
set_option linter.unusedVariables false
set_option linter.unusedSectionVars false
namespace Go.Proofs.YtdblemolaojebaaGreatDoor
open Go.RowKit Lists Plain5 Plain7 Plain10 Plain11 Plain23 PlainR PlainM PlainD Go.Lib Ents
variable [Inhabited aJ5]
def RdSays (w : World) (R : EOut) (e : Ending) (w' : World) : Prop :=
 ∃ v, e = .returned (.agg #[v, .int .i64 R.at1, .int .i64 R.code]) ∧ aVp w' w.heap.size v R.evs ∧ Below w.heap.size w w'
theorem aVp.base {W : World} {B B' : Nat} {v : Value} {evs : List Ev} (h : aVp W B v evs) (hb : B' ≤ B) : aVp W B' v evs := by
 obtain ⟨vs, hl, hr, ha⟩ := h
 exact ⟨vs, hl, aZi hr hb, fun x hx => aZi (ha x hx) hb⟩
theorem aVp.nil (W : World) (B : Nat) : aVp W B (.slice none 0 0) [] := ⟨[], rfl, World.ownsRow_nil _ _ _ _, fun x hx => by cases hx⟩
theorem aVp.off {W W' : World} {B : Nat} {v : Value} {evs : List Ev} (h : aVp W B v evs) {g : Nat} (hg : W.grownBy W' (some g)) {cs : Array Value} (hc : W.heap[g]? = some (.cells cs 27)) : aVp W' B v evs :=
 h.keep (fun k cs' hk _ => hg.block k (gLt hk) (fun e => aQe hk hc (by decide) (Option.some.inj e))) (fun k cs' _ hk => hg.block k (gLt hk) (fun e => aQe hk hc (by decide) (Option.some.inj e)))
theorem aVp.below {W W' : World} {B : Nat} {v : Value} {evs : List Ev} (h : aVp W B v evs) (hb : Below W.heap.size W W') : aVp W' B v evs :=
 h.keep (fun k cs hk _ => hb.block k (gLt hk)) (fun k cs _ hk => hb.block k (gLt hk))
theorem ev_slice {W : World} {B : Nat} {v : Value} {evs : List Ev} (h : aVp W B v evs) : ∃ a c, v = .slice a evs.length c := by
 obtain ⟨vs, hl, hr, ha⟩ := h
 exact aQh hr
theorem bVr {P : Program} {fn : Func} {R : Ending → World → Prop} {tmps : Array Value} {W : World} {v : Value} (h : (results fn tmps).run P W = .ok v W) (hR : R (.returned v) W) : bodyPostD P fn R .ret { tmps := tmps, defers := [] } W := ⟨v, h, hR⟩
theorem Rm.start (w2 : World) (s : ByteArray) (cl : Bool) :
 Rm w2 (((w2.alloc (.map #[] 0)).alloc (.cells #[.slice none 0 0, .slice none 0 0, .slice none 0 0, .slice none 0 0, .int .i64 0, .int .i64 0, .map (some w2.heap.size), .int .i64 0] 51)).alloc (.cells #[.string s, .int .i64 0, .bool cl] 60)) (w2.heap.size + 1) w2.heap.size st0 (.slice none 0 0) (.slice none 0 0) (.slice none 0 0) (.slice none 0 0) ∧
 aQd (((w2.alloc (.map #[] 0)).alloc (.cells #[.slice none 0 0, .slice none 0 0, .slice none 0 0, .slice none 0 0, .int .i64 0, .int .i64 0, .map (some w2.heap.size), .int .i64 0] 51)).alloc (.cells #[.string s, .int .i64 0, .bool cl] 60)) (w2.heap.size + 1 + 1) s 0 cl := by
 have hbel : Below w2.heap.size w2 (((w2.alloc (.map #[] 0)).alloc (.cells #[.slice none 0 0, .slice none 0 0, .slice none 0 0, .slice none 0 0, .int .i64 0, .int .i64 0, .map (some w2.heap.size), .int .i64 0] 51)).alloc (.cells #[.string s, .int .i64 0, .bool cl] 60)) := ((bAl).alloc (by simp) _).alloc (by simp; omega) _
 refine ⟨⟨?_, World.ownsRow_nil _ _ _ _, World.ownsRow_nil _ _ _ _, aVp.nil _ _, World.ownsRow_nil _ _ _ _, ?_, hbel, by omega, by omega⟩, ?_⟩
 · rw [heap_alloc_old _ _ (by simp)]
   have := heap_alloc_new (w2.alloc (.map #[] 0)) (.cells #[.slice none 0 0, .slice none 0 0, .slice none 0 0, .slice none 0 0, .int .i64 0, .int .i64 0, .map (some w2.heap.size), .int .i64 0] 51)
   simpa [st0] using this
 · have h1 := World.ownsMap_made w2 Tryz.prog 9 bV7
   have h2 := h1.kept (aZg _ (.cells #[.slice none 0 0, .slice none 0 0, .slice none 0 0, .slice none 0 0, .int .i64 0, .int .i64 0, .map (some w2.heap.size), .int .i64 0] 51) none) (by simp)
   have h3 := h2.kept (aZg _ (.cells #[.string s, .int .i64 0, .bool cl] 60) none) (by simp)
   exact ⟨.map [], h3, fun x => rfl, rfl, fun x => ⟨⟨#[]⟩, ⟨#[]⟩, rfl⟩⟩
 · have := heap_alloc_new ((w2.alloc (.map #[] 0)).alloc (.cells #[.slice none 0 0, .slice none 0 0, .slice none 0 0, .slice none 0 0, .int .i64 0, .int .i64 0, .map (some w2.heap.size), .int .i64 0] 51)) (.cells #[.string s, .int .i64 0, .bool cl] 60)
   have e : ((w2.alloc (.map #[] 0)).alloc (.cells #[.slice none 0 0, .slice none 0 0, .slice none 0 0, .slice none 0 0, .int .i64 0, .int .i64 0, .map (some w2.heap.size), .int .i64 0] 51)).heap.size = w2.heap.size + 1 + 1 := by simp
   rw [e] at this
   exact this
theorem implRead_any (t : ByteArray) (cl : Bool) (w : World) (m : Int) (hctx : Ctx w m) :
 Calls Tryz.prog 5 #[.string t, .bool cl] w fun e w' => RdSays w (bXy t cl) e w' := by
 have hmf : ∀ (fn : Fn) (first cap : Array Value) (w : World), (Instr.makeFunc fn first cap).run Tryz.prog w = .ok (.func fn first cap) w := fun _ _ _ _ => rfl
 obtain ⟨R, hR⟩ : ∃ R, bXy t cl = R := ⟨_, rfl⟩
 rw [hR]
 have HR := aQ0 hR
 have HC := aQ0 hctx
 clear hR hctx
 by_cases h4 : 4000 < t.size
 · have hlt : 4000 < (t.size : Int) := by omega
   have hRR : R = ⟨[], 0, 2⟩ := by rw [← HR.out]; unfold bXy; rw [if_pos h4]
   subst hRR
   go_enter_defers Tryz.func5, Tryz.ntmps5
   go_wp2
   refine bVr (v := .agg #[.slice none 0 0, .int .i64 0, .int .i64 2]) (by simp [results, Tryz.results5, go_sem]) ?_
   exact ⟨_, rfl, aVp.nil _ _, bAl⟩
 have hlt : ¬ 4000 < (t.size : Int) := by omega
 have hends := fun wx hm => implEnds_any t m wx hm
 have hfd := fld2
 have hmm := @run_makeMap Tryz.prog
 obtain ⟨s, hs⟩ : ∃ s : ByteArray, (⟨(bJn t).toArray⟩ : ByteArray) = s := ⟨_, rfl⟩
 have hs1 : (⟨(bQa t.data.toList).toArray⟩ : ByteArray) = s := by rw [← hs]; unfold bJn; rw [if_neg h4]
 have hs4 : s.size ≤ 4000 := by rw [← hs1, size_mk]; have := endsE_len t.data.toList; have e : t.data.toList.length = t.size := rfl; omega
 have hrun := fun wx => aWn s wx
 rw [hs] at hends
 have hcode : bQj s = if 0 ≤ (aQv s).2 then 3 else 0 := by unfold bQj; rw [if_neg (by omega)]
 obtain ⟨c, hc⟩ : ∃ c, bQj s = c := ⟨_, rfl⟩
 obtain ⟨a, ha⟩ : ∃ a, rAt s = a := ⟨_, rfl⟩
 rw [hc] at hcode
 rw [hc, ha] at hrun
 obtain ⟨W0, hW0⟩ : ∃ W0, w.alloc (.cells #[.slice none 0 0, .int .i64 0, .int .i64 0] 27) = W0 := ⟨_, rfl⟩
 have hB0 : Below w.heap.size w W0 := by rw [← hW0]; exact bAl
 have hZ0 : W0.heap[w.heap.size]? = some (.cells #[.slice none 0 0, .int .i64 0, .int .i64 0] 27) := by rw [← hW0]; exact heap_alloc_new _ _
 have B0 := aQ0 hB0
 have Z0 := aQ0 hZ0
 clear hs hB0 hZ0 hc ha
 by_cases h0 : 0 ≤ (aQv s).2
 · rw [if_pos h0] at hcode
   subst hcode
   have hRR : R = ⟨[], 0, 1⟩ := by rw [← HR.out]; unfold bXy; rw [if_neg h4, hs1, if_pos h0]
   subst hRR
   go_enter_defers Tryz.func5, Tryz.ntmps5
   go_wp2_with fail
   refine (hends _ (HC.out.env.below B0.out).env.mx).mono ?_
   rintro e w1 ⟨rfl, hb1⟩
   go_wp2_with fail
   refine (hrun _).mono ?_
   rintro e w2 ⟨v, rfl, hrow, hb2⟩
   obtain ⟨ao, an, ac, rfl⟩ := bQe hrow
   have Z2 := (hb2.block _ (by have := hb1.size; have := (gLt Z0.out); omega)).trans ((hb1.block _ (gLt Z0.out)).trans Z0.out)
   have B2 := aQ0 (B0.out.trans ((hb1.mono B0.out.size).trans (hb2.mono (Nat.le_trans B0.out.size hb1.size))))
   obtain ⟨r0, r1, r2⟩ : w2.cell? ⟨w.heap.size, 0, none⟩ = some (.slice none 0 0) ∧ w2.cell? ⟨w.heap.size, 1, none⟩ = some (.int .i64 0) ∧ w2.cell? ⟨w.heap.size, 2, none⟩ = some (.int .i64 0) := by simp [World.cell?, Z2]
   obtain ⟨f0, f1, f2⟩ : w2.frozen? ⟨w.heap.size, 0, none⟩ = false ∧ w2.frozen? ⟨w.heap.size, 1, none⟩ = false ∧ w2.frozen? ⟨w.heap.size, 2, none⟩ = false := by simp [World.frozen?, Z2]
   clear hrow hb1 hb2 Z2
   go_wp2
   refine bVr (v := .agg #[.slice none 0 0, .int .i64 0, .int .i64 1]) (by simp [results, Tryz.results5, go_sem, r0, r1, r2]) ?_
   exact ⟨_, rfl, aVp.nil _ _, aXg (aXg (aXg B2.out (Nat.le_refl _) _ _) (Nat.le_refl _) _ _) (Nat.le_refl _) _ _⟩
 · rw [if_neg h0] at hcode
   subst hcode
   have hv0 : VB s 0 := bK0 (by omega)
   have hRR : R = match docR s cl with | (st, none) => ⟨st.evs, st.pos, 0⟩ | (st, some c) => ⟨st.evs, st.pos, c⟩ := by rw [← HR.out]; unfold bXy; rw [if_neg h4, hs1, if_neg h0]; cases docR s cl with | mk a oc => cases oc <;> rfl
   have HRR := aQ0 hRR
   clear hRR HR hs1
   go_enter_defers Tryz.func5, Tryz.ntmps5
   go_wp2_with fail
   refine (hends _ (HC.out.env.below B0.out).env.mx).mono ?_
   rintro e w1 ⟨rfl, hb1⟩
   go_wp2_with fail
   refine (hrun _).mono ?_
   rintro e w2 ⟨v, rfl, hrow, hb2⟩
   obtain ⟨ao, an, ac, rfl⟩ := bQe hrow
   have hsz : w.heap.size < w2.heap.size := by have h1 := hb1.size; have h2 := hb2.size; have h3 := (gLt Z0.out); omega
   have Z2 := aQ0 ((hb2.block _ (by have := hb1.size; have := (gLt Z0.out); omega)).trans ((hb1.block _ (gLt Z0.out)).trans Z0.out))
   have B2 := aQ0 (B0.out.trans ((hb1.mono B0.out.size).trans (hb2.mono (Nat.le_trans B0.out.size hb1.size))))
   clear hrow hb1 hb2
   obtain ⟨hrs, hss⟩ := Rm.start w2 s cl
   have hdoc := document_any (⟨HC.out.env.below B2.out, HC.out.et.below B2.out⟩ : Ctx w2 m) hrs hss (by omega) hv0 hs4
   clear hrs hss
   go_wp2_with fail
   refine hdoc.mono ?_
   rintro e w3 hP
   have hRR := HRR.out
   obtain ⟨DR, hDR⟩ : ∃ DR, docR s cl = DR := ⟨_, rfl⟩
   rw [hDR] at hP hRR
   obtain ⟨st, oc⟩ := DR
   cases oc with
   | none =>
    simp only at hRR
    subst hRR
    obtain ⟨rfl, de, da, ev, tx, hr3⟩ := hP
    have Z3 := aQ0 ((hr3.bel.block _ hsz).trans Z2.out)
    have B3 := aQ0 (B2.out.trans (hr3.bel.mono (Nat.le_of_lt hsz)))
    obtain ⟨ea, ec, hev⟩ := ev_slice hr3.evs
    subst hev
    obtain ⟨⟨c0, c1, c2, c3, c4, c5, c6, c7⟩, g0, g1, g2, g3, g4, g5, g7⟩ := hr3.cells
    obtain ⟨r0, r1, r2⟩ : w3.cell? ⟨w.heap.size, 0, none⟩ = some (.slice none 0 0) ∧ w3.cell? ⟨w.heap.size, 1, none⟩ = some (.int .i64 0) ∧ w3.cell? ⟨w.heap.size, 2, none⟩ = some (.int .i64 0) := by simp [World.cell?, Z3.out]
    obtain ⟨f0, f1, f2⟩ : w3.frozen? ⟨w.heap.size, 0, none⟩ = false ∧ w3.frozen? ⟨w.heap.size, 1, none⟩ = false ∧ w3.frozen? ⟨w.heap.size, 2, none⟩ = false := by simp [World.frozen?, Z3.out]
    have R3 := aQ0 hr3
    clear hr3 hdoc c0 c1 c3 c5 c6 c7 g0 g1 g2 g3 g4 g5 g7
    obtain ⟨W4, hW4⟩ : ∃ W4, ((w3.setCell ⟨w.heap.size, 0, none⟩ (.slice ea st.evs.length ec)).setCell ⟨w.heap.size, 1, none⟩ (.int .i64 (st.pos : Int))).setCell ⟨w.heap.size, 2, none⟩ (.int .i64 0) = W4 := ⟨_, rfl⟩
    have hg4 : w3.grownBy W4 (some w.heap.size) := by rw [← hW4]; exact aQ3 (aQ3 (aQa _) (aQa _)) (aQa _)
    have Z4 : W4.heap[w.heap.size]? = some (.cells #[.slice ea st.evs.length ec, .int .i64 (st.pos : Int), .int .i64 0] 27) := by rw [← hW4, aQ7 (aQ7 (aQ7 Z3.out _) _) _]; rfl
    have B4 : Below w.heap.size w W4 := by rw [← hW4]; exact aXg (aXg (aXg B3.out (Nat.le_refl _) _ _) (Nat.le_refl _) _ _) (Nat.le_refl _) _ _
    have E4 : aVp W4 w.heap.size (.slice ea st.evs.length ec) st.evs := (R3.out.evs.base (Nat.le_of_lt hsz)).off hg4 Z3.out
    have Z5 : (W4.alloc (.cells #[.int .i64 0] 53)).heap[w.heap.size]? = some (.cells #[.slice ea st.evs.length ec, .int .i64 (st.pos : Int), .int .i64 0] 27) := (heap_alloc_old _ _ (gLt Z4)).trans Z4
    have hb5 : Below W4.heap.size W4 (W4.alloc (.cells #[.int .i64 0] 53)) := bAl
    have E5 := aQ0 (E4.below hb5)
    have B5 := aQ0 (B4.trans (hb5.mono B4.size))
    have HW4 := aQ0 hW4
    obtain ⟨W5, hW5⟩ : ∃ W5, W4.alloc (.cells #[.int .i64 0] 53) = W5 := ⟨_, rfl⟩
    rw [hW5] at Z5 E5 B5
    obtain ⟨k0, k1, k2⟩ : W5.cell? ⟨w.heap.size, 0, none⟩ = some (.slice ea st.evs.length ec) ∧ W5.cell? ⟨w.heap.size, 1, none⟩ = some (.int .i64 (st.pos : Int)) ∧ W5.cell? ⟨w.heap.size, 2, none⟩ = some (.int .i64 0) := by simp [World.cell?, Z5]
    have HW5 := aQ0 hW5
    clear hW4 hW5 hg4 Z4 Z5 E4 B4 hb5
    go_wp2
    rw [HW4.out]
    refine leaves_cons (f := 9) (args := #[.pointer (some ⟨w2.heap.size + 1, 0, none⟩), .pointer (some ⟨w.heap.size, 0, none⟩)]) (by simp) (by simp [go_sem]) ?_
    refine (bZp (w2.heap.size + 1) w.heap.size W4).mono ?_
    rintro e u' w'' ⟨rfl, rfl, rfl⟩
    rw [HW5.out]
    exact ⟨.agg #[.slice ea st.evs.length ec, .int .i64 (st.pos : Int), .int .i64 0], by simp [results, Tryz.results5, go_sem, k0, k1, k2], _, rfl, E5.out, B5.out⟩
   | some c =>
    simp only at hRR
    subst hRR
    obtain ⟨he, ⟨de, da, ev, tx, u5, u6, u7, hbox, hevs⟩, hbel⟩ := hP
    unfold aQr at he
    subst he
    have Z3 := aQ0 ((hbel.block _ hsz).trans Z2.out)
    have B3 := aQ0 (B2.out.trans (hbel.mono (Nat.le_of_lt hsz)))
    obtain ⟨ea, ec, hev⟩ := ev_slice hevs
    subst hev
    obtain ⟨r0, r1, r2⟩ : w3.cell? ⟨w.heap.size, 0, none⟩ = some (.slice none 0 0) ∧ w3.cell? ⟨w.heap.size, 1, none⟩ = some (.int .i64 0) ∧ w3.cell? ⟨w.heap.size, 2, none⟩ = some (.int .i64 0) := by simp [World.cell?, Z3.out]
    obtain ⟨f0, f1, f2⟩ : w3.frozen? ⟨w.heap.size, 0, none⟩ = false ∧ w3.frozen? ⟨w.heap.size, 1, none⟩ = false ∧ w3.frozen? ⟨w.heap.size, 2, none⟩ = false := by simp [World.frozen?, Z3.out]
    obtain ⟨c2, c4⟩ : w3.cell? ⟨w2.heap.size + 1, 2, none⟩ = some (.slice ea st.evs.length ec) ∧ w3.cell? ⟨w2.heap.size + 1, 4, none⟩ = some (.int .i64 (st.pos : Int)) := by simp [World.cell?, hbox]
    have hrl := (gLt hbox)
    have hol := (gLt Z3.out)
    go_wp2
    refine leaves_cons (f := 9) (args := #[.pointer (some ⟨w2.heap.size + 1, 0, none⟩), .pointer (some ⟨w.heap.size, 0, none⟩)]) (by simp) (by simp [go_sem]) ?_
    refine (bZq (w2.heap.size + 1) w.heap.size c st.pos ea st.evs.length ec w3 c2 c4 hrl hol f0 f1 f2 ⟨_, r0⟩ ⟨_, r1⟩ ⟨_, r2⟩).mono ?_
    rintro e u' w'' ⟨rfl, rfl, rfl⟩
    obtain ⟨W4, hW4⟩ : ∃ W4, (((w3.alloc (.cells #[.int .i64 c] 53)).setCell ⟨w.heap.size, 0, none⟩ (.slice ea st.evs.length ec)).setCell ⟨w.heap.size, 1, none⟩ (.int .i64 (st.pos : Int))).setCell ⟨w.heap.size, 2, none⟩ (.int .i64 c) = W4 := ⟨_, rfl⟩
    have hb3 : Below w3.heap.size w3 (w3.alloc (.cells #[.int .i64 c] 53)) := bAl
    have Z3a := (heap_alloc_old w3 (.cells #[.int .i64 c] 53) hol).trans Z3.out
    have hg4 : (w3.alloc (.cells #[.int .i64 c] 53)).grownBy W4 (some w.heap.size) := by rw [← hW4]; exact aQ3 (aQ3 (aQa _) (aQa _)) (aQa _)
    have Z4 : W4.heap[w.heap.size]? = some (.cells #[.slice ea st.evs.length ec, .int .i64 (st.pos : Int), .int .i64 c] 27) := by rw [← hW4, aQ7 (aQ7 (aQ7 Z3a _) _) _]; rfl
    have B4 : Below w.heap.size w W4 := by rw [← hW4]; exact aXg (aXg (aXg (B3.out.trans (hb3.mono B3.out.size)) (Nat.le_refl _) _ _) (Nat.le_refl _) _ _) (Nat.le_refl _) _ _
    have E4 : aVp W4 w.heap.size (.slice ea st.evs.length ec) st.evs := ((hevs.base (Nat.le_of_lt hsz)).below hb3).off hg4 Z3a
    obtain ⟨k0, k1, k2⟩ : W4.cell? ⟨w.heap.size, 0, none⟩ = some (.slice ea st.evs.length ec) ∧ W4.cell? ⟨w.heap.size, 1, none⟩ = some (.int .i64 (st.pos : Int)) ∧ W4.cell? ⟨w.heap.size, 2, none⟩ = some (.int .i64 c) := by simp [World.cell?, Z4]
    rw [hW4]
    exact ⟨.agg #[.slice ea st.evs.length ec, .int .i64 (st.pos : Int), .int .i64 c], by simp [results, Tryz.results5, go_sem, k0, k1, k2], _, rfl, E4, B4⟩
end Go.Proofs.YtdblemolaojebaaGreatDoor
