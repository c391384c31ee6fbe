import Derived.Test.YtocnfoeaikiecaaGreatDoorQqQ
set_option maxRecDepth 100000
set_option maxHeartbeats 16000000
set_option linter.unusedVariables false
namespace Go.Proofs.YtocnfoeaikiecaaGreatDoor
open Go.RowKit Lists Ents Plain3 PlainR PlainM PlainJ Go.Lib Tryz
structure EvOk (evs : List Ev) : Prop where
 st : ∀ e ∈ evs, e.kind = 1 → e.text.size = 0
 nm : ∀ e ∈ evs, e.name.size ≤ 4000 ∧ e.attrs.length ≤ 9000 ∧ ∀ a ∈ e.attrs, a.1.size ≤ 4000
 cnt : nEn evs ≤ nSt evs
 len : evs.length ≤ 900000
theorem EvOk.nil : EvOk [] := ⟨(fun e h => by cases h), (fun e h => by cases h), Nat.le_refl _, Nat.zero_le _⟩
def RdW (w : World) (e : Ending) (w' : World) : Prop :=
 ∃ v evs a c, e = .returned (.agg #[v, .int .i64 a, .int .i64 c]) ∧ QEv w' w.heap.size v evs ∧ EvOk evs ∧ Below w.heap.size w w'
def zEvs : Obj := .cells #[.slice none 0 0, .int .i64 0, .int .i64 0] 46
theorem QEv.base {W : World} {B B' : Nat} {v : Value} {evs : List Ev} (h : QEv W B v evs) (hb : B' ≤ B) : QEv W B' v evs := by
 obtain ⟨vs, hl, hr, ha⟩ := h
 exact ⟨vs, hl, aJx hr hb, fun x hx => aJx (ha x hx) hb⟩
section
variable {w W : World} {g : Nat} {S : Sx} {dv av ov tv pv uv : Value}
theorem aVq (h : Qr (w.heap.size + 1) (w.alloc zEvs) W g S dv av ov tv pv uv) : W.heap[w.heap.size]? = some zEvs := (h.bel.block w.heap.size (by omega)).trans (heap_alloc_new w zEvs)
theorem aXk {W : World} {k : Nat} {a b c : Value} {t : TypeId} (h : W.heap[k]? = some (.cells #[a, b, c] t)) : W.cell? ⟨k, 0, none⟩ = some a ∧ W.cell? ⟨k, 1, none⟩ = some b ∧ W.cell? ⟨k, 2, none⟩ = some c ∧ W.frozen? ⟨k, 0, none⟩ = false ∧ W.frozen? ⟨k, 1, none⟩ = false ∧ W.frozen? ⟨k, 2, none⟩ = false := by simp [World.cell?, World.frozen?, h]
theorem aVv (h : Qr (w.heap.size + 1) (w.alloc zEvs) W g S dv av ov tv pv uv) (hJ : Jv S) (hB : Bd S 0) (u0 u1 u2 : Value) (a c : Int) : RdW w (.returned (.agg #[ov, .int .i64 a, .int .i64 c])) (((W.setCell ⟨w.heap.size, 0, none⟩ u0).setCell ⟨w.heap.size, 1, none⟩ u1).setCell ⟨w.heap.size, 2, none⟩ u2) := by
 have hx := aVq h
 have hk : ∀ k, k ≠ w.heap.size → (((W.setCell ⟨w.heap.size, 0, none⟩ u0).setCell ⟨w.heap.size, 1, none⟩ u1).setCell ⟨w.heap.size, 2, none⟩ u2).heap[k]? = W.heap[k]? := fun k hk => ((Below.heap_setCell _ ⟨w.heap.size, 2, none⟩ u2 k hk).trans (Below.heap_setCell _ ⟨w.heap.size, 1, none⟩ u1 k hk)).trans (Below.heap_setCell _ ⟨w.heap.size, 0, none⟩ u0 k hk)
 have hev := (h.evs.keep (W' := ((W.setCell ⟨w.heap.size, 0, none⟩ u0).setCell ⟨w.heap.size, 1, none⟩ u1).setCell ⟨w.heap.size, 2, none⟩ u2) (fun k cs t hc ht => hk k (aQ5 hc hx (by rcases ht with rfl | rfl <;> decide)))).base (B' := w.heap.size) (by omega)
 refine ⟨ov, S.evs, a, c, rfl, hev, ⟨hJ.st, hJ.nm, by have := hJ.cnt; omega, by unfold Bd at hB; omega⟩, ?_⟩
 have hb := h.bel
 refine ⟨hb.os.trans rfl, hb.tape.trans rfl, hb.output.trans rfl, by have h1 := h.lt; have h2 := h.gB; simp only [World.size_setCell]; omega, fun i hi => ?_⟩
 rw [hk i (by omega), hb.block i (by omega), heap_alloc_old _ _ hi]
end
open Go.RowKit Ents Plain3 Plain10 Plain11 PlainR PlainM Go.Lib
def zRdr : Obj := .cells #[.slice none 0 0, .slice none 0 0, .slice none 0 0, .slice none 0 0, .slice none 0 0, .slice none 0 0, .int .i64 0, .int .i64 0, .bool false, .bool false] 96
def zSx : Sx := ⟨[], [], [], [], [], [], 0, 0, false, false⟩
theorem aVp : Lim zSx := ⟨Nat.zero_le _, (fun e h => by cases h), (fun e h => by cases h), Nat.zero_le _, (fun e h => by cases h), Nat.zero_le _, fun _ => ⟨Nat.zero_le _, Nat.le_refl _⟩⟩
theorem cVx : Jv zSx := ⟨(fun e h => by cases h), (fun e h => by cases h), rfl, Nat.zero_le _⟩
theorem aY6 (n : Nat) (h : n ≤ 20000) : Bd zSx n := by
 have h1 : zSx.evs.length = 0 := rfl
 have h2 : zSx.txt.length = 0 := rfl
 have h3 : zSx.sp = 0 := rfl
 unfold Bd
 rw [h1, h2, h3]
 omega
theorem zQr (w : World) : Qr (w.heap.size + 1) (w.alloc zEvs) ((w.alloc zEvs).alloc zRdr) (w.heap.size + 1) zSx (.slice none 0 0) (.slice none 0 0) (.slice none 0 0) (.slice none 0 0) (.slice none 0 0) (.slice none 0 0) := by
 have hs : (w.alloc zEvs).heap.size = w.heap.size + 1 := by simp
 refine ⟨?_, Nat.le_refl _, (Below.refl _ _).alloc (by omega) _, World.ownsRow_nil _ _ _ _, World.ownsRow_nil _ _ _ _, ⟨[], rfl, World.ownsRow_nil _ _ _ _, (fun x hx => by cases hx)⟩, World.ownsRow_nil _ _ _ _, World.ownsRow_nil _ _ _ _, World.ownsRow_nil _ _ _ _⟩
 have := heap_alloc_new (w.alloc zEvs) zRdr
 rw [hs] at this
 exact this
theorem cXe (t : ByteArray) (closed : Bool) (w : World) (ht : t.size ≤ 4000) (h0 : VB t 0) : Calls prog 27 #[.string t, .bool closed] w (RdW w) := by
 obtain ⟨W0, hW0⟩ := nmE (w.alloc (.cells #[.slice none 0 0, .int .i64 0, .int .i64 0] 46))
 have hs0 : W0.heap.size = w.heap.size + 1 := by rw [← hW0]; simp
 obtain ⟨W1, hW1⟩ := nmE (W0.alloc (.cells #[.slice none 0 0, .slice none 0 0, .slice none 0 0, .slice none 0 0, .slice none 0 0, .slice none 0 0, .int .i64 0, .int .i64 0, .bool false, .bool false] 96))
 have Q1 : Hid (Qr (w.heap.size + 1) (w.alloc zEvs) W1 (w.heap.size + 1) zSx (.slice none 0 0) (.slice none 0 0) (.slice none 0 0) (.slice none 0 0) (.slice none 0 0) (.slice none 0 0)) := aQ0 (by rw [← hW1, ← hW0]; exact zQr w)
 have hxm := dQy t W1 ht h0
 have H0 := aQ0 h0
 clear h0
 go_enter func27, ntmps27
 go_wp2_with fail
 refine hxm.mono ?_
 rintro e W2 ⟨⟨n0, more, rfl, hn0, hvn⟩, hb2⟩
 have Q2 := aQ0 (Q1.out.keep hb2)
 obtain ⟨r0, r1, r2, f0, f1, f2⟩ := aXk (aVq Q2.out)
 have HVN := aQ0 hvn
 clear hxm hb2 hvn hW0 hW1
 have hmc : (more = true ∧ closed = false) ∨ (more && !closed) = false := by cases more <;> cases closed <;> simp
 rcases hmc with ⟨rfl, rfl⟩ | hmc
 · go_wp2
   refine bodyPost_ret (v := .agg #[.slice none 0 0, .int .i64 0, .int .i64 4]) (by simp [results, results27, go_sem, r0, r1, r2]) rfl ?_
   exact aVv Q2.out cVx (aY6 0 (by omega)) _ _ _ 0 4
 · cases more with
   | true =>
    have hcb : (!closed) = false := by simpa using hmc
    clear hmc
    go_wp2_with fail
    go_loopw [6] (fun i wr => ∃ (p : Nat) (S1 : Sx) (dv av ov tv pv uv : Value), p ≤ t.size ∧ i = .int .i64 p ∧ VB t p ∧ Qr (w.heap.size + 1) (w.alloc zEvs) wr (w.heap.size + 1) S1 dv av ov tv pv uv ∧ DS zSx S1 (4 * p) ∧ S1.cd = 0) (fun i _ => t.size - (RowKit.intOf i).toNat)
    case atStart => exact ⟨n0, zSx, _, _, _, _, _, _, hn0, rfl, HVN.out, Q2.out, (DS.refl _).mono (Nat.zero_le _), rfl⟩
    case round =>
     clear r0 r1 r2 f0 f1 f2
     obtain ⟨p, S1, dv, av, ov, tv, pv, uv, hp, rfl, hvp, hq1, hd1, hcd1⟩ := hrel
     obtain ⟨_, _, ⟨oa, oc, rfl⟩, _, ⟨pa, pc, rfl⟩, _⟩ := hq1.rows
     have c2 := hq1.cells.2.2.1
     have c4 := hq1.cells.2.2.2.2.1
     have c7 := hq1.cells.2.2.2.2.2.2.2.1
     have c8 := hq1.cells.2.2.2.2.2.2.2.2.1
     rw [hcd1] at c7
     have hcl := aXk (aVq hq1)
     have r0 := hcl.1
     have r1 := hcl.2.1
     have r2 := hcl.2.2.1
     have f0 := hcl.2.2.2.1
     have f1 := hcl.2.2.2.2.1
     have f2 := hcl.2.2.2.2.2
     have Q1 := aQ0 hq1
     have D1 := aQ0 hd1
     have J1 := aQ0 (hd1.inv cVx)
     have L1 := aQ0 (hd1.lim aVp)
     have HC1 := aQ0 hcd1
     clear hq1 hd1 hcd1 hcl Q2 HVN
     by_cases hlt : p < t.size
     · have hlti : (p : Int) < (t.size : Int) := by omega
       have hnx := bQj t p closed wr (by omega) hlt
       rw [cK8 hlt] at hnx
       have hO := cWg H0.out hlt hvp closed
       obtain ⟨O, hOe⟩ := nmE (aK0 (tokZ t p closed) closed)
       rw [hOe] at hnx hO
       have HO := aQ0 hO
       clear hO hOe
       go_wp2_with fail
       refine hnx.mono ?_
       rintro e w2 ⟨ta, rfl, hta, hb2⟩
       obtain ⟨ao, ac, rfl⟩ := aZi hta
       obtain ⟨cd2, hcd2⟩ : ∃ c, O.code = c := ⟨_, rfl⟩
       rw [hcd2] at HO
       obtain ⟨W3, hW3⟩ := nmE (w2.alloc (.cells #[.int .i64 O.tk.kind, .string O.tk.name, .string O.tk.text, .slice ao O.tk.attrs.length ac, .int .i64 O.at1, .int .i64 cd2] 101))
       have hb3 : Below w2.heap.size w2 W3 := by rw [← hW3]; exact bAl
       have hx3 : W3.heap[w2.heap.size]? = some (.cells #[.int .i64 O.tk.kind, .string O.tk.name, .string O.tk.text, .slice ao O.tk.attrs.length ac, .int .i64 O.at1, .int .i64 cd2] 101) := by rw [← hW3]; exact heap_alloc_new _ _
       have hb13 : Below wr.heap.size wr W3 := hb2.trans (hb3.mono hb2.size)
       have hq3 := Q1.out.keep hb13
       have hta3 := aQ4 hta (fun k hk => hb3.block k (hta.lt k hk).2)
       have hne : w2.heap.size ≠ w.heap.size + 1 := by have h1 := Q1.out.lt; have h2 := hb2.size; omega
       have hsx := bQ5 hx3
       have m5 := hsx.2.2.2.2.2
       have d2 := hq3.cells.2.2.1
       have hcl := aXk (aVq hq3)
       replace r0 := hcl.1
       replace r1 := hcl.2.1
       replace r2 := hcl.2.2.1
       replace f0 := hcl.2.2.2.1
       replace f1 := hcl.2.2.2.2.1
       replace f2 := hcl.2.2.2.2.2
       have Q3 := aQ0 hq3
       have X3 := aQ0 hx3
       have TA3 := aQ0 hta3
       clear hnx hb2 hb3 hx3 hb13 hq3 hta hta3 c2 c4 c7 c8 hsx hcl
       rw [hcd2]
       clear hcd2
       by_cases h4 : cd2 = 4
       · subst h4
         go_wp2
         refine bodyPost_ret (v := .agg #[.slice oa S1.evs.length oc, .int .i64 (p : Int), .int .i64 4]) (by simp [results, results27, go_sem, r0, r1, r2]) rfl ?_
         exact aVv Q3.out J1.out (D1.out.bd aVp (aY6 _ (by omega))) _ _ _ _ _
       · have h4b : (cd2 == 4) = false := by simpa using h4
         have hf := aJ9 Q3.out cd2
         have hS4 : S1.fail cd2 = { S1 with cd := cd2 } := Sx.fail_ok HC1.out
         rw [hS4] at hf
         go_wp2_with fail
         refine hf.mono ?_
         rintro e w4 ⟨rfl, hq4, hg4⟩
         have hk4 := aJr hg4
         have x4 := (hk4.block _ (gLt X3.out) (by simpa using hne)).trans X3.out
         have hta4 := aQ4 TA3.out (fun k hk => by
          obtain ⟨cs, hc⟩ := aQ3 TA3.out hk
          exact hk4.block k (TA3.out.lt k hk).2 (by simpa using aQ5 hc Q3.out.box (by decide)))
         have c2 := hq4.cells.2.2.1
         have c4 := hq4.cells.2.2.2.2.1
         have c7 : w4.cell? ⟨w.heap.size + 1, 7, none⟩ = some (.int .i64 cd2) := hq4.cells.2.2.2.2.2.2.2.1
         have hsx := bQ5 x4
         have n0' := hsx.1
         have n1 := hsx.2.1
         have n2 := hsx.2.2.1
         have n3 := hsx.2.2.2.1
         have n4 := hsx.2.2.2.2.1
         have hcl := aXk (aVq hq4)
         replace r0 := hcl.1
         replace r1 := hcl.2.1
         replace r2 := hcl.2.2.1
         replace f0 := hcl.2.2.2.1
         replace f1 := hcl.2.2.2.2.1
         replace f2 := hcl.2.2.2.2.2
         have Q4 := aQ0 hq4
         have X4 := aQ0 x4
         have TA4 := aQ0 hta4
         have J4 : Hid (Jv { S1 with cd := cd2 }) := aQ0 ⟨J1.out.st, J1.out.nm, J1.out.cnt, J1.out.op⟩
         have B4 : Hid (Bd { S1 with cd := cd2 } (4 * (t.size - p))) := aQ0 (show Bd S1 (4 * (t.size - p)) from D1.out.bd aVp (aY6 _ (by omega)))
         clear hf hq4 hg4 hk4 x4 hta4 hsx hcl hW3 m5 d2 hS4
         by_cases h0 : cd2 = 0
         · have TI := aQ0 (HO.out.resolve_right (fun hn => hn h0)).2
           have hti := TI.out
           have L4 : Hid (Lim { S1 with cd := cd2 }) := aQ0 ⟨L1.out.el, L1.out.et, L1.out.vb, L1.out.al, L1.out.ad, L1.out.sp, fun _ => L1.out.ok HC1.out⟩
           have hc0 : ({ S1 with cd := cd2 } : Sx).cd = 0 := h0
           have HCT := aQ0 (bQm 4001 O.tk.kind O.tk.name O.tk.text (.slice ao O.tk.attrs.length ac) O.tk.attrs 0 Q4.out L4.out TA4.out (fun a ha => by have := hti.attrs a ha; omega) (by have := hti.len; omega) (by have := hti.nm; omega) (by have := hti.tx; omega) (by omega) hc0 J4.out (B4.out.mono (by omega)) (by omega))
           have HOU := aQ0 (bY5 Q4.out L4.out O.tk.kind O.tk.name O.tk.text (.slice ao O.tk.attrs.length ac) O.tk.attrs TA4.out (fun a ha => by have := hti.attrs a ha; omega) (by have := hti.len; omega) (by have := hti.nm; omega) (by have := hti.tx; omega) hti.tv hc0 J4.out (B4.out.mono (by omega)))
           have hat := hti.at0
           have hlt2 := hti.lt
           have hle2 := hti.le
           obtain ⟨q, hqe⟩ := nmE (O.at1.toNat)
           rw [hqe] at hat hlt2 hle2
           have HAT := aQ0 hat
           have HVQ := aQ0 (show VB t q by rw [← hqe]; exact hti.vb)
           have DD : Hid (∀ S5, DS { S1 with cd := cd2 } S5 4 → DS zSx S5 (4 * q)) := aQ0 (fun S5 h => (D1.out.trans (show DS S1 S5 4 from ⟨h.len, h.up, h.top, h.evn, h.txn, fun j => h.inv ⟨j.st, j.nm, j.cnt, j.op⟩, fun l => h.lim ⟨l.el, l.et, l.vb, l.al, l.ad, l.sp, fun _ => l.ok HC1.out⟩⟩)).mono (by omega))
           have h0b : (cd2 == 0) = true := by simpa using h0
           clear hti hqe h0 HO hc0 hat TI
           by_cases hop : 0 < S1.opn.length
           · have hopi : (S1.opn.length : Int) > 0 := by omega
             go_wp2_with fail
             refine HCT.out.mono ?_
             intro e w5 hP
             replace hP := hP.ou
             obtain ⟨rfl, S5, dv5, av5, ov5, tv5, pv5, uv5, hq5, hd5, hk5⟩ := hP
             have x5 := hk5.box X4.out hne (by decide) (by decide)
             have n5 := (bQ5 x5).2.2.2.2.1
             obtain ⟨_, _, ⟨oa5, oc5, rfl⟩, _, _, _⟩ := hq5.rows
             have e2 := hq5.cells.2.2.1
             have e7 := hq5.cells.2.2.2.2.2.2.2.1
             have hcl := aXk (aVq hq5)
             replace r0 := hcl.1
             replace r1 := hcl.2.1
             replace r2 := hcl.2.2.1
             replace f0 := hcl.2.2.2.1
             replace f1 := hcl.2.2.2.2.1
             replace f2 := hcl.2.2.2.2.2
             have Q5 := aQ0 hq5
             have D5 := aQ0 (DD.out S5 hd5)
             have J5 := aQ0 (hd5.inv J4.out)
             clear hq5 hd5 hk5 x5 hcl n0' n1 n2 n3 n4 c2 c4 c7 HCT HOU
             obtain ⟨cd5, hcd5⟩ : ∃ c, S5.cd = c := ⟨_, rfl⟩
             rw [hcd5] at e7
             by_cases h5 : cd5 = 0
             · have h5b : (cd5 != 0) = false := by simp [h5]
               have HC5 := aQ0 (hcd5.trans h5)
               clear h5 hcd5
               go_wp2
               go_roundw
               case rel => exact ⟨q, S5, dv5, av5, _, tv5, pv5, uv5, hle2, by rw [HAT.out], HVQ.out, Q5.out, D5.out, HC5.out⟩
               case measure => simp only [RowKit.intOf]; rw [HAT.out, Int.toNat_natCast, Int.toNat_natCast]; omega
             · have h5b : (cd5 != 0) = true := by simpa using h5
               have HB5 := aQ0 (show Bd S5 0 from D5.out.bd aVp (aY6 _ (by omega)))
               clear h5 hcd5
               go_wp2_with fail
               go_region_law (fail)
               all_goals
                go_wp2
                refine bodyPost_ret (v := .agg #[.slice oa5 S5.evs.length oc5, .int .i64 (p : Int), .int .i64 cd5]) (by simp [results, results27, go_sem, r0, r1, r2]) rfl ?_
                exact aVv Q5.out.drew J5.out HB5.out _ _ _ _ _
           · have hopi : ¬ (S1.opn.length : Int) > 0 := by omega
             go_wp2_with fail
             refine HOU.out.mono ?_
             intro e w5 hP
             obtain ⟨rfl, S5, dv5, av5, ov5, tv5, pv5, uv5, hq5, hd5, hk5⟩ := hP
             have x5 := hk5.box X4.out hne (by decide) (by decide)
             have n5 := (bQ5 x5).2.2.2.2.1
             obtain ⟨_, _, ⟨oa5, oc5, rfl⟩, _, _, _⟩ := hq5.rows
             have e2 := hq5.cells.2.2.1
             have e7 := hq5.cells.2.2.2.2.2.2.2.1
             have hcl := aXk (aVq hq5)
             replace r0 := hcl.1
             replace r1 := hcl.2.1
             replace r2 := hcl.2.2.1
             replace f0 := hcl.2.2.2.1
             replace f1 := hcl.2.2.2.2.1
             replace f2 := hcl.2.2.2.2.2
             have Q5 := aQ0 hq5
             have D5 := aQ0 (DD.out S5 hd5)
             have J5 := aQ0 (hd5.inv J4.out)
             clear hq5 hd5 hk5 x5 hcl n0' n1 n2 n3 n4 c2 c4 c7 HCT HOU
             obtain ⟨cd5, hcd5⟩ : ∃ c, S5.cd = c := ⟨_, rfl⟩
             rw [hcd5] at e7
             by_cases h5 : cd5 = 0
             · have h5b : (cd5 != 0) = false := by simp [h5]
               have HC5 := aQ0 (hcd5.trans h5)
               clear h5 hcd5
               go_wp2
               go_roundw
               case rel => exact ⟨q, S5, dv5, av5, _, tv5, pv5, uv5, hle2, by rw [HAT.out], HVQ.out, Q5.out, D5.out, HC5.out⟩
               case measure => simp only [RowKit.intOf]; rw [HAT.out, Int.toNat_natCast, Int.toNat_natCast]; omega
             · have h5b : (cd5 != 0) = true := by simpa using h5
               have HB5 := aQ0 (show Bd S5 0 from D5.out.bd aVp (aY6 _ (by omega)))
               clear h5 hcd5
               go_wp2_with fail
               go_region_law (fail)
               all_goals
                go_wp2
                refine bodyPost_ret (v := .agg #[.slice oa5 S5.evs.length oc5, .int .i64 (p : Int), .int .i64 cd5]) (by simp [results, results27, go_sem, r0, r1, r2]) rfl ?_
                exact aVv Q5.out.drew J5.out HB5.out _ _ _ _ _
         · have h0b : (cd2 == 0) = false := by simpa using h0
           have h0c : (cd2 != 0) = true := by simpa using h0
           clear h0
           go_wp2_with fail
           go_region_law (fail)
           all_goals
            go_wp2
            refine bodyPost_ret (v := .agg #[.slice oa S1.evs.length oc, .int .i64 (p : Int), .int .i64 cd2]) (by simp [results, results27, go_sem, r0, r1, r2]) rfl ?_
            exact aVv Q4.out.drew J4.out (B4.out.mono (Nat.zero_le _)) _ _ _ _ _
     · have hlti : ¬ (p : Int) < (t.size : Int) := by omega
       have hbd0 : Bd S1 0 := D1.out.bd aVp (aY6 _ (by omega))
       obtain ⟨sn, hsn⟩ := nmE (S1.sn)
       rw [hsn] at c8
       have HBD := aQ0 hbd0
       clear hsn hbd0
       have hcc : (!closed) = true ∨ (!closed) = false := by cases closed <;> simp
       rcases hcc with hcc | hcc
       · exact absurd (hcb.symm.trans hcc) (by decide)
       · cases sn with
         | false =>
          go_wp2
          refine bodyPost_ret (v := .agg #[.slice oa S1.evs.length oc, .int .i64 (p : Int), .int .i64 3]) (by simp [results, results27, go_sem, r0, r1, r2]) rfl ?_
          exact aVv Q1.out J1.out HBD.out _ _ _ _ _
         | true =>
          by_cases hop : 0 < S1.opn.length
          · have hopi : (S1.opn.length : Int) > 0 := by omega
            go_wp2
            refine bodyPost_ret (v := .agg #[.slice oa S1.evs.length oc, .int .i64 (p : Int), .int .i64 3]) (by simp [results, results27, go_sem, r0, r1, r2]) rfl ?_
            exact aVv Q1.out J1.out HBD.out _ _ _ _ _
          · have hopi : ¬ (S1.opn.length : Int) > 0 := by omega
            go_wp2
            refine bodyPost_ret (v := .agg #[.slice oa S1.evs.length oc, .int .i64 (p : Int), .int .i64 0]) (by simp [results, results27, go_sem, r0, r1, r2]) rfl ?_
            exact aVv Q1.out J1.out HBD.out _ _ _ _ _
   | false =>
    clear hmc
    go_wp2_with fail
    go_loopw [6] (fun i wr => ∃ (p : Nat) (S1 : Sx) (dv av ov tv pv uv : Value), p ≤ t.size ∧ i = .int .i64 p ∧ VB t p ∧ Qr (w.heap.size + 1) (w.alloc zEvs) wr (w.heap.size + 1) S1 dv av ov tv pv uv ∧ DS zSx S1 (4 * p) ∧ S1.cd = 0) (fun i _ => t.size - (RowKit.intOf i).toNat)
    case atStart => exact ⟨n0, zSx, _, _, _, _, _, _, hn0, rfl, HVN.out, Q2.out, (DS.refl _).mono (Nat.zero_le _), rfl⟩
    case round =>
     clear r0 r1 r2 f0 f1 f2
     obtain ⟨p, S1, dv, av, ov, tv, pv, uv, hp, rfl, hvp, hq1, hd1, hcd1⟩ := hrel
     obtain ⟨_, _, ⟨oa, oc, rfl⟩, _, ⟨pa, pc, rfl⟩, _⟩ := hq1.rows
     have c2 := hq1.cells.2.2.1
     have c4 := hq1.cells.2.2.2.2.1
     have c7 := hq1.cells.2.2.2.2.2.2.2.1
     have c8 := hq1.cells.2.2.2.2.2.2.2.2.1
     rw [hcd1] at c7
     have hcl := aXk (aVq hq1)
     have r0 := hcl.1
     have r1 := hcl.2.1
     have r2 := hcl.2.2.1
     have f0 := hcl.2.2.2.1
     have f1 := hcl.2.2.2.2.1
     have f2 := hcl.2.2.2.2.2
     have Q1 := aQ0 hq1
     have D1 := aQ0 hd1
     have J1 := aQ0 (hd1.inv cVx)
     have L1 := aQ0 (hd1.lim aVp)
     have HC1 := aQ0 hcd1
     clear hq1 hd1 hcd1 hcl Q2 HVN
     by_cases hlt : p < t.size
     · have hlti : (p : Int) < (t.size : Int) := by omega
       have hnx := bQj t p closed wr (by omega) hlt
       rw [cK8 hlt] at hnx
       have hO := cWg H0.out hlt hvp closed
       obtain ⟨O, hOe⟩ := nmE (aK0 (tokZ t p closed) closed)
       rw [hOe] at hnx hO
       have HO := aQ0 hO
       clear hO hOe
       go_wp2_with fail
       refine hnx.mono ?_
       rintro e w2 ⟨ta, rfl, hta, hb2⟩
       obtain ⟨ao, ac, rfl⟩ := aZi hta
       obtain ⟨cd2, hcd2⟩ : ∃ c, O.code = c := ⟨_, rfl⟩
       rw [hcd2] at HO
       obtain ⟨W3, hW3⟩ := nmE (w2.alloc (.cells #[.int .i64 O.tk.kind, .string O.tk.name, .string O.tk.text, .slice ao O.tk.attrs.length ac, .int .i64 O.at1, .int .i64 cd2] 101))
       have hb3 : Below w2.heap.size w2 W3 := by rw [← hW3]; exact bAl
       have hx3 : W3.heap[w2.heap.size]? = some (.cells #[.int .i64 O.tk.kind, .string O.tk.name, .string O.tk.text, .slice ao O.tk.attrs.length ac, .int .i64 O.at1, .int .i64 cd2] 101) := by rw [← hW3]; exact heap_alloc_new _ _
       have hb13 : Below wr.heap.size wr W3 := hb2.trans (hb3.mono hb2.size)
       have hq3 := Q1.out.keep hb13
       have hta3 := aQ4 hta (fun k hk => hb3.block k (hta.lt k hk).2)
       have hne : w2.heap.size ≠ w.heap.size + 1 := by have h1 := Q1.out.lt; have h2 := hb2.size; omega
       have hsx := bQ5 hx3
       have m5 := hsx.2.2.2.2.2
       have d2 := hq3.cells.2.2.1
       have hcl := aXk (aVq hq3)
       replace r0 := hcl.1
       replace r1 := hcl.2.1
       replace r2 := hcl.2.2.1
       replace f0 := hcl.2.2.2.1
       replace f1 := hcl.2.2.2.2.1
       replace f2 := hcl.2.2.2.2.2
       have Q3 := aQ0 hq3
       have X3 := aQ0 hx3
       have TA3 := aQ0 hta3
       clear hnx hb2 hb3 hx3 hb13 hq3 hta hta3 c2 c4 c7 c8 hsx hcl
       rw [hcd2]
       clear hcd2
       by_cases h4 : cd2 = 4
       · subst h4
         go_wp2
         refine bodyPost_ret (v := .agg #[.slice oa S1.evs.length oc, .int .i64 (p : Int), .int .i64 4]) (by simp [results, results27, go_sem, r0, r1, r2]) rfl ?_
         exact aVv Q3.out J1.out (D1.out.bd aVp (aY6 _ (by omega))) _ _ _ _ _
       · have h4b : (cd2 == 4) = false := by simpa using h4
         have hf := aJ9 Q3.out cd2
         have hS4 : S1.fail cd2 = { S1 with cd := cd2 } := Sx.fail_ok HC1.out
         rw [hS4] at hf
         go_wp2_with fail
         refine hf.mono ?_
         rintro e w4 ⟨rfl, hq4, hg4⟩
         have hk4 := aJr hg4
         have x4 := (hk4.block _ (gLt X3.out) (by simpa using hne)).trans X3.out
         have hta4 := aQ4 TA3.out (fun k hk => by
          obtain ⟨cs, hc⟩ := aQ3 TA3.out hk
          exact hk4.block k (TA3.out.lt k hk).2 (by simpa using aQ5 hc Q3.out.box (by decide)))
         have c2 := hq4.cells.2.2.1
         have c4 := hq4.cells.2.2.2.2.1
         have c7 : w4.cell? ⟨w.heap.size + 1, 7, none⟩ = some (.int .i64 cd2) := hq4.cells.2.2.2.2.2.2.2.1
         have hsx := bQ5 x4
         have n0' := hsx.1
         have n1 := hsx.2.1
         have n2 := hsx.2.2.1
         have n3 := hsx.2.2.2.1
         have n4 := hsx.2.2.2.2.1
         have hcl := aXk (aVq hq4)
         replace r0 := hcl.1
         replace r1 := hcl.2.1
         replace r2 := hcl.2.2.1
         replace f0 := hcl.2.2.2.1
         replace f1 := hcl.2.2.2.2.1
         replace f2 := hcl.2.2.2.2.2
         have Q4 := aQ0 hq4
         have X4 := aQ0 x4
         have TA4 := aQ0 hta4
         have J4 : Hid (Jv { S1 with cd := cd2 }) := aQ0 ⟨J1.out.st, J1.out.nm, J1.out.cnt, J1.out.op⟩
         have B4 : Hid (Bd { S1 with cd := cd2 } (4 * (t.size - p))) := aQ0 (show Bd S1 (4 * (t.size - p)) from D1.out.bd aVp (aY6 _ (by omega)))
         clear hf hq4 hg4 hk4 x4 hta4 hsx hcl hW3 m5 d2 hS4
         by_cases h0 : cd2 = 0
         · have TI := aQ0 (HO.out.resolve_right (fun hn => hn h0)).2
           have hti := TI.out
           have L4 : Hid (Lim { S1 with cd := cd2 }) := aQ0 ⟨L1.out.el, L1.out.et, L1.out.vb, L1.out.al, L1.out.ad, L1.out.sp, fun _ => L1.out.ok HC1.out⟩
           have hc0 : ({ S1 with cd := cd2 } : Sx).cd = 0 := h0
           have HCT := aQ0 (bQm 4001 O.tk.kind O.tk.name O.tk.text (.slice ao O.tk.attrs.length ac) O.tk.attrs 0 Q4.out L4.out TA4.out (fun a ha => by have := hti.attrs a ha; omega) (by have := hti.len; omega) (by have := hti.nm; omega) (by have := hti.tx; omega) (by omega) hc0 J4.out (B4.out.mono (by omega)) (by omega))
           have HOU := aQ0 (bY5 Q4.out L4.out O.tk.kind O.tk.name O.tk.text (.slice ao O.tk.attrs.length ac) O.tk.attrs TA4.out (fun a ha => by have := hti.attrs a ha; omega) (by have := hti.len; omega) (by have := hti.nm; omega) (by have := hti.tx; omega) hti.tv hc0 J4.out (B4.out.mono (by omega)))
           have hat := hti.at0
           have hlt2 := hti.lt
           have hle2 := hti.le
           obtain ⟨q, hqe⟩ := nmE (O.at1.toNat)
           rw [hqe] at hat hlt2 hle2
           have HAT := aQ0 hat
           have HVQ := aQ0 (show VB t q by rw [← hqe]; exact hti.vb)
           have DD : Hid (∀ S5, DS { S1 with cd := cd2 } S5 4 → DS zSx S5 (4 * q)) := aQ0 (fun S5 h => (D1.out.trans (show DS S1 S5 4 from ⟨h.len, h.up, h.top, h.evn, h.txn, fun j => h.inv ⟨j.st, j.nm, j.cnt, j.op⟩, fun l => h.lim ⟨l.el, l.et, l.vb, l.al, l.ad, l.sp, fun _ => l.ok HC1.out⟩⟩)).mono (by omega))
           have h0b : (cd2 == 0) = true := by simpa using h0
           clear hti hqe h0 HO hc0 hat TI
           by_cases hop : 0 < S1.opn.length
           · have hopi : (S1.opn.length : Int) > 0 := by omega
             go_wp2_with fail
             refine HCT.out.mono ?_
             intro e w5 hP
             replace hP := hP.ou
             obtain ⟨rfl, S5, dv5, av5, ov5, tv5, pv5, uv5, hq5, hd5, hk5⟩ := hP
             have x5 := hk5.box X4.out hne (by decide) (by decide)
             have n5 := (bQ5 x5).2.2.2.2.1
             obtain ⟨_, _, ⟨oa5, oc5, rfl⟩, _, _, _⟩ := hq5.rows
             have e2 := hq5.cells.2.2.1
             have e7 := hq5.cells.2.2.2.2.2.2.2.1
             have hcl := aXk (aVq hq5)
             replace r0 := hcl.1
             replace r1 := hcl.2.1
             replace r2 := hcl.2.2.1
             replace f0 := hcl.2.2.2.1
             replace f1 := hcl.2.2.2.2.1
             replace f2 := hcl.2.2.2.2.2
             have Q5 := aQ0 hq5
             have D5 := aQ0 (DD.out S5 hd5)
             have J5 := aQ0 (hd5.inv J4.out)
             clear hq5 hd5 hk5 x5 hcl n0' n1 n2 n3 n4 c2 c4 c7 HCT HOU
             obtain ⟨cd5, hcd5⟩ : ∃ c, S5.cd = c := ⟨_, rfl⟩
             rw [hcd5] at e7
             by_cases h5 : cd5 = 0
             · have h5b : (cd5 != 0) = false := by simp [h5]
               have HC5 := aQ0 (hcd5.trans h5)
               clear h5 hcd5
               go_wp2
               go_roundw
               case rel => exact ⟨q, S5, dv5, av5, _, tv5, pv5, uv5, hle2, by rw [HAT.out], HVQ.out, Q5.out, D5.out, HC5.out⟩
               case measure => simp only [RowKit.intOf]; rw [HAT.out, Int.toNat_natCast, Int.toNat_natCast]; omega
             · have h5b : (cd5 != 0) = true := by simpa using h5
               have HB5 := aQ0 (show Bd S5 0 from D5.out.bd aVp (aY6 _ (by omega)))
               clear h5 hcd5
               go_wp2_with fail
               go_region_law (fail)
               all_goals
                go_wp2
                refine bodyPost_ret (v := .agg #[.slice oa5 S5.evs.length oc5, .int .i64 (p : Int), .int .i64 cd5]) (by simp [results, results27, go_sem, r0, r1, r2]) rfl ?_
                exact aVv Q5.out.drew J5.out HB5.out _ _ _ _ _
           · have hopi : ¬ (S1.opn.length : Int) > 0 := by omega
             go_wp2_with fail
             refine HOU.out.mono ?_
             intro e w5 hP
             obtain ⟨rfl, S5, dv5, av5, ov5, tv5, pv5, uv5, hq5, hd5, hk5⟩ := hP
             have x5 := hk5.box X4.out hne (by decide) (by decide)
             have n5 := (bQ5 x5).2.2.2.2.1
             obtain ⟨_, _, ⟨oa5, oc5, rfl⟩, _, _, _⟩ := hq5.rows
             have e2 := hq5.cells.2.2.1
             have e7 := hq5.cells.2.2.2.2.2.2.2.1
             have hcl := aXk (aVq hq5)
             replace r0 := hcl.1
             replace r1 := hcl.2.1
             replace r2 := hcl.2.2.1
             replace f0 := hcl.2.2.2.1
             replace f1 := hcl.2.2.2.2.1
             replace f2 := hcl.2.2.2.2.2
             have Q5 := aQ0 hq5
             have D5 := aQ0 (DD.out S5 hd5)
             have J5 := aQ0 (hd5.inv J4.out)
             clear hq5 hd5 hk5 x5 hcl n0' n1 n2 n3 n4 c2 c4 c7 HCT HOU
             obtain ⟨cd5, hcd5⟩ : ∃ c, S5.cd = c := ⟨_, rfl⟩
             rw [hcd5] at e7
             by_cases h5 : cd5 = 0
             · have h5b : (cd5 != 0) = false := by simp [h5]
               have HC5 := aQ0 (hcd5.trans h5)
               clear h5 hcd5
               go_wp2
               go_roundw
               case rel => exact ⟨q, S5, dv5, av5, _, tv5, pv5, uv5, hle2, by rw [HAT.out], HVQ.out, Q5.out, D5.out, HC5.out⟩
               case measure => simp only [RowKit.intOf]; rw [HAT.out, Int.toNat_natCast, Int.toNat_natCast]; omega
             · have h5b : (cd5 != 0) = true := by simpa using h5
               have HB5 := aQ0 (show Bd S5 0 from D5.out.bd aVp (aY6 _ (by omega)))
               clear h5 hcd5
               go_wp2_with fail
               go_region_law (fail)
               all_goals
                go_wp2
                refine bodyPost_ret (v := .agg #[.slice oa5 S5.evs.length oc5, .int .i64 (p : Int), .int .i64 cd5]) (by simp [results, results27, go_sem, r0, r1, r2]) rfl ?_
                exact aVv Q5.out.drew J5.out HB5.out _ _ _ _ _
         · have h0b : (cd2 == 0) = false := by simpa using h0
           have h0c : (cd2 != 0) = true := by simpa using h0
           clear h0
           go_wp2_with fail
           go_region_law (fail)
           all_goals
            go_wp2
            refine bodyPost_ret (v := .agg #[.slice oa S1.evs.length oc, .int .i64 (p : Int), .int .i64 cd2]) (by simp [results, results27, go_sem, r0, r1, r2]) rfl ?_
            exact aVv Q4.out.drew J4.out (B4.out.mono (Nat.zero_le _)) _ _ _ _ _
     · have hlti : ¬ (p : Int) < (t.size : Int) := by omega
       have hbd0 : Bd S1 0 := D1.out.bd aVp (aY6 _ (by omega))
       obtain ⟨sn, hsn⟩ := nmE (S1.sn)
       rw [hsn] at c8
       have HBD := aQ0 hbd0
       clear hsn hbd0
       have hcc : (!closed) = true ∨ (!closed) = false := by cases closed <;> simp
       rcases hcc with hcc | hcc
       · skip
         go_wp2
         refine bodyPost_ret (v := .agg #[.slice oa S1.evs.length oc, .int .i64 (p : Int), .int .i64 4]) (by simp [results, results27, go_sem, r0, r1, r2]) rfl ?_
         exact aVv Q1.out J1.out HBD.out _ _ _ _ _
       · cases sn with
         | false =>
          go_wp2
          refine bodyPost_ret (v := .agg #[.slice oa S1.evs.length oc, .int .i64 (p : Int), .int .i64 3]) (by simp [results, results27, go_sem, r0, r1, r2]) rfl ?_
          exact aVv Q1.out J1.out HBD.out _ _ _ _ _
         | true =>
          by_cases hop : 0 < S1.opn.length
          · have hopi : (S1.opn.length : Int) > 0 := by omega
            go_wp2
            refine bodyPost_ret (v := .agg #[.slice oa S1.evs.length oc, .int .i64 (p : Int), .int .i64 3]) (by simp [results, results27, go_sem, r0, r1, r2]) rfl ?_
            exact aVv Q1.out J1.out HBD.out _ _ _ _ _
          · have hopi : ¬ (S1.opn.length : Int) > 0 := by omega
            go_wp2
            refine bodyPost_ret (v := .agg #[.slice oa S1.evs.length oc, .int .i64 (p : Int), .int .i64 0]) (by simp [results, results27, go_sem, r0, r1, r2]) rfl ?_
            exact aVv Q1.out J1.out HBD.out _ _ _ _ _
end Go.Proofs.YtocnfoeaikiecaaGreatDoor
