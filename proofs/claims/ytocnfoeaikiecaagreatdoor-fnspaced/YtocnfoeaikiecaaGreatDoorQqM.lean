import Derived.Test.YtocnfoeaikiecaaGreatDoorQL
set_option maxRecDepth 100000
set_option maxHeartbeats 16000000
set_option linter.unusedVariables false
namespace Go.Proofs.YtocnfoeaikiecaaGreatDoor
open Go.RowKit Lists Ents Plain3 Plain11 Plain23 Go.Lib Tryz
def Bd (S : Sx) (n : Nat) : Prop := S.evs.length + 4 * (8000 - S.sp) + n ≤ 900000 ∧ S.txt.length + 100000 * (8000 - S.sp) + 25000 * n ≤ 100000000000
section
variable {S S' S'' : Sx} {n m k k' : Nat}
theorem Bd.mono (h : Bd S n) (hm : m ≤ n) : Bd S m := by
 unfold Bd at *
 omega
theorem CS.bd (h : CS S S' m) (hL : Lim S) (hb : Bd S (m + n)) : Bd S' n := by
 have h1 := h.evn
 have h2 := h.txn
 have h3 := h.up
 have h4 := h.top hL.sp
 unfold Bd at *
 omega
structure Ch (S S' : Sx) (k : Nat) : Prop where
 ents : S'.ents = S.ents
 atts : S'.atts = S.atts
 len : S'.usg.length = S.usg.length
 up : S.sp ≤ S'.sp
 top : S.sp ≤ 8000 → S'.sp ≤ 8000
 ok : (S.cd = 0 → S.sp ≤ 4000) → S'.cd = 0 → S.cd = 0 ∧ S'.sp ≤ 4000
 evn : S'.evs.length + 4 * S.sp ≤ S.evs.length + 4 * S'.sp
 txn : S'.txt.length + 100000 * S.sp ≤ S.txt.length + 100000 * S'.sp + 5 * k
 inv : Jv S → Jv S'
theorem Ch.refl (S : Sx) : Ch S S 0 := ⟨rfl, rfl, rfl, Nat.le_refl _, id, fun h h0 => ⟨h0, h h0⟩, by omega, by omega, id⟩
theorem Ch.cs (h : Ch S S' k) (hk : k ≤ 4000) : CS S S' 1 := ⟨h.ents, h.atts, h.len, h.up, h.top, h.ok, by have := h.evn; omega, by have := h.txn; omega, h.inv⟩
theorem Ch.lim (h : Ch S S' k) (hk : k ≤ 4000) (hL : Lim S) : Lim S' := (h.cs hk).lim hL
theorem Ch.vs (h : Ch S S' k) (hv : VS S' S'') (hk : k ≤ k') : Ch S S'' k' := by
 have h' := hv.cs
 exact ⟨h'.ents.trans h.ents, h'.atts.trans h.atts, h'.len.trans h.len, Nat.le_trans h.up h'.up, fun hs => h'.top (h.top hs), fun h1 h2 => by
  have := h'.ok (fun h0 => (h.ok h1 h0).2) h2
  exact ⟨(h.ok h1 this.1).1, this.2⟩, by have := h.evn; have := h'.evn; omega, by have := h.txn; have := h'.txn; omega, fun hj => h'.inv (h.inv hj)⟩
theorem Ch.add (h : Ch S S' k) {l : List Int} (hl : l.length + 5 * k ≤ 5 * k') : Ch S { S' with txt := S'.txt ++ l } k' :=
 ⟨h.ents, h.atts, h.len, h.up, h.top, h.ok, h.evn, by have := h.txn; show (S'.txt ++ l).length + 100000 * S.sp ≤ S.txt.length + 100000 * S'.sp + 5 * k'; rw [List.length_append]; omega, fun j => ⟨(h.inv j).st, (h.inv j).nm, (h.inv j).cnt, (h.inv j).op⟩⟩
theorem Ch.ent {S1 S5 S6 : Sx} {x : ByteArray} (h : Ch S S1 k) (hk : k ≤ k') (hE : EnS S1 x true S5) (hc : S1.cd = 0) (h6 : CS S5 S6 (4 * x.size)) : Ch S { S6 with usg := S6.usg.take S1.usg.length } k' := by
 obtain ⟨y1, y2, y3, y4, _⟩ := hE.yes rfl
 obtain ⟨u, s, c, rfl⟩ := hE.like
 have hl := h6.len
 have hu := h6.up
 have he := h6.evn
 have ht := h6.txn
 have ho := h6.ok
 have htp := h6.top
 have hi := h6.inv
 have e1 := h6.ents
 have e2 := h6.atts
 simp only at y1 y2 y3 y4 hl hu he ht ho htp e1 e2
 have g1 := h.evn
 have g2 := h.txn
 have g3 := h.up
 have g4 := h.len
 refine ⟨e1.trans h.ents, e2.trans h.atts, by simp only [List.length_take]; omega, by simp only; omega, fun hs => htp (by omega), fun h1 h2 => ⟨(h.ok h1 hc).1, (ho (fun _ => y3) h2).2⟩, by simp only; omega, by simp only; omega, fun j => ?_⟩
 have j6 := hi ⟨(h.inv j).st, (h.inv j).nm, (h.inv j).cnt, (h.inv j).op⟩
 exact ⟨j6.st, j6.nm, j6.cnt, j6.op⟩
end
def InC (F : Nat) : Prop :=
 ∀ {B g : Nat} {w W : World} {S : Sx} {dv av ov tv pv uv : Value} (t : ByteArray), Qr B w W g S dv av ov tv pv uv → Lim S → t.size ≤ 4000 → VB t 0 → S.cd = 0 → Jv S → Bd S (4 * t.size) → 4001 ≤ F + S.sp →
  Calls prog 99 #[.pointer (some ⟨g, 0, none⟩), .string t] W (aY5 B w W g S dv av (4 * t.size))
def ChC (F : Nat) : Prop :=
 ∀ {B g : Nat} {w W : World} {S : Sx} {dv av ov tv pv uv : Value} (t : ByteArray), Qr B w W g S dv av ov tv pv uv → Lim S → t.size ≤ 4000 → S.cd = 0 → Jv S → Bd S 1 → 4001 ≤ F + S.sp →
  Calls prog 67 #[.pointer (some ⟨g, 0, none⟩), .string t] W (aY5 B w W g S dv av 1)
theorem cXj {B g : Nat} {w W : World} {S : Sx} {dv av ov tv pv uv : Value} (h : Qr B w W g S dv av ov tv pv uv) (t : ByteArray) (ht : t.size = 0) : Calls prog 99 #[.pointer (some ⟨g, 0, none⟩), .string t] W (aY5 B w W g S dv av (4 * t.size)) := by
 obtain ⟨_, _, _, _, c4, _, _, _, _, _⟩ := h.cells
 obtain ⟨_, _, _, _, ⟨pa, pc, rfl⟩, _⟩ := h.rows
 have HQ := aQ0 h
 clear h
 go_enter func99, ntmps99
 go_wp2_with fail
 go_loopw [5] (fun i wr => i = .int .i64 0 ∧ wr = W) (fun _ _ => 0)
 case atStart => exact ⟨rfl, rfl⟩
 case round =>
  obtain ⟨rfl, hwr⟩ := hrel
  obtain rfl := hwr.symm
  have h0 : ¬ (0 : Int) < (t.size : Int) := by omega
  go_wp2
  go_end0
  exact ⟨rfl, S, _, _, _, _, HQ.out, (CS.refl S).mono (Nat.zero_le _), Kc.refl _ _⟩
section
variable {B g : Nat} {w W W' : World} {S : Sx} {dv av ov tv pv uv : Value}
theorem Qr.addT (h : Qr B w W g S dv av ov tv pv uv) {Wa : World} {v' : Value} {l : List Int} {n : Nat} (hn : n = (S.txt ++ l).length) {o : Obj} (hg : (W.alloc o).grownBy Wa tv.ownBlock) (ho : Wa.ownsRow B 5 1 v' n ((S.txt ++ l).map (Value.int .u8))) :
 Qr B w (Wa.setCell ⟨g, 3, none⟩ v') g { S with txt := S.txt ++ l } dv av ov v' pv uv ∧ Kc g W (Wa.setCell ⟨g, 3, none⟩ v') ∧ Wa.cell? ⟨g, 3, none⟩ = some tv ∧ Wa.frozen? ⟨g, 3, none⟩ = false := by
 subst hn
 have hb : Below W.heap.size W (W.alloc o) := (Below.refl _ _).alloc (Nat.le_refl _) o
 have h1 := h.keep hb
 obtain ⟨a1, a2⟩ := h1.addTx hg ho
 have hbx := (h1.turn h1.txt hg (by decide) 3 (.bool true)).2.2.2.2.2.trans h1.box
 exact ⟨a1, (Kc.below hb).trans (Kc.row h1.txt (.inr rfl) a2), by simp [World.cell?, hbx], by simp [World.frozen?, hbx]⟩
theorem Qr.addT0 (h : Qr B w W g S dv av ov tv pv uv) {Wa : World} {v' : Value} {l : List Int} {n : Nat} (hn : n = (S.txt ++ l).length) (hg : W.grownBy Wa tv.ownBlock) (ho : Wa.ownsRow B 5 1 v' n ((S.txt ++ l).map (Value.int .u8))) :
 Qr B w (Wa.setCell ⟨g, 3, none⟩ v') g { S with txt := S.txt ++ l } dv av ov v' pv uv ∧ Kc g W (Wa.setCell ⟨g, 3, none⟩ v') ∧ Wa.cell? ⟨g, 3, none⟩ = some tv ∧ Wa.frozen? ⟨g, 3, none⟩ = false := by
 subst hn
 obtain ⟨a1, a2⟩ := h.addTx hg ho
 have hbx := (h.turn h.txt hg (by decide) 3 (.bool true)).2.2.2.2.2.trans h.box
 exact ⟨a1, Kc.row h.txt (.inr rfl) a2, by simp [World.cell?, hbx], by simp [World.frozen?, hbx]⟩
end
open Go.RowKit Strs Lists Bytes Ents Plain3 Plain11 Plain23 Plain29 Go.Lib
theorem bKd (F : Nat) (IH : ∀ F', F' < F → InC F') : ChC F := by
 intro B g w W S dv av ov tv pv uv t hQ hL ht hcd hJ hB hF
 have HQ0 := aQ0 hQ
 have HL := aQ0 hL
 have HCD := aQ0 hcd
 have HJ := aQ0 hJ
 have HBD := aQ0 hB
 have HIH := aQ0 IH
 obtain ⟨i0, hi0, hz0, hz1, hz2⟩ := info_parts bQz
 clear hQ hL hcd hJ hB IH
 go_enter func67, ntmps67
 go_wp2_with fail
 go_loopw [4] (fun i wr => ∃ (k : Nat) (S1 : Sx) (ov1 tv1 pv1 uv1 : Value), k ≤ t.size ∧ i = .int .i64 k ∧ Qr B w wr g S1 dv av ov1 tv1 pv1 uv1 ∧ Ch S S1 k ∧ Kc g W wr) (fun i wr => 2 * (t.size - (RowKit.intOf i).toNat) + cdOf wr g)
 case atStart => exact ⟨0, S, ov, tv, pv, uv, Nat.zero_le _, rfl, HQ0.out, Ch.refl _, Kc.refl _ _⟩
 case round =>
  obtain ⟨k, S1, ov1, tv1, pv1, uv1, hk, rfl, hq1, hch1, hkc⟩ := hrel
  obtain ⟨ta, tc, rfl⟩ := aZi hq1.txt
  obtain ⟨_, _, _, c3, _, _, _, c7, _, _⟩ := hq1.cells
  have Q1 := aQ0 hq1
  have V1 := aQ0 hch1
  have K1 := aQ0 hkc
  have hL1 := hch1.lim (by omega) HL.out
  have HL1 := aQ0 hL1
  have hbd1 := (hch1.cs (by omega)).bd (n := 0) HL.out HBD.out
  have hsp1 := hL1.sp
  have htl : S1.txt.length ≤ 100000000000 := by unfold Bd at hbd1; omega
  have HBD1 := aQ0 hbd1
  clear hq1 hch1 hkc HQ0 hL1 hbd1
  by_cases hlt : k < t.size
  · by_cases hcd1 : S1.cd = 0
    · have M1 := aQ0 (dQg Q1.out hcd1)
      obtain ⟨hsp4, hus1⟩ := HL1.out.ok hcd1
      have hup1 := V1.out.up
      rw [hcd1] at c7
      have HC1 := aQ0 hcd1
      clear hcd1
      obtain ⟨b, hbe⟩ := nmE (aQ1 t k)
      have hbd := aXn t k
      rw [hbe] at hbd
      have hix : ∀ wx, (Instr.index 9 (.string t) (.int .i64 (k : Int))).run prog wx = .ok (.int .u8 b) wx := fun wx => by rw [aQ8 wx 9 t k hlt underlying9, hbe]
      have hlti : (k : Int) < (t.size : Int) := by omega
      have HBE := aQ0 hbe
      clear hbe
      have hbz := Q1.out.sz
      by_cases h38 : b = 38
      · subst h38
        have ht6 : t.size ≤ 1048576 := by omega
        have hch := bWe t k wr ht6 hlt HBE.out
        have hnm := fun W => bJb t k W ht6 hlt
        cases hcb : chB t k with
        | true =>
         obtain ⟨_, r2, r3, r4⟩ := cX0 hcb
         obtain ⟨Qp, hQp⟩ : ∃ Q, aZu t (k + 2) + (numD t (k + 2)).length + 1 = Q := ⟨_, rfl⟩
         obtain ⟨c, hc⟩ := nmE ((numV t (k + 2) : Int))
         rw [hQp] at r3 r4 hch
         rw [hc] at r2 hch
         rw [hcb] at hch
         have hel := aJb c
         clear hcb hQp hc
         go_wp2_with (first | (go_at_call 94; refine hch.mono ?_; rintro e w2 ⟨n2, q2, rfl, hq2, m2, hw2⟩; obtain ⟨rfl, rfl⟩ := hq2 (by trivial); replace hw2 := aQ0 hw2) | (go_at_call 95; refine (hnm _).mono ?_; rintro e w3 ⟨t3, q3, rfl, _, hb3⟩; replace hb3 := aQ0 hb3))
         refine (aWj _ _).mono ?_
         rintro e w4 ⟨⟨t4, b4, rfl, _⟩, hw4⟩
         obtain rfl := hw4.symm
         have hb3' : Below wr.heap.size wr w3 := (show Below wr.heap.size wr w2 by rw [hw2.out]; exact ⟨rfl, rfl, rfl, Nat.le_refl _, fun _ _ => rfl⟩).trans (hb3.out.mono (by rw [hw2.out]; exact Nat.le_refl _))
         have Q3 := aQ0 (Q1.out.keep hb3')
         have K3 := aQ0 (K1.out.trans (Kc.below (g := g) hb3'))
         have hpt := bY1 B _ _ _ n2 r2 w3 Q3.out.txt (by omega) Q3.out.sz
         have d3 := Q3.out.cells.2.2.2.1
         clear hb3' hnm hch hb3 hw2 hw4
         go_wp2_with fail
         refine hpt.mono ?_
         rintro e w5 ⟨v5, rfl, hr5, o5, hg5⟩
         obtain ⟨a5, c5, hv5⟩ := aZi hr5
         subst hv5
         obtain ⟨Q5, K5, d5, f5⟩ := Q3.out.addT (l := encodeRuneZ n2) (by rw [List.length_append]) hg5 (by rw [List.map_append]; exact hr5)
         replace Q5 := aQ0 Q5
         replace K5 := aQ0 (K3.out.trans K5)
         clear hpt hg5 hr5
         go_wp2
         go_roundw
         case rel => exact ⟨q2, _, ov1, _, pv1, uv1, r4, rfl, Q5.out, V1.out.add (k' := q2) (by omega), K5.out⟩
         case measure => simp only [RowKit.intOf]; rw [M1.out]; have := aKo (w5.setCell ⟨g, 3, none⟩ (.slice a5 (S1.txt.length + (encodeRuneZ n2).length) c5)) g; simp only [Int.toNat_natCast]; omega
        | false =>
         rw [hcb] at hch
         cases hnz : aVw t (k + 1) with
         | none =>
          rw [hnz] at hnm
          go_wp2_with (first | (go_at_call 94; refine hch.mono ?_; rintro e w2 ⟨n2, q2, rfl, _, m2, hw2⟩; replace hw2 := aQ0 hw2) | (go_at_call 95; refine (hnm _).mono ?_; rintro e w3 ⟨t3, q3, rfl, _, hb3⟩; replace hb3 := aQ0 hb3))
          refine (aWj _ _).mono ?_
          rintro e w4 ⟨⟨t4, b4, rfl, _⟩, hw4⟩
          obtain rfl := hw4.symm
          have hb3' : Below wr.heap.size wr w3 := (show Below wr.heap.size wr w2 by rw [hw2.out]; exact ⟨rfl, rfl, rfl, Nat.le_refl _, fun _ _ => rfl⟩).trans (hb3.out.mono (by rw [hw2.out]; exact Nat.le_refl _))
          have Q3 := aQ0 (Q1.out.keep hb3')
          have K3 := aQ0 (K1.out.trans (Kc.below (g := g) hb3'))
          have hf := aJ9 Q3.out 3
          clear hb3' hnm hch hb3 hw2 hw4
          go_wp2_with fail
          refine hf.mono ?_
          rintro e w5 ⟨rfl, hq5, hg5⟩
          have Q5 := aQ0 hq5
          have K5 := aQ0 (K3.out.trans (Kc.kp (aJr hg5)))
          have M5 := aQ0 (bWg hq5 (Sx.fail_bad S1 3 (by decide)))
          clear hf hq5 hg5
          go_wp2
          go_roundw
          case rel => exact ⟨k, S1.fail 3, ov1, _, pv1, uv1, by omega, rfl, Q5.out, V1.out.vs (VS.fail S1 3 (by decide)) (Nat.le_refl _), K5.out⟩
          case measure => simp only [RowKit.intOf]; rw [M5.out, M1.out]; omega
         | some x =>
          obtain ⟨np1, np2, np3⟩ := bY7 hnz
          rw [hnz] at hnm
          go_wp2_with (first | (go_at_call 94; refine hch.mono ?_; rintro e w2 ⟨n2, q2, rfl, _, m2, hw2⟩; replace hw2 := aQ0 hw2) | (go_at_call 95; refine (hnm _).mono ?_; rintro e w3 ⟨t3, q3, rfl, hq3, hb3⟩; obtain ⟨rfl, rfl⟩ := hq3 x rfl; replace hb3 := aQ0 hb3))
          refine (aWj _ _).mono ?_
          rintro e w4 ⟨⟨t4, b4, rfl, ht4⟩, hw4⟩
          obtain rfl := hw4.symm
          have hb3' : Below wr.heap.size wr w3 := (show Below wr.heap.size wr w2 by rw [hw2.out]; exact ⟨rfl, rfl, rfl, Nat.le_refl _, fun _ _ => rfl⟩).trans (hb3.out.mono (by rw [hw2.out]; exact Nat.le_refl _))
          have Q3 := aQ0 (Q1.out.keep hb3')
          have K3 := aQ0 (K1.out.trans (Kc.below (g := g) hb3'))
          have d3 := Q3.out.cells.2.2.2.1
          have hbz3 := Q3.out.sz
          clear hb3' hnm hch hb3 hw2 hw4
          cases b4 with
          | true =>
           have hmx4 : S1.txt.length + t4.size ≤ maxLen := by unfold maxLen; omega
           have hmy4 : S1.txt.length + t4.size ≤ 140737488355328 := by omega
           go_wp2_with (at_builtin; refine wpList_append_own_string _ rfl _ _ 22 9 rfl B 5 i0 underlying22 underlying9 hi0 hz0 hz1 hz2 _ _ _ rfl Q3.out.txt t4 rfl hmx4 hmy4 hbz3 ?_; intro v5 w5 hown5 hgrow _; obtain ⟨a5, c5, hv5⟩ := aZi hown5; subst hv5; obtain ⟨Q5, K5, d5, f5⟩ := Q3.out.addT0 (l := nums t4) (by rw [List.length_append, aK1]) hgrow (by rw [List.map_append, ← bQ0]; exact hown5); replace Q5 := aQ0 Q5; replace K5 := aQ0 (K3.out.trans K5); clear hgrow hown5)
           go_roundw
           case rel => exact ⟨x.2, _, ov1, _, pv1, uv1, np2, rfl, Q5.out, V1.out.add (k' := x.2) (by rw [aK1]; omega), K5.out⟩
           case measure => simp only [RowKit.intOf]; rw [M1.out]; have := aKo (w5.setCell ⟨g, 3, none⟩ (.slice a5 (S1.txt.length + t4.size) c5)) g; simp only [Int.toNat_natCast]; omega
          | false =>
           have hen := bYw Q3.out x.1 HL1.out.el HL1.out.et hsp4 hus1 HC1.out
           go_wp2_with fail
           refine hen.mono ?_
           rintro e w5 ⟨tx, may, S5, uv5, rfl, hq5, hes, hk5⟩
           have Q5 := aQ0 hq5
           have K5 := aQ0 (K3.out.trans (Kc.kp hk5))
           have E5 := aQ0 hes
           clear hen hq5 hes hk5 d3
           cases may with
           | false =>
            have V5 := aQ0 (V1.out.vs (k' := x.2) E5.out.vs_no (by omega))
            go_wp2
            go_roundw
            case rel => exact ⟨x.2, S5, ov1, _, pv1, uv5, np2, rfl, Q5.out, V5.out, K5.out⟩
            case measure => simp only [RowKit.intOf]; rw [M1.out]; have := aKo w5 g; simp only [Int.toNat_natCast]; omega
           | true =>
            obtain ⟨y1, y2, y3, y4, e5, he5, hee5⟩ := E5.out.yes rfl
            have htx : tx.size ≤ 4000 := by rw [← hee5]; exact HL1.out.et e5 he5
            have hvb : VB tx 0 := by rw [← hee5]; exact HL1.out.vb e5 he5
            have hin : Calls prog 99 #[.pointer (some ⟨g, 0, none⟩), .string tx] w5 (aY5 B w w5 g S5 dv av (4 * tx.size)) := by
             by_cases h0 : tx.size = 0
             · exact cXj Q5.out tx h0
             · obtain ⟨su, ss, sc, hS5⟩ := E5.out.like
               have hL5 : Lim S5 := ⟨by rw [hS5]; exact HL1.out.el, by rw [hS5]; exact HL1.out.et, by rw [hS5]; exact HL1.out.vb, by rw [hS5]; exact HL1.out.al, by rw [hS5]; exact HL1.out.ad, by omega, fun _ => ⟨y3, by omega⟩⟩
               have hJ5 : Jv S5 := by
                have j1 := V1.out.inv HJ.out
                rw [hS5]
                exact ⟨j1.st, j1.nm, j1.cnt, j1.op⟩
               have hB5 : Bd S5 (4 * tx.size) := by
                have hb := HBD1.out
                have e1 : S5.evs = S1.evs := by rw [hS5]
                have e2 : S5.txt = S1.txt := by rw [hS5]
                unfold Bd at hb ⊢
                rw [e1, e2]
                omega
               exact HIH.out (F - tx.size) (by omega) tx Q5.out hL5 htx hvb y1 hJ5 hB5 (by omega)
            clear he5 hee5 hvb
            have hln5 := y4
            go_wp2_with fail
            refine hin.mono ?_
            rintro e w6 ⟨rfl, S6, ov6, tv6, pv6, uv6, hq6, hc6, hk6⟩
            have hln6 := hc6.len
            have hlv := bYh hq6 S1.usg.length (by omega) (by omega)
            have V6 := aQ0 (V1.out.ent (k' := x.2) (by omega) E5.out HC1.out hc6)
            have K6 := aQ0 (K5.out.trans hk6)
            clear hin hq6 hc6 hk6
            go_wp2_with fail
            refine hlv.mono ?_
            rintro e w7 ⟨rfl, uv7, hq7, hg7⟩
            have Q7 := aQ0 hq7
            have K7 := aQ0 (K6.out.trans (Kc.kp (aJr hg7)))
            clear hlv hq7 hg7
            go_wp2
            go_roundw
            case rel => exact ⟨x.2, _, ov6, tv6, pv6, uv7, np2, rfl, Q7.out, V6.out, K7.out⟩
            case measure => simp only [RowKit.intOf]; rw [M1.out]; have := aKo w7 g; simp only [Int.toNat_natCast]; omega
      · have h38b : (b != 38) = true := by simpa using h38
        have hone : ∀ u ∈ [Value.int .u8 b], u.oneCell' = true := by intro u hu; simp at hu; subst hu; rfl
        have ROW : Hid ((wr.drew.alloc (.cells #[.int .u8 b] 5)).ownsRow B 5 1 (.slice ta S1.txt.length tc) S1.txt.length (S1.txt.map (Value.int .u8))) := aQ0 (Q1.out.txt.drew.alloc _)
        have c3a : (wr.alloc (.cells #[.int .u8 b] 5)).cell? ⟨g, 3, none⟩ = some (.slice ta S1.txt.length tc) := (World.cell?_of_block (a := ⟨g, 3, none⟩) (heap_alloc_old _ _ Q1.out.lt)).trans c3
        go_wp2_with fail
        go_region_law (refine aQn rfl (.tmp 34) (.tmp 38) 22 rfl B 5 i0 (.int .u8 0) 1 1 underlying22 hi0 hz0 hz1 hz2 rfl (by decide) (.slice ta S1.txt.length tc) S1.txt.length (S1.txt.map (Value.int .u8)) (by simp [Act.eval]) ROW.out ⟨wr.heap.size, 0, none⟩ 1 1 [.int .u8 b] (by simp [Act.eval]) rfl (cQ6 wr.drew _ _) hone (by unfold maxLen; omega) (by omega) (bQ4 hbz _) ?_; intro v' wa hoa hga; obtain ⟨a5, c5, hv5⟩ := aZi hoa; subst hv5; obtain ⟨Q5, K5, d5, f5⟩ := Q1.out.drew.addT (l := [b]) (by rw [List.length_append]) hga (by rw [List.map_append]; exact hoa); replace Q5 := aQ0 Q5; replace K5 := aQ0 ((K1.out.trans (Kc.below (Below.refl _ _).drew)).trans K5); clear hoa hga)
        all_goals
         go_wp2
         exact ⟨⟨k + 1, _, ov1, _, pv1, uv1, by omega, by go_num, Q5.out, V1.out.add (k' := k + 1) (by simp; omega), K5.out⟩, by show 2 * (t.size - ((k : Int) + 1).toNat) + cdOf _ g < 2 * (t.size - ((k : Int)).toNat) + cdOf wr g; rw [M1.out]; have := aKo (wa.setCell ⟨g, 3, none⟩ (.slice a5 (S1.txt.length + 1) c5)) g; omega⟩
    · have hlti : (k : Int) < (t.size : Int) := by omega
      have hcb : (S1.cd == 0) = false := by simpa using hcd1
      go_wp2
      go_end0
      exact ⟨rfl, S1, _, _, _, _, Q1.out, V1.out.cs (by omega), K1.out⟩
  · have hlti : ¬ (k : Int) < (t.size : Int) := by omega
    go_wp2
    go_end0
    exact ⟨rfl, S1, _, _, _, _, Q1.out, V1.out.cs (by omega), K1.out⟩
open Go.RowKit Lists Ents Plain3 Plain23 Plain29 PlainR PlainJ Go.Lib
theorem bZr {P : Program} {ops : Array Oper} {o : Oper} {a : Act} {w : World} {K : Act → World → Prop} {Q : Exit → Act → World → Prop} {F : Prop} (hg : o.guard = none) (s x : Operand) (t u : TypeId)
 (ho : o.op = .call { callee := .builtin .append, args := #[s, x], argTypes := #[t, u] })
 (base : Nat) (e : TypeId) (i : TypeInfo) (ht : P.underlying t = some (.slice e)) (hu : P.underlying u = some .string) (hi : P.info? e = some i) (hz : i.zero = some (.int .u8 0))
 (hsize : i.size = 1) (hby : i.bytes = 1)
 (v : Value) (n : Nat) (xs : List Value) (hs : a.eval s = v) (hown : w.ownsRow base e 1 v n xs) (str : ByteArray) (hx : a.eval x = .string str)
 (h63 : n + str.size ≤ maxLen) (hbytes : n + str.size ≤ 140737488355328) (hbase : base ≤ w.heap.size)
 (h : ∀ v' w', w'.ownsRow base e 1 v' (n + str.size) (xs ++ strCells str) → w.grownBy w' v.ownBlock → K (a.put o.dst v') w') :
 if Region.wanted o (yielded ops a.tmps) = true then Oper.wp P o a w K Q else F := by
 have hw : Region.wanted o (yielded ops a.tmps) = true := by simp [Region.wanted, hg]
 rw [if_pos hw]
 obtain ⟨v', w', hr, h2, h3, _⟩ := run_append_own_string (P := P) w base t u o.type e i ht hu hi hz hsize hby v n xs hown str h63 hbytes hbase
 unfold Oper.wp execOp
 simp only [ho, resolve, invoke, builtin, Sem.run_bind, Sem.run_pure, Result.andThen_ok, List.map_toArray, List.map_cons, List.map_nil, hs, hx, hr]
 exact h v' w' h2 h3
def CtC (F : Nat) : Prop :=
 ∀ {B B' g : Nat} {w W : World} {S : Sx} {dv av ov tv pv uv : Value} (kd : Int) (nm tx : ByteArray) (ta : Value) (T : List (ByteArray × ByteArray)) (low : Nat), Qr B w W g S dv av ov tv pv uv → Lim S → W.ownsRow B' 54 2 ta T.length (aQc T) → (∀ a ∈ T, a.1.size ≤ 4000 ∧ a.2.size ≤ 4000) → T.length ≤ 4001 → nm.size ≤ 4000 → tx.size ≤ 4000 → low ≤ 1000000 → S.cd = 0 → Jv S → Bd S 4 → 4001 ≤ F + S.sp →
  Calls prog 44 #[.pointer (some ⟨g, 0, none⟩), .agg #[.int .i64 kd, .string nm, .string tx, ta], .int .i64 (low : Int)] W (aY5 B w W g S dv av 4)
theorem cZ9 (S : Sx) (E : Ev) (h1 : E.kind ≠ 1) (h0 : E.kind ≠ 2) (h2 : E.name.size ≤ 4000) (h3 : E.attrs = []) : CS S (S.tell E) 2 :=
 cQm S E S.opn S.sn (fun h => absurd h h1) ⟨h2, by rw [h3]; exact Nat.zero_le _, by rw [h3]; exact fun a h => by cases h⟩ (fun j => ⟨by simp [nSt, nEn, h1, h0], j.op⟩)
theorem bKc (F : Nat) (hC : ChC F) : CtC F := by
 intro B B' g w W S dv av ov tv pv uv kd nm tx ta T low hQ hL hta hT hTl hnm htx hlow hcd hJ hB hF
 obtain ⟨ao, ac, rfl⟩ := aZi hta
 obtain ⟨W1, hW1⟩ := nmE (W.alloc (.cells #[.int .i64 kd, .string nm, .string tx, .slice ao T.length ac] 99))
 have hb1 : Below W.heap.size W W1 := by rw [← hW1]; exact bAl
 have hx1 : W1.heap[W.heap.size]? = some (.cells #[.int .i64 kd, .string nm, .string tx, .slice ao T.length ac] 99) := by rw [← hW1]; exact heap_alloc_new _ _
 have hq1 := hQ.keep hb1
 have hne : W.heap.size ≠ g := by have := hQ.lt; omega
 obtain ⟨k0, k1, k2, k3⟩ : W1.cell? ⟨W.heap.size, 0, none⟩ = some (.int .i64 kd) ∧ W1.cell? ⟨W.heap.size, 1, none⟩ = some (.string nm) ∧ W1.cell? ⟨W.heap.size, 2, none⟩ = some (.string tx) ∧ W1.cell? ⟨W.heap.size, 3, none⟩ = some (.slice ao T.length ac) := by simp [World.cell?, hx1]
 have hta1 : W1.ownsRow B' 54 2 (.slice ao T.length ac) T.length (aQc T) := aQ4 hta (fun k hk => hb1.block k (hta.lt k hk).2)
 have K1 := aQ0 (Kc.below (g := g) hb1)
 have X1 := aQ0 hx1
 have Q1 := aQ0 hq1
 have HL := aQ0 hL
 have HJ := aQ0 hJ
 have HB := aQ0 hB
 have HC : Hid (Unit → ChC F) := aQ0 (fun _ => @hC)
 have HCD := aQ0 hcd
 have hev : S.evs.length ≤ 800000 + 100000 := by unfold Bd at hB; omega
 have htl : S.txt.length ≤ 100000000000 := by unfold Bd at hB; omega
 have hop := hJ.op
 clear hQ hta hb1 hx1 hL hJ hB hC hcd
 by_cases h1 : kd = 1
 · subst h1
   have hst := bVu Q1.out HL.out 1 nm tx _ T hta1 hT hTl hnm (by omega)
   clear hta1 hT hq1
   go_enter func44, ntmps44
   go_wp2_with fail
   refine hst.mono ?_
   rintro e w2 ⟨rfl, S2, ov2, tv2, pv2, uv2, hq2, hc2, hk2⟩
   go_wp2
   go_end0
   exact ⟨rfl, S2, ov2, tv2, pv2, uv2, hq2, hc2.mono (by omega), K1.out.trans hk2⟩
 have b1 : (kd == 1) = false := by simpa using h1
 by_cases h3 : kd = 3
 · subst h3
   have hst := bVu Q1.out HL.out 3 nm tx _ T hta1 hT hTl hnm (by omega)
   clear hta1 hT hq1
   go_enter func44, ntmps44
   go_wp2_with fail
   refine hst.mono ?_
   rintro e w2 ⟨rfl, S2, ov2, tv2, pv2, uv2, hq2, hc2, hk2⟩
   have c7 := hq2.cells.2.2.2.2.2.2.2.1
   have x2 := hk2.box X1.out hne (by decide) (by decide)
   have n2 : w2.cell? ⟨W.heap.size, 1, none⟩ = some (.string nm) := by simp [World.cell?, x2]
   have Q2 := aQ0 hq2
   have C2 := aQ0 hc2
   have K2 := aQ0 (K1.out.trans hk2)
   have hbd2 := hc2.bd (n := 2) HL.out HB.out
   have hop2 := (hc2.inv HJ.out).op
   clear hst hq2 hc2 hk2 x2 k0 k1 k2 k3 hW1
   by_cases hcd2 : S2.cd = 0
   · rw [hcd2] at c7
     have hen := cJj Q2.out nm low hnm hlow (by unfold Bd at hbd2; omega) (by omega)
     clear hcd2
     go_wp2_with fail
     refine hen.mono ?_
     rintro e w3 ⟨rfl, S3, ov3, tv3, pv3, uv3, hq3, hc3, hk3⟩
     go_wp2
     go_end0
     exact ⟨rfl, S3, ov3, tv3, pv3, uv3, hq3, C2.out.trans hc3, K2.out.trans hk3⟩
   · have hcb : (S2.cd == 0) = false := by simpa using hcd2
     go_wp2
     go_end0
     exact ⟨rfl, S2, ov2, tv2, pv2, uv2, Q2.out, C2.out.mono (by omega), K2.out⟩
 have b3 : (kd == 3) = false := by simpa using h3
 by_cases h2 : kd = 2
 · subst h2
   have hen := cJj Q1.out nm low hnm hlow (by omega) (by omega)
   clear hta1 hT hq1
   go_enter func44, ntmps44
   go_wp2_with fail
   refine hen.mono ?_
   rintro e w2 ⟨rfl, S2, ov2, tv2, pv2, uv2, hq2, hc2, hk2⟩
   go_wp2
   go_end0
   exact ⟨rfl, S2, ov2, tv2, pv2, uv2, hq2, hc2.mono (by omega), K1.out.trans hk2⟩
 have b2 : (kd == 2) = false := by simpa using h2
 by_cases h4 : kd = 4
 · subst h4
   have hch := HC.out () tx Q1.out HL.out htx HCD.out HJ.out (HB.out.mono (by omega)) hF
   clear hta1 hT hq1
   go_enter func44, ntmps44
   go_wp2_with fail
   refine hch.mono ?_
   rintro e w2 ⟨rfl, S2, ov2, tv2, pv2, uv2, hq2, hc2, hk2⟩
   go_wp2
   go_end0
   exact ⟨rfl, S2, ov2, tv2, pv2, uv2, hq2, hc2.mono (by omega), K1.out.trans hk2⟩
 have b4 : (kd == 4) = false := by simpa using h4
 by_cases h5 : kd = 5
 · subst h5
   obtain ⟨i0, hi0, hz0, hz1, hz2⟩ := info_parts bQz
   obtain ⟨ta', tc, rfl⟩ := aZi Q1.out.txt
   have c3 := Q1.out.cells.2.2.2.1
   have hbz := Q1.out.sz
   have ROW := aQ0 Q1.out.drew.txt
   clear hta1 hT hq1
   go_enter func44, ntmps44
   go_wp2_with fail
   go_region_law (refine bZr rfl (.tmp 49) (.tmp 51) 22 9 rfl B 5 i0 underlying22 underlying9 hi0 hz0 hz1 hz2 (.slice ta' S.txt.length tc) S.txt.length (S.txt.map (Value.int .u8)) (by simp [Act.eval]) ROW.out tx (by simp [Act.eval]) (by unfold maxLen; omega) (by omega) hbz ?_; intro v' wa hoa hga; obtain ⟨a5, c5, hv5⟩ := aZi hoa; subst hv5; obtain ⟨Q5, K5, d5, f5⟩ := Q1.out.drew.addT0 (l := nums tx) (by rw [List.length_append, aK1]) hga (by rw [List.map_append, ← bQ0]; exact hoa); replace Q5 := aQ0 Q5; replace K5 := aQ0 ((K1.out.trans (Kc.below (Below.refl _ _).drew)).trans K5); clear hoa hga)
   all_goals
    go_wp2
    go_end0
    exact ⟨rfl, _, _, _, _, _, Q5.out, ⟨rfl, rfl, rfl, Nat.le_refl _, id, fun h h0 => ⟨h0, h h0⟩, by show S.evs.length + 4 * S.sp ≤ S.evs.length + 4 * S.sp + 4; omega, by show (S.txt ++ nums tx).length + 100000 * S.sp ≤ S.txt.length + 100000 * S.sp + 25000 * 4; rw [List.length_append, aK1]; omega, fun j => ⟨j.st, j.nm, j.cnt, j.op⟩⟩, K5.out⟩
 have b5 : (kd == 5) = false := by simpa using h5
 by_cases h6 : kd = 6
 · subst h6
   have hte := bQo (E := ⟨4, ⟨#[]⟩, tx, []⟩) Q1.out (World.ownsRow_nil _ _ _ _) (by omega)
   clear hta1 hT hq1
   go_enter func44, ntmps44
   go_wp2_with fail
   refine hte.mono ?_
   rintro e w2 ⟨rfl, ov2, hq2, hk2⟩
   go_wp2
   go_end0
   exact ⟨rfl, _, _, _, _, _, hq2, (cZ9 S ⟨4, ⟨#[]⟩, tx, []⟩ (show (4 : Int) ≠ 1 by decide) (show (4 : Int) ≠ 2 by decide) (Nat.zero_le _) rfl).mono (by omega), K1.out.trans hk2⟩
 have b6 : (kd == 6) = false := by simpa using h6
 by_cases h7 : kd = 7
 · subst h7
   have hte := bQo (E := ⟨5, nm, tx, []⟩) Q1.out (World.ownsRow_nil _ _ _ _) (by omega)
   clear hta1 hT hq1
   go_enter func44, ntmps44
   go_wp2_with fail
   refine hte.mono ?_
   rintro e w2 ⟨rfl, ov2, hq2, hk2⟩
   go_wp2
   go_end0
   exact ⟨rfl, _, _, _, _, _, hq2, (cZ9 S ⟨5, nm, tx, []⟩ (show (5 : Int) ≠ 1 by decide) (show (5 : Int) ≠ 2 by decide) hnm rfl).mono (by omega), K1.out.trans hk2⟩
 have b7 : (kd == 7) = false := by simpa using h7
 have hf := aKl Q1.out 3 (by decide) 4
 clear hta1 hT hq1
 go_enter func44, ntmps44
 go_wp2_with fail
 refine hf.mono ?_
 rintro e w2 ⟨rfl, S2, ov2, tv2, pv2, uv2, hq2, hc2, hk2⟩
 go_wp2
 go_end0
 exact ⟨rfl, S2, ov2, tv2, pv2, uv2, hq2, hc2, K1.out.trans hk2⟩
end Go.Proofs.YtocnfoeaikiecaaGreatDoor
