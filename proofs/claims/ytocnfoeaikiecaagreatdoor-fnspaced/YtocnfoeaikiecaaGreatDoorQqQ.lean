import Derived.Test.YtocnfoeaikiecaaGreatDoorQqP
import Derived.Test.YtocnfoeaikiecaaGreatDoorTkD
set_option maxRecDepth 100000
set_option maxHeartbeats 8000000
set_option linter.unusedVariables false
namespace Go.Proofs.YtocnfoeaikiecaaGreatDoor.PlainL
open Go.RowKit Plain1 Lists Bytes Plain5 Plain7 Plain8 Plain9 Plain11 Plain23 PlainM PlainD Go.Lib
variable {s : ByteArray}
theorem strOf_nums (s : ByteArray) : strOfNums (nums s) = s := by
 unfold nums
 apply ByteArray.ext
 simp only [strOfNums, List.map_map]
 have : (fun b : UInt8 => b) = ((fun n : Int => UInt8.ofNat n.toNat) ∘ fun b : UInt8 => (b.toNat : Int)) := by
  funext b
  simp
 rw [← this]
 simp
theorem dZd {c : Int} (hc : aZ5 c = true) (h : c ≠ 13) : ∀ x ∈ encodeRuneZ c, x ≠ 13 := by
 have hr := (aJn c).1 hc
 intro x hx
 by_cases h1 : c ≤ 127
 · rw [encodeRuneZ_one (by omega) h1] at hx; simp at hx; omega
 by_cases h2 : c ≤ 2047
 · rw [encodeRuneZ_two (by omega) h2] at hx; simp at hx; omega
 by_cases h3 : c ≤ 65535
 · rw [encodeRuneZ_three (by omega)] at hx; simp at hx; omega
 · rw [encodeRuneZ_four (by omega) (by omega)] at hx; simp at hx; omega
theorem cJg : ∀ (a b : List UInt8), (∀ x ∈ a, x ≠ 13) → aZq (a ++ b) = a ++ aZq b
 | [], b, _ => rfl
 | x :: a, b, h => by
  rw [List.cons_append, aZq, if_pos (h x (by simp)), cJg a b (fun y hy => h y (by simp [hy])), List.cons_append]
theorem cJh : ∀ (l : List Int) (L : List UInt8), l.all aZ5 = true → L.map (fun b => (b.toNat : Int)) = aX8 l → ∃ l', l'.all aZ5 = true ∧ (aZq L).map (fun b => (b.toNat : Int)) = aX8 l'
 | [], L, _, h => by
  have : L = [] := by simpa [aX8] using h
  subst this
  exact ⟨[], rfl, rfl⟩
 | c :: l, L, hl, h => by
  rw [List.all_cons, Bool.and_eq_true] at hl
  rw [aJt] at h
  obtain ⟨L1, L2, hL, h1, h2⟩ := List.map_eq_append_iff.1 h
  subst hL
  obtain ⟨l', h3, h4⟩ := cJh l L2 hl.2 h2
  by_cases h13 : c = 13
  · subst h13
    rw [encodeRuneZ_one (by decide) (by decide)] at h1
    obtain ⟨b, hb⟩ : ∃ b, L1 = [b] := by
     cases L1 with
     | nil => simp at h1
     | cons b t => cases t with
      | nil => exact ⟨b, rfl⟩
      | cons c t => simp at h1
    subst hb
    have hb13 : b = 13 := by
     have : (b.toNat : Int) = 13 := by simpa using h1
     apply UInt8.toNat_inj.1
     have : b.toNat = 13 := by omega
     rw [this]; rfl
    subst hb13
    rw [List.cons_append, List.nil_append, aZq, if_neg (by simp)]
    split
    · exact ⟨l', h3, h4⟩
    · refine ⟨10 :: l', by rw [List.all_cons, h3]; rfl, ?_⟩
      rw [List.map_cons, h4, aJt, encodeRuneZ_one (by decide) (by decide)]
      rfl
  · refine ⟨c :: l', by rw [List.all_cons, h3, hl.1]; rfl, ?_⟩
    rw [cJg L1 L2 (fun x hx e => ?_), List.map_append, h1, h4, aJt]
    have hm : (x.toNat : Int) ∈ encodeRuneZ c := by rw [← h1]; exact List.mem_map.2 ⟨x, hx, rfl⟩
    rw [e] at hm
    exact dZd hl.1 h13 _ hm rfl
theorem endsE_len : ∀ (l : List UInt8), (aZq l).length ≤ l.length
 | [] => Nat.le_refl _
 | c :: t => by
  have := endsE_len t
  rw [aZq]
  split
  · simp; omega
  · split
    · simp; omega
    · simp; omega
theorem dK9 {t : ByteArray} (h : (aX4 t).2 < 0) : VB (⟨(bX3 t).toArray⟩ : ByteArray) 0 ∧ (⟨(bX3 t).toArray⟩ : ByteArray).size ≤ 4000 := by
 unfold bX3
 by_cases h4 : 4000 < t.size
 · rw [if_pos h4]; exact ⟨cJl, Nat.zero_le _⟩
 · rw [if_neg h4]
   obtain ⟨l, hl, he⟩ := cZv (dQs h)
   obtain ⟨l', h1, h2⟩ := cJh l t.data.toList hl he
   have hu : strOfNums (aX8 l') = (⟨(aZq t.data.toList).toArray⟩ : ByteArray) := by
    rw [← h2]
    exact strOf_nums ⟨(aZq t.data.toList).toArray⟩
   refine ⟨?_, ?_⟩
   · rw [← hu]
     refine dQs ?_
     rw [bZw l' h1]
     show (-1 : Int) < 0
     decide
   · show (aZq t.data.toList).toArray.size ≤ 4000
     rw [List.size_toArray]
     have := endsE_len t.data.toList
     have hz : t.data.toList.length = t.size := rfl
     omega
theorem bWp (h0 : VB s 0) : ∀ (f p : Nat) (d : Dt), HdOk s.size d → d.ents.length ≤ 40 → d.atts.length ≤ 40 → HdOk s.size (aY9 s f p d).dtd ∧ (aY9 s f p d).dtd.ents.length ≤ 40 ∧ (aY9 s f p d).dtd.atts.length ≤ 40
 | 0, p, d, h, _, _ => ⟨cJa _, Nat.zero_le _, Nat.zero_le _⟩
 | f + 1, p, d, h, h1, h2 => by
  unfold aY9
  split
  · cases hm : aWu s (whiteZ s p) with
    | none => exact ⟨cJa _, Nat.zero_le _, Nat.zero_le _⟩
    | some x =>
     obtain ⟨l, q⟩ := x
     simp only
     split
     · exact ⟨cJa _, Nat.zero_le _, Nat.zero_le _⟩
     · rename_i hf
       unfold bYt at hf
       rw [decide_eq_true_eq] at hf
       exact bWp h0 f q _ (dJr l d h (dZ0 h0 hm)) (by omega) (by omega)
  · exact ⟨h, h1, h2⟩
end Go.Proofs.YtocnfoeaikiecaaGreatDoor.PlainL
namespace Go.Proofs.YtocnfoeaikiecaaGreatDoor
open Go.RowKit Strs Lists Ents Plain3 Plain9 Plain11 Plain23 PlainR PlainM PlainD PlainL Go.Lib Tryz
structure DS (S S' : Sx) (n : Nat) : Prop where
 len : S'.usg.length = S.usg.length
 up : S.sp ≤ S'.sp
 top : S.sp ≤ 8000 → S'.sp ≤ 8000
 evn : S'.evs.length + 4 * S.sp ≤ S.evs.length + 4 * S'.sp + n
 txn : S'.txt.length + 100000 * S.sp ≤ S.txt.length + 100000 * S'.sp + 25000 * n
 inv : Jv S → Jv S'
 lim : Lim S → Lim S'
section
variable {S S' S'' : Sx} {n m : Nat}
theorem DS.refl (S : Sx) : DS S S 0 := ⟨rfl, Nat.le_refl _, id, by omega, by omega, id, id⟩
theorem DS.trans (h : DS S S' n) (h' : DS S' S'' m) : DS S S'' (n + m) :=
 ⟨h'.len.trans h.len, Nat.le_trans h.up h'.up, fun hs => h'.top (h.top hs), by have := h.evn; have := h'.evn; omega, by have := h.txn; have := h'.txn; omega, fun hj => h'.inv (h.inv hj), fun hl => h'.lim (h.lim hl)⟩
theorem DS.mono (h : DS S S' n) (hm : n ≤ m) : DS S S' m := ⟨h.len, h.up, h.top, by have := h.evn; omega, by have := h.txn; omega, h.inv, h.lim⟩
theorem CS.ds (h : CS S S' n) : DS S S' n := ⟨h.len, h.up, h.top, h.evn, h.txn, h.inv, h.lim⟩
theorem DS.bd (h : DS S S' m) (hL : Lim S) (hb : Bd S (m + n)) : Bd S' n := by
 have h1 := h.evn
 have h2 := h.txn
 have h3 := h.up
 have h4 := h.top hL.sp
 unfold Bd at *
 omega
end
def dJu (B : Nat) (w W : World) (g : Nat) (S : Sx) (n : Nat) (e : Ending) (W' : World) : Prop :=
 e = .returned (.tuple #[]) ∧ ∃ S' dv' av' ov' tv' pv' uv', Qr B w W' g S' dv' av' ov' tv' pv' uv' ∧ DS S S' n ∧ Kc g W W'
theorem aY5.ou {B : Nat} {w W : World} {g : Nat} {S : Sx} {dv av : Value} {n : Nat} {e : Ending} {W' : World} (h : aY5 B w W g S dv av n e W') : dJu B w W g S n e W' := by
 obtain ⟨he, S', a, b, c, d, hq, hc, hk⟩ := h
 exact ⟨he, S', _, _, a, b, c, d, hq, hc.ds, hk⟩
section
variable {B g : Nat} {w W W' : World} {S : Sx} {dv av ov tv pv uv : Value}
theorem Qr.setHd (h : Qr B w W g S dv av ov tv pv uv) (b : Bool) : Qr B w (W.setCell ⟨g, 9, none⟩ (.bool b)) g { S with hd := b } dv av ov tv pv uv ∧ Kp W (W.setCell ⟨g, 9, none⟩ (.bool b)) [g] := by
 obtain ⟨p1, p2, p3⟩ := h.put 9 (.bool b)
 exact ⟨h.re (usg' := S.usg) (sp' := S.sp) (cd' := S.cd) (sn' := S.sn) (hd' := b) p1 (fun k cs t _ hk _ => p3 k hk) p2 (aQ4 h.usg (fun k hk => p3 k (by
  obtain ⟨cs, hc⟩ := aQ3 h.usg hk
  exact aQ5 hc h.box (by decide)))), (Kp.refl W [g]).set (Or.inr List.mem_cons_self) 9 _⟩
theorem Qr.setDtd (h : Qr B w W g S dv av ov tv pv uv) {dv' av' : Value} {ents' : List (ByteArray × ByteArray)} {atts' : List At5} (hd : W.ownsRow B 163 2 dv' ents'.length (aQc ents')) (ha : W.ownsRow B 146 5 av' atts'.length (aJ8 atts')) :
 Qr B w ((W.setCell ⟨g, 0, none⟩ dv').setCell ⟨g, 1, none⟩ av') g { S with ents := ents', atts := atts' } dv' av' ov tv pv uv ∧ Kp W ((W.setCell ⟨g, 0, none⟩ dv').setCell ⟨g, 1, none⟩ av') [g] := by
 obtain ⟨p1, p2, p3⟩ := h.put 0 dv'
 have hb := heap_setCell_same (W.setCell ⟨g, 0, none⟩ dv') g 1 _ _ av' p1
 have hk : ∀ k, k ≠ g → ((W.setCell ⟨g, 0, none⟩ dv').setCell ⟨g, 1, none⟩ av').heap[k]? = W.heap[k]? := fun k hkg => (Below.heap_setCell (W.setCell ⟨g, 0, none⟩ dv') ⟨g, 1, none⟩ av' k hkg).trans (p3 k hkg)
 have hrow : ∀ {e : TypeId} {size n : Nat} {v : Value} {xs : List Value}, W.ownsRow B e size v n xs → e ≠ 96 → ((W.setCell ⟨g, 0, none⟩ dv').setCell ⟨g, 1, none⟩ av').ownsRow B e size v n xs := fun hv h1 => aQ4 hv (fun k hkk => by
  obtain ⟨cs, hc⟩ := aQ3 hv hkk
  exact hk k (aQ5 hc h.box h1))
 have hg := h.gB
 refine ⟨⟨hb, h.gB, ⟨p2.os, p2.tape, p2.output, by have := p2.size; simpa using this, fun i hi => by rw [Below.heap_setCell (W.setCell ⟨g, 0, none⟩ dv') ⟨g, 1, none⟩ av' i (by simp only; omega)]; exact p2.block i hi⟩, hrow hd (by decide), hrow ha (by decide), h.evs.keep (fun k cs t hc ht => hk k (aQ5 hc h.box (by rcases ht with rfl | rfl <;> decide))), hrow h.txt (by decide), hrow h.opn (by decide), hrow h.usg (by decide)⟩, ((Kp.refl W [g]).set (Or.inr List.mem_cons_self) 0 _).set (Or.inr List.mem_cons_self) 1 _⟩
theorem Sx.fail_cs (S : Sx) (c : Int) : (S.fail c).cd = 0 → S.cd = 0 := by
 unfold Sx.fail
 intro h
 simp only at h
 split at h
 · assumption
 · exact h
theorem bJx {W : World} {k : Nat} {a b c d : Value} {t : TypeId} (h : W.heap[k]? = some (.cells #[a, b, c, d] t)) : W.cell? ⟨k, 0, none⟩ = some a ∧ W.cell? ⟨k, 1, none⟩ = some b ∧ W.cell? ⟨k, 2, none⟩ = some c ∧ W.cell? ⟨k, 3, none⟩ = some d := by simp [World.cell?, h]
theorem bY5 {B' : Nat} (hQ : Qr B w W g S dv av ov tv pv uv) (hL : Lim S) (kd : Int) (nm tx : ByteArray) (ta : Value) (T : List (ByteArray × ByteArray)) (hta : W.ownsRow B' 54 2 ta T.length (aQc T)) (hT : ∀ a ∈ T, a.1.size ≤ 4000 ∧ a.2.size ≤ 4000) (hTl : T.length ≤ 4001) (hnm : nm.size ≤ 4000) (htx : tx.size ≤ 4000) (h8v : kd = 8 → VB tx 0) (hcd : S.cd = 0) (hJ : Jv S) (hB : Bd S 4) :
 Calls prog 45 #[.pointer (some ⟨g, 0, none⟩), .agg #[.int .i64 kd, .string nm, .string tx, ta]] W (dJu B w W g S 4) := by
 obtain ⟨ao, ac, rfl⟩ := aZi hta
 obtain ⟨W1, hW1⟩ := nmE (W.alloc (.cells #[.int .i64 kd, .string nm, .string tx, .slice ao T.length ac] 99))
 have hb1 : Below W.heap.size W W1 := by rw [← hW1]; exact bAl
 have hx1 : W1.heap[W.heap.size]? = some (.cells #[.int .i64 kd, .string nm, .string tx, .slice ao T.length ac] 99) := by rw [← hW1]; exact heap_alloc_new _ _
 have hq1 := hQ.keep hb1
 have hne : W.heap.size ≠ g := by have := hQ.lt; omega
 obtain ⟨k0, k1, k2, k3⟩ := bJx hx1
 have hta1 : W1.ownsRow B' 54 2 (.slice ao T.length ac) T.length (aQc T) := aQ4 hta (fun k hk => hb1.block k (hta.lt k hk).2)
 have K1 := aQ0 (Kc.below (g := g) hb1)
 have X1 := aQ0 hx1
 have Q1 := aQ0 hq1
 have HL := aQ0 hL
 have hcon : ∀ c : Int, c = kd → Calls prog 44 #[.pointer (some ⟨g, 0, none⟩), .agg #[.int .i64 c, .string nm, .string tx, .slice ao T.length ac], .int .i64 ((0 : Nat) : Int)] W1 (aY5 B w W1 g S dv av 4) := fun c hc => bQm 4001 c nm tx _ T 0 hq1 hL hta1 hT hTl hnm htx (by omega) hcd hJ hB (by omega)
 have HCON := aQ0 hcon
 have hsz := hQ.sz
 clear hQ hta hb1 hx1 hL hcon hta1 hT hJ hB hcd
 by_cases h4 : kd = 4
 · subst h4
   clear HCON hq1
   go_enter func45, ntmps45
   go_wp2_with fail
   go_loopw [4] (fun i wr => ∃ (k : Nat) (S1 : Sx), k ≤ tx.size ∧ i = .int .i64 k ∧ Qr B w wr g S1 dv av ov tv pv uv ∧ VS S S1 ∧ Kp W1 wr [g]) (fun i wr => tx.size - (RowKit.intOf i).toNat)
   case atStart => exact ⟨0, S, Nat.zero_le _, rfl, Q1.out, VS.refl _, Kp.refl _ _⟩
   case round =>
    obtain ⟨k, S1, hk, rfl, hq, hvs, hkp⟩ := hrel
    have x2 := (hkp.block _ (gLt X1.out) (by simpa using hne)).trans X1.out
    have m2 := (bJx x2).2.2.1
    have Q2 := aQ0 hq
    have V2 := aQ0 hvs
    have K2 := aQ0 hkp
    clear hq hvs hkp x2 k0 k1 k2 k3
    by_cases hlt : k < tx.size
    · obtain ⟨b, hbe⟩ := nmE (aQ1 tx k)
      have hbd := aXn tx k
      rw [hbe] at hbd
      have hix : ∀ wx, (Instr.index 9 (.string tx) (.int .i64 (k : Int))).run prog wx = .ok (.int .u8 b) wx := fun wx => by rw [aQ8 wx 9 tx k hlt underlying9, hbe]
      have hlti : (k : Int) < (tx.size : Int) := by omega
      clear hbe
      have hwh := fun W => aK9 b W hbd.1 (by omega)
      have hf := aJ9 Q2.out 3
      obtain ⟨wb, hwb⟩ := nmE (Plain9.whiteB b)
      simp only [hwb] at hwh
      clear hwb
      go_wp2_with fail
      refine (hwh _).mono ?_
      rintro e w2 ⟨rfl, hww⟩
      obtain rfl := hww.symm
      clear hww hwh
      cases wb with
      | true =>
       go_wp2
       go_roundw
       case rel => exact ⟨k + 1, S1, by omega, by go_num, Q2.out, V2.out, K2.out⟩
       case measure => simp only [RowKit.intOf]; omega
      | false =>
       go_wp2_with fail
       refine hf.mono ?_
       rintro e w3 ⟨rfl, hq3, hg3⟩
       have Q3 := aQ0 hq3
       have K3 := aQ0 (K2.out.trans (aJr hg3) (fun c hc _ => hc))
       clear hf hq3 hg3
       go_wp2
       go_roundw
       case rel => exact ⟨k + 1, S1.fail 3, by omega, by go_num, Q3.out, V2.out.trans (VS.fail S1 3 (by decide)), K3.out⟩
       case measure => simp only [RowKit.intOf]; omega
    · have hlti : ¬ (k : Int) < (tx.size : Int) := by omega
      go_wp2
      go_end0
      exact ⟨rfl, S1, _, _, _, _, _, _, Q2.out, (V2.out.cs.mono (by omega)).ds, K1.out.trans (Kc.kp K2.out)⟩
 have b4 : (kd == 4) = false := by simpa using h4
 have HF := aQ0 (aKl Q1.out 3 (by decide) 4)
 by_cases h8 : kd = 8
 · subst h8
   obtain ⟨hd, hhd⟩ := nmE (S.hd)
   obtain ⟨sn, hsn⟩ := nmE (S.sn)
   have c8 := hq1.cells.2.2.2.2.2.2.2.2.1
   have c9 := hq1.cells.2.2.2.2.2.2.2.2.2
   rw [hhd] at c9
   rw [hsn] at c8
   have hvb := h8v rfl
   clear HCON hq1 hhd hsn
   cases hd with
   | true =>
    go_enter func45, ntmps45
    go_wp2_with fail
    refine HF.out.mono ?_
    rintro e w2 hP
    obtain ⟨rfl, S2, d2, a2, o2, t2, p2, u2, hq2, hc2, hk2⟩ := hP.ou
    go_wp2
    go_end0
    exact ⟨rfl, S2, d2, a2, o2, t2, p2, u2, hq2, hc2, K1.out.trans hk2⟩
   | false =>
    cases sn with
    | true =>
     go_enter func45, ntmps45
     go_wp2_with fail
     refine HF.out.mono ?_
     rintro e w2 hP
     obtain ⟨rfl, S2, d2, a2, o2, t2, p2, u2, hq2, hc2, hk2⟩ := hP.ou
     go_wp2
     go_end0
     exact ⟨rfl, S2, d2, a2, o2, t2, p2, u2, hq2, hc2, K1.out.trans hk2⟩
    | false =>
     obtain ⟨hq2, hk2⟩ := Q1.out.setHd true
     obtain ⟨W2, hW2⟩ := nmE (W1.setCell ⟨g, 9, none⟩ (.bool true))
     rw [hW2] at hq2 hk2
     have f9 := Q1.out.thaw 9
     have x2 := (hk2.block _ (gLt X1.out) (by simpa using hne)).trans X1.out
     have m2 := (bJx x2).2.2.1
     have hrd := cXf tx W2 htx hvb
     have hok := bWp hvb (tx.size + 1) 0 ⟨[], []⟩ (cJa _) (Nat.zero_le _) (Nat.zero_le _)
     obtain ⟨R, hR⟩ := nmE (aY9 tx (tx.size + 1) 0 ⟨[], []⟩)
     rw [hR] at hrd hok
     have Q2 := aQ0 hq2
     have K2 := aQ0 (K1.out.trans (Kc.kp hk2))
     have HOK := aQ0 hok
     clear hR hq2 hk2 x2 hok HF
     go_enter func45, ntmps45
     go_wp2_with fail
     refine hrd.mono ?_
     rintro e w3 ⟨ae, ce, aa, ca, rfl, hre, hra, hb3⟩
     obtain ⟨cd, hcd⟩ := nmE (R.code)
     obtain ⟨W4, hW4⟩ := nmE (w3.alloc (.cells #[.slice ae R.dtd.ents.length ce, .slice aa R.dtd.atts.length ca, .int .i64 R.at1, .int .i64 cd] 133))
     have hb4 : Below w3.heap.size w3 W4 := by rw [← hW4]; exact bAl
     have hx4 : W4.heap[w3.heap.size]? = some (.cells #[.slice ae R.dtd.ents.length ce, .slice aa R.dtd.atts.length ca, .int .i64 R.at1, .int .i64 cd] 133) := by rw [← hW4]; exact heap_alloc_new _ _
     have hb24 : Below W2.heap.size W2 W4 := hb3.trans (hb4.mono hb3.size)
     have hq4 := Q2.out.keep hb24
     have hre4 : W4.ownsRow B 163 2 (.slice ae R.dtd.ents.length ce) R.dtd.ents.length (aQc R.dtd.ents) := aJx (aQ4 hre (fun k hk => hb4.block k (hre.lt k hk).2)) Q2.out.sz
     have hra4 : W4.ownsRow B 146 5 (.slice aa R.dtd.atts.length ca) R.dtd.atts.length (aJ8 R.dtd.atts) := aJx (aQ4 hra (fun k hk => hb4.block k (hra.lt k hk).2)) Q2.out.sz
     obtain ⟨n0, n1, n2, n3⟩ := bJx hx4
     have hf := aJ9 hq4 cd
     have hne4 : w3.heap.size ≠ g := by have h1 := Q2.out.lt; have h2 := hb3.size; omega
     have K4 := aQ0 (K2.out.trans (Kc.below (g := g) hb24))
     have X4 := aQ0 hx4
     have RE4 := aQ0 hre4
     have RA4 := aQ0 hra4
     have Q4 := aQ0 hq4
     rw [hcd]
     clear hrd hre hra hb3 hb4 hx4 hb24 hq4 hre4 hra4 c8 c9 f9 m2 hcd k0 k1 k2 k3 hW1
     go_wp2_with fail
     refine hf.mono ?_
     rintro e w5 ⟨rfl, hq5, hg5⟩
     have hk5 := aJr hg5
     have x5 := (hk5.block _ (gLt X4.out) (by simpa using hne4)).trans X4.out
     obtain ⟨o0, o1, _, _⟩ := bJx x5
     have hrow5 : ∀ {e : TypeId} {size n : Nat} {v : Value} {xs : List Value}, W4.ownsRow B e size v n xs → e ≠ 96 → w5.ownsRow B e size v n xs := fun hv h1 => aQ4 hv (fun k hkk => by
      obtain ⟨cs, hc⟩ := aQ3 hv hkk
      exact hk5.block k (hv.lt k hkk).2 (by simpa using aQ5 hc Q4.out.box h1))
     obtain ⟨q6, k6⟩ := hq5.setDtd (hrow5 RE4.out (by decide)) (hrow5 RA4.out (by decide))
     have f0 := hq5.thaw 0
     have f1 := hq5.thaw 1
     have e0 := hq5.cells.1
     have e1 := hq5.cells.2.1
     have Q6 := aQ0 q6
     have K6 := aQ0 ((K4.out.trans (Kc.kp hk5)).trans (Kc.kp k6))
     clear hf hq5 hg5 hk5 x5 hrow5 q6 k6 n0 n1 n2 n3 hW4 hW2
     go_wp2
     go_end0
     refine ⟨rfl, _, _, _, _, _, _, _, Q6.out, ?_, K6.out⟩
     obtain ⟨ho, hl1, hl2⟩ := HOK.out
     have hcs := (Sx.fail_cs ({ S with hd := true } : Sx) cd)
     refine ⟨rfl, Nat.le_refl _, id, by show S.evs.length + 4 * S.sp ≤ S.evs.length + 4 * S.sp + 4; omega, by show S.txt.length + 100000 * S.sp ≤ S.txt.length + 100000 * S.sp + 25000 * 4; omega, fun j => ⟨j.st, j.nm, j.cnt, j.op⟩, fun l => ⟨by show R.dtd.ents.length ≤ 4000; omega, fun e he => by have := (ho.ents e he).2.1; omega, fun e he => (ho.ents e he).2.2, by show R.dtd.atts.length ≤ 4000; omega, fun a ha => by have h1 := (ho.atts a ha).2.1; have h2 := (ho.atts a ha).2.2.1; exact ⟨by omega, by omega⟩, l.sp, fun h0 => l.ok (hcs h0)⟩⟩
 have b8 : (kd == 8) = false := by simpa using h8
 have hgo13 : ∀ c : Int, c = kd → (c == 4) = false → (c == 8) = false → True := fun _ _ _ _ => trivial
 clear hgo13
 by_cases h1 : kd = 1 ∨ kd = 3
 · have c8 := hq1.cells.2.2.2.2.2.2.2.2.1
   obtain ⟨sn, hsn⟩ := nmE (S.sn)
   rw [hsn] at c8
   have hct := HCON.out kd rfl
   clear HCON hq1 hsn h8v
   rcases h1 with rfl | rfl
   all_goals
    cases sn with
    | true =>
     go_enter func45, ntmps45
     go_wp2_with fail
     refine HF.out.mono ?_
     rintro e w2 hP
     obtain ⟨rfl, S2, d2, a2, o2, t2, p2, u2, hq2, hc2, hk2⟩ := hP.ou
     go_wp2
     go_end0
     exact ⟨rfl, S2, d2, a2, o2, t2, p2, u2, hq2, hc2, K1.out.trans hk2⟩
    | false =>
     go_enter func45, ntmps45
     go_wp2_with fail
     refine hct.mono ?_
     rintro e w2 hP
     obtain ⟨rfl, S2, d2, a2, o2, t2, p2, u2, hq2, hc2, hk2⟩ := hP.ou
     go_wp2
     go_end0
     exact ⟨rfl, S2, d2, a2, o2, t2, p2, u2, hq2, hc2, K1.out.trans hk2⟩
 have b1 : (kd == 1) = false := by simp; omega
 have b3 : (kd == 3) = false := by simp; omega
 by_cases h6 : kd = 6 ∨ kd = 7
 · have hct := HCON.out kd rfl
   clear HCON hq1 h8v h1
   rcases h6 with rfl | rfl
   all_goals
    go_enter func45, ntmps45
    go_wp2_with fail
    refine hct.mono ?_
    rintro e w2 hP
    obtain ⟨rfl, S2, d2, a2, o2, t2, p2, u2, hq2, hc2, hk2⟩ := hP.ou
    go_wp2
    go_end0
    exact ⟨rfl, S2, d2, a2, o2, t2, p2, u2, hq2, hc2, K1.out.trans hk2⟩
 have b6 : (kd == 6) = false := by simp; omega
 have b7 : (kd == 7) = false := by simp; omega
 clear HCON hq1 h8v h1 h6
 go_enter func45, ntmps45
 go_wp2_with fail
 refine HF.out.mono ?_
 rintro e w2 hP
 obtain ⟨rfl, S2, d2, a2, o2, t2, p2, u2, hq2, hc2, hk2⟩ := hP.ou
 go_wp2
 go_end0
 exact ⟨rfl, S2, d2, a2, o2, t2, p2, u2, hq2, hc2, K1.out.trans hk2⟩
end
open Go.RowKit Strs2 Plain9 Plain11 Go.Lib
theorem cVz {t A : ByteArray} (h0 : VB t 0) (hA : 1 ≤ A.data.toList.length) (hl : (A.data.toList.getD (A.data.toList.length - 1) 0).toNat < 128) (hz : bXn t 0 A = 0) : A.size ≤ t.size ∧ VB t A.size := by
 have hne : A.data.toList ≠ [] := fun e => by rw [e] at hA; simp at hA
 rw [aW3 hne] at hz
 rcases aZa t 0 A.data.toList (Nat.zero_le _) with h | ⟨i, h1, _, h3, h4, _⟩
 · rw [h] at hz; cases hz
 · rw [h1] at hz
   have hi : i = 0 := by omega
   subst hi
   have hv := aZn h0 h4 (Nat.zero_le _) hA hl
   have hs : A.data.toList.length = A.size := rfl
   rw [hs, Nat.zero_add] at hv h3
   exact ⟨h3, hv⟩
def XmSays (t : ByteArray) (w : World) (e : Ending) (w' : World) : Prop := (∃ (n : Nat) (b : Bool), e = .returned (.tuple #[.int .i64 (n : Int), .bool b]) ∧ n ≤ t.size ∧ VB t n) ∧ Below w.heap.size w w'
theorem dQy (t : ByteArray) (w : World) (ht : t.size ≤ 4000) (h0 : VB t 0) : Calls prog 41 #[.string t] w (XmSays t w) := by
 obtain ⟨A, hA⟩ : ∃ A : ByteArray, (⟨#[60, 63, 120, 109, 108, 32, 118, 101, 114, 115, 105, 111, 110, 61, 34, 49, 46, 48, 34, 63, 62]⟩ : ByteArray) = A := ⟨_, rfl⟩
 obtain ⟨C, hC⟩ : ∃ C : ByteArray, (⟨#[60, 63, 120, 109, 108, 32, 118, 101, 114, 115, 105, 111, 110, 61, 34, 49, 46, 48, 34, 32, 101, 110, 99, 111, 100, 105, 110, 103, 61, 34, 85, 84, 70, 45, 56, 34, 63, 62]⟩ : ByteArray) = C := ⟨_, rfl⟩
 obtain ⟨W1, hW1⟩ := nmE (w.alloc (.cells #[.string ⟨#[60, 63, 120, 109, 108, 32, 118, 101, 114, 115, 105, 111, 110, 61, 34, 49, 46, 48, 34, 63, 62]⟩, .string ⟨#[60, 63, 120, 109, 108, 32, 118, 101, 114, 115, 105, 111, 110, 61, 34, 49, 46, 48, 34, 32, 101, 110, 99, 111, 100, 105, 110, 103, 61, 34, 85, 84, 70, 45, 56, 34, 63, 62]⟩] 9))
 have hb1 : Below w.heap.size w W1 := by rw [← hW1]; exact bAl
 have hx1 : W1.heap[w.heap.size]? = some (.cells #[.string A, .string C] 9) := by rw [← hW1, ← hA, ← hC]; exact heap_alloc_new _ _
 obtain ⟨c0, c1⟩ := bVr hx1
 have hA1 : bXn t 0 A = 0 → A.size ≤ t.size ∧ VB t A.size := cVz h0 (by rw [← hA]; decide) (by rw [← hA]; decide)
 have hC1 : bXn t 0 C = 0 → C.size ≤ t.size ∧ VB t C.size := cVz h0 (by rw [← hC]; decide) (by rw [← hC]; decide)
 have hAs : A.size ≤ 100 := by rw [← hA]; decide
 have hCs : C.size ≤ 100 := by rw [← hC]; decide
 have hfA := aK4 t 0 A W1 (by omega) (by omega) (Nat.zero_le _)
 have hfC := aK4 t 0 C W1 (by omega) (by omega) (Nat.zero_le _)
 obtain ⟨zA, hzA⟩ : ∃ z, bXn t 0 A = z := ⟨_, rfl⟩
 obtain ⟨zC, hzC⟩ : ∃ z, bXn t 0 C = z := ⟨_, rfl⟩
 rw [hzA] at hA1 hfA
 rw [hzC] at hC1 hfC
 have HA1 := aQ0 hA1
 have HC1 := aQ0 hC1
 have HB1 := aQ0 hb1
 have H0 := aQ0 h0
 have HW1 := aQ0 hW1
 clear hA hC hx1 hA1 hC1 hzA hzC hb1 h0
 go_enter func41, ntmps41
 go_wp2_with fail
 go_loopw [5] (fun i wr => ∃ k : Nat, k ≤ 2 ∧ i = .int .i64 k ∧ wr = W1) (fun i _ => 2 - (RowKit.intOf i).toNat)
 case atStart => exact ⟨0, by omega, rfl, rfl⟩
 case round =>
  obtain ⟨k, hk, rfl, hwr⟩ := hrel
  obtain rfl := hwr.symm
  clear hW1
  have hk3 : k = 0 ∨ k = 1 ∨ k = 2 := by omega
  rcases hk3 with rfl | rfl | rfl
  · by_cases hz : zA = 0
    · obtain ⟨s1, s2⟩ := HA1.out hz
      subst hz
      go_wp2_with fail
      refine hfA.mono ?_
      rintro e w2 ⟨rfl, hww⟩
      obtain rfl := hww.symm
      clear hww
      go_wp2
      go_ret2
      exact ⟨⟨A.size, false, rfl, s1, s2⟩, HB1.out⟩
    · have hzb : (zA == 0) = false := by simpa using hz
      go_wp2_with fail
      refine hfA.mono ?_
      rintro e w2 ⟨rfl, hww⟩
      obtain rfl := hww.symm
      clear hww
      go_wp2
      go_roundw
      case rel => exact ⟨1, by omega, rfl, by trivial⟩
      case measure => simp [RowKit.intOf]
  · by_cases hz : zC = 0
    · obtain ⟨s1, s2⟩ := HC1.out hz
      subst hz
      go_wp2_with fail
      refine hfC.mono ?_
      rintro e w2 ⟨rfl, hww⟩
      obtain rfl := hww.symm
      clear hww
      go_wp2
      go_ret2
      exact ⟨⟨C.size, false, rfl, s1, s2⟩, HB1.out⟩
    · have hzb : (zC == 0) = false := by simpa using hz
      go_wp2_with fail
      refine hfC.mono ?_
      rintro e w2 ⟨rfl, hww⟩
      obtain rfl := hww.symm
      clear hww
      go_wp2
      go_roundw
      case rel => exact ⟨2, by omega, rfl, by trivial⟩
      case measure => simp [RowKit.intOf]
  · go_wp2_with fail
    go_loopw [6] (fun i wr => ∃ k : Nat, k ≤ 2 ∧ i = .int .i64 k ∧ wr = W1) (fun i _ => 2 - (RowKit.intOf i).toNat)
    case atStart => exact ⟨0, by omega, rfl, rfl⟩
    case round =>
     obtain ⟨k, hk, rfl, hwr⟩ := hrel
     obtain rfl := hwr.symm
     have hk3 : k = 0 ∨ k = 1 ∨ k = 2 := by omega
     rcases hk3 with rfl | rfl | rfl
     · by_cases hlt : t.size < A.size
       · have hlti : (t.size : Int) < (A.size : Int) := by omega
         have hsl := fun wx => cKg (P := prog) wx 9 A t.size _ rfl (by omega) underlying9
         obtain ⟨X, hX⟩ := nmE (A.extract 0 t.size)
         simp only [hX] at hsl
         cases hq : (X.toList == t.toList) with
         | true =>
          go_wp2
          go_ret2
          exact ⟨⟨0, true, rfl, Nat.zero_le _, H0.out⟩, HB1.out⟩
         | false =>
          go_wp2
          go_roundw
          case rel => exact ⟨1, by omega, rfl, by trivial⟩
          case measure => simp [RowKit.intOf]
       · have hlti : ¬ (t.size : Int) < (A.size : Int) := by omega
         go_wp2
         go_roundw
         case rel => exact ⟨1, by omega, rfl, by trivial⟩
         case measure => simp [RowKit.intOf]
     · by_cases hlt : t.size < C.size
       · have hlti : (t.size : Int) < (C.size : Int) := by omega
         have hsl := fun wx => cKg (P := prog) wx 9 C t.size _ rfl (by omega) underlying9
         obtain ⟨X, hX⟩ := nmE (C.extract 0 t.size)
         simp only [hX] at hsl
         cases hq : (X.toList == t.toList) with
         | true =>
          go_wp2
          go_ret2
          exact ⟨⟨0, true, rfl, Nat.zero_le _, H0.out⟩, HB1.out⟩
         | false =>
          go_wp2
          go_roundw
          case rel => exact ⟨2, by omega, rfl, by trivial⟩
          case measure => simp [RowKit.intOf]
       · have hlti : ¬ (t.size : Int) < (C.size : Int) := by omega
         go_wp2
         go_roundw
         case rel => exact ⟨2, by omega, rfl, by trivial⟩
         case measure => simp [RowKit.intOf]
     · go_wp2
       go_ret2
       exact ⟨⟨0, false, rfl, Nat.zero_le _, H0.out⟩, HB1.out⟩
end Go.Proofs.YtocnfoeaikiecaaGreatDoor
