import Derived.Test.YtocnfoeaikiecaaGreatDoorQqC
import Derived.Test.YtocnfoeaikiecaaGreatDoorTkB
set_option maxRecDepth 100000
set_option maxHeartbeats 16000000
set_option linter.unusedVariables false
namespace Go.Proofs.YtocnfoeaikiecaaGreatDoor
open Go.RowKit Plain1 Lists Ents Plain10 Plain11 Plain23 Go.Lib Tryz
structure Kv (B2 g : Nat) (W W' : World) : Prop where
 os : W'.os = W.os
 tape : W'.tape = W.tape
 output : W'.output = W.output
 size : W.heap.size ≤ W'.heap.size
 block : ∀ k, k < W.heap.size → k ≠ g → (k < B2 ∨ ∀ cs f, W.heap[k]? ≠ some (.cells cs 5 f)) → W'.heap[k]? = W.heap[k]?
section
variable {B B2 g : Nat} {w W W' W'' : World} {S S' S'' : Sx} {dv av ov tv pv uv : Value}
theorem Kv.refl (B2 g : Nat) (W : World) : Kv B2 g W W := ⟨rfl, rfl, rfl, Nat.le_refl _, fun _ _ _ _ => rfl⟩
theorem Kv.trans (h : Kv B2 g W W') (h' : Kv B2 g W' W'') : Kv B2 g W W'' :=
 ⟨h'.os.trans h.os, h'.tape.trans h.tape, h'.output.trans h.output, Nat.le_trans h.size h'.size, fun k hk hg hc => by
  have e := h.block k hk hg hc
  exact (h'.block k (Nat.lt_of_lt_of_le hk h.size) hg (hc.imp id (fun hn cs f => by rw [e]; exact hn cs f))).trans e⟩
theorem Kv.kp (h : Kp W W' [g]) : Kv B2 g W W' := ⟨h.os, h.tape, h.output, h.size, fun k hk hg _ => h.block k hk (by simpa using hg)⟩
theorem Kv.below (h : Below W.heap.size W W') : Kv B2 g W W' := ⟨h.os, h.tape, h.output, h.size, fun k hk _ _ => h.block k hk⟩
theorem Kv.row {v : Value} {n : Nat} {xs : List Value} (hr : W.ownsRow B2 5 1 v n xs) (hg : W.grownBy W' v.ownBlock) : Kv B2 g W W' :=
 ⟨hg.os, hg.tape, hg.output, hg.size, fun k hk _ hc => hg.block k hk (fun e => by
  obtain ⟨cs, hcs⟩ := aQ3 hr e.symm
  rcases hc with hc | hc
  · have := (hr.lt k e.symm).1; omega
  · exact hc cs _ hcs)⟩
theorem Qr.row {v : Value} {n : Nat} {xs : List Value} (h : Qr B w W g S dv av ov tv pv uv) (hT : ∀ k, tv.ownBlock = some k → k < B2) (hB : B ≤ B2) (hr : W.ownsRow B2 5 1 v n xs) (hg : W.grownBy W' v.ownBlock) : Qr B w W' g S dv av ov tv pv uv := by
 have hk : ∀ (k : Nat) (cs : Array Value) (t : TypeId), W.heap[k]? = some (.cells cs t (0, 0)) → (t = 5 → tv.ownBlock = some k) → W'.heap[k]? = W.heap[k]? := fun k cs t hc ht => hg.block k (gLt hc) (fun e => by
  obtain ⟨cs', hc'⟩ := aQ3 hr e.symm
  have hlt := (hr.lt k e.symm).1
  rw [hc] at hc'
  injection hc' with hc'
  injection hc' with _ hc' _
  have := hT k (ht hc')
  omega)
 exact h.re ((hk g _ _ h.box (fun e => absurd e (by decide))).trans h.box) (fun k cs t hc _ ht => hk k cs t hc ht) (h.bel.grown hg h.sz (fun k hkk => by have := (hr.lt k hkk).1; omega)) (aQ4 h.usg (fun k hkk => by
  obtain ⟨cs, hc⟩ := aQ3 h.usg hkk
  exact hk k cs _ hc (fun e => absurd e (by decide))))
structure VS (S S' : Sx) : Prop where
 like : ∃ u s c, S' = { S with usg := u, sp := s, cd := c }
 len : S'.usg.length = S.usg.length
 up : S.sp ≤ S'.sp
 top : S.sp ≤ 8000 → S'.sp ≤ 8000
 ok : (S.cd = 0 → S.sp ≤ 4000) → S'.cd = 0 → S.cd = 0 ∧ S'.sp ≤ 4000
theorem VS.refl (S : Sx) : VS S S := ⟨⟨S.usg, S.sp, S.cd, rfl⟩, rfl, Nat.le_refl _, id, fun h h0 => ⟨h0, h h0⟩⟩
theorem VS.trans (h : VS S S') (h' : VS S' S'') : VS S S'' := by
 obtain ⟨u, s, c, rfl⟩ := h.like
 obtain ⟨u', s', c', rfl⟩ := h'.like
 refine ⟨⟨u', s', c', rfl⟩, h'.len.trans h.len, Nat.le_trans h.up h'.up, fun hs => h'.top (h.top hs), fun h1 h2 => ?_⟩
 have := h'.ok (fun h0 => (h.ok h1 h0).2) h2
 exact ⟨(h.ok h1 this.1).1, this.2⟩
theorem VS.fail (S : Sx) (c : Int) (hc : c ≠ 0) : VS S (S.fail c) := by
 unfold Sx.fail
 refine ⟨⟨S.usg, S.sp, _, rfl⟩, rfl, Nat.le_refl _, id, fun h h0 => ?_⟩
 simp only at h0
 split at h0
 · exact absurd h0 hc
 · exact ⟨h0, h h0⟩
theorem Sx.fail_bad (S : Sx) (c : Int) (hc : c ≠ 0) : (S.fail c).cd ≠ 0 := by
 unfold Sx.fail
 show (if S.cd = 0 then c else S.cd) ≠ 0
 split
 · exact hc
 · assumption
def cdOf (W : World) (g : Nat) : Nat := match W.cell? ⟨g, 7, none⟩ with | some (.int _ c) => if c = 0 then 1 else 0 | _ => 0
theorem dQg (h : Qr B w W g S dv av ov tv pv uv) (h0 : S.cd = 0) : cdOf W g = 1 := by
 unfold cdOf
 rw [h.cells.2.2.2.2.2.2.2.1]
 simp [h0]
theorem bWg (h : Qr B w W g S dv av ov tv pv uv) (h0 : S.cd ≠ 0) : cdOf W g = 0 := by
 unfold cdOf
 rw [h.cells.2.2.2.2.2.2.2.1]
 simp [h0]
theorem aKo (W : World) (g : Nat) : cdOf W g ≤ 1 := by
 unfold cdOf
 split
 · split <;> omega
 · omega
end
theorem bY1 (B : Nat) (v : Value) (n : Nat) (xs : List Value) (c : Int) (hc : aZ5 c = true) (w : World) (hown : w.ownsRow B 5 1 v n xs) (hlen : n + 4 ≤ 140737488355328) (hBw : B ≤ w.heap.size) :
 Calls prog 97 #[v, .int .i64 c] w fun e w' => ∃ v', e = .returned v' ∧ w'.ownsRow B 5 1 v' (n + (encodeRuneZ c).length) (xs ++ (encodeRuneZ c).map (Value.int .u8)) ∧ ∃ o, (w.alloc o).grownBy w' v.ownBlock := by
 have hr := (aJn c).1 hc
 by_cases h1 : c ≤ 127
 · refine (put1 B v n xs c (by omega) h1 w hown hlen hBw).mono ?_
   rintro e w' ⟨v', he, ho, hg⟩
   rw [encodeRuneZ_one (by omega) h1]
   exact ⟨v', he, ho, hg⟩
 by_cases h2 : c ≤ 2047
 · refine (put2 B v n xs c (by omega) h2 w hown hlen hBw).mono ?_
   rintro e w' ⟨v', he, ho, hg⟩
   rw [encodeRuneZ_two (by omega) h2]
   exact ⟨v', he, ho, hg⟩
 by_cases h3 : c ≤ 65535
 · refine (put3 B v n xs c (by omega) h3 w hown hlen hBw).mono ?_
   rintro e w' ⟨v', he, ho, hg⟩
   rw [encodeRuneZ_three (by omega)]
   exact ⟨v', he, ho, hg⟩
 · refine (put4 B v n xs c (by omega) (by omega) w hown hlen hBw).mono ?_
   rintro e w' ⟨v', he, ho, hg⟩
   rw [encodeRuneZ_four (by omega) (by omega)]
   exact ⟨v', he, ho, hg⟩
theorem bY7 {s : ByteArray} {p : Nat} {x : ByteArray × Nat} (h : aVw s (p + 1) = some x) : p + 2 ≤ x.2 ∧ x.2 ≤ s.size ∧ x.1.size ≤ s.size := by
 unfold aVw at h
 split at h
 · rename_i h1
   cases h
   have hs := aZx h1.1
   refine ⟨by show p + 2 ≤ nmP s (p + 1) + 1; omega, by show nmP s (p + 1) + 1 ≤ s.size; omega, ?_⟩
   show (nmT s (p + 1)).size ≤ s.size
   unfold nmT
   exact Plain32.dJo _ _ _
 · cases h
open Go.RowKit Plain23 Go.Lib
def dJt (B B2 : Nat) (w W : World) (g : Nat) (S : Sx) (dv av ov tv pv : Value) (t : ByteArray) (n : Nat) (e : Ending) (W' : World) : Prop :=
 ∃ S' uv' v' l', e = .returned v' ∧ Qr B w W' g S' dv av ov tv pv uv' ∧ VS S S' ∧ W'.ownsRow B2 5 1 v' (List.length l') (l'.map (Value.int .u8)) ∧ l'.length + 5 * S.sp ≤ n + 5 * S'.sp + 5 * t.size ∧ Kv B2 g W W'
def VlC (F : Nat) : Prop :=
 ∀ {B B2 g : Nat} {w W : World} {S : Sx} {dv av ov tv pv uv : Value} (t : ByteArray) (bv : Value) (l : List Int), Qr B w W g S dv av ov tv pv uv → S.ents.length ≤ 4000 → (∀ e ∈ S.ents, e.2.size ≤ 4000) → t.size ≤ 4000 → S.sp ≤ 8000 → (S.cd = 0 → S.sp ≤ 4000 ∧ S.usg.length ≤ S.sp ∧ 4001 ≤ F + S.sp) →
  (∀ k, tv.ownBlock = some k → k < B2) → B ≤ B2 → B2 ≤ W.heap.size → W.ownsRow B2 5 1 bv l.length (l.map (Value.int .u8)) → l.length + 100000 * F ≤ 1000000000 →
  Calls prog 109 #[.pointer (some ⟨g, 0, none⟩), .string t, bv] W (dJt B B2 w W g S dv av ov tv pv t l.length)
theorem cQi (g : Nat) (t : ByteArray) (ht : t.size = 0) (a : Option Addr) (n c : Nat) (W : World) : Calls prog 109 #[.pointer (some ⟨g, 0, none⟩), .string t, .slice a n c] W fun e W' => e = .returned (.slice a n c) ∧ W' = W := by
 go_enter func109, ntmps109
 go_wp2_with fail
 go_loopw [2, 7] (fun b i wr => b = .slice a n c ∧ i = .int .i64 0 ∧ wr = W) (fun _ _ _ => 0)
 case atStart => exact ⟨rfl, rfl, rfl⟩
 case round =>
  obtain ⟨rfl, rfl, hwr⟩ := hrel
  obtain rfl := hwr.symm
  have h0 : ¬ (0 : Int) < (t.size : Int) := by omega
  go_wp2
  go_ret
  exact ⟨rfl, rfl⟩
open Go.RowKit Strs Lists Bytes Ents Plain9 Plain23 Plain29 PlainR Go.Lib
section
variable {B B2 g : Nat} {w W W' : World} {S : Sx} {dv av ov tv pv uv : Value}
theorem Qr.app {v : Value} {n : Nat} {xs : List Value} {o : Obj} (h : Qr B w W g S dv av ov tv pv uv) (hT : ∀ k, tv.ownBlock = some k → k < B2) (hB : B ≤ B2) (hr : W.ownsRow B2 5 1 v n xs) (hg : (W.alloc o).grownBy W' v.ownBlock) : Qr B w W' g S dv av ov tv pv uv ∧ Kv B2 g W W' := by
 have h1 := h.keep ((Below.refl _ _).alloc (Nat.le_refl _) o)
 exact ⟨h1.row hT hB (hr.alloc o) hg, (Kv.below ((Below.refl _ _).alloc (Nat.le_refl _) o)).trans (Kv.row (hr.alloc o) hg)⟩
theorem EnS.vs_no {S S' : Sx} {x : ByteArray} (h : EnS S x false S') : VS S S' := by
 obtain ⟨n1, n2, n3, n4⟩ := h.no rfl
 exact ⟨h.like, by rw [n2], n3, fun _ => n4, fun _ h0 => absurd h0 n1⟩
theorem EnS.vs_yes {S S' S'' : Sx} {x : ByteArray} (h : EnS S x true S') (hc : S.cd = 0) (h' : VS S' S'') : VS S { S'' with usg := S''.usg.take S.usg.length } := by
 obtain ⟨y1, y2, y3, y4, _⟩ := h.yes rfl
 obtain ⟨u, s, c, rfl⟩ := h.like
 obtain ⟨u', s', c', rfl⟩ := h'.like
 have hl := h'.len
 have hu := h'.up
 simp only at y1 y2 y3 y4 hl hu
 refine ⟨⟨_, s', c', rfl⟩, by simp only [List.length_take]; omega, by simp only; omega, fun _ => h'.top (by simp only; omega), fun _ h0 => ⟨hc, (h'.ok (fun _ => y3) h0).2⟩⟩
theorem cQ6 (W : World) (t : TypeId) (b : Value) : ∀ j u, [b][j]? = some u → (W.alloc (.cells #[b] t)).cell? ((⟨W.heap.size, 0, none⟩ : Addr).add j) = some u := cell_one_new W b t
end
theorem cJt (F : Nat) (IH : ∀ F', F' < F → VlC F') : VlC F := by
 intro B B2 g w W S dv av ov tv pv uv t bv l hQ hel het ht hsp hcd hT hB hBW hrow hlen0
 have HQ0 := aQ0 hQ
 have HEL := aQ0 hel
 have HET := aQ0 het
 have HCD := aQ0 hcd
 have HT := aQ0 hT
 have HB := aQ0 hB
 have HBW := aQ0 hBW
 have HROW := aQ0 hrow
 have HIH := aQ0 IH
 obtain ⟨i0, hi0, hz0, hz1, hz2⟩ := info_parts bQz
 obtain ⟨ba, bc, rfl, _⟩ := aQr hrow
 clear hQ hel het hcd hT hB hBW hrow IH
 go_enter func109, ntmps109
 go_wp2_with fail
 go_loopw [2, 7] (fun b i wr => ∃ (k : Nat) (S1 : Sx) (uv1 : Value) (l1 : List Int), k ≤ t.size ∧ i = .int .i64 k ∧ Qr B w wr g S1 dv av ov tv pv uv1 ∧ VS S S1 ∧ wr.ownsRow B2 5 1 b l1.length (l1.map (Value.int .u8)) ∧ l1.length + 5 * S.sp ≤ l.length + 5 * S1.sp + 5 * k ∧ Kv B2 g W wr) (fun _ i wr => 2 * (t.size - (RowKit.intOf i).toNat) + cdOf wr g)
 case atStart => exact ⟨0, S, uv, l, Nat.zero_le _, rfl, HQ0.out, VS.refl _, HROW.out, by omega, Kv.refl _ _ _⟩
 case round =>
  obtain ⟨k, S1, uv1, l1, hk, rfl, hq1, hvs, hr1, hl1, hkv⟩ := hrel
  obtain ⟨ba1, bc1, hbe, _⟩ := aQr hr1
  subst hbe
  obtain ⟨_, _, _, _, _, _, _, c7, _, _⟩ := hq1.cells
  have Q1 := aQ0 hq1
  have V1 := aQ0 hvs
  have R1 := aQ0 hr1
  have K1 := aQ0 hkv
  have hsp1 := hvs.top hsp
  clear hq1 hvs hr1 hkv HQ0 HROW
  by_cases hlt : k < t.size
  · by_cases hcd1 : S1.cd = 0
    · have hok := V1.out.ok (fun h => (HCD.out h).1) hcd1
      obtain ⟨hcd0, hsp4⟩ := hok
      have hcd3 := HCD.out hcd0
      have hlim : l1.length ≤ 999999999 := by omega
      have M1 := aQ0 (dQg Q1.out hcd1)
      rw [hcd1] at c7
      have HC1 := aQ0 hcd1
      clear hcd1
      obtain ⟨b, hbe⟩ := nmE (aQ1 t k)
      have hbd := aXn t k
      rw [hbe] at hbd
      have hix : ∀ wx, (Instr.index 9 (.string t) (.int .i64 (k : Int))).run prog wx = .ok (.int .u8 b) wx := fun wx => by rw [aQ8 wx 9 t k hlt underlying9, hbe]
      have hlti : (k : Int) < (t.size : Int) := by omega
      have HBE := aQ0 hbe
      clear hbe
      have hwh := fun W => aK9 b W hbd.1 (by omega)
      have hmx : l1.length + 1 ≤ maxLen := by unfold maxLen; omega
      have hmy : (l1.length + 1) * 1 ≤ 140737488355328 := by omega
      have hbz : B2 ≤ wr.heap.size := Nat.le_trans HBW.out K1.out.size
      have hmz : ∀ o, B2 ≤ (wr.alloc o).heap.size := fun o => bQ4 hbz o
      by_cases h60 : b = 60
      · subst h60
        have hf := aJ9 Q1.out 3
        clear hwh
        go_wp2_with fail
        refine hf.mono ?_
        rintro e w2 ⟨rfl, hq2, hg2⟩
        have Q2 := aQ0 hq2
        have K2 := aQ0 (K1.out.trans (Kv.kp (by have := aXe hg2; simpa using this)))
        have R2 := aQ0 (aQ4 R1.out (fun j hj => hg2.block j (R1.out.lt j hj).2 (fun e => by
         obtain ⟨cs, hc⟩ := aQ3 R1.out hj
         exact aQ5 hc Q1.out.box (by decide) (Option.some.inj e))))
        have M2 := aQ0 (bWg hq2 (Sx.fail_bad S1 3 (by decide)))
        clear hf hq2 hg2
        go_wp2
        go_roundw
        case rel => exact ⟨k, S1.fail 3, uv1, l1, by omega, rfl, Q2.out, V1.out.trans (VS.fail S1 3 (by decide)), R2.out, by have h : (S1.fail 3).sp = S1.sp := rfl; rw [h]; exact hl1, K2.out⟩
        case measure => simp only [RowKit.intOf]; rw [M2.out, M1.out]; omega
      · have h60b : (b == 60) = false := by simpa using h60
        cases hw : whiteB b with
        | true =>
         have hone : ∀ u ∈ [Value.int .u8 32], u.oneCell' = true := by intro u hu; simp at hu; subst hu; rfl
         simp only [hw] at hwh
         go_wp2_with (first | (go_at_call 69; refine (hwh _).mono ?_; rintro e w2 ⟨rfl, hww⟩; obtain rfl := hww.symm; clear hww) | (at_builtin; refine wpList_append_own _ rfl _ _ 22 rfl B2 5 i0 (.int .u8 0) 1 1 underlying22 hi0 hz0 hz1 hz2 rfl (by decide) _ _ _ rfl (R1.out.alloc _) ⟨_, 0, none⟩ 1 1 [.int .u8 32] rfl rfl (cQ6 _ _ _) hone hmx hmy (hmz _) ?_; intro v' w3 hown' hgrow _; obtain ⟨Q3, K3⟩ := Q1.out.app HT.out HB.out R1.out hgrow; replace Q3 := aQ0 Q3; replace K3 := aQ0 K3; replace hown' := aQ0 hown'; clear hgrow))
         go_roundw
         case rel => exact ⟨k + 1, S1, uv1, l1 ++ [32], by omega, by go_num, Q3.out, V1.out, by rw [List.length_append, List.map_append]; exact hown'.out, by simp; omega, K1.out.trans K3.out⟩
         case measure => simp only [RowKit.intOf]; rw [M1.out]; have := aKo w3 g; omega
        | false =>
         simp only [hw] at hwh
         by_cases h38 : b = 38
         · subst h38
           have ht6 : t.size ≤ 1048576 := by omega
           have hch := bWe t k wr ht6 hlt HBE.out
           have hnm := fun W => bJb t k W ht6 hlt
           have hwh2 : whiteB 38 = false := by decide
           cases hcb : chB t k with
           | true =>
            obtain ⟨_, r2, r3, r4⟩ := cX0 hcb
            obtain ⟨Qp, hQp⟩ : ∃ Q, aZu t (k + 2) + (numD t (k + 2)).length + 1 = Q := ⟨_, rfl⟩
            obtain ⟨c, hc⟩ := nmE ((numV t (k + 2) : Int))
            rw [hQp] at r3 r4 hch
            rw [hc] at r2 hch
            rw [hcb] at hch
            have hel := aJb c
            clear hcb hQp hc
            go_wp2_with (first | (go_at_call 69; refine (hwh _).mono ?_; rintro e w2 ⟨rfl, hww⟩; obtain rfl := hww.symm; clear hww) | (go_at_call 94; refine hch.mono ?_; rintro e w2 ⟨n2, q2, rfl, hq2, m2, hw2⟩; obtain ⟨rfl, rfl⟩ := hq2 (by trivial); replace hw2 := aQ0 hw2) | (go_at_call 95; refine (hnm _).mono ?_; rintro e w3 ⟨t3, q3, rfl, _, hb3⟩; replace hb3 := aQ0 hb3))
            refine (aWj _ _).mono ?_
            rintro e w4 ⟨⟨t4, b4, rfl, _⟩, hw4⟩
            obtain rfl := hw4.symm
            have hb3' : Below wr.heap.size wr w3 := (show Below wr.heap.size wr w2 by rw [hw2.out]; exact ⟨rfl, rfl, rfl, Nat.le_refl _, fun _ _ => rfl⟩).trans (hb3.out.mono (by rw [hw2.out]; exact Nat.le_refl _))
            have Q3 := aQ0 (Q1.out.keep hb3')
            have R3 := aQ0 (aQ4 R1.out (fun j hj => hb3'.block j (R1.out.lt j hj).2))
            have K3 := aQ0 (K1.out.trans (Kv.below (B2 := B2) (g := g) hb3'))
            have hpt := bY1 B2 _ _ _ n2 r2 w3 R3.out (by omega) (Nat.le_trans hbz hb3'.size)
            clear hb3' hnm hwh hch hb3 hw2 hw4
            go_wp2_with fail
            refine hpt.mono ?_
            rintro e w5 ⟨v5, rfl, hr5, o5, hg5⟩
            obtain ⟨Q5, K5⟩ := Q3.out.app HT.out HB.out R3.out hg5
            replace Q5 := aQ0 Q5
            replace K5 := aQ0 K5
            have R5 := aQ0 hr5
            obtain ⟨a5, c5, hv5, _⟩ := aQr hr5
            subst hv5
            clear hpt hg5 hr5
            go_wp2
            go_roundw
            case rel => exact ⟨q2, S1, uv1, l1 ++ encodeRuneZ n2, r4, rfl, Q5.out, V1.out, by rw [List.length_append, List.map_append]; exact R5.out, by rw [List.length_append]; omega, K3.out.trans K5.out⟩
            case measure => simp only [RowKit.intOf]; rw [M1.out]; have := aKo w5 g; simp; omega
           | false =>
            rw [hcb] at hch
            cases hnz : aVw t (k + 1) with
            | none =>
             rw [hnz] at hnm
             go_wp2_with (first | (go_at_call 69; refine (hwh _).mono ?_; rintro e w2 ⟨rfl, hww⟩; obtain rfl := hww.symm; clear hww) | (go_at_call 94; refine hch.mono ?_; rintro e w2 ⟨n2, q2, rfl, _, m2, hw2⟩; replace hw2 := aQ0 hw2) | (go_at_call 95; refine (hnm _).mono ?_; rintro e w3 ⟨t3, q3, rfl, _, hb3⟩; replace hb3 := aQ0 hb3))
             refine (aWj _ _).mono ?_
             rintro e w4 ⟨⟨t4, b4, rfl, _⟩, hw4⟩
             obtain rfl := hw4.symm
             have hb3' : Below wr.heap.size wr w3 := (show Below wr.heap.size wr w2 by rw [hw2.out]; exact ⟨rfl, rfl, rfl, Nat.le_refl _, fun _ _ => rfl⟩).trans (hb3.out.mono (by rw [hw2.out]; exact Nat.le_refl _))
             have Q3 := aQ0 (Q1.out.keep hb3')
             have R3 := aQ0 (aQ4 R1.out (fun j hj => hb3'.block j (R1.out.lt j hj).2))
             have K3 := aQ0 (K1.out.trans (Kv.below (B2 := B2) (g := g) hb3'))
             have hf := aJ9 Q3.out 3
             clear hb3' hnm hwh hch hb3 hw2 hw4
             go_wp2_with fail
             refine hf.mono ?_
             rintro e w5 ⟨rfl, hq5, hg5⟩
             have Q5 := aQ0 hq5
             have K5 := aQ0 (K3.out.trans (Kv.kp (by have := aXe hg5; simpa using this)))
             have R5 := aQ0 (aQ4 R3.out (fun j hj => hg5.block j (R3.out.lt j hj).2 (fun e => by
              obtain ⟨cs, hc⟩ := aQ3 R3.out hj
              exact aQ5 hc Q3.out.box (by decide) (Option.some.inj e))))
             have M5 := aQ0 (bWg hq5 (Sx.fail_bad S1 3 (by decide)))
             clear hf hq5 hg5
             go_wp2
             go_roundw
             case rel => exact ⟨k, S1.fail 3, uv1, l1, by omega, rfl, Q5.out, V1.out.trans (VS.fail S1 3 (by decide)), R5.out, by have h : (S1.fail 3).sp = S1.sp := rfl; rw [h]; exact hl1, K5.out⟩
             case measure => simp only [RowKit.intOf]; rw [M5.out, M1.out]; omega
            | some x =>
             obtain ⟨np1, np2, np3⟩ := bY7 hnz
             rw [hnz] at hnm
             go_wp2_with (first | (go_at_call 69; refine (hwh _).mono ?_; rintro e w2 ⟨rfl, hww⟩; obtain rfl := hww.symm; clear hww) | (go_at_call 94; refine hch.mono ?_; rintro e w2 ⟨n2, q2, rfl, _, m2, hw2⟩; replace hw2 := aQ0 hw2) | (go_at_call 95; refine (hnm _).mono ?_; rintro e w3 ⟨t3, q3, rfl, hq3, hb3⟩; obtain ⟨rfl, rfl⟩ := hq3 x rfl; replace hb3 := aQ0 hb3))
             refine (aWj _ _).mono ?_
             rintro e w4 ⟨⟨t4, b4, rfl, ht4⟩, hw4⟩
             obtain rfl := hw4.symm
             have hb3' : Below wr.heap.size wr w3 := (show Below wr.heap.size wr w2 by rw [hw2.out]; exact ⟨rfl, rfl, rfl, Nat.le_refl _, fun _ _ => rfl⟩).trans (hb3.out.mono (by rw [hw2.out]; exact Nat.le_refl _))
             have Q3 := aQ0 (Q1.out.keep hb3')
             have R3 := aQ0 (aQ4 R1.out (fun j hj => hb3'.block j (R1.out.lt j hj).2))
             have K3 := aQ0 (K1.out.trans (Kv.below (B2 := B2) (g := g) hb3'))
             have hbz3 : B2 ≤ w3.heap.size := Nat.le_trans hbz hb3'.size
             clear hb3' hnm hwh hch hb3 hw2 hw4
             cases b4 with
             | true =>
              have hmx4 : l1.length + t4.size ≤ maxLen := by unfold maxLen; omega
              have hmy4 : l1.length + t4.size ≤ 140737488355328 := by omega
              go_wp2_with (at_builtin; refine wpList_append_own_string _ rfl _ _ 22 9 rfl B2 5 i0 underlying22 underlying9 hi0 hz0 hz1 hz2 _ _ _ rfl R3.out t4 rfl hmx4 hmy4 hbz3 ?_; intro v5 w5 hown5 hgrow _; have Q5 := aQ0 (Q3.out.row HT.out HB.out R3.out hgrow); have K5 := aQ0 (K3.out.trans (Kv.row (g := g) R3.out hgrow)); replace hown5 := aQ0 hown5; clear hgrow)
              go_roundw
              case rel => exact ⟨x.2, S1, uv1, l1 ++ nums t4, np2, rfl, Q5.out, V1.out, by rw [List.length_append, aK1, List.map_append, ← bQ0]; exact hown5.out, by rw [List.length_append, aK1]; omega, K5.out⟩
              case measure => simp only [RowKit.intOf]; rw [M1.out]; have := aKo w5 g; simp; omega
             | false =>
              obtain ⟨su, ss, sc, hS1⟩ := V1.out.like
              have hel1 : S1.ents.length ≤ 4000 := by rw [hS1]; exact HEL.out
              have het1 : ∀ e ∈ S1.ents, e.2.size ≤ 4000 := by rw [hS1]; exact HET.out
              have hup1 := V1.out.up
              have hln1 := V1.out.len
              have hus1 : S1.usg.length ≤ S1.sp := by omega
              have hen := bYw Q3.out x.1 hel1 het1 hsp4 hus1 HC1.out
              have HE1 := aQ0 het1
              have HL1 := aQ0 hel1
              clear hS1 het1 hel1
              go_wp2_with fail
              refine hen.mono ?_
              rintro e w5 ⟨tx, may, S5, uv5, rfl, hq5, hes, hk5⟩
              have Q5 := aQ0 hq5
              have R5 := aQ0 (aQ4 R3.out (fun j hj => hk5.block j (R3.out.lt j hj).2 (by
               obtain ⟨cs, hc⟩ := aQ3 R3.out hj
               have := aQ5 hc Q3.out.box (by decide)
               simpa using this)))
              have K5 := aQ0 (K3.out.trans (Kv.kp (B2 := B2) hk5))
              have E5 := aQ0 hes
              have hbz5 : B2 ≤ w5.heap.size := Nat.le_trans hbz3 hk5.size
              clear hen hq5 hes hk5
              cases may with
              | false =>
               have hv5 := E5.out.vs_no
               have hsp5 := hv5.up
               have V5 := aQ0 (V1.out.trans hv5)
               clear hv5
               go_wp2
               go_roundw
               case rel => exact ⟨x.2, S5, uv5, l1, np2, rfl, Q5.out, V5.out, R5.out, by omega, K5.out⟩
               case measure => simp only [RowKit.intOf]; rw [M1.out]; have := aKo w5 g; simp; omega
              | true =>
               obtain ⟨y1, y2, y3, y4, e5, he5, hee5⟩ := E5.out.yes rfl
               have htx : tx.size ≤ 4000 := by rw [← hee5]; exact HE1.out e5 he5
               obtain ⟨su, ss, sc, hS5⟩ := E5.out.like
               have hel5 : S5.ents.length ≤ 4000 := by rw [hS5]; exact HL1.out
               have het5 : ∀ e ∈ S5.ents, e.2.size ≤ 4000 := by rw [hS5]; exact HE1.out
               have Y1 := aQ0 y1
               clear he5 hee5 y1 hS5
               have hval : Calls prog 109 #[.pointer (some ⟨g, 0, none⟩), .string tx, .slice ba1 l1.length bc1] w5 (dJt B B2 w w5 g S5 dv av ov tv pv tx l1.length) := by
                by_cases h0 : tx.size = 0
                · refine (cQi g tx h0 ba1 l1.length bc1 w5).mono ?_
                  rintro e w6 ⟨rfl, rfl⟩
                  exact ⟨S5, uv5, _, l1, rfl, Q5.out, VS.refl _, R5.out, by omega, Kv.refl _ _ _⟩
                · exact HIH.out (F - tx.size) (by omega) tx _ l1 Q5.out hel5 het5 htx (by omega) (fun _ => ⟨y3, by omega, by omega⟩) HT.out HB.out hbz5 R5.out (by omega)
               clear hel5 het5
               go_wp2_with fail
               refine hval.mono ?_
               rintro e w6 ⟨S6, uv6, v6, l6, rfl, hq6, hv6, hr6, hl6, hk6⟩
               have hsp6 := hv6.up
               have hln6 := hv6.len
               obtain ⟨a6, c6, hve, _⟩ := aQr hr6
               subst hve
               have hlv := bYh hq6 S1.usg.length (by omega) (by omega)
               have Q6 := aQ0 hq6
               have V6 := aQ0 (E5.out.vs_yes HC1.out hv6)
               have R6 := aQ0 hr6
               have K6 := aQ0 (K5.out.trans hk6)
               clear hval hq6 hv6 hr6 hk6
               go_wp2_with fail
               refine hlv.mono ?_
               rintro e w7 ⟨rfl, uv7, hq7, hg7⟩
               have Q7 := aQ0 hq7
               have K7 := aQ0 (K6.out.trans (Kv.kp (B2 := B2) (by have := aXe hg7; simpa using this)))
               have R7 := aQ0 (aQ4 R6.out (fun j hj => hg7.block j (R6.out.lt j hj).2 (fun e => by
                obtain ⟨cs, hc⟩ := aQ3 R6.out hj
                exact aQ5 hc Q6.out.box (by decide) (Option.some.inj e))))
               have V7 := aQ0 (V1.out.trans V6.out)
               clear hlv hq7 hg7
               go_wp2
               go_roundw
               case rel => exact ⟨x.2, _, uv7, l6, np2, rfl, Q7.out, V7.out, R7.out, by show l6.length + 5 * S.sp ≤ l.length + 5 * S6.sp + 5 * x.2; omega, K7.out⟩
               case measure => simp only [RowKit.intOf]; rw [M1.out]; have := aKo w7 g; simp; omega
         · have h38b : (b != 38) = true := by simpa using h38
           have hone : ∀ u ∈ [Value.int .u8 b], u.oneCell' = true := by intro u hu; simp at hu; subst hu; rfl
           go_wp2_with (first | (go_at_call 69; refine (hwh _).mono ?_; rintro e w2 ⟨rfl, hww⟩; obtain rfl := hww.symm; clear hww) | (at_builtin; refine wpList_append_own _ rfl _ _ 22 rfl B2 5 i0 (.int .u8 0) 1 1 underlying22 hi0 hz0 hz1 hz2 rfl (by decide) _ _ _ rfl (R1.out.alloc _) ⟨_, 0, none⟩ 1 1 [.int .u8 b] rfl rfl (cQ6 _ _ _) hone hmx hmy (hmz _) ?_; intro v' w3 hown' hgrow _; obtain ⟨Q3, K3⟩ := Q1.out.app HT.out HB.out R1.out hgrow; replace Q3 := aQ0 Q3; replace K3 := aQ0 K3; replace hown' := aQ0 hown'; clear hgrow))
           go_roundw
           case rel => exact ⟨k + 1, S1, uv1, l1 ++ [b], by omega, by go_num, Q3.out, V1.out, by rw [List.length_append, List.map_append]; exact hown'.out, by simp; omega, K1.out.trans K3.out⟩
           case measure => simp only [RowKit.intOf]; rw [M1.out]; have := aKo w3 g; omega
    · have hlti : (k : Int) < (t.size : Int) := by omega
      have hcb : (S1.cd == 0) = false := by simpa using hcd1
      go_wp2
      go_ret
      exact ⟨S1, uv1, _, l1, rfl, Q1.out, V1.out, R1.out, by omega, K1.out⟩
  · have hlti : ¬ (k : Int) < (t.size : Int) := by omega
    go_wp2
    go_ret
    exact ⟨S1, uv1, _, l1, rfl, Q1.out, V1.out, R1.out, by omega, K1.out⟩
open Go.RowKit Lists Bytes Ents Plain23 PlainR Go.Lib
structure Kc (g : Nat) (W W' : World) : Prop where
 os : W'.os = W.os
 tape : W'.tape = W.tape
 output : W'.output = W.output
 size : W.heap.size ≤ W'.heap.size
 block : ∀ k, k < W.heap.size → k ≠ g → (∀ cs f, W.heap[k]? ≠ some (.cells cs 5 f)) → (∀ cs f, W.heap[k]? ≠ some (.cells cs 37 f)) → W'.heap[k]? = W.heap[k]?
section
variable {B B2 g : Nat} {w W W' W'' : World} {S : Sx} {dv av ov tv pv uv : Value}
theorem Kc.refl (g : Nat) (W : World) : Kc g W W := ⟨rfl, rfl, rfl, Nat.le_refl _, fun _ _ _ _ _ => rfl⟩
theorem Kc.trans (h : Kc g W W') (h' : Kc g W' W'') : Kc g W W'' :=
 ⟨h'.os.trans h.os, h'.tape.trans h.tape, h'.output.trans h.output, Nat.le_trans h.size h'.size, fun k hk hg hu he => by
  have e := h.block k hk hg hu he
  exact (h'.block k (Nat.lt_of_lt_of_le hk h.size) hg (fun cs f => by rw [e]; exact hu cs f) (fun cs f => by rw [e]; exact he cs f)).trans e⟩
theorem Kc.below (h : Below W.heap.size W W') : Kc g W W' := ⟨h.os, h.tape, h.output, h.size, fun k hk _ _ _ => h.block k hk⟩
theorem Kc.kp (h : Kp W W' [g]) : Kc g W W' := ⟨h.os, h.tape, h.output, h.size, fun k hk hg _ _ => h.block k hk (by simpa using hg)⟩
theorem Kc.row {e : TypeId} {size n : Nat} {v : Value} {xs : List Value} (hr : W.ownsRow B e size v n xs) (he : e = 37 ∨ e = 5) (h : Kp W W' (g :: v.ownBlock.toList)) : Kc g W W' :=
 ⟨h.os, h.tape, h.output, h.size, fun k hk hg hu hE => h.block k hk (fun hm => by
  rcases List.mem_cons.1 hm with hm | hm
  · exact hg hm
  · obtain ⟨cs, hc⟩ := aQ3 hr (Option.mem_toList.1 hm)
    rcases he with rfl | rfl
    · exact hE cs _ hc
    · exact hu cs _ hc)⟩
theorem Kc.box (h : Kc g W W') {k : Nat} {cs : Array Value} {t : TypeId} {f : Nat × Nat} (hc : W.heap[k]? = some (.cells cs t f)) (hg : k ≠ g) (h1 : t ≠ 5) (h2 : t ≠ 37) : W'.heap[k]? = some (.cells cs t f) := by
 rw [h.block k (gLt hc) hg (fun cs' f' e => aQ5 hc e h1 rfl) (fun cs' f' e => aQ5 hc e h2 rfl)]
 exact hc
theorem Qr.upd (h : Qr B w W g S dv av ov tv pv uv) {S' : Sx} {ov' tv' pv' uv' : Value} (hbox : W'.heap[g]? = some (.cells #[dv, av, ov', tv', pv', uv', .int .i64 (S'.sp : Int), .int .i64 S'.cd, .bool S'.sn, .bool S'.hd] 96)) (hb : Below B w W')
 (hk : ∀ (k : Nat) (cs : Array Value) (t : TypeId), W.heap[k]? = some (.cells cs t (0, 0)) → t = 163 ∨ t = 146 → W'.heap[k]? = W.heap[k]?) (he : S'.ents = S.ents) (ha : S'.atts = S.atts)
 (hev : QEv W' B ov' S'.evs) (htx : W'.ownsRow B 5 1 tv' S'.txt.length (S'.txt.map (Value.int .u8))) (hop : W'.ownsRow B 9 1 pv' S'.opn.length (strs S'.opn)) (hus : W'.ownsRow B 9 1 uv' S'.usg.length (strs S'.usg)) : Qr B w W' g S' dv av ov' tv' pv' uv' := by
 refine ⟨hbox, h.gB, hb, ?_, ?_, hev, htx, hop, hus⟩
 · rw [he]
   exact aQ4 h.ents (fun k hkk => by obtain ⟨cs, hc⟩ := aQ3 h.ents hkk; exact hk k cs _ hc (.inl rfl))
 · rw [ha]
   exact aQ4 h.atts (fun k hkk => by obtain ⟨cs, hc⟩ := aQ3 h.atts hkk; exact hk k cs _ hc (.inr rfl))
theorem Qr.turn (h : Qr B w W g S dv av ov tv pv uv) {Wa : World} {e : TypeId} {size n : Nat} {v : Value} {xs : List Value} (hr : W.ownsRow B e size v n xs) (hg : W.grownBy Wa v.ownBlock) (he : e ≠ 96) (j : Nat) (u : Value) :
 (Wa.setCell ⟨g, j, none⟩ u).heap[g]? = some (.cells (#[dv, av, ov, tv, pv, uv, .int .i64 (S.sp : Int), .int .i64 S.cd, .bool S.sn, .bool S.hd].setIfInBounds j u) 96) ∧
 (∀ (k : Nat) (cs : Array Value) (t : TypeId), W.heap[k]? = some (.cells cs t (0, 0)) → t ≠ e → t ≠ 96 → (Wa.setCell ⟨g, j, none⟩ u).heap[k]? = W.heap[k]?) ∧ Below B w (Wa.setCell ⟨g, j, none⟩ u) ∧ (∀ k, k ≠ g → (Wa.setCell ⟨g, j, none⟩ u).heap[k]? = Wa.heap[k]?) ∧ Kp W (Wa.setCell ⟨g, j, none⟩ u) (g :: v.ownBlock.toList) ∧ Wa.heap[g]? = W.heap[g]? := by
 have hva : ∀ {k : Nat} {cs : Array Value} {t : TypeId}, W.heap[k]? = some (.cells cs t (0, 0)) → t ≠ e → Wa.heap[k]? = W.heap[k]? := fun hc ht => hg.block _ (gLt hc) (fun ek => by
  obtain ⟨cs', hc'⟩ := aQ3 hr ek.symm
  exact aQ5 hc hc' ht rfl)
 have hgg := hva h.box (fun e' => he e'.symm)
 refine ⟨heap_setCell_same Wa g j _ _ u (hgg.trans h.box), fun k cs t hc ht htr => ?_, ?_, fun k hk => Below.heap_setCell Wa ⟨g, j, none⟩ u k hk, ?_, hgg⟩
 · rw [Below.heap_setCell Wa ⟨g, j, none⟩ u k (aQ5 hc h.box htr)]; exact hva hc ht
 · have hb := h.bel.grown hg h.sz (fun k hk => (hr.lt k hk).1)
   have := h.gB
   exact ⟨hb.os, hb.tape, hb.output, by have := hb.size; simpa using this, fun i hi => by rw [Below.heap_setCell Wa ⟨g, j, none⟩ u i (by simp only; omega)]; exact hb.block i hi⟩
 · refine Kp.set ⟨hg.os, hg.tape, hg.output, hg.size, fun k hk hn => hg.block k hk (fun ek => hn (List.mem_cons_of_mem _ (Option.mem_toList.2 ek.symm)))⟩ (Or.inr List.mem_cons_self) j u
theorem Qr.addEv (h : Qr B w W g S dv av ov tv pv uv) {Wa : World} {vs : List Value} (hl : vs.length = S.evs.length) (hr : W.ownsRow B 37 4 ov S.evs.length (aXb (S.evs.zip vs))) (ha : ∀ x ∈ S.evs.zip vs, W.ownsRow B 54 2 x.2 x.1.attrs.length (aQc x.1.attrs))
 (hg : W.grownBy Wa ov.ownBlock) {E : Ev} {xv v' : Value} (ho : Wa.ownsRow B 37 4 v' (S.evs.length + 1) (aXb (S.evs.zip vs) ++ [.int .i64 E.kind, .string E.name, .string E.text, xv])) (hxv : W.ownsRow B 54 2 xv E.attrs.length (aQc E.attrs)) :
 Qr B w (Wa.setCell ⟨g, 2, none⟩ v') g { S with evs := S.evs ++ [E] } dv av v' tv pv uv ∧ Kp W (Wa.setCell ⟨g, 2, none⟩ v') (g :: ov.ownBlock.toList) := by
 obtain ⟨t1, t2, t3, t4, t5, t6⟩ := h.turn hr hg (by decide) 2 v'
 have hrow : ∀ {e : TypeId} {size n : Nat} {v : Value} {xs : List Value}, W.ownsRow B e size v n xs → e ≠ 37 → e ≠ 96 → (Wa.setCell ⟨g, 2, none⟩ v').ownsRow B e size v n xs := fun hv h1 h2 => aQ4 hv (fun k hkk => by
  obtain ⟨cs, hc⟩ := aQ3 hv hkk
  exact t2 k cs _ hc h1 h2)
 refine ⟨h.upd t1 t3 (fun k cs t hc ht => t2 k cs t hc (by rcases ht with rfl | rfl <;> decide) (by rcases ht with rfl | rfl <;> decide)) rfl rfl ?_ (hrow h.txt (by decide) (by decide)) (hrow h.opn (by decide) (by decide)) (hrow h.usg (by decide) (by decide)), t5⟩
 exact (QEv.push hl hr ha hxv ho hg).keep (fun k cs t hc ht => t4 k (aQ5 hc (t6.trans h.box) (by rcases ht with rfl | rfl <;> decide)))
theorem Qr.noTxt (h : Qr B w W g S dv av ov tv pv uv) : Qr B w (W.setCell ⟨g, 3, none⟩ (.slice none 0 0)) g { S with txt := [] } dv av ov (.slice none 0 0) pv uv ∧ Kp W (W.setCell ⟨g, 3, none⟩ (.slice none 0 0)) [g] := by
 obtain ⟨p1, p2, p3⟩ := h.put 3 (.slice none 0 0)
 have hrow : ∀ {e : TypeId} {size n : Nat} {v : Value} {xs : List Value}, W.ownsRow B e size v n xs → e ≠ 96 → (W.setCell ⟨g, 3, none⟩ (.slice none 0 0)).ownsRow B e size v n xs := fun hv h1 => aQ4 hv (fun k hkk => by
  obtain ⟨cs, hc⟩ := aQ3 hv hkk
  exact p3 k (aQ5 hc h.box h1))
 refine ⟨h.upd p1 p2 (fun k cs t hc ht => p3 k (aQ5 hc h.box (by rcases ht with rfl | rfl <;> decide))) rfl rfl (h.evs.keep (fun k cs t hc ht => p3 k (aQ5 hc h.box (by rcases ht with rfl | rfl <;> decide)))) (World.ownsRow_nil _ _ _ _) (hrow h.opn (by decide)) (hrow h.usg (by decide)), (Kp.refl W [g]).set (Or.inr List.mem_cons_self) 3 _⟩
theorem Qr.addTx (h : Qr B w W g S dv av ov tv pv uv) {Wa : World} (hg : W.grownBy Wa tv.ownBlock) {v' : Value} {l : List Int} (ho : Wa.ownsRow B 5 1 v' (S.txt ++ l).length ((S.txt ++ l).map (Value.int .u8))) :
 Qr B w (Wa.setCell ⟨g, 3, none⟩ v') g { S with txt := S.txt ++ l } dv av ov v' pv uv ∧ Kp W (Wa.setCell ⟨g, 3, none⟩ v') (g :: tv.ownBlock.toList) := by
 obtain ⟨t1, t2, t3, t4, t5, t6⟩ := h.turn h.txt hg (by decide) 3 v'
 have hrow : ∀ {e : TypeId} {size n : Nat} {v : Value} {xs : List Value}, W.ownsRow B e size v n xs → e ≠ 5 → e ≠ 96 → (Wa.setCell ⟨g, 3, none⟩ v').ownsRow B e size v n xs := fun hv h1 h2 => aQ4 hv (fun k hkk => by
  obtain ⟨cs, hc⟩ := aQ3 hv hkk
  exact t2 k cs _ hc h1 h2)
 refine ⟨h.upd t1 t3 (fun k cs t hc ht => t2 k cs t hc (by rcases ht with rfl | rfl <;> decide) (by rcases ht with rfl | rfl <;> decide)) rfl rfl (h.evs.keep (fun k cs t hc ht => t2 k cs t hc (by rcases ht with rfl | rfl <;> decide) (by rcases ht with rfl | rfl <;> decide))) ?_ (hrow h.opn (by decide) (by decide)) (hrow h.usg (by decide) (by decide)), t5⟩
 exact aQ4 ho (fun k hk => by
  obtain ⟨cs, hc⟩ := aQ3 ho hk
  exact t4 k (aQ5 hc (t6.trans h.box) (by decide)))
end
theorem aZi {w : World} {base : Nat} {e : TypeId} {size : Nat} {v : Value} {n : Nat} {xs : List Value} (h : w.ownsRow base e size v n xs) : ∃ ao ac, v = .slice ao n ac := by
 obtain ⟨a, c, he, _⟩ := aQr h
 exact ⟨a, c, he⟩
theorem cXk : (prog.info? 37).map (fun i => (i.zero, i.size, i.bytes)) = some (some (.agg #[.int .i64 0, .string ⟨#[]⟩, .string ⟨#[]⟩, .slice none 0 0]), 4, 64) := by kernel_rfl
theorem aWc (w : World) (a b c e : Value) (t : TypeId) (n : Nat) (hn : n = w.heap.size) : ∀ j u, [a, b, c, e][j]? = some u → (w.alloc (.cells #[a, b, c, e] t)).cell? ((⟨n, 0, none⟩ : Addr).add j) = some u := by
 subst hn
 intro j u hj
 match j, hj with
 | 0, hj => simp at hj; subst hj; simp [Addr.add]
 | 1, hj => simp at hj; subst hj; simp [Addr.add]
 | 2, hj => simp at hj; subst hj; simp [Addr.add]
 | 3, hj => simp at hj; subst hj; simp [Addr.add]
 | (j + 4), hj => simp at hj
theorem bX6 {w : World} {B n : Nat} {l : List Int} {v : Value} (h : w.ownsRow B 5 1 v n (l.map (Value.int .u8))) : (convert 22 9 v).run prog w = .ok (.string (strOfNums l)) w :=
 bZj (P := prog) (src := 22) (dst := 9) underlying22 underlying5 underlying9 h
def Sx.flush (S : Sx) : Sx := { S with evs := if S.txt = [] then S.evs else S.evs ++ [⟨3, ⟨#[]⟩, strOfNums S.txt, []⟩], txt := [] }
def Sx.tell (S : Sx) (E : Ev) : Sx := { S.flush with evs := S.flush.evs ++ [E] }
section
variable {B g : Nat} {w W W' : World} {S : Sx} {dv av ov tv pv uv : Value}
theorem cYd (h : Qr B w W g S dv av ov tv pv uv) (hel : S.evs.length ≤ 1048576) : Calls prog 101 #[.pointer (some ⟨g, 0, none⟩)] W fun e W' => e = .returned (.tuple #[]) ∧ ∃ ov', Qr B w W' g S.flush dv av ov' (.slice none 0 0) pv uv ∧ Kp W W' (g :: ov.ownBlock.toList) := by
 obtain ⟨i0, hi, hz0, hz1, hz2⟩ := info_parts cXk
 obtain ⟨_, _, ⟨ao, cv, rfl⟩, ⟨ta, tc, rfl⟩, _, _⟩ := h.rows
 obtain ⟨_, _, c2, c3, _, _, _, _, _, _⟩ := h.cells
 have f2 := h.thaw 2
 have f3 := h.thaw 3
 by_cases ht : S.txt = []
 · obtain ⟨n1, n2⟩ := h.noTxt
   have N1 := aQ0 n1
   have N2 := aQ0 n2
   have HS := aQ0 (show S.flush = { S with txt := [] } by unfold Sx.flush; rw [if_pos ht])
   have hl0 : S.txt.length = 0 := by rw [ht]; rfl
   rw [hl0] at c3
   clear h n1 n2 ht hl0
   go_enter func101, ntmps101
   go_wp2
   go_end0
   refine ⟨rfl, _, by rw [HS.out]; exact N1.out, ⟨N2.out.os, N2.out.tape, N2.out.output, N2.out.size, fun k hk hn => N2.out.block k hk (fun hm => hn (by simp at hm; subst hm; simp))⟩⟩
 · have htb : (S.txt.length : Int) > 0 := by
    have : S.txt.length ≠ 0 := fun e => ht (List.eq_nil_of_length_eq_zero e)
    omega
   have hcv1 := bX6 h.txt
   have hcv2 := bX6 h.drew.txt
   obtain ⟨X, hX⟩ : ∃ X : ByteArray, strOfNums S.txt = X := ⟨_, rfl⟩
   have HS := aQ0 (show S.flush = { S with evs := S.evs ++ [⟨3, ⟨#[]⟩, X, []⟩], txt := [] } by unfold Sx.flush; rw [if_neg ht, hX])
   rw [hX] at hcv1 hcv2
   obtain ⟨vs, hvl, hvr, hva⟩ := h.evs
   have HVA : Hid (∀ x ∈ S.evs.zip vs, (W.drew.alloc (.cells #[.int .i64 3, .string ⟨#[]⟩, .string X, .slice none 0 0] 37)).ownsRow B 54 2 x.2 x.1.attrs.length (aQc x.1.attrs)) := aQ0 (fun x hx => (hva x hx).drew.alloc _)
   have ROW : Hid ((W.drew.alloc (.cells #[.int .i64 3, .string ⟨#[]⟩, .string X, .slice none 0 0] 37)).ownsRow B 37 4 (.slice ao S.evs.length cv) S.evs.length (aXb (S.evs.zip vs))) := aQ0 (hvr.drew.alloc _)
   have RD := aQ0 (h.keep (((Below.refl _ _).drew).alloc (Nat.le_refl _) (.cells #[.int .i64 3, .string ⟨#[]⟩, .string X, .slice none 0 0] 37)))
   have hbs := h.sz
   have c2a : (W.alloc (.cells #[.int .i64 3, .string ⟨#[]⟩, .string X, .slice none 0 0] 37)).cell? ⟨g, 2, none⟩ = some (.slice ao S.evs.length cv) := (World.cell?_of_block (a := ⟨g, 2, none⟩) (heap_alloc_old _ _ h.lt)).trans c2
   have c3a : (W.alloc (.cells #[.int .i64 3, .string ⟨#[]⟩, .string X, .slice none 0 0] 37)).cell? ⟨g, 3, none⟩ = some (.slice ta S.txt.length tc) := (World.cell?_of_block (a := ⟨g, 3, none⟩) (heap_alloc_old _ _ h.lt)).trans c3
   have KB := aQ0 (show Below W.heap.size W (W.drew.alloc (.cells #[.int .i64 3, .string ⟨#[]⟩, .string X, .slice none 0 0] 37)) from ((Below.refl _ _).drew).alloc (Nat.le_refl _) _)
   have EVL : Hid (∀ k, (Value.slice ao S.evs.length cv).ownBlock = some k → k < W.heap.size) := aQ0 (fun k hk => (hvr.lt k hk).2)
   clear hvr hva hX ht h
   go_enter func101, ntmps101
   go_wp2_with fail
   go_region_law (refine aQn rfl (.tmp 12) (.tmp 19) 23 rfl B 37 i0 (.agg #[.int .i64 0, .string ⟨#[]⟩, .string ⟨#[]⟩, .slice none 0 0]) 4 64 underlying23 hi hz0 hz1 hz2 rfl (by decide) (.slice ao S.evs.length cv) S.evs.length (aXb (S.evs.zip vs)) (by simp [Act.eval]) ROW.out ⟨W.heap.size, 0, none⟩ 1 1 [.int .i64 3, .string ⟨#[]⟩, .string X, .slice none 0 0] (by simp [Act.eval]) rfl (aWc W.drew _ _ _ _ _ W.heap.size rfl) (by intro u hu; simp at hu; rcases hu with rfl | rfl | rfl | rfl <;> rfl) (by unfold maxLen; omega) (by omega) (by simp; omega) ?_; intro v' wa hoa hga; obtain ⟨ao2, cv2, hv'⟩ := aZi hoa; subst hv'; have d2 := (World.cell?_of_block (a := ⟨g, 2, none⟩) (RD.out.turn ROW.out hga (by decide) 2 (.bool true)).2.2.2.2.2).trans RD.out.cells.2.2.1; have e2 : wa.frozen? ⟨g, 2, none⟩ = false := (by have hb := (RD.out.turn ROW.out hga (by decide) 2 (.bool true)).2.2.2.2.2.trans RD.out.box; simp [World.frozen?, hb]); replace hoa := aQ0 hoa; replace hga := aQ0 hga)
   all_goals
    simp only [Exit.then]
    rename_i aK hj0
    refine aK _ _ ?_
    obtain ⟨a1, a2⟩ := RD.out.addEv hvl ROW.out HVA.out hga.out (E := ⟨3, ⟨#[]⟩, X, []⟩) hoa.out (World.ownsRow_nil _ _ _ _)
    obtain ⟨a3, a4⟩ := a1.noTxt
    have hf3 := a1.thaw 3
    have hc3 := a1.cells.2.2.2.1
    have A3 := aQ0 a3
    have A4 := aQ0 ((Kp.below KB.out (g :: (Value.slice ao S.evs.length cv).ownBlock.toList)).trans (a2.trans a4 (fun c hc _ => by simp at hc; subst hc; simp)) (fun c hc _ => hc))
    clear a1 a2 a3 a4
    go_wp2
    go_end0
    exact ⟨rfl, ⟨_, by rw [HS.out]; exact A3.out⟩, A4.out⟩
theorem bQo {xv : Value} {E : Ev} (h : Qr B w W g S dv av ov tv pv uv) (hxv : W.ownsRow B 54 2 xv E.attrs.length (aQc E.attrs)) (hel : S.evs.length ≤ 1000000) : Calls prog 68 #[.pointer (some ⟨g, 0, none⟩), .agg #[.int .i64 E.kind, .string E.name, .string E.text, xv]] W fun e W' => e = .returned (.tuple #[]) ∧ ∃ ov', Qr B w W' g (S.tell E) dv av ov' (.slice none 0 0) pv uv ∧ Kc g W W' := by
 obtain ⟨i0, hi, hz0, hz1, hz2⟩ := info_parts cXk
 obtain ⟨aa, ac, rfl, _⟩ := aQr hxv
 obtain ⟨an, han⟩ := nmE (E.attrs.length)
 obtain ⟨W0, hW0⟩ := nmE (W.alloc (.cells #[.int .i64 E.kind, .string E.name, .string E.text, .slice aa an ac] 37))
 have hB0 : Below W.heap.size W W0 := by rw [← hW0]; exact bAl
 have hx0 : W0.heap[W.heap.size]? = some (.cells #[.int .i64 E.kind, .string E.name, .string E.text, .slice aa an ac] 37) := by rw [← hW0]; exact heap_alloc_new _ _
 have hq0 := h.keep hB0
 have hf := cYd hq0 (by omega)
 have A0 := aQ0 (aQ4 hxv (fun k hk => hB0.block k (hxv.lt k hk).2))
 have HW0 := aQ0 hW0
 have K0 := aQ0 (Kc.below (g := g) hB0)
 have E0 := aQ0 hx0
 have EVL : Hid (∀ k, ov.ownBlock = some k → k < W.heap.size) := aQ0 (fun k hk => by obtain ⟨vs, hl, hr, _⟩ := h.evs; exact (hr.lt k hk).2)
 have hlt := h.lt
 have Q0 := aQ0 hq0
 have hfl : S.flush.evs.length ≤ S.evs.length + 1 := by
  unfold Sx.flush
  simp only
  split <;> simp
 have HSL := aQ0 hfl
 rw [han] at A0 ⊢
 have HAN := aQ0 han
 clear hxv hB0 hx0 hq0 h hfl han
 go_enter func68, ntmps68
 go_wp2_with fail
 refine hf.mono ?_
 rintro e W1 ⟨rfl, ov1, hq1, hk1⟩
 have Q1 := aQ0 hq1
 have e1 : W1.heap[W.heap.size]? = some (.cells #[.int .i64 E.kind, .string E.name, .string E.text, .slice aa an ac] 37) := by
  rw [hk1.block W.heap.size (gLt E0.out) (fun hm => by
   rcases List.mem_cons.1 hm with hm | hm
   · omega
   · exact absurd (EVL.out _ (Option.mem_toList.1 hm)) (Nat.lt_irrefl _))]
  exact E0.out
 have b0 : W1.cell? ⟨W.heap.size, 0, none⟩ = some (.int .i64 E.kind) ∧ W1.cell? ⟨W.heap.size, 1, none⟩ = some (.string E.name) ∧ W1.cell? ⟨W.heap.size, 2, none⟩ = some (.string E.text) ∧ W1.cell? ⟨W.heap.size, 3, none⟩ = some (.slice aa an ac) := by simp [World.cell?, e1]
 obtain ⟨b0, b1, b2, b3⟩ := b0
 have K1 := aQ0 (K0.out.trans (by
  obtain ⟨vs, _, hr, _⟩ := Q0.out.evs
  exact Kc.row hr (.inl rfl) hk1))
 have A1 := aQ0 (aQ4 A0.out (fun k hk => hk1.block k (A0.out.lt k hk).2 (fun hm => by
  obtain ⟨cs, hc⟩ := aQ3 A0.out hk
  rcases List.mem_cons.1 hm with hm | hm
  · exact aQ5 hc Q0.out.box (by decide) hm
  · obtain ⟨vs, _, hr, _⟩ := Q0.out.evs
    obtain ⟨cs', hc'⟩ := aQ3 hr (Option.mem_toList.1 hm)
    exact aQ5 hc hc' (by decide) rfl)))
 obtain ⟨S1, hS1⟩ := nmE (S.flush)
 have HS := aQ0 (show S.tell E = { S1 with evs := S1.evs ++ [E] } by rw [← hS1]; rfl)
 rw [hS1] at Q1 HSL
 have hsl := HSL.out
 have hq1' := Q1.out
 obtain ⟨_, _, ⟨ao, cv, rfl⟩, _, _, _⟩ := hq1'.rows
 obtain ⟨_, _, c2, _, _, _, _, _, _, _⟩ := hq1'.cells
 have f2 := hq1'.thaw 2
 obtain ⟨vs, hvl, hvr, hva⟩ := hq1'.evs
 have HVA : Hid (∀ x ∈ S1.evs.zip vs, (W1.drew.alloc (.cells #[.int .i64 E.kind, .string E.name, .string E.text, .slice aa an ac] 37)).ownsRow B 54 2 x.2 x.1.attrs.length (aQc x.1.attrs)) := aQ0 (fun x hx => (hva x hx).drew.alloc _)
 have ROW : Hid ((W1.drew.alloc (.cells #[.int .i64 E.kind, .string E.name, .string E.text, .slice aa an ac] 37)).ownsRow B 37 4 (.slice ao S1.evs.length cv) S1.evs.length (aXb (S1.evs.zip vs))) := aQ0 (hvr.drew.alloc _)
 have RD := aQ0 (hq1'.keep (((Below.refl _ _).drew).alloc (Nat.le_refl _) (.cells #[.int .i64 E.kind, .string E.name, .string E.text, .slice aa an ac] 37)))
 have hbs := hq1'.sz
 have c2a : (W1.alloc (.cells #[.int .i64 E.kind, .string E.name, .string E.text, .slice aa an ac] 37)).cell? ⟨g, 2, none⟩ = some (.slice ao S1.evs.length cv) := (World.cell?_of_block (a := ⟨g, 2, none⟩) (heap_alloc_old _ _ hq1'.lt)).trans c2
 have KB := aQ0 (show Below W1.heap.size W1 (W1.drew.alloc (.cells #[.int .i64 E.kind, .string E.name, .string E.text, .slice aa an ac] 37)) from ((Below.refl _ _).drew).alloc (Nat.le_refl _) _)
 clear hvr hva hS1 hq1 hq1' hf hk1 e1
 go_wp2_with fail
 go_region_law (refine aQn rfl (.tmp 10) (.tmp 12) 23 rfl B 37 i0 (.agg #[.int .i64 0, .string ⟨#[]⟩, .string ⟨#[]⟩, .slice none 0 0]) 4 64 underlying23 hi hz0 hz1 hz2 rfl (by decide) (.slice ao S1.evs.length cv) S1.evs.length (aXb (S1.evs.zip vs)) (by simp [Act.eval]) ROW.out ⟨W1.heap.size, 0, none⟩ 1 1 [.int .i64 E.kind, .string E.name, .string E.text, .slice aa an ac] (by simp [Act.eval]) rfl (aWc W1.drew _ _ _ _ _ W1.heap.size rfl) (by intro u hu; simp at hu; rcases hu with rfl | rfl | rfl | rfl <;> rfl) (by unfold maxLen; omega) (by omega) (by simp; omega) ?_; intro v' wa hoa hga; obtain ⟨ao2, cv2, hv'⟩ := aZi hoa; subst hv'; have d2 := (World.cell?_of_block (a := ⟨g, 2, none⟩) (RD.out.turn ROW.out hga (by decide) 2 (.bool true)).2.2.2.2.2).trans RD.out.cells.2.2.1; have e2 : wa.frozen? ⟨g, 2, none⟩ = false := (by have hb := (RD.out.turn ROW.out hga (by decide) 2 (.bool true)).2.2.2.2.2.trans RD.out.box; simp [World.frozen?, hb]); replace hoa := aQ0 hoa; replace hga := aQ0 hga)
 all_goals
  go_end0
  obtain ⟨a1, a2⟩ := RD.out.addEv hvl ROW.out HVA.out hga.out (E := E) hoa.out (by rw [HAN.out]; exact A1.out.drew.alloc _)
  exact ⟨rfl, _, by rw [HS.out]; exact a1, (K1.out.trans (Kc.below KB.out)).trans (Kc.row ROW.out (.inl rfl) a2)⟩
end
end Go.Proofs.YtocnfoeaikiecaaGreatDoor
