import Derived.Test.YtocnfoeaikiecaaGreatDoorQqM
import Derived.Test.YtocnfoeaikiecaaGreatDoorMdF
set_option maxRecDepth 100000
set_option maxHeartbeats 8000000
set_option linter.unusedVariables false
namespace Go.Proofs.YtocnfoeaikiecaaGreatDoor.PlainK
open Go.RowKit Strs Plain3 Plain9 Plain10 Plain11 Plain19 Plain20 Plain22 Plain27 PlainR PlainD Go.Lib
variable {s : ByteArray}
theorem bVt : ∀ (f p : Nat), (aZf s f p).1 = 0 → aQ1 s ((aZf s f p).2 - 1) = 93
 | 0, p, h => by simp [aZf] at h
 | f + 1, p, h => by
  unfold aZf at h ⊢
  by_cases c0 : p < s.size
  · rw [if_pos c0] at h ⊢
    by_cases c1 : aQ1 s p = 93
    · rw [if_pos c1]; simpa using c1
    rw [if_neg c1] at h ⊢
    by_cases c2 : aQ1 s p = 34
    · rw [if_pos c2] at h ⊢
      by_cases d : upF s (p + 1) [34] = 0
      · rw [if_pos d] at h ⊢; exact bVt f _ h
      · rw [if_neg d] at h; cases h
    rw [if_neg c2] at h ⊢
    by_cases c3 : aQ1 s p = 39
    · rw [if_pos c3] at h ⊢
      by_cases d : upF s (p + 1) [39] = 0
      · rw [if_pos d] at h ⊢; exact bVt f _ h
      · rw [if_neg d] at h; cases h
    rw [if_neg c3] at h ⊢
    by_cases c4 : aQa s p [60, 33, 45, 45] = true
    · rw [if_pos c4] at h ⊢
      by_cases d : upF s (p + 4) [45, 45, 62] = 0
      · rw [if_pos d] at h ⊢; exact bVt f _ h
      · rw [if_neg d] at h; cases h
    rw [if_neg c4] at h ⊢
    by_cases c5 : aQa s p [60, 63] = true
    · rw [if_pos c5] at h ⊢
      by_cases d : upF s (p + 2) [63, 62] = 0
      · rw [if_pos d] at h ⊢; exact bVt f _ h
      · rw [if_neg d] at h; cases h
    rw [if_neg c5] at h ⊢
    exact bVt f _ h
  · rw [if_neg c0] at h; cases h
theorem cVi (h0 : VB s 0) {k : Nat} (h : (aX1 s k).fl = 0) : VB (aX1 s k).text 0 := by
 unfold aX1 at h ⊢
 dsimp only at h ⊢
 by_cases c1 : whiteZ s k = k
 · rw [if_pos c1] at h
   by_cases c : s.size ≤ k
   · rw [if_pos c] at h; cases h
   · rw [if_neg c] at h; cases h
 rw [if_neg c1] at h ⊢
 by_cases c2 : nmF s (whiteZ s k) ≠ 0
 · rw [if_pos c2] at h; exact absurd h (aK3 c2)
 rw [if_neg c2] at h ⊢
 have c2' : nmF s (whiteZ s k) = 0 := by simpa using c2
 obtain ⟨_, _, hnp, e4⟩ := aZx c2'
 have hrl := aQv (s := s) (p := nmP s (whiteZ s k)) (by omega)
 by_cases c3 : aQa s (whiteZ s (nmP s (whiteZ s k))) [91] = true
 · rw [if_pos c3] at h ⊢
   have hroom := aX5 c3 hrl
   simp at hroom
   by_cases c4 : subF s (whiteZ s (nmP s (whiteZ s k)) + 1) ≠ 0
   · rw [if_pos c4] at h; exact absurd h (aK3 c4)
   rw [if_neg c4] at h ⊢
   have c4' : subF s (whiteZ s (nmP s (whiteZ s k)) + 1) = 0 := by simpa using c4
   have hsr := aYq (s := s) (s.size + 1) (whiteZ s (nmP s (whiteZ s k)) + 1) (by omega) c4'
   have h93 : aQ1 s (subP s (whiteZ s (nmP s (whiteZ s k)) + 1) - 1) = 93 := bVt (s.size + 1) _ c4'
   have hs2 : whiteZ s (nmP s (whiteZ s k)) + 1 < subP s (whiteZ s (nmP s (whiteZ s k)) + 1) := hsr.1
   have hs3 : subP s (whiteZ s (nmP s (whiteZ s k)) + 1) ≤ s.size := hsr.2
   have hv : VB s (whiteZ s (nmP s (whiteZ s k)) + 1) := aZn h0 c3 hrl (by simp) (by decide)
   by_cases c5 : aQp s (whiteZ s (subP s (whiteZ s (nmP s (whiteZ s k)) + 1))) [62] = 0
   · rw [if_pos c5]
     show VB (subT s (whiteZ s (nmP s (whiteZ s k)) + 1)) 0
     unfold subT
     exact cQ1 (by omega) (by omega) hv (.inr (fun hg => by unfold aQw at hg; omega))
   · rw [if_neg c5] at h; exact absurd h (aK3 c5)
 · rw [if_neg c3] at h ⊢
   by_cases c5 : aQp s (whiteZ s (nmP s (whiteZ s k))) [62] = 0
   · rw [if_pos c5]; exact cJl
   · rw [if_neg c5] at h; exact absurd h (aK3 c5)
theorem cZd {nm : ByteArray} : ∀ (f p : Nat) (acc : List (ByteArray × ByteArray)), (aWn s nm f p acc).kind ≠ 8
 | 0, p, acc => by show (0 : Int) ≠ 8; decide
 | f + 1, p, acc => by
  rw [cKd]
  repeat' split
  all_goals first
   | exact cZd f _ _
   | (show (0 : Int) ≠ 8; decide)
   | (show (1 : Int) ≠ 8; decide)
   | (show (3 : Int) ≠ 8; decide)
theorem dVm (h0 : VB s 0) {p : Nat} (h : (aJf s p).fl = 0) (hk : (aJf s p).kind = 8) : VB (aJf s p).text 0 := by
 have f0 : ∀ f, ¬ (aX2 f).kind = 8 := fun f => by show ¬ (0 : Int) = 8; decide
 unfold aJf at h hk ⊢
 by_cases c1 : aQa s p [60, 33, 45, 45] = true
 · rw [if_pos c1] at hk
   unfold aXa at hk
   split at hk
   · exact absurd hk (f0 _)
   · split at hk
     · exact absurd hk (show ¬ (6 : Int) = 8 by decide)
     · exact absurd hk (f0 _)
 rw [if_neg c1] at h hk ⊢
 by_cases c2 : aQa s p [60, 33, 91, 67, 68, 65, 84, 65, 91] = true
 · rw [if_pos c2] at hk
   unfold aYk at hk
   split at hk
   · exact absurd hk (show ¬ (5 : Int) = 8 by decide)
   · exact absurd hk (f0 _)
 rw [if_neg c2] at h hk ⊢
 by_cases c3 : aQa s p [60, 33, 68, 79, 67, 84, 89, 80, 69] = true
 · rw [if_pos c3] at h ⊢
   exact cVi h0 h
 rw [if_neg c3] at h hk ⊢
 by_cases c4 : aQa s p [60, 63] = true
 · rw [if_pos c4] at hk
   unfold piZ at hk
   split at hk
   · exact absurd hk (f0 _)
   split at hk
   · exact absurd hk (f0 _)
   dsimp only at hk
   split at hk
   · split at hk
     · exact absurd hk (show ¬ (7 : Int) = 8 by decide)
     · exact absurd hk (f0 _)
   · split at hk
     · exact absurd hk (show ¬ (7 : Int) = 8 by decide)
     · exact absurd hk (f0 _)
 rw [if_neg c4] at h hk ⊢
 by_cases c5 : aQa s p [60, 47] = true
 · rw [if_pos c5] at hk
   unfold endZ at hk
   split at hk
   · exact absurd hk (f0 _)
   dsimp only at hk
   split at hk
   · exact absurd hk (show ¬ (2 : Int) = 8 by decide)
   · exact absurd hk (f0 _)
 rw [if_neg c5] at h hk ⊢
 by_cases c6 : aQa s p [60, 33] = true
 · rw [if_pos c6] at hk
   exact absurd hk (f0 _)
 rw [if_neg c6] at hk
 unfold tagZ at hk
 split at hk
 · exact absurd hk (f0 _)
 · exact absurd hk (cZd _ _ _)
theorem tok_vb (h0 : VB s 0) {p : Nat} {c : Bool} (h : (tokZ s p c).fl = 0) (hk : (tokZ s p c).kind = 8) : VB (tokZ s p c).text 0 := by
 unfold tokZ at h hk ⊢
 split at h
 · rename_i hh
   rw [if_pos hh] at hk ⊢
   exact dVm h0 h hk
 · rename_i hh
   rw [if_neg hh] at hk
   unfold aKs at hk
   split at hk
   · exact absurd hk (show ¬ (0 : Int) = 8 by decide)
   · split at hk
     · exact absurd hk (show ¬ (0 : Int) = 8 by decide)
     · exact absurd hk (show ¬ (4 : Int) = 8 by decide)
end Go.Proofs.YtocnfoeaikiecaaGreatDoor.PlainK
namespace Go.Proofs.YtocnfoeaikiecaaGreatDoor
open Go.RowKit Strs Lists Ents Plain9 Plain10 Plain11 Plain15 Plain16 PlainR PlainM PlainJ PlainK Go.Lib Tryz
theorem cK8 {s : ByteArray} {p : Nat} (hp : p < s.size) (c : Bool) : (if aQ1 s p = 60 then aJf s p else aKs s p c) = tokZ s p c := by
 have hq : aQa s p [60] = decide (aQ1 s p = 60) := bZe hp 60 60 rfl
 unfold tokZ
 rw [hq]
 by_cases h : aQ1 s p = 60
 · rw [if_pos h, if_pos (decide_eq_true h)]
 · rw [if_neg h, if_neg (by simpa using h)]
theorem tok_nm {s : ByteArray} {p : Nat} (c : Bool) : NmOk s.size (tokZ s p c) := by
 unfold tokZ
 split
 · exact dVn _ _
 · exact dV4 _ _ _
theorem dV5 (s : ByteArray) (p : Nat) (c : Bool) : (aKs s p c).fl ≤ 2 := by
 unfold aKs
 split
 · exact Nat.le_refl _
 · split
   · show 1 ≤ 2; omega
   · show 0 ≤ 2; omega
theorem tok_fl (s : ByteArray) (p : Nat) (c : Bool) : (tokZ s p c).fl ≤ 3 := by
 unfold tokZ
 split
 · exact cJ3 _ _
 · have := dV5 s p c; omega
theorem cYf {f : Nat} (h : f ≤ 3) (h0 : f ≠ 0) (c : Bool) : cYg f c ≠ 0 := by
 have : f = 1 ∨ f = 2 ∨ f = 3 := by omega
 rcases this with rfl | rfl | rfl <;> cases c <;> decide
structure TkIs (s : ByteArray) (p : Nat) (O : Out) : Prop where
 lt : p < O.at1.toNat
 le : O.at1.toNat ≤ s.size
 at0 : O.at1 = (O.at1.toNat : Int)
 vb : VB s O.at1.toNat
 nm : O.tk.name.size ≤ s.size
 tx : O.tk.text.size ≤ s.size
 tv : O.tk.kind = 8 → VB O.tk.text 0
 len : O.tk.attrs.length ≤ s.size + 1
 attrs : ∀ a ∈ O.tk.attrs, a.1.size ≤ s.size ∧ a.2.size ≤ s.size
theorem cWg {s : ByteArray} (h0 : VB s 0) {p : Nat} (hp : p < s.size) (hv : VB s p) (c : Bool) : ((aK0 (tokZ s p c) c).code = 0 ∧ TkIs s p (aK0 (tokZ s p c) c)) ∨ (aK0 (tokZ s p c) c).code ≠ 0 := by
 by_cases hf : (tokZ s p c).fl = 0
 · left
   have hk := tok_ok h0 hp hv c hf
   have hn := tok_nm (s := s) (p := p) c
   have he : aK0 (tokZ s p c) c = ⟨tokZ s p c, ((tokZ s p c).pos : Int), 0⟩ := by unfold aK0; rw [if_pos hf]
   rw [he]
   refine ⟨rfl, by simpa using hk.lt, by simpa using hk.sz, by simp, by simpa using hk.vb, hn.1, by have := hk.text; have := hk.sz; show (tokZ s p c).text.size ≤ s.size; omega, tok_vb h0 hf, hk.len, fun a ha => ⟨hn.2 a ha, (hk.attrs a ha).1⟩⟩
 · right
   have he : (aK0 (tokZ s p c) c).code = cYg (tokZ s p c).fl c := by unfold aK0; rw [if_neg hf]
   rw [he]
   exact cYf (tok_fl s p c) hf c
theorem bQ5 {W : World} {k : Nat} {a b c d e f : Value} {t : TypeId} (h : W.heap[k]? = some (.cells #[a, b, c, d, e, f] t)) : W.cell? ⟨k, 0, none⟩ = some a ∧ W.cell? ⟨k, 1, none⟩ = some b ∧ W.cell? ⟨k, 2, none⟩ = some c ∧ W.cell? ⟨k, 3, none⟩ = some d ∧ W.cell? ⟨k, 4, none⟩ = some e ∧ W.cell? ⟨k, 5, none⟩ = some f := by simp [World.cell?, h]
theorem dZ5 (F : Nat) (hC : CtC F) : InC F := by
 intro B g w W S dv av ov tv pv uv t hQ hL ht hv hcd hJ hB hF
 have HQ0 := aQ0 hQ
 have HL := aQ0 hL
 have HJ := aQ0 hJ
 have HB := aQ0 hB
 have HV := aQ0 hv
 have HC : Hid (Unit → CtC F) := aQ0 (fun _ => @hC)
 have hop := hJ.op
 obtain ⟨_, _, _, _, c4, _, _, _, _, _⟩ := hQ.cells
 obtain ⟨_, _, _, _, ⟨pa, pc, rfl⟩, _⟩ := hQ.rows
 clear hQ hL hJ hB hC hcd hv
 go_enter func99, ntmps99
 go_wp2_with fail
 go_loopw [5] (fun i wr => ∃ (p : Nat) (S1 : Sx) (ov1 tv1 pv1 uv1 : Value), p ≤ t.size ∧ i = .int .i64 p ∧ VB t p ∧ Qr B w wr g S1 dv av ov1 tv1 pv1 uv1 ∧ CS S S1 (4 * p) ∧ Kc g W wr) (fun i wr => t.size - (RowKit.intOf i).toNat)
 case atStart => exact ⟨0, S, ov, tv, _, uv, Nat.zero_le _, rfl, HV.out, HQ0.out, CS.refl _, Kc.refl _ _⟩
 case round =>
  obtain ⟨p, S1, ov1, tv1, pv1, uv1, hp, rfl, hvp, hq1, hc1, hk1⟩ := hrel
  obtain ⟨_, _, _, _, ⟨pa1, pc1, rfl⟩, _⟩ := hq1.rows
  obtain ⟨_, _, _, _, d4, _, _, c7, _, _⟩ := hq1.cells
  have Q1 := aQ0 hq1
  have C1 := aQ0 hc1
  have K1 := aQ0 hk1
  have hup := hc1.up
  have hop1 := (hc1.inv HJ.out).op
  clear hq1 hc1 hk1 HQ0 c4
  have hend : ∀ wx (hx : wx = wr), Hid (True) := fun _ _ => aQ0 trivial
  clear hend
  by_cases hlt : p < t.size
  · have hlti : (p : Int) < (t.size : Int) := by omega
    by_cases hcd1 : S1.cd = 0
    · have HC1 := aQ0 hcd1
      rw [hcd1] at c7
      clear hcd1
      have hnx := bQj t p true wr (by omega) hlt
      rw [cK8 hlt] at hnx
      have hO := cWg HV.out hlt hvp true
      obtain ⟨O, hOe⟩ := nmE (aK0 (tokZ t p true) true)
      rw [hOe] at hnx hO
      have HO := aQ0 hO
      clear hO hOe
      go_wp2_with fail
      refine hnx.mono ?_
      rintro e w2 ⟨ta, rfl, hta, hb2⟩
      obtain ⟨ao, ac, rfl⟩ := aZi hta
      obtain ⟨cd2, hcd2⟩ : ∃ c, O.code = c := ⟨_, rfl⟩
      rw [hcd2] at HO
      obtain ⟨W3, hW3⟩ := nmE (w2.alloc (.cells #[.int .i64 O.tk.kind, .string O.tk.name, .string O.tk.text, .slice ao O.tk.attrs.length ac, .int .i64 O.at1, .int .i64 cd2] 101))
      have hb3 : Below w2.heap.size w2 W3 := by rw [← hW3]; exact bAl
      have hx3 : W3.heap[w2.heap.size]? = some (.cells #[.int .i64 O.tk.kind, .string O.tk.name, .string O.tk.text, .slice ao O.tk.attrs.length ac, .int .i64 O.at1, .int .i64 cd2] 101) := by rw [← hW3]; exact heap_alloc_new _ _
      have hb13 : Below wr.heap.size wr W3 := hb2.trans (hb3.mono hb2.size)
      have hq3 := Q1.out.keep hb13
      have hta3 := aQ4 hta (fun k hk => hb3.block k (hta.lt k hk).2)
      obtain ⟨m0, m1, m2, m3, m4, m5⟩ := bQ5 hx3
      have Q3 := aQ0 hq3
      have K3 := aQ0 (K1.out.trans (Kc.below (g := g) hb13))
      have X3 := aQ0 hx3
      have TA3 := aQ0 hta3
      have hne : w2.heap.size ≠ g := by have h1 := Q1.out.lt; have h2 := hb2.size; omega
      clear hnx hb2 hb3 hx3 hb13 hq3 hta hta3 c7 d4
      rw [hcd2]
      clear hcd2
      by_cases h0 : cd2 = 0
      · have h0b : (cd2 != 0) = false := by simp [h0]
        have TI := aQ0 (HO.out.resolve_right (fun hn => hn h0)).2
        have hti := TI.out
        have hlim1 := C1.out.lim HL.out
        have hct := HC.out () O.tk.kind O.tk.name O.tk.text (.slice ao O.tk.attrs.length ac) O.tk.attrs S.opn.length Q3.out hlim1 TA3.out (fun a ha => by have := hti.attrs a ha; omega) (by have := hti.len; omega) (by have := hti.nm; omega) (by have := hti.tx; omega) (by omega) HC1.out (C1.out.inv HJ.out) (C1.out.bd HL.out (HB.out.mono (by omega))) (by omega)
        have hat := hti.at0
        have hlt2 := hti.lt
        have hle2 := hti.le
        obtain ⟨q, hqe⟩ := nmE (O.at1.toNat)
        rw [hqe] at hat hlt2 hle2
        have HAT := aQ0 hat
        clear hat
        have HVQ := aQ0 (show VB t q by rw [← hqe]; exact hti.vb)
        clear hti hqe h0 HO hlim1
        go_wp2_with fail
        refine hct.mono ?_
        rintro e w4 ⟨rfl, S4, ov4, tv4, pv4, uv4, hq4, hc4, hk4⟩
        have x4 := hk4.box X3.out hne (by decide) (by decide)
        have m4' := (bQ5 x4).2.2.2.2.1
        have Q4 := aQ0 hq4
        have C4 := aQ0 ((C1.out.trans hc4).mono (m := 4 * q) (by omega))
        have K4 := aQ0 (K3.out.trans hk4)
        clear hct hq4 hc4 hk4 x4 m0 m1 m2 m3 m4 m5 hW3
        go_wp2
        go_roundw
        case rel => exact ⟨q, S4, ov4, tv4, pv4, uv4, hle2, by rw [HAT.out], HVQ.out, Q4.out, C4.out, K4.out⟩
        case measure => simp only [RowKit.intOf]; rw [HAT.out, Int.toNat_natCast, Int.toNat_natCast]; omega
      · have h0b : (cd2 != 0) = true := by simpa using h0
        have hf := aKl Q3.out cd2 h0 (4 * (t.size - p))
        clear h0
        go_wp2_with fail
        refine hf.mono ?_
        rintro e w4 ⟨rfl, S4, ov4, tv4, pv4, uv4, hq4, hc4, hk4⟩
        go_wp2
        go_end0
        exact ⟨rfl, S4, ov4, tv4, pv4, uv4, hq4, (C1.out.trans hc4).mono (by omega), K3.out.trans hk4⟩
    · have hcb : (S1.cd == 0) = false := by simpa using hcd1
      by_cases hoe : S1.opn.length = S.opn.length
      · rw [hoe] at d4
        go_wp2
        go_end0
        exact ⟨rfl, S1, _, _, _, _, Q1.out, C1.out.mono (by omega), K1.out⟩
      · have hob : ¬ (S1.opn.length : Int) = (S.opn.length : Int) := by omega
        have hf := aKl Q1.out 3 (by decide) 0
        go_wp2_with fail
        refine hf.mono ?_
        rintro e w4 ⟨rfl, S4, ov4, tv4, pv4, uv4, hq4, hc4, hk4⟩
        go_wp2
        go_end0
        exact ⟨rfl, S4, ov4, tv4, pv4, uv4, hq4, (C1.out.trans hc4).mono (by omega), K1.out.trans hk4⟩
  · have hlti : ¬ (p : Int) < (t.size : Int) := by omega
    by_cases hoe : S1.opn.length = S.opn.length
    · rw [hoe] at d4
      go_wp2
      go_end0
      exact ⟨rfl, S1, _, _, _, _, Q1.out, C1.out.mono (by omega), K1.out⟩
    · have hob : ¬ (S1.opn.length : Int) = (S.opn.length : Int) := by omega
      have hf := aKl Q1.out 3 (by decide) 0
      go_wp2_with fail
      refine hf.mono ?_
      rintro e w4 ⟨rfl, S4, ov4, tv4, pv4, uv4, hq4, hc4, hk4⟩
      go_wp2
      go_end0
      exact ⟨rfl, S4, ov4, tv4, pv4, uv4, hq4, (C1.out.trans hc4).mono (by omega), K1.out.trans hk4⟩
theorem cY1 : ∀ F, InC F := fun F => by
 induction F using Nat.strongRecOn with
 | ind F ih => exact dZ5 F (bKc F (bKd F ih))
theorem bQm (F : Nat) : CtC F := bKc F (bKd F (fun F' _ => cY1 F'))
end Go.Proofs.YtocnfoeaikiecaaGreatDoor
