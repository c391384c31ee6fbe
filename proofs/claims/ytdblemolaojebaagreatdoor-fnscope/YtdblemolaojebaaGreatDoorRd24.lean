import Derived.Test.YtdblemolaojebaaGreatDoorRd23
import Derived.Test.YtdblemolaojebaaGreatDoorRaI
set_option maxRecDepth 100000
set_option maxHeartbeats 16000000
set_option linter.unusedVariables false
set_option linter.unusedSectionVars false
namespace Go.Proofs.YtdblemolaojebaaGreatDoor
open Go.RowKit Lists Plain9 Plain10 Plain11 Plain23 PlainR PlainM PlainD Go.Lib Ents
variable [Inhabited aJ5]
theorem trimW_call (t : ByteArray) (w : World) (hs : t.size ≤ 4000) : Calls Tryz.prog 20 #[.string t, .string ⟨#[9, 10, 32]⟩] w fun e w' => e = .returned (.string ⟨(Lib.trimS t.data.toList [9, 10, 32]).toArray⟩) ∧ Below w.heap.size w w' :=
 Any.strings_Trim_laid Tryz.lays160 bKv t ⟨#[9, 10, 32]⟩ w (by omega) (by decide) (ascii_of_all (by decide))
theorem bZ9 {p : UInt8 → Bool} : ∀ (l : List UInt8), l.dropWhile p = [] ↔ l.all p = true
 | [] => by simp
 | c :: l => by
  rw [List.dropWhile_cons, List.all_cons]
  cases hc : p c with
  | true => simp only [if_true, Bool.true_and]; exact bZ9 l
  | false => simp
theorem trim_nil (l cs : List UInt8) : Lib.trimS l cs = [] ↔ l.all (cs.contains ·) = true := by
 unfold Lib.trimS Lib.trimLeftS
 rw [bZ9]
 unfold Lib.trimRightS
 rw [List.all_reverse]
 constructor
 · intro h
   cases hn : l.reverse.dropWhile (cs.contains ·) with
   | nil =>
    have := (bZ9 _).1 hn
    rwa [List.all_reverse] at this
   | cons c m =>
    have h1 : cs.contains c = false := by
     have := List.head?_dropWhile_not (cs.contains ·) l.reverse
     rw [hn] at this
     simpa using this
    rw [hn] at h
    simp only [List.all_cons, h1, Bool.false_and] at h
    cases h
 · intro h
   rw [(bZ9 _).2 (by rw [List.all_reverse]; exact h)]
   rfl
theorem trim_none (t : ByteArray) : ((⟨(Lib.trimS t.data.toList [9, 10, 32]).toArray⟩ : ByteArray).toList == []) = PlainR.whiteB t := by
 have e1 : (⟨(Lib.trimS t.data.toList [9, 10, 32]).toArray⟩ : ByteArray).toList = Lib.trimS t.data.toList [9, 10, 32] := by rw [ByteArray.toList_eq]
 have e2 : PlainR.whiteB t = t.data.toList.all ([9, 10, 32].contains ·) := by
  unfold PlainR.whiteB
  congr 1
  funext c
  simp
 rw [e1, e2]
 cases h : t.data.toList.all ([9, 10, 32].contains ·) with
 | true => rw [(trim_nil _ _).2 h]; rfl
 | false =>
  cases hn : Lib.trimS t.data.toList [9, 10, 32] with
  | nil => rw [(trim_nil _ _).1 hn] at h; cases h
  | cons c m => rfl
section
variable {n p : Nat} {s : ByteArray} {cl hd en : Bool} {st st1 : Rs} {T : Tk}
theorem dg_bad {c : Int} (h : aXt st s p cl = (st1, .error c)) : aV1 (n + 1) s p cl hd en st = (st1, some c) := by unfold aV1; rw [h]
theorem dg_end (h : aXt st s p cl = (st1, .ok T)) (hk : T.kind = 0) : aV1 (n + 1) s p cl hd en st = (st1, if en = true then none else some 3) := by
 unfold aV1; rw [h]; simp only; rw [if_pos hk]
theorem dg_aside (h : aXt st s p cl = (st1, .ok T)) (hk : T.kind = 6 ∨ T.kind = 7) : aV1 (n + 1) s p cl hd en st = aV1 n s T.pos cl hd en (bX0 st1 T) := by
 conv => lhs; unfold aV1
 rw [h]; simp only; rw [if_neg (by omega), if_pos hk]
theorem dg_white (h : aXt st s p cl = (st1, .ok T)) (hk : T.kind = 4) (hw : PlainR.whiteB T.text = true) : aV1 (n + 1) s p cl hd en st = aV1 n s T.pos cl hd en st1 := by
 conv => lhs; unfold aV1
 rw [h]; simp only; rw [if_neg (by omega), if_neg (by omega), if_pos ⟨hk, hw⟩]
theorem dg_head (h : aXt st s p cl = (st1, .ok T)) (hk : T.kind = 8) (hh : hd = false) (he : en = false) (hc : (aZ7 T.text).code = 0) : aV1 (n + 1) s p cl hd en st = aV1 n s T.pos cl true en { st1 with dt := (aZ7 T.text).dtd } := by
 conv => lhs; unfold aV1
 rw [h]; simp only; rw [if_neg (by omega), if_neg (by omega), if_neg (by omega), if_pos ⟨hk, hh, he⟩, if_pos hc]
theorem dg_hbad (h : aXt st s p cl = (st1, .ok T)) (hk : T.kind = 8) (hh : hd = false) (he : en = false) (hc : ¬ (aZ7 T.text).code = 0) : aV1 (n + 1) s p cl hd en st = (st1, some (aZ7 T.text).code) := by
 conv => lhs; unfold aV1
 rw [h]; simp only; rw [if_neg (by omega), if_neg (by omega), if_neg (by omega), if_pos ⟨hk, hh, he⟩, if_neg hc]
theorem dg_el (h : aXt st s p cl = (st1, .ok T)) (hk : T.kind = 1 ∨ T.kind = 3) (he : en = false) : aV1 (n + 1) s p cl hd en st = match aWa aKn s T cl st1 with | (st2, .error c) => (st2, some c) | (st2, .ok q) => aV1 n s q cl hd true st2 := by
 conv => lhs; unfold aV1
 rw [h]; simp only; rw [if_neg (by omega), if_neg (by omega), if_neg (by omega), if_neg (by omega), if_pos ⟨hk, he⟩]
 cases aWa aKn s T cl st1 with
 | mk a oc => cases oc <;> rfl
theorem dg_no (h : aXt st s p cl = (st1, .ok T)) (h0 : T.kind ≠ 0) (h67 : ¬ (T.kind = 6 ∨ T.kind = 7)) (h4 : ¬ (T.kind = 4 ∧ PlainR.whiteB T.text = true)) (h8 : ¬ (T.kind = 8 ∧ hd = false ∧ en = false)) (h13 : ¬ ((T.kind = 1 ∨ T.kind = 3) ∧ en = false)) : aV1 (n + 1) s p cl hd en st = (st1, some 3) := by
 unfold aV1
 rw [h]; simp only; rw [if_neg h0, if_neg h67, if_neg h4, if_neg h8, if_neg h13]
end
theorem first_ok {s : ByteArray} {cl : Bool} {p : Nat} (h0 : VB s 0) (h : aY6 s cl = some p) : p ≤ s.size ∧ VB s p := by
 unfold aY6 at h
 split at h
 · rename_i hh
   cases h
   have hr := aQ9 hh (Nat.zero_le _)
   have hv := aXh h0 hh (Nat.zero_le _) (by decide) (by decide)
   have e : 0 + verL.length = 21 := by decide
   rw [e] at hr hv
   exact ⟨hr, hv⟩
 · split at h
   · rename_i hh
     cases h
     have hr := aQ9 hh (Nat.zero_le _)
     have hv := aXh h0 hh (Nat.zero_le _) (by decide) (by decide)
     have e : 0 + encL.length = 38 := by decide
     rw [e] at hr hv
     exact ⟨hr, hv⟩
   · split at h
     · cases h
     · cases h; exact ⟨Nat.zero_le _, h0⟩
theorem hd_DOk (t : ByteArray) : DOk (aZ7 t).dtd ∧ AOk (aZ7 t).dtd := by
 have h := implDtd_ok t
 have hl := Plain32.dtd_len t
 refine ⟨⟨by omega, fun e he => ?_⟩, ⟨by omega, fun a ha => ?_⟩⟩
 · obtain ⟨a1, a2, a3⟩ := h.ents e he
   exact ⟨by omega, a2, a3⟩
 · obtain ⟨a1, a2, a3, a4⟩ := h.atts a ha
   exact ⟨by omega, by omega, a3, a4⟩
structure Pd (s : ByteArray) (p n : Nat) (st : Rs) : Prop where
 pp : p ≤ s.size
 vb : VB s p
 sp : st.spent ≤ 4000
 wi : st.wi = []
 deep : st.deep = 0
 pot : pt st + 8 * (s.size - p) + 8 * (4000 - st.spent) ≤ 900000
 D : DOk st.dt
 A : AOk st.dt
 fu : s.size ≤ p + n
theorem Pd.on {s : ByteArray} {p q n : Nat} {st st5 : Rs} (h : Pd s p (n + 1) st) (hk : aYa s p q st st5) (hq : p < q) : Pd s q n st5 := by
 have h1 := hk.st.pot
 have h2 := hk.qs
 have h5 := h.pot
 have h6 := h.fu
 exact ⟨h2, hk.vb, hk.st.sp4, hk.st.wi.trans h.wi, hk.st.deep.trans h.deep, by omega, by rw [hk.st.dt]; exact h.D, by rw [hk.st.dt]; exact h.A, by omega⟩
structure Dl (w0 wr : World) (r mb g : Nat) (s : ByteArray) (cl : Bool) (R : Rs × Option Int) (kb : Nat) (T : Tk) (va : Option Addr) (vc n p : Nat) (st st1 : Rs) (hd en : Bool) : Prop where
 nx : aXt st s p cl = (st1, .ok T)
 go : aV1 (n + 1) s p cl hd en st = R
 rm : ∃ de da ev tx, Rm w0 wr r mb st1 de da ev tx
 sc : aQd wr g s T.pos cl
 tk : aQt wr kb T.kind T.name T.text (.slice va T.attrs.length vc)
 row : wr.ownsRow w0.heap.size 148 2 (.slice va T.attrs.length vc) T.attrs.length (aQ8 T.attrs)
 pd : Pd s p n st
def DoSays (w0 : World) (r mb : Nat) (R : Rs × Option Int) (e : Ending) (W' : World) : Prop :=
 match R.2 with
 | none => e = .returned (.tuple #[]) ∧ ∃ de da ev tx, Rm w0 W' r mb R.1 de da ev tx
 | some c => Fell w0 r R.1 c e W'
theorem document_any {w0 W : World} {r mb g : Nat} {de da ev tx : Value} {s : ByteArray} {cl : Bool} {m : Int} (hctx : Ctx w0 m) (hRm : Rm w0 W r mb st0 de da ev tx) (hS : aQd W g s 0 cl) (hg0 : w0.heap.size ≤ g) (hv0 : VB s 0) (hs4 : s.size ≤ 4000) :
 Calls Tryz.prog 10 #[.pointer (some ⟨r, 0, none⟩), .pointer (some ⟨g, 0, none⟩)] W fun e W' => DoSays w0 r mb (docR s cl) e W' := by
 have hfl := bW5 hctx hRm hS hg0 hs4
 obtain ⟨R, hR⟩ : ∃ R, docR s cl = R := ⟨_, rfl⟩
 rw [hR]
 have HR := aQ0 ((doc_first s cl).symm.trans hR)
 have HC := aQ0 hctx
 have HV0 := aQ0 hv0
 clear hR hRm hS hctx hv0
 go_enter Tryz.func10, Tryz.ntmps10
 go_wp2_with fail
 refine hfl.mono ?_
 rintro e w1 hP
 obtain ⟨FR, hFR⟩ : ∃ FR, aY6 s cl = FR := ⟨_, rfl⟩
 rw [hFR] at hP HR
 cases FR with
 | none =>
  have hRR := HR.out
  simp only at hRR
  subst hRR
  obtain ⟨he, hrest⟩ := hP
  unfold aQr at he
  subst he
  go_wp2
  exact ⟨rfl, rfl, hrest⟩
 | some p =>
  obtain ⟨rfl, hr1, hs1⟩ := hP
  obtain ⟨hp, hvp⟩ := first_ok HV0.out hFR
  have hRR := HR.out
  simp only at hRR
  have GO := aQ0 hRR
  have PD0 : Hid (Pd s p s.size st0) := aQ0 ⟨hp, hvp, Nat.zero_le _, rfl, rfl, by show 0 + 0 + 8 * (s.size - p) + 8 * (4000 - 0) ≤ 900000; omega, ⟨Nat.zero_le _, fun e he => by cases he⟩, ⟨Nat.zero_le _, fun a ha => by cases ha⟩, by omega⟩
  have hnx := aVd HC.out hr1 hs1 hg0 hp (by omega) HV0.out
  have hBel := hr1.bel.size
  clear hRR HR hFR hp hvp hfl hr1 hs1
  go_wp2_with fail
  refine hnx.mono ?_
  rintro e w2 hP
  obtain ⟨NX, hNX⟩ : ∃ NX, aXt st0 s p cl = NX := ⟨_, rfl⟩
  rw [hNX] at hP
  obtain ⟨st1, oc⟩ := NX
  cases oc with
  | error c =>
   have hRR := GO.out
   rw [dg_bad hNX] at hRR
   subst hRR
   obtain ⟨he, hrest⟩ := hP
   unfold aQr at he
   subst he
   go_wp2
   exact ⟨rfl, rfl, hrest⟩
  | ok T =>
   obtain ⟨av, rfl, hR1, hS1, hF1, hO1⟩ := hP
   obtain ⟨va, vc, hv'⟩ := aQh hO1
   subst hv'
   obtain ⟨W2, hW2⟩ : ∃ W2, w2.alloc (.cells #[.int .i64 T.kind, .string T.name, .string T.text, .slice va T.attrs.length vc] 73) = W2 := ⟨_, rfl⟩
   have hb2 : Below w2.heap.size w2 W2 := by rw [← hW2]; exact bAl
   have C0 : Hid (Dl w0 W2 r mb g s cl R w2.heap.size T va vc s.size p st0 st1 false false) := aQ0 ⟨hNX, GO.out, ⟨_, _, _, _, hR1.below hb2⟩, hS1.keep (hb2.block g hS1.lt), by rw [← hW2]; exact heap_alloc_new _ _, by rw [← hW2]; exact aZi (hO1.alloc _) hBel, PD0.out⟩
   clear hR1 hS1 hF1 hO1 hNX hnx PD0 GO hb2
   go_wp2_with fail
   clear hW2
   go_loopw [4, 5, 6] (fun v4 v5 v6 wr => ∃ (kb n p : Nat) (st st1 : Rs) (T : Tk) (va : Option Addr) (vc : Nat) (hd en : Bool), v4 = .bool hd ∧ v5 = .bool en ∧ v6 = .pointer (some ⟨kb, 0, none⟩) ∧ Dl w0 wr r mb g s cl R kb T va vc n p st st1 hd en) (fun _ _ v6 wr => 2 * (s.size - imAt wr g) + tkK wr v6)
   case atStart => exact ⟨w2.heap.size, s.size, p, st0, st1, T, va, vc, false, false, rfl, rfl, rfl, C0.out⟩
   case round =>
    clear C0
    obtain ⟨kb, n, p, st, st1, T, va, vc, hd, en, rfl, rfl, rfl, hDl⟩ := hrel
    have CL := aQ0 hDl
    obtain ⟨de, da, ev1, tx1, hr1⟩ := hDl.rm
    have R2 := aQ0 hr1
    have S2 := aQ0 hDl.sc
    have K2 := aQ0 hDl.tk
    have O2 := aQ0 hDl.row
    obtain ⟨t0, t1, t2, t3, tf⟩ := aQ6 hDl.tk
    have HMU : Hid (2 * (s.size - imAt wr g) + tkK wr (.pointer (some ⟨kb, 0, none⟩)) = 2 * (s.size - T.pos) + if T.kind = 0 then 0 else 1) := aQ0 (by rw [@aX9 (srcE cl) _ _ _ _ hDl.sc, aKx hDl.tk])
    obtain ⟨hst1, hT⟩ := aKg HV0.out hDl.pd.pp hDl.pd.vb hDl.nx
    have A1 : Hid (StOk 0 st st1) := aQ0 (by rw [hst1]; exact at_ok CL.out.pd.sp)
    have HSZ : Hid (T.kind ≠ 0 → TkOk s p T) := aQ0 (fun h => by
     rcases hT with h1 | ⟨_, h1⟩
     · exact h1
     · rw [h1] at h; exact absurd rfl h)
    clear hDl tf hst1 hT hr1
    by_cases hk0 : T.kind = 0
    · have hk0b : (T.kind != 0) = false := by simp [hk0]
      have hRR := CL.out.go
      rw [dg_end CL.out.nx hk0] at hRR
      have hfail := fun wx => aX3 (.pointer (some ⟨r, 0, none⟩)) 3 wx
      clear hk0
      cases en with
      | true =>
       rw [if_pos rfl] at hRR
       go_wp2
       go_end0
       rw [← hRR]
       exact ⟨rfl, _, _, _, _, R2.out⟩
      | false =>
       rw [if_neg (by simp)] at hRR
       go_wp2_with fail
       refine (hfail _).mono ?_
       rintro e w5 ⟨he, rfl⟩
       unfold aQr at he
       subst he
       go_wp2
       rw [← hRR]
       exact ⟨rfl, R2.out.fell 3⟩
    have hk0b : (T.kind != 0) = true := by simp [hk0]
    have HK0 := aQ0 hk0
    have HTT := aQ0 (HSZ.out hk0)
    clear HSZ
    have hia := fun wx => aKi T.kind T.name T.text (.slice va T.attrs.length vc) wx
    have hie := fun wx => bQq T.kind T.name T.text (.slice va T.attrs.length vc) wx
    by_cases hk67 : T.kind = 6 ∨ T.kind = 7
    · rw [decide_eq_true hk67] at hia
      have HK67 := aQ0 hk67
      clear hk67 hk0
      go_wp2_with fail
      refine (hia _).mono ?_
      rintro e w4 ⟨rfl, hbx⟩
      have R4 := aQ0 (R2.out.below hbx)
      have S4 : Hid (aQd w4 g s T.pos cl) := aQ0 (S2.out.keep (hbx.block g S2.out.lt))
      have K4 := aQ0 (K2.out.below hbx)
      have O4 : Hid (w4.ownsRow w0.heap.size 148 2 (.slice va T.attrs.length vc) T.attrs.length (aQ8 T.attrs)) := aQ0 (aQj O2.out (fun k hk => hbx.block k (by obtain ⟨cs, hc, _⟩ := aQ4 O2.out hk; exact (gLt hc))))
      obtain ⟨t0, t1, t2, t3, tf⟩ := aQ6 K4.out
      clear hbx tf R2 S2 K2 O2
      have has := aside_any (av := .slice va T.attrs.length vc) (T := T) R4.out (by have h1 := A1.out.pot; have h2 := CL.out.pd.pot; unfold pt at h1 h2; omega) (by have h1 := A1.out.pot; have h2 := CL.out.pd.pot; unfold pt at h1 h2; omega)
      clear hia hie
      go_wp2_with fail
      refine has.mono ?_
      rintro e w5 ⟨rfl, ev5, tx5, hr5, hf5⟩
      have hgo := CL.out.go
      rw [dg_aside CL.out.nx HK67.out] at hgo
      obtain ⟨st5, hst5⟩ : ∃ st5, bX0 st1 T = st5 := ⟨_, rfl⟩
      have htl : StOk 1 st1 st5 := by rw [← hst5]; exact bX5 A1.out.sp4
      rw [hst5] at hgo hr5
      have hlt := HTT.out.lt
      obtain ⟨n', rfl⟩ : ∃ n', n = n' + 1 := ⟨n - 1, by have h1 := CL.out.pd.fu; have h2 := HTT.out.lt; have h3 := HTT.out.sz; omega⟩
      have P5 : Hid (Pd s T.pos n' st5) := aQ0 (CL.out.pd.on ⟨(A1.out.trans htl).le (by omega), by omega, HTT.out.sz, HTT.out.vb⟩ hlt)
      have HM : Hid (T.pos ≤ T.pos) := aQ0 (Nat.le_refl _)
      have G5 := aQ0 hgo
      have R5 := aQ0 hr5
      have S5 := aQ0 (S4.out.fr R4.out hf5)
      have K5 := aQ0 (K4.out.fr R4.out S4.out hf5 (fun j hj => by cases hj))
      clear has hr5 hf5 htl hgo hst5 hlt R4 S4 K4 O4 A1
      obtain ⟨t0, t1, t2, t3, tf⟩ := aQ6 K5.out
      obtain ⟨W6, hW6⟩ : ∃ W6, w5.alloc (.cells #[.int .i64 T.kind, .string T.name, .string T.text, .slice va T.attrs.length vc] 73) = W6 := ⟨_, rfl⟩
      have HW6 := aQ0 hW6
      have hb6 : Below w5.heap.size w5 W6 := by rw [← hW6]; exact bAl
      have R6 := aQ0 (R5.out.below hb6)
      have S6 : Hid (aQd W6 g s T.pos cl) := aQ0 (S5.out.keep (hb6.block g S5.out.lt))
      have K6 : Hid (aQt W6 w5.heap.size T.kind T.name T.text (.slice va T.attrs.length vc)) := aQ0 (by rw [← hW6]; exact heap_alloc_new _ _)
      have hbl6 : w0.heap.size ≤ W6.heap.size := R6.out.bel.size
      have hk6 : w0.heap.size ≤ w5.heap.size := R5.out.bel.size
      have hnx := aVd HC.out R6.out S6.out hg0 P5.out.pp (by omega) HV0.out
      clear hW6 hb6 R5 S5 K5 tf CL
      go_wp2_with fail
      rw [HW6.out]
      refine hnx.mono ?_
      rintro e w7 hP
      obtain ⟨NX, hNX⟩ : ∃ NX, aXt st5 s T.pos cl = NX := ⟨_, rfl⟩
      rw [hNX] at hP
      obtain ⟨st7, oc⟩ := NX
      cases oc with
      | error c =>
       have hRR := G5.out
       rw [dg_bad hNX] at hRR
       subst hRR
       obtain ⟨he, hrest⟩ := hP
       unfold aQr at he
       subst he
       go_wp2
       exact ⟨rfl, rfl, hrest⟩
      | ok T7 =>
       obtain ⟨av, rfl, hR7, hS7, hF7, hO7⟩ := hP
       obtain ⟨va7, vc7, hv'⟩ := aQh hO7
       subst hv'
       have K7 : aQt w7 w5.heap.size T.kind T.name T.text (.slice va T.attrs.length vc) := K6.out.fr R6.out S6.out hF7 (fun j hj => (Option.some.inj hj).symm)
       obtain ⟨t0, t1, t2, t3, u0, u1, u2, u3⟩ := aQ6 K7
       have hg8 : w7.grownBy ((((w7.setCell ⟨w5.heap.size, 0, none⟩ (.int .i64 T7.kind)).setCell ⟨w5.heap.size, 1, none⟩ (.string T7.name)).setCell ⟨w5.heap.size, 2, none⟩ (.string T7.text)).setCell ⟨w5.heap.size, 3, none⟩ (.slice va7 T7.attrs.length vc7)) (some w5.heap.size) := aQ3 (aQ3 (aQ3 (aQa _) (aQa _)) (aQa _)) (aQa _)
       have K8 : aQt ((((w7.setCell ⟨w5.heap.size, 0, none⟩ (.int .i64 T7.kind)).setCell ⟨w5.heap.size, 1, none⟩ (.string T7.name)).setCell ⟨w5.heap.size, 2, none⟩ (.string T7.text)).setCell ⟨w5.heap.size, 3, none⟩ (.slice va7 T7.attrs.length vc7)) w5.heap.size T7.kind T7.name T7.text (.slice va7 T7.attrs.length vc7) := by
        unfold aQt
        rw [aQ7 (aQ7 (aQ7 (aQ7 K7 _) _) _) _]
        rfl
       have R8 := hR7.off hg8 K7 aKa hk6
       have hgk : g ≠ w5.heap.size := fun e => aQe K7 (aXo hS7) (by decide) e.symm
       have S8 : aQd _ g s T7.pos cl := hS7.keep (hg8.block g hS7.lt (fun e => hgk (Option.some.inj e)))
       have O8 : World.ownsRow _ w0.heap.size 148 2 (.slice va7 T7.attrs.length vc7) T7.attrs.length (aQ8 T7.attrs) := aQj (aZi hO7 hbl6) (fun k hk => hg8.block k (by obtain ⟨cs, hc, _⟩ := aQ4 hO7 hk; exact (gLt hc)) (fun e => by obtain ⟨cs, hc, _⟩ := aQ4 hO7 hk; rw [Option.some.inj e] at hc; exact aQe K7 hc (by decide) rfl))
       obtain ⟨hst7, hT7⟩ := aKg HV0.out P5.out.pp P5.out.vb hNX
       have C8 : Hid (Dl w0 _ r mb g s cl R w5.heap.size T7 va7 vc7 n' T.pos st5 st7 hd en) := aQ0 ⟨hNX, G5.out, ⟨_, _, _, _, R8⟩, S8, K8, O8, P5.out⟩
       have hmu : 2 * (s.size - T7.pos) + (if T7.kind = 0 then 0 else 1) < 2 * (s.size - T.pos) + 1 := by
        have hq := HM.out
        rcases hT7 with h7 | ⟨h7, h8⟩
        · have := h7.lt
          have := h7.sz
          split <;> omega
        · rw [h8]
          simp only
          rw [if_pos trivial]
          omega
       have HMU8 : Hid (2 * (s.size - imAt ((((w7.setCell ⟨w5.heap.size, 0, none⟩ (.int .i64 T7.kind)).setCell ⟨w5.heap.size, 1, none⟩ (.string T7.name)).setCell ⟨w5.heap.size, 2, none⟩ (.string T7.text)).setCell ⟨w5.heap.size, 3, none⟩ (.slice va7 T7.attrs.length vc7)) g) + tkK ((((w7.setCell ⟨w5.heap.size, 0, none⟩ (.int .i64 T7.kind)).setCell ⟨w5.heap.size, 1, none⟩ (.string T7.name)).setCell ⟨w5.heap.size, 2, none⟩ (.string T7.text)).setCell ⟨w5.heap.size, 3, none⟩ (.slice va7 T7.attrs.length vc7)) (.pointer (some ⟨w5.heap.size, 0, none⟩)) < 2 * (s.size - imAt wr g) + tkK wr (.pointer (some ⟨kb, 0, none⟩))) := aQ0 (by
        rw [HMU.out, @aX9 (srcE cl) _ _ _ _ S8, aKx K8, if_neg HK0.out]
        exact hmu)
       clear hR7 hS7 hF7 hO7 hg8 K8 R8 S8 O8 hmu hT7 hst7 hnx
       go_wp2
       go_roundw
       case rel => exact ⟨w5.heap.size, n', T.pos, st5, st7, T7, va7, vc7, hd, en, rfl, rfl, rfl, C8.out⟩
       case measure => exact HMU8.out
    rw [decide_eq_false hk67] at hia
    by_cases hk4 : T.kind = 4
    · have hti := fun wx => trimW_call T.text wx (by have := HTT.out.text; have := HTT.out.sz; omega)
      have htn := trim_none T.text
      obtain ⟨X, hX⟩ : ∃ X : ByteArray, (⟨(Lib.trimS T.text.data.toList [9, 10, 32]).toArray⟩ : ByteArray) = X := ⟨_, rfl⟩
      rw [hX] at htn
      simp only [hX] at hti
      have hk4b : (T.kind == 4) = true := by simp [hk4]
      have hk8b : (T.kind == 8) = false := by rw [hk4]; rfl
      have HK4 := aQ0 hk4
      have HK67 := aQ0 hk67
      clear hX hk0 hk67 hk4
      cases hw : PlainR.whiteB T.text with
      | true =>
       rw [hw] at htn
       go_wp2_with fail
       refine (hia _).mono ?_
       rintro e w4 ⟨rfl, hbx⟩
       have R4 := aQ0 (R2.out.below hbx)
       have S4 : Hid (aQd w4 g s T.pos cl) := aQ0 (S2.out.keep (hbx.block g S2.out.lt))
       have K4 := aQ0 (K2.out.below hbx)
       have O4 : Hid (w4.ownsRow w0.heap.size 148 2 (.slice va T.attrs.length vc) T.attrs.length (aQ8 T.attrs)) := aQ0 (aQj O2.out (fun k hk => hbx.block k (by obtain ⟨cs, hc, _⟩ := aQ4 O2.out hk; exact (gLt hc))))
       obtain ⟨t0, t1, t2, t3, tf⟩ := aQ6 K4.out
       clear hbx tf R2 S2 K2 O2
       go_wp2_with fail
       refine (hti _).mono ?_
       rintro e w5 ⟨rfl, hbx⟩
       have R5 := aQ0 (R4.out.below hbx)
       have S5 : Hid (aQd w5 g s T.pos cl) := aQ0 (S4.out.keep (hbx.block g S4.out.lt))
       have K5 := aQ0 (K4.out.below hbx)
       have O5 : Hid (w5.ownsRow w0.heap.size 148 2 (.slice va T.attrs.length vc) T.attrs.length (aQ8 T.attrs)) := aQ0 (aQj O4.out (fun k hk => hbx.block k (by obtain ⟨cs, hc, _⟩ := aQ4 O4.out hk; exact (gLt hc))))
       obtain ⟨t0, t1, t2, t3, tf⟩ := aQ6 K5.out
       clear hbx tf R4 S4 K4 O4
       have hgo := CL.out.go
       rw [dg_white CL.out.nx HK4.out hw] at hgo
       have hlt := HTT.out.lt
       obtain ⟨n', rfl⟩ : ∃ n', n = n' + 1 := ⟨n - 1, by have h1 := CL.out.pd.fu; have h2 := HTT.out.lt; have h3 := HTT.out.sz; omega⟩
       have P5 : Hid (Pd s T.pos n' st1) := aQ0 (CL.out.pd.on ⟨A1.out.le (by omega), by omega, HTT.out.sz, HTT.out.vb⟩ hlt)
       have HM : Hid (T.pos ≤ T.pos) := aQ0 (Nat.le_refl _)
       have G5 := aQ0 hgo
       clear hia hie hti hgo hlt hw O5 A1
       obtain ⟨t0, t1, t2, t3, tf⟩ := aQ6 K5.out
       obtain ⟨W6, hW6⟩ : ∃ W6, w5.alloc (.cells #[.int .i64 T.kind, .string T.name, .string T.text, .slice va T.attrs.length vc] 73) = W6 := ⟨_, rfl⟩
       have HW6 := aQ0 hW6
       have hb6 : Below w5.heap.size w5 W6 := by rw [← hW6]; exact bAl
       have R6 := aQ0 (R5.out.below hb6)
       have S6 : Hid (aQd W6 g s T.pos cl) := aQ0 (S5.out.keep (hb6.block g S5.out.lt))
       have K6 : Hid (aQt W6 w5.heap.size T.kind T.name T.text (.slice va T.attrs.length vc)) := aQ0 (by rw [← hW6]; exact heap_alloc_new _ _)
       have hbl6 : w0.heap.size ≤ W6.heap.size := R6.out.bel.size
       have hk6 : w0.heap.size ≤ w5.heap.size := R5.out.bel.size
       have hnx := aVd HC.out R6.out S6.out hg0 P5.out.pp (by omega) HV0.out
       clear hW6 hb6 R5 S5 K5 tf CL
       go_wp2_with fail
       rw [HW6.out]
       refine hnx.mono ?_
       rintro e w7 hP
       obtain ⟨NX, hNX⟩ : ∃ NX, aXt st1 s T.pos cl = NX := ⟨_, rfl⟩
       rw [hNX] at hP
       obtain ⟨st7, oc⟩ := NX
       cases oc with
       | error c =>
        have hRR := G5.out
        rw [dg_bad hNX] at hRR
        subst hRR
        obtain ⟨he, hrest⟩ := hP
        unfold aQr at he
        subst he
        go_wp2
        exact ⟨rfl, rfl, hrest⟩
       | ok T7 =>
        obtain ⟨av, rfl, hR7, hS7, hF7, hO7⟩ := hP
        obtain ⟨va7, vc7, hv'⟩ := aQh hO7
        subst hv'
        have K7 : aQt w7 w5.heap.size T.kind T.name T.text (.slice va T.attrs.length vc) := K6.out.fr R6.out S6.out hF7 (fun j hj => (Option.some.inj hj).symm)
        obtain ⟨t0, t1, t2, t3, u0, u1, u2, u3⟩ := aQ6 K7
        have hg8 : w7.grownBy ((((w7.setCell ⟨w5.heap.size, 0, none⟩ (.int .i64 T7.kind)).setCell ⟨w5.heap.size, 1, none⟩ (.string T7.name)).setCell ⟨w5.heap.size, 2, none⟩ (.string T7.text)).setCell ⟨w5.heap.size, 3, none⟩ (.slice va7 T7.attrs.length vc7)) (some w5.heap.size) := aQ3 (aQ3 (aQ3 (aQa _) (aQa _)) (aQa _)) (aQa _)
        have K8 : aQt ((((w7.setCell ⟨w5.heap.size, 0, none⟩ (.int .i64 T7.kind)).setCell ⟨w5.heap.size, 1, none⟩ (.string T7.name)).setCell ⟨w5.heap.size, 2, none⟩ (.string T7.text)).setCell ⟨w5.heap.size, 3, none⟩ (.slice va7 T7.attrs.length vc7)) w5.heap.size T7.kind T7.name T7.text (.slice va7 T7.attrs.length vc7) := by
         unfold aQt
         rw [aQ7 (aQ7 (aQ7 (aQ7 K7 _) _) _) _]
         rfl
        have R8 := hR7.off hg8 K7 aKa hk6
        have hgk : g ≠ w5.heap.size := fun e => aQe K7 (aXo hS7) (by decide) e.symm
        have S8 : aQd _ g s T7.pos cl := hS7.keep (hg8.block g hS7.lt (fun e => hgk (Option.some.inj e)))
        have O8 : World.ownsRow _ w0.heap.size 148 2 (.slice va7 T7.attrs.length vc7) T7.attrs.length (aQ8 T7.attrs) := aQj (aZi hO7 hbl6) (fun k hk => hg8.block k (by obtain ⟨cs, hc, _⟩ := aQ4 hO7 hk; exact (gLt hc)) (fun e => by obtain ⟨cs, hc, _⟩ := aQ4 hO7 hk; rw [Option.some.inj e] at hc; exact aQe K7 hc (by decide) rfl))
        obtain ⟨hst7, hT7⟩ := aKg HV0.out P5.out.pp P5.out.vb hNX
        have C8 : Hid (Dl w0 _ r mb g s cl R w5.heap.size T7 va7 vc7 n' T.pos st1 st7 hd en) := aQ0 ⟨hNX, G5.out, ⟨_, _, _, _, R8⟩, S8, K8, O8, P5.out⟩
        have hmu : 2 * (s.size - T7.pos) + (if T7.kind = 0 then 0 else 1) < 2 * (s.size - T.pos) + 1 := by
         have hq := HM.out
         rcases hT7 with h7 | ⟨h7, h8⟩
         · have := h7.lt
           have := h7.sz
           split <;> omega
         · rw [h8]
           simp only
           rw [if_pos trivial]
           omega
        have HMU8 : Hid (2 * (s.size - imAt ((((w7.setCell ⟨w5.heap.size, 0, none⟩ (.int .i64 T7.kind)).setCell ⟨w5.heap.size, 1, none⟩ (.string T7.name)).setCell ⟨w5.heap.size, 2, none⟩ (.string T7.text)).setCell ⟨w5.heap.size, 3, none⟩ (.slice va7 T7.attrs.length vc7)) g) + tkK ((((w7.setCell ⟨w5.heap.size, 0, none⟩ (.int .i64 T7.kind)).setCell ⟨w5.heap.size, 1, none⟩ (.string T7.name)).setCell ⟨w5.heap.size, 2, none⟩ (.string T7.text)).setCell ⟨w5.heap.size, 3, none⟩ (.slice va7 T7.attrs.length vc7)) (.pointer (some ⟨w5.heap.size, 0, none⟩)) < 2 * (s.size - imAt wr g) + tkK wr (.pointer (some ⟨kb, 0, none⟩))) := aQ0 (by
         rw [HMU.out, @aX9 (srcE cl) _ _ _ _ S8, aKx K8, if_neg HK0.out]
         exact hmu)
        clear hR7 hS7 hF7 hO7 hg8 K8 R8 S8 O8 hmu hT7 hst7 hnx
        go_wp2
        go_roundw
        case rel => exact ⟨w5.heap.size, n', T.pos, st1, st7, T7, va7, vc7, hd, en, rfl, rfl, rfl, C8.out⟩
        case measure => exact HMU8.out
      | false =>
       rw [hw] at htn
       have hie2 := hie
       rw [decide_eq_false (by rw [HK4.out]; decide)] at hie2
       have hRR := CL.out.go
       rw [dg_no CL.out.nx HK0.out HK67.out (fun h => by rw [hw] at h; cases h.2) (fun h => by rw [HK4.out] at h; exact absurd h.1 (by decide)) (fun h => by rw [HK4.out] at h; exact absurd h.1 (by decide))] at hRR
       have hfail := fun wx => aX3 (.pointer (some ⟨r, 0, none⟩)) 3 wx
       clear hie hw
       go_wp2_with fail
       refine (hia _).mono ?_
       rintro e w4 ⟨rfl, hbx⟩
       have R4 := aQ0 (R2.out.below hbx)
       have S4 : Hid (aQd w4 g s T.pos cl) := aQ0 (S2.out.keep (hbx.block g S2.out.lt))
       have K4 := aQ0 (K2.out.below hbx)
       have O4 : Hid (w4.ownsRow w0.heap.size 148 2 (.slice va T.attrs.length vc) T.attrs.length (aQ8 T.attrs)) := aQ0 (aQj O2.out (fun k hk => hbx.block k (by obtain ⟨cs, hc, _⟩ := aQ4 O2.out hk; exact (gLt hc))))
       obtain ⟨t0, t1, t2, t3, tf⟩ := aQ6 K4.out
       clear hbx tf R2 S2 K2 O2
       go_wp2_with fail
       refine (hti _).mono ?_
       rintro e w5 ⟨rfl, hbx⟩
       have R5 := aQ0 (R4.out.below hbx)
       have S5 : Hid (aQd w5 g s T.pos cl) := aQ0 (S4.out.keep (hbx.block g S4.out.lt))
       have K5 := aQ0 (K4.out.below hbx)
       have O5 : Hid (w5.ownsRow w0.heap.size 148 2 (.slice va T.attrs.length vc) T.attrs.length (aQ8 T.attrs)) := aQ0 (aQj O4.out (fun k hk => hbx.block k (by obtain ⟨cs, hc, _⟩ := aQ4 O4.out hk; exact (gLt hc))))
       obtain ⟨t0, t1, t2, t3, tf⟩ := aQ6 K5.out
       clear hbx tf R4 S4 K4 O4
       go_wp2_with fail
       refine (hie2 _).mono ?_
       rintro e w6 ⟨rfl, hbx⟩
       have R6 := aQ0 (R5.out.below hbx)
       have S6 : Hid (aQd w6 g s T.pos cl) := aQ0 (S5.out.keep (hbx.block g S5.out.lt))
       have K6 := aQ0 (K5.out.below hbx)
       have O6 : Hid (w6.ownsRow w0.heap.size 148 2 (.slice va T.attrs.length vc) T.attrs.length (aQ8 T.attrs)) := aQ0 (aQj O5.out (fun k hk => hbx.block k (by obtain ⟨cs, hc, _⟩ := aQ4 O5.out hk; exact (gLt hc))))
       obtain ⟨t0, t1, t2, t3, tf⟩ := aQ6 K6.out
       clear hbx tf R5 S5 K5 O5
       go_wp2_with fail
       refine (hfail _).mono ?_
       rintro e w8 ⟨he, rfl⟩
       unfold aQr at he
       subst he
       go_wp2
       rw [← hRR]
       exact ⟨rfl, R6.out.fell 3⟩
    have hk4b : (T.kind == 4) = false := by simpa using hk4
    by_cases hk8 : T.kind = 8
    · have hk8b : (T.kind == 8) = true := by simp [hk8]
      by_cases hde : hd = false ∧ en = false
      · obtain ⟨rfl, rfl⟩ := hde
        have HK8 := aQ0 hk8
        clear hk0 hk67 hk4 hk8 hie
        go_wp2_with fail
        refine (hia _).mono ?_
        rintro e w4 ⟨rfl, hbx⟩
        have R4 := aQ0 (R2.out.below hbx)
        have S4 : Hid (aQd w4 g s T.pos cl) := aQ0 (S2.out.keep (hbx.block g S2.out.lt))
        have K4 := aQ0 (K2.out.below hbx)
        have O4 : Hid (w4.ownsRow w0.heap.size 148 2 (.slice va T.attrs.length vc) T.attrs.length (aQ8 T.attrs)) := aQ0 (aQj O2.out (fun k hk => hbx.block k (by obtain ⟨cs, hc, _⟩ := aQ4 O2.out hk; exact (gLt hc))))
        obtain ⟨t0, t1, t2, t3, tf⟩ := aQ6 K4.out
        clear hbx tf R2 S2 K2 O2
        have hhe := head_any (t := T.text) HC.out R4.out
        clear hia
        go_wp2_with fail
        refine hhe.mono ?_
        rintro e w5 hP
        by_cases hcd : (aZ7 T.text).code = 0
        · unfold bK1 at hP
          rw [if_pos hcd] at hP
          obtain ⟨rfl, ⟨de5, da5, hr5⟩, hf5⟩ := hP
          have hgo := CL.out.go
          rw [dg_head CL.out.nx HK8.out rfl rfl hcd] at hgo
          obtain ⟨st5, hst5⟩ : ∃ st5, ({ st1 with dt := (aZ7 T.text).dtd } : Rs) = st5 := ⟨_, rfl⟩
          have hlt := HTT.out.lt
          obtain ⟨n', rfl⟩ : ∃ n', n = n' + 1 := ⟨n - 1, by have h1 := CL.out.pd.fu; have h2 := HTT.out.lt; have h3 := HTT.out.sz; omega⟩
          have P5 : Hid (Pd s T.pos n' st5) := aQ0 (by
           have hp1 : Pd s T.pos n' st1 := CL.out.pd.on ⟨A1.out.le (by omega), by omega, HTT.out.sz, HTT.out.vb⟩ hlt
           rw [← hst5]
           exact ⟨hp1.pp, hp1.vb, hp1.sp, hp1.wi, hp1.deep, hp1.pot, (hd_DOk T.text).1, (hd_DOk T.text).2, hp1.fu⟩)
          rw [hst5] at hgo hr5
          have HM : Hid (T.pos ≤ T.pos) := aQ0 (Nat.le_refl _)
          have G5 := aQ0 hgo
          have R5 := aQ0 hr5
          have S5 := aQ0 (S4.out.fr R4.out hf5)
          have K5 := aQ0 (K4.out.fr R4.out S4.out hf5 (fun j hj => by cases hj))
          clear hhe hr5 hf5 hgo hst5 hlt hcd R4 S4 K4 O4 A1
          obtain ⟨t0, t1, t2, t3, tf⟩ := aQ6 K5.out
          obtain ⟨W6, hW6⟩ : ∃ W6, w5.alloc (.cells #[.int .i64 T.kind, .string T.name, .string T.text, .slice va T.attrs.length vc] 73) = W6 := ⟨_, rfl⟩
          have HW6 := aQ0 hW6
          have hb6 : Below w5.heap.size w5 W6 := by rw [← hW6]; exact bAl
          have R6 := aQ0 (R5.out.below hb6)
          have S6 : Hid (aQd W6 g s T.pos cl) := aQ0 (S5.out.keep (hb6.block g S5.out.lt))
          have K6 : Hid (aQt W6 w5.heap.size T.kind T.name T.text (.slice va T.attrs.length vc)) := aQ0 (by rw [← hW6]; exact heap_alloc_new _ _)
          have hbl6 : w0.heap.size ≤ W6.heap.size := R6.out.bel.size
          have hk6 : w0.heap.size ≤ w5.heap.size := R5.out.bel.size
          have hnx := aVd HC.out R6.out S6.out hg0 P5.out.pp (by omega) HV0.out
          clear hW6 hb6 R5 S5 K5 tf CL
          go_wp2_with fail
          rw [HW6.out]
          refine hnx.mono ?_
          rintro e w7 hP
          obtain ⟨NX, hNX⟩ : ∃ NX, aXt st5 s T.pos cl = NX := ⟨_, rfl⟩
          rw [hNX] at hP
          obtain ⟨st7, oc⟩ := NX
          cases oc with
          | error c =>
           have hRR := G5.out
           rw [dg_bad hNX] at hRR
           subst hRR
           obtain ⟨he, hrest⟩ := hP
           unfold aQr at he
           subst he
           go_wp2
           exact ⟨rfl, rfl, hrest⟩
          | ok T7 =>
           obtain ⟨av, rfl, hR7, hS7, hF7, hO7⟩ := hP
           obtain ⟨va7, vc7, hv'⟩ := aQh hO7
           subst hv'
           have K7 : aQt w7 w5.heap.size T.kind T.name T.text (.slice va T.attrs.length vc) := K6.out.fr R6.out S6.out hF7 (fun j hj => (Option.some.inj hj).symm)
           obtain ⟨t0, t1, t2, t3, u0, u1, u2, u3⟩ := aQ6 K7
           have hg8 : w7.grownBy ((((w7.setCell ⟨w5.heap.size, 0, none⟩ (.int .i64 T7.kind)).setCell ⟨w5.heap.size, 1, none⟩ (.string T7.name)).setCell ⟨w5.heap.size, 2, none⟩ (.string T7.text)).setCell ⟨w5.heap.size, 3, none⟩ (.slice va7 T7.attrs.length vc7)) (some w5.heap.size) := aQ3 (aQ3 (aQ3 (aQa _) (aQa _)) (aQa _)) (aQa _)
           have K8 : aQt ((((w7.setCell ⟨w5.heap.size, 0, none⟩ (.int .i64 T7.kind)).setCell ⟨w5.heap.size, 1, none⟩ (.string T7.name)).setCell ⟨w5.heap.size, 2, none⟩ (.string T7.text)).setCell ⟨w5.heap.size, 3, none⟩ (.slice va7 T7.attrs.length vc7)) w5.heap.size T7.kind T7.name T7.text (.slice va7 T7.attrs.length vc7) := by
            unfold aQt
            rw [aQ7 (aQ7 (aQ7 (aQ7 K7 _) _) _) _]
            rfl
           have R8 := hR7.off hg8 K7 aKa hk6
           have hgk : g ≠ w5.heap.size := fun e => aQe K7 (aXo hS7) (by decide) e.symm
           have S8 : aQd _ g s T7.pos cl := hS7.keep (hg8.block g hS7.lt (fun e => hgk (Option.some.inj e)))
           have O8 : World.ownsRow _ w0.heap.size 148 2 (.slice va7 T7.attrs.length vc7) T7.attrs.length (aQ8 T7.attrs) := aQj (aZi hO7 hbl6) (fun k hk => hg8.block k (by obtain ⟨cs, hc, _⟩ := aQ4 hO7 hk; exact (gLt hc)) (fun e => by obtain ⟨cs, hc, _⟩ := aQ4 hO7 hk; rw [Option.some.inj e] at hc; exact aQe K7 hc (by decide) rfl))
           obtain ⟨hst7, hT7⟩ := aKg HV0.out P5.out.pp P5.out.vb hNX
           have C8 : Hid (Dl w0 _ r mb g s cl R w5.heap.size T7 va7 vc7 n' T.pos st5 st7 true false) := aQ0 ⟨hNX, G5.out, ⟨_, _, _, _, R8⟩, S8, K8, O8, P5.out⟩
           have hmu : 2 * (s.size - T7.pos) + (if T7.kind = 0 then 0 else 1) < 2 * (s.size - T.pos) + 1 := by
            have hq := HM.out
            rcases hT7 with h7 | ⟨h7, h8⟩
            · have := h7.lt
              have := h7.sz
              split <;> omega
            · rw [h8]
              simp only
              rw [if_pos trivial]
              omega
           have HMU8 : Hid (2 * (s.size - imAt ((((w7.setCell ⟨w5.heap.size, 0, none⟩ (.int .i64 T7.kind)).setCell ⟨w5.heap.size, 1, none⟩ (.string T7.name)).setCell ⟨w5.heap.size, 2, none⟩ (.string T7.text)).setCell ⟨w5.heap.size, 3, none⟩ (.slice va7 T7.attrs.length vc7)) g) + tkK ((((w7.setCell ⟨w5.heap.size, 0, none⟩ (.int .i64 T7.kind)).setCell ⟨w5.heap.size, 1, none⟩ (.string T7.name)).setCell ⟨w5.heap.size, 2, none⟩ (.string T7.text)).setCell ⟨w5.heap.size, 3, none⟩ (.slice va7 T7.attrs.length vc7)) (.pointer (some ⟨w5.heap.size, 0, none⟩)) < 2 * (s.size - imAt wr g) + tkK wr (.pointer (some ⟨kb, 0, none⟩))) := aQ0 (by
            rw [HMU.out, @aX9 (srcE cl) _ _ _ _ S8, aKx K8, if_neg HK0.out]
            exact hmu)
           clear hR7 hS7 hF7 hO7 hg8 K8 R8 S8 O8 hmu hT7 hst7 hnx
           go_wp2
           go_roundw
           case rel => exact ⟨w5.heap.size, n', T.pos, st5, st7, T7, va7, vc7, true, false, rfl, rfl, rfl, C8.out⟩
           case measure => exact HMU8.out
        · unfold bK1 at hP
          rw [if_neg hcd] at hP
          have hRR := CL.out.go
          rw [dg_hbad CL.out.nx HK8.out rfl rfl hcd] at hRR
          obtain ⟨he, hrest⟩ := hP
          unfold aQr at he
          subst he
          go_wp2
          rw [← hRR]
          exact ⟨rfl, rfl, hrest⟩
      · have hie2 := hie
        rw [decide_eq_false (by rw [hk8]; decide)] at hie2
        have hRR := CL.out.go
        rw [dg_no CL.out.nx HK0.out hk67 (fun h => hk4 h.1) (fun h => hde h.2) (fun h => by rw [hk8] at h; exact absurd h.1 (by decide))] at hRR
        have hfail := fun wx => aX3 (.pointer (some ⟨r, 0, none⟩)) 3 wx
        clear hk0 hk67 hk4 hk8 hie
        cases hd with
        | true =>
         clear hde
         go_wp2_with fail
         refine (hia _).mono ?_
         rintro e w4 ⟨rfl, hbx⟩
         have R4 := aQ0 (R2.out.below hbx)
         have S4 : Hid (aQd w4 g s T.pos cl) := aQ0 (S2.out.keep (hbx.block g S2.out.lt))
         have K4 := aQ0 (K2.out.below hbx)
         have O4 : Hid (w4.ownsRow w0.heap.size 148 2 (.slice va T.attrs.length vc) T.attrs.length (aQ8 T.attrs)) := aQ0 (aQj O2.out (fun k hk => hbx.block k (by obtain ⟨cs, hc, _⟩ := aQ4 O2.out hk; exact (gLt hc))))
         obtain ⟨t0, t1, t2, t3, tf⟩ := aQ6 K4.out
         clear hbx tf R2 S2 K2 O2
         go_wp2_with fail
         refine (hie2 _).mono ?_
         rintro e w6 ⟨rfl, hbx⟩
         have R6 := aQ0 (R4.out.below hbx)
         have S6 : Hid (aQd w6 g s T.pos cl) := aQ0 (S4.out.keep (hbx.block g S4.out.lt))
         have K6 := aQ0 (K4.out.below hbx)
         have O6 : Hid (w6.ownsRow w0.heap.size 148 2 (.slice va T.attrs.length vc) T.attrs.length (aQ8 T.attrs)) := aQ0 (aQj O4.out (fun k hk => hbx.block k (by obtain ⟨cs, hc, _⟩ := aQ4 O4.out hk; exact (gLt hc))))
         obtain ⟨t0, t1, t2, t3, tf⟩ := aQ6 K6.out
         clear hbx tf R4 S4 K4 O4
         go_wp2_with fail
         refine (hfail _).mono ?_
         rintro e w5 ⟨he, rfl⟩
         unfold aQr at he
         subst he
         go_wp2
         rw [← hRR]
         exact ⟨rfl, R6.out.fell 3⟩
        | false =>
         have hen : en = true := by cases en with | true => rfl | false => exact absurd ⟨rfl, rfl⟩ hde
         subst hen
         clear hde
         go_wp2_with fail
         refine (hia _).mono ?_
         rintro e w4 ⟨rfl, hbx⟩
         have R4 := aQ0 (R2.out.below hbx)
         have S4 : Hid (aQd w4 g s T.pos cl) := aQ0 (S2.out.keep (hbx.block g S2.out.lt))
         have K4 := aQ0 (K2.out.below hbx)
         have O4 : Hid (w4.ownsRow w0.heap.size 148 2 (.slice va T.attrs.length vc) T.attrs.length (aQ8 T.attrs)) := aQ0 (aQj O2.out (fun k hk => hbx.block k (by obtain ⟨cs, hc, _⟩ := aQ4 O2.out hk; exact (gLt hc))))
         obtain ⟨t0, t1, t2, t3, tf⟩ := aQ6 K4.out
         clear hbx tf R2 S2 K2 O2
         go_wp2_with fail
         refine (hie2 _).mono ?_
         rintro e w6 ⟨rfl, hbx⟩
         have R6 := aQ0 (R4.out.below hbx)
         have S6 : Hid (aQd w6 g s T.pos cl) := aQ0 (S4.out.keep (hbx.block g S4.out.lt))
         have K6 := aQ0 (K4.out.below hbx)
         have O6 : Hid (w6.ownsRow w0.heap.size 148 2 (.slice va T.attrs.length vc) T.attrs.length (aQ8 T.attrs)) := aQ0 (aQj O4.out (fun k hk => hbx.block k (by obtain ⟨cs, hc, _⟩ := aQ4 O4.out hk; exact (gLt hc))))
         obtain ⟨t0, t1, t2, t3, tf⟩ := aQ6 K6.out
         clear hbx tf R4 S4 K4 O4
         go_wp2_with fail
         refine (hfail _).mono ?_
         rintro e w5 ⟨he, rfl⟩
         unfold aQr at he
         subst he
         go_wp2
         rw [← hRR]
         exact ⟨rfl, R6.out.fell 3⟩
    have hk8b : (T.kind == 8) = false := by simpa using hk8
    by_cases hk13 : T.kind = 1 ∨ T.kind = 3
    · rw [decide_eq_true hk13] at hie
      cases en with
      | true =>
       have hRR := CL.out.go
       rw [dg_no CL.out.nx HK0.out hk67 (fun h => hk4 h.1) (fun h => hk8 h.1) (fun h => by cases h.2)] at hRR
       have hfail := fun wx => aX3 (.pointer (some ⟨r, 0, none⟩)) 3 wx
       clear hk0 hk67 hk4 hk8 hk13
       go_wp2_with fail
       refine (hia _).mono ?_
       rintro e w4 ⟨rfl, hbx⟩
       have R4 := aQ0 (R2.out.below hbx)
       have S4 : Hid (aQd w4 g s T.pos cl) := aQ0 (S2.out.keep (hbx.block g S2.out.lt))
       have K4 := aQ0 (K2.out.below hbx)
       have O4 : Hid (w4.ownsRow w0.heap.size 148 2 (.slice va T.attrs.length vc) T.attrs.length (aQ8 T.attrs)) := aQ0 (aQj O2.out (fun k hk => hbx.block k (by obtain ⟨cs, hc, _⟩ := aQ4 O2.out hk; exact (gLt hc))))
       obtain ⟨t0, t1, t2, t3, tf⟩ := aQ6 K4.out
       clear hbx tf R2 S2 K2 O2
       go_wp2_with fail
       refine (hie _).mono ?_
       rintro e w6 ⟨rfl, hbx⟩
       have R6 := aQ0 (R4.out.below hbx)
       have S6 : Hid (aQd w6 g s T.pos cl) := aQ0 (S4.out.keep (hbx.block g S4.out.lt))
       have K6 := aQ0 (K4.out.below hbx)
       have O6 : Hid (w6.ownsRow w0.heap.size 148 2 (.slice va T.attrs.length vc) T.attrs.length (aQ8 T.attrs)) := aQ0 (aQj O4.out (fun k hk => hbx.block k (by obtain ⟨cs, hc, _⟩ := aQ4 O4.out hk; exact (gLt hc))))
       obtain ⟨t0, t1, t2, t3, tf⟩ := aQ6 K6.out
       clear hbx tf R4 S4 K4 O4
       go_wp2_with fail
       refine (hfail _).mono ?_
       rintro e w5 ⟨he, rfl⟩
       unfold aQr at he
       subst he
       go_wp2
       rw [← hRR]
       exact ⟨rfl, R6.out.fell 3⟩
      | false =>
       have HK13 := aQ0 hk13
       clear hk0 hk67 hk4 hk8 hk13
       go_wp2_with fail
       refine (hia _).mono ?_
       rintro e w4 ⟨rfl, hbx⟩
       have R4 := aQ0 (R2.out.below hbx)
       have S4 : Hid (aQd w4 g s T.pos cl) := aQ0 (S2.out.keep (hbx.block g S2.out.lt))
       have K4 := aQ0 (K2.out.below hbx)
       have O4 : Hid (w4.ownsRow w0.heap.size 148 2 (.slice va T.attrs.length vc) T.attrs.length (aQ8 T.attrs)) := aQ0 (aQj O2.out (fun k hk => hbx.block k (by obtain ⟨cs, hc, _⟩ := aQ4 O2.out hk; exact (gLt hc))))
       obtain ⟨t0, t1, t2, t3, tf⟩ := aQ6 K4.out
       clear hbx tf R2 S2 K2 O2
       go_wp2_with fail
       refine (hie _).mono ?_
       rintro e w6 ⟨rfl, hbx⟩
       have R6 := aQ0 (R4.out.below hbx)
       have S6 : Hid (aQd w6 g s T.pos cl) := aQ0 (S4.out.keep (hbx.block g S4.out.lt))
       have K6 := aQ0 (K4.out.below hbx)
       have O6 : Hid (w6.ownsRow w0.heap.size 148 2 (.slice va T.attrs.length vc) T.attrs.length (aQ8 T.attrs)) := aQ0 (aQj O4.out (fun k hk => hbx.block k (by obtain ⟨cs, hc, _⟩ := aQ4 O4.out hk; exact (gLt hc))))
       obtain ⟨t0, t1, t2, t3, tf⟩ := aQ6 K6.out
       clear hbx tf R4 S4 K4 O4
       have hT := HTT.out
       have hDD : DOk st1.dt := by rw [A1.out.dt]; exact CL.out.pd.D
       have hAA : AOk st1.dt := by rw [A1.out.dt]; exact CL.out.pd.A
       have hel := bJp (f := aKn) HC.out R6.out S6.out hg0 O6.out (by have := hT.len; omega) (fun a ha => ⟨by have := (hT.attrs a ha).1; omega, (hT.attrs a ha).2⟩) hDD hAA A1.out.sp4 (by rw [A1.out.wi, CL.out.pd.wi]; exact Nat.zero_le _) (by have h1 := A1.out.pot; have h2 := CL.out.pd.pot; have h3 := A1.out.sp; unfold pt at h1 h2; omega) (by rw [A1.out.deep, CL.out.pd.deep]; exact Nat.zero_le _)
        (fun st2 eb2 Wx hstt hk1 hrx hsx hex hne hbb => by
         obtain ⟨ev2, tx2, hrx⟩ := hrx
         obtain ⟨h1, h30⟩ := bQc hDD A1.out.sp4 hstt
         have h01 := A1.out.trans h1
         have hpo := h01.pot
         have hpo2 := CL.out.pd.pot
         have hlt := hT.lt
         have hsz := hT.sz
         refine content_any HC.out hDD hAA aKn Wx g s T.pos cl { st2 with deep := st2.deep + 1 } ev2 tx2 (some T.name) eb2 hrx hsx hg0 hex HV0.out hs4 hT.sz hT.vb h1.dt h01.sp4 (fun h0 => ?_) ?_ ?_ ?_
         · show st2.wi.length ≤ st2.spent
           rw [h01.wi, CL.out.pd.wi]
           exact Nat.zero_le _
         · show st2.deep + 1 ≤ 30
           have e1 := h01.deep
           have e2 := CL.out.pd.deep
           omega
         · show pt st2 + 8 * (s.size - T.pos) + 8 * (4000 - st2.spent) ≤ 900000
           omega
         · show PlainR.meas st2.spent s.size T.pos ≤ aKn
           unfold PlainR.meas aKn
           omega)
        (fun st2 hstt => by
         obtain ⟨h1, h30⟩ := bQc hDD A1.out.sp4 hstt
         have h01 := A1.out.trans h1
         have hpo := h01.pot
         have hpo2 := CL.out.pd.pot
         have hlt := hT.lt
         have hsz := hT.sz
         refine ⟨by unfold pt at hpo hpo2; omega, fun q hq => ?_⟩
         cases hc : aZ3 aKn (some T.name) s T.pos cl { st2 with deep := st2.deep + 1 } with
         | mk a oc =>
          rw [hc] at hq
          simp only at hq
          subst hq
          have hk := aWr hDD aKn _ _ _ _ _ _ _ HV0.out hT.sz hT.vb (show ({ st2 with deep := st2.deep + 1 } : Rs).dt = st1.dt from h1.dt) h01.sp4 hc
          have hkp := hk.st.pot
          have hqs := hk.qs
          have hpq := hk.pq
          simp only [pt] at hkp hpo hpo2 ⊢
          exact ⟨by omega, by omega, hk.st.deep⟩)
       have HDD := aQ0 hDD
       clear hia hie hT hDD hAA
       go_wp2_with fail
       refine hel.mono ?_
       rintro e w5 hP
       obtain ⟨RE, hRE⟩ : ∃ RE, aWa aKn s T cl st1 = RE := ⟨_, rfl⟩
       rw [hRE] at hP
       obtain ⟨st5, oc⟩ := RE
       have hgo := CL.out.go
       rw [dg_el CL.out.nx HK13.out rfl, hRE] at hgo
       cases oc with
       | error c =>
        simp only at hgo
        subst hgo
        obtain ⟨he, hrest⟩ := hP
        unfold aQr at he
        subst he
        go_wp2
        exact ⟨rfl, rfl, hrest⟩
       | ok q5 =>
        simp only at hgo
        obtain ⟨rfl, ⟨ev5, tx5, hr5, hf5⟩, hs5⟩ := hP
        simp only at hr5
        obtain ⟨hco, hq5⟩ := elem_ok HDD.out (aWr HDD.out aKn) HV0.out HTT.out rfl A1.out.sp4 hRE
        have hlt := HTT.out.lt
        obtain ⟨n', rfl⟩ : ∃ n', n = n' + 1 := ⟨n - 1, by have h1 := CL.out.pd.fu; have h2 := HTT.out.lt; have h3 := HTT.out.sz; omega⟩
        have P5 : Hid (Pd s q5 n' st5) := aQ0 (CL.out.pd.on ⟨(A1.out.trans hco.st).le (by omega), hco.pq, hco.qs, hco.vb⟩ (by omega))
        have HM := aQ0 hq5
        have G5 := aQ0 hgo
        have R5 := aQ0 hr5
        have S5 := aQ0 hs5
        have K5 := aQ0 (K6.out.fr R6.out S6.out hf5 (fun j hj => (Option.some.inj hj).symm))
        clear hel hr5 hs5 hf5 hco hq5 hgo hRE hlt R6 S6 K6 O6 A1 HDD
        obtain ⟨t0, t1, t2, t3, tf⟩ := aQ6 K5.out
        obtain ⟨W6, hW6⟩ : ∃ W6, w5.alloc (.cells #[.int .i64 T.kind, .string T.name, .string T.text, .slice va T.attrs.length vc] 73) = W6 := ⟨_, rfl⟩
        have HW6 := aQ0 hW6
        have hb6 : Below w5.heap.size w5 W6 := by rw [← hW6]; exact bAl
        have R6 := aQ0 (R5.out.below hb6)
        have S6 : Hid (aQd W6 g s q5 cl) := aQ0 (S5.out.keep (hb6.block g S5.out.lt))
        have K6 : Hid (aQt W6 w5.heap.size T.kind T.name T.text (.slice va T.attrs.length vc)) := aQ0 (by rw [← hW6]; exact heap_alloc_new _ _)
        have hbl6 : w0.heap.size ≤ W6.heap.size := R6.out.bel.size
        have hk6 : w0.heap.size ≤ w5.heap.size := R5.out.bel.size
        have hnx := aVd HC.out R6.out S6.out hg0 P5.out.pp (by omega) HV0.out
        clear hW6 hb6 R5 S5 K5 tf CL
        go_wp2_with fail
        rw [HW6.out]
        refine hnx.mono ?_
        rintro e w7 hP
        obtain ⟨NX, hNX⟩ : ∃ NX, aXt st5 s q5 cl = NX := ⟨_, rfl⟩
        rw [hNX] at hP
        obtain ⟨st7, oc⟩ := NX
        cases oc with
        | error c =>
         have hRR := G5.out
         rw [dg_bad hNX] at hRR
         subst hRR
         obtain ⟨he, hrest⟩ := hP
         unfold aQr at he
         subst he
         go_wp2
         exact ⟨rfl, rfl, hrest⟩
        | ok T7 =>
         obtain ⟨av, rfl, hR7, hS7, hF7, hO7⟩ := hP
         obtain ⟨va7, vc7, hv'⟩ := aQh hO7
         subst hv'
         have K7 : aQt w7 w5.heap.size T.kind T.name T.text (.slice va T.attrs.length vc) := K6.out.fr R6.out S6.out hF7 (fun j hj => (Option.some.inj hj).symm)
         obtain ⟨t0, t1, t2, t3, u0, u1, u2, u3⟩ := aQ6 K7
         have hg8 : w7.grownBy ((((w7.setCell ⟨w5.heap.size, 0, none⟩ (.int .i64 T7.kind)).setCell ⟨w5.heap.size, 1, none⟩ (.string T7.name)).setCell ⟨w5.heap.size, 2, none⟩ (.string T7.text)).setCell ⟨w5.heap.size, 3, none⟩ (.slice va7 T7.attrs.length vc7)) (some w5.heap.size) := aQ3 (aQ3 (aQ3 (aQa _) (aQa _)) (aQa _)) (aQa _)
         have K8 : aQt ((((w7.setCell ⟨w5.heap.size, 0, none⟩ (.int .i64 T7.kind)).setCell ⟨w5.heap.size, 1, none⟩ (.string T7.name)).setCell ⟨w5.heap.size, 2, none⟩ (.string T7.text)).setCell ⟨w5.heap.size, 3, none⟩ (.slice va7 T7.attrs.length vc7)) w5.heap.size T7.kind T7.name T7.text (.slice va7 T7.attrs.length vc7) := by
          unfold aQt
          rw [aQ7 (aQ7 (aQ7 (aQ7 K7 _) _) _) _]
          rfl
         have R8 := hR7.off hg8 K7 aKa hk6
         have hgk : g ≠ w5.heap.size := fun e => aQe K7 (aXo hS7) (by decide) e.symm
         have S8 : aQd _ g s T7.pos cl := hS7.keep (hg8.block g hS7.lt (fun e => hgk (Option.some.inj e)))
         have O8 : World.ownsRow _ w0.heap.size 148 2 (.slice va7 T7.attrs.length vc7) T7.attrs.length (aQ8 T7.attrs) := aQj (aZi hO7 hbl6) (fun k hk => hg8.block k (by obtain ⟨cs, hc, _⟩ := aQ4 hO7 hk; exact (gLt hc)) (fun e => by obtain ⟨cs, hc, _⟩ := aQ4 hO7 hk; rw [Option.some.inj e] at hc; exact aQe K7 hc (by decide) rfl))
         obtain ⟨hst7, hT7⟩ := aKg HV0.out P5.out.pp P5.out.vb hNX
         have C8 : Hid (Dl w0 _ r mb g s cl R w5.heap.size T7 va7 vc7 n' q5 st5 st7 hd true) := aQ0 ⟨hNX, G5.out, ⟨_, _, _, _, R8⟩, S8, K8, O8, P5.out⟩
         have hmu : 2 * (s.size - T7.pos) + (if T7.kind = 0 then 0 else 1) < 2 * (s.size - T.pos) + 1 := by
          have hq := HM.out
          rcases hT7 with h7 | ⟨h7, h8⟩
          · have := h7.lt
            have := h7.sz
            split <;> omega
          · rw [h8]
            simp only
            rw [if_pos trivial]
            omega
         have HMU8 : Hid (2 * (s.size - imAt ((((w7.setCell ⟨w5.heap.size, 0, none⟩ (.int .i64 T7.kind)).setCell ⟨w5.heap.size, 1, none⟩ (.string T7.name)).setCell ⟨w5.heap.size, 2, none⟩ (.string T7.text)).setCell ⟨w5.heap.size, 3, none⟩ (.slice va7 T7.attrs.length vc7)) g) + tkK ((((w7.setCell ⟨w5.heap.size, 0, none⟩ (.int .i64 T7.kind)).setCell ⟨w5.heap.size, 1, none⟩ (.string T7.name)).setCell ⟨w5.heap.size, 2, none⟩ (.string T7.text)).setCell ⟨w5.heap.size, 3, none⟩ (.slice va7 T7.attrs.length vc7)) (.pointer (some ⟨w5.heap.size, 0, none⟩)) < 2 * (s.size - imAt wr g) + tkK wr (.pointer (some ⟨kb, 0, none⟩))) := aQ0 (by
          rw [HMU.out, @aX9 (srcE cl) _ _ _ _ S8, aKx K8, if_neg HK0.out]
          exact hmu)
         clear hR7 hS7 hF7 hO7 hg8 K8 R8 S8 O8 hmu hT7 hst7 hnx
         go_wp2
         go_roundw
         case rel => exact ⟨w5.heap.size, n', q5, st5, st7, T7, va7, vc7, hd, true, rfl, rfl, rfl, C8.out⟩
         case measure => exact HMU8.out
    · rw [decide_eq_false hk13] at hie
      have hRR := CL.out.go
      rw [dg_no CL.out.nx HK0.out hk67 (fun h => hk4 h.1) (fun h => hk8 h.1) (fun h => hk13 h.1)] at hRR
      have hfail := fun wx => aX3 (.pointer (some ⟨r, 0, none⟩)) 3 wx
      clear hk0 hk67 hk4 hk8 hk13
      go_wp2_with fail
      refine (hia _).mono ?_
      rintro e w4 ⟨rfl, hbx⟩
      have R4 := aQ0 (R2.out.below hbx)
      have S4 : Hid (aQd w4 g s T.pos cl) := aQ0 (S2.out.keep (hbx.block g S2.out.lt))
      have K4 := aQ0 (K2.out.below hbx)
      have O4 : Hid (w4.ownsRow w0.heap.size 148 2 (.slice va T.attrs.length vc) T.attrs.length (aQ8 T.attrs)) := aQ0 (aQj O2.out (fun k hk => hbx.block k (by obtain ⟨cs, hc, _⟩ := aQ4 O2.out hk; exact (gLt hc))))
      obtain ⟨t0, t1, t2, t3, tf⟩ := aQ6 K4.out
      clear hbx tf R2 S2 K2 O2
      go_wp2_with fail
      refine (hie _).mono ?_
      rintro e w6 ⟨rfl, hbx⟩
      have R6 := aQ0 (R4.out.below hbx)
      have S6 : Hid (aQd w6 g s T.pos cl) := aQ0 (S4.out.keep (hbx.block g S4.out.lt))
      have K6 := aQ0 (K4.out.below hbx)
      have O6 : Hid (w6.ownsRow w0.heap.size 148 2 (.slice va T.attrs.length vc) T.attrs.length (aQ8 T.attrs)) := aQ0 (aQj O4.out (fun k hk => hbx.block k (by obtain ⟨cs, hc, _⟩ := aQ4 O4.out hk; exact (gLt hc))))
      obtain ⟨t0, t1, t2, t3, tf⟩ := aQ6 K6.out
      clear hbx tf R4 S4 K4 O4
      go_wp2_with fail
      refine (hfail _).mono ?_
      rintro e w5 ⟨he, rfl⟩
      unfold aQr at he
      subst he
      go_wp2
      rw [← hRR]
      exact ⟨rfl, R6.out.fell 3⟩
end Go.Proofs.YtdblemolaojebaaGreatDoor
