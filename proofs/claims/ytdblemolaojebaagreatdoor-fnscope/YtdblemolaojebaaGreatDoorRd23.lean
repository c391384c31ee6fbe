import Derived.Test.YtdblemolaojebaaGreatDoorRd22
set_option maxRecDepth 100000
set_option maxHeartbeats 16000000
set_option linter.unusedVariables false
set_option linter.unusedSectionVars false
namespace Go.Proofs.YtdblemolaojebaaGreatDoor
open Go.RowKit Lists Plain10 Plain11 Plain23 PlainR PlainM Go.Lib Ents
variable [Inhabited aJ5]
theorem aYp.fr {w0 W W' : World} {r mb g : Nat} {st : Rs} {de da ev tx : Value} {s : ByteArray} {p : Nat} {cl : Bool} {E : Option ByteArray} {eb : Nat} (h : aYp W E eb) (hr : Rm w0 W r mb st de da ev tx) (hs : aQd W g s p cl) (hF : Fr W W' r mb (some g)) : aYp W' E eb := by
 cases E with
 | none => trivial
 | some nm =>
  obtain ⟨kd, tx, av, hb⟩ := h
  exact ⟨kd, tx, av, hF.block hb (by decide) (by decide) (aQe hb hr.box (by decide)) (aJb hb hr.map) (fun e => aQe hb (aXo hs) (by decide) (Option.some.inj e))⟩
theorem aYp.below {W W' : World} {E : Option ByteArray} {eb : Nat} (h : aYp W E eb) (hb : Below W.heap.size W W') : aYp W' E eb := by
 cases E with
 | none => trivial
 | some nm =>
  obtain ⟨kd, tx, av, hc⟩ := h
  exact ⟨kd, tx, av, (hb.block eb (gLt hc)).trans hc⟩
theorem aQt.below {W W' : World} {k : Nat} {kd : Int} {nm t : ByteArray} {v : Value} (h : aQt W k kd nm t v) (hb : Below W.heap.size W W') : aQt W' k kd nm t v := (hb.block k (gLt h)).trans h
theorem aQt.fr {w0 W W' : World} {r mb : Nat} {st : Rs} {de da ev tx : Value} {g : Nat} {s : ByteArray} {p : Nat} {cl : Bool} {k : Nat} {kd : Int} {nm t : ByteArray} {v : Value} {go : Option Nat} (h : aQt W k kd nm t v) (hr : Rm w0 W r mb st de da ev tx) (hs : aQd W g s p cl) (hF : Fr W W' r mb go) (hgo : ∀ j, go = some j → j = g) : aQt W' k kd nm t v :=
 hF.block h (by decide) (by decide) (aQe h hr.box (by decide)) (aJb h hr.map) (fun e => aQe h (aXo hs) (by decide) (hgo k e.symm))
def tkK (w : World) (v : Value) : Nat := match v with | .pointer (some a) => (match w.cell? a with | some (.int _ z) => if z = 0 then 0 else 1 | _ => 0) | _ => 0
theorem aKx {w : World} {k : Nat} {kd : Int} {nm t : ByteArray} {v : Value} (h : aQt w k kd nm t v) : tkK w (.pointer (some ⟨k, 0, none⟩)) = if kd = 0 then 0 else 1 := by
 unfold tkK
 simp only
 rw [(aQ6 h).1]
theorem end_form (E : Option ByteArray) (eb : Nat) : ∃ fid cap, endV E eb = .func (.func fid) #[] cap ∧ (∀ args w, (callFunc fid args).run Tryz.prog w = .ok (.enter fid args) w) ∧ ∀ (T : Tk) (av : Value) (wx : World), aYp wx E eb → Calls Tryz.prog fid (#[.agg #[.int .i64 T.kind, .string T.name, .string T.text, av]] ++ cap) wx fun e w' => e = .returned (.bool (aJr E T)) ∧ Below wx.heap.size wx w' := by
 cases E with
 | none => exact ⟨_, _, rfl, fun a w => aQu Tryz.func193 (by kernel_rfl) rfl a w, fun T av wx _ => endN_any T av wx⟩
 | some nm => exact ⟨_, _, rfl, fun a w => aQu Tryz.func44 (by kernel_rfl) rfl a w, fun T av wx h => endE_any h T av⟩
def ConC (w0 : World) (r mb : Nat) (de da : Value) (D : Dt) (f : Nat) : Prop :=
 ∀ (W : World) (g : Nat) (s : ByteArray) (p : Nat) (cl : Bool) (st : Rs) (ev tx : Value) (E : Option ByteArray) (eb : Nat), Rm w0 W r mb st de da ev tx → aQd W g s p cl → w0.heap.size ≤ g → aYp W E eb → VB s 0 → s.size ≤ 4000 → p ≤ s.size → VB s p → st.dt = D → st.spent ≤ 4000 → (0 < s.size → st.wi.length ≤ st.spent) → st.deep ≤ 30 → pt st + 8 * (s.size - p) + 8 * (4000 - st.spent) ≤ 900000 → meas st.spent s.size p ≤ f →
  Calls Tryz.prog 43 #[.pointer (some ⟨r, 0, none⟩), .pointer (some ⟨g, 0, none⟩), endV E eb] W fun e W' => CoSays w0 W r mb g s cl de da (aZ3 f E s p cl st) e W'
structure Pc (D : Dt) (s : ByteArray) (p n : Nat) (st : Rs) : Prop where
 pp : p ≤ s.size
 vb : VB s p
 dt : st.dt = D
 sp : st.spent ≤ 4000
 wi : 0 < s.size → st.wi.length ≤ st.spent
 deep : st.deep ≤ 30
 pot : pt st + 8 * (s.size - p) + 8 * (4000 - st.spent) ≤ 900000
 meas : meas st.spent s.size p ≤ n
theorem Pc.on {D : Dt} {s : ByteArray} {p q n : Nat} {st st5 : Rs} (h : Pc D s p (n + 1) st) (hk : aYa s p q st st5) (hq : p < q) : Pc D s q n st5 := by
 have h2 := hk.qs
 have h3 := hk.st.sp
 have h4 := hk.st.sp4
 have hpot : pt st5 + 8 * (s.size - q) + 8 * (4000 - st5.spent) ≤ 900000 := by
  have h1 := hk.st.pot
  have h5 := h.pot
  omega
 have hme : PlainR.meas st5.spent s.size q ≤ n := by
  have h6 := h.meas
  unfold PlainR.meas at h6 ⊢
  omega
 exact ⟨h2, hk.vb, hk.st.dt.trans h.dt, h4, fun h0 => by rw [hk.st.wi]; exact Nat.le_trans (h.wi h0) h3, by rw [hk.st.deep]; exact h.deep, hpot, hme⟩
structure Cl (w0 W wr : World) (r mb g : Nat) (de da : Value) (s : ByteArray) (cl : Bool) (E : Option ByteArray) (eb : Nat) (D : Dt) (R : Rs × Except Int Nat) (f kb : Nat) (T : Tk) (va : Option Addr) (vc n p : Nat) (st st1 : Rs) : Prop where
 nx : aXt st s p cl = (st1, .ok T)
 go : aZ3 (n + 1) E s p cl st = R
 nf : n ≤ f
 rm : ∃ ev tx, Rm w0 wr r mb st1 de da ev tx
 sc : aQd wr g s T.pos cl
 fr : Fr W wr r mb (some g)
 tk : aQt wr kb T.kind T.name T.text (.slice va T.attrs.length vc)
 row : wr.ownsRow w0.heap.size 148 2 (.slice va T.attrs.length vc) T.attrs.length (aQ8 T.attrs)
 ed : aYp wr E eb
 pc : Pc D s p (n + 1) st
theorem Cl.new {w0 W w1 W2 : World} {r mb g : Nat} {de da ev tx : Value} {s : ByteArray} {cl : Bool} {E : Option ByteArray} {eb : Nat} {D : Dt} {R : Rs × Except Int Nat} {f kb : Nat} {T : Tk} {va : Option Addr} {vc n p : Nat} {st st1 : Rs} (nx : aXt st s p cl = (st1, .ok T)) (go : aZ3 (n + 1) E s p cl st = R) (nf : n ≤ f) (hr : Rm w0 w1 r mb st1 de da ev tx) (hs : aQd w1 g s T.pos cl) (hF : Fr W w1 r mb (some g)) (hrow : w1.ownsRow w0.heap.size 148 2 (.slice va T.attrs.length vc) T.attrs.length (aQ8 T.attrs)) (ed : aYp w1 E eb) (pc : Pc D s p (n + 1) st) (hb : Below w1.heap.size w1 W2) (htk : aQt W2 kb T.kind T.name T.text (.slice va T.attrs.length vc)) : Cl w0 W W2 r mb g de da s cl E eb D R f kb T va vc n p st st1 :=
 ⟨nx, go, nf, ⟨_, _, hr.below hb⟩, hs.keep (hb.block g hs.lt), hF.trans (Fr.below (g := none) hb) (fun k hk => by cases hk), htk, aQj hrow (fun k hk => hb.block k (by obtain ⟨cs, hc, _⟩ := aQ4 hrow hk; exact (gLt hc))), ed.below hb, pc⟩
theorem content_step {w0 : World} {r mb : Nat} {de da : Value} {D : Dt} {m : Int} (hctx : Ctx w0 m) (hD : DOk D) (hA : AOk D) {f0 : Nat} (IH : ∀ f, f < f0 → ConC w0 r mb de da D f) : ConC w0 r mb de da D f0 := by
 intro W g s p cl st ev tx E eb hRm hS hg0 hE hv0 hs4 hp hvp hdt hsp hwi hdeep hpot hmeas
 obtain ⟨f, rfl⟩ : ∃ f, f0 = f + 1 := ⟨f0 - 1, by unfold meas at hmeas; omega⟩
 obtain ⟨R, hR⟩ : ∃ R, aZ3 (f + 1) E s p cl st = R := ⟨_, rfl⟩
 rw [hR]
 have HR := aQ0 hR
 have hnx := aVd hctx hRm hS hg0 hp (by omega) hv0
 obtain ⟨fid, cap, hef, hcf, hend⟩ := end_form E eb
 rw [hef]
 have PC0 : Hid (Pc D s p (f + 1) st) := aQ0 ⟨hp, hvp, hdt, hsp, hwi, hdeep, hpot, hmeas⟩
 have HC := aQ0 hctx
 have HD := aQ0 hD
 have HA := aQ0 hA
 have HIH := aQ0 IH
 have HV0 := aQ0 hv0
 have HRM := aQ0 hRm
 have HS0 := aQ0 hS
 have HE0 := aQ0 hE
 have HEND := aQ0 hend
 have hBel := hRm.bel.size
 clear hR hef hctx hD hA IH hv0 hRm hS hE hvp hdt hsp hwi hdeep hpot hmeas hp hend
 go_enter Tryz.func43, Tryz.ntmps43
 go_wp2_with fail
 refine hnx.mono ?_
 rintro e w1 hP
 obtain ⟨NX, hNX⟩ : ∃ NX, aXt st s p cl = NX := ⟨_, rfl⟩
 rw [hNX] at hP
 obtain ⟨st1, oc⟩ := NX
 cases oc with
 | error c =>
  have hRR := HR.out
  rw [bVz hNX] at hRR
  subst hRR
  obtain ⟨he, hrest⟩ := hP
  unfold aQr at he
  subst he
  go_wp2
  exact ⟨rfl, rfl, hrest⟩
 | ok T =>
  obtain ⟨av, rfl, hR1, hS1, hF1, hO1⟩ := hP
  obtain ⟨va, vc, hv'⟩ := aQh hO1
  subst hv'
  obtain ⟨W2, hW2⟩ : ∃ W2, w1.alloc (.cells #[.int .i64 T.kind, .string T.name, .string T.text, .slice va T.attrs.length vc] 73) = W2 := ⟨_, rfl⟩
  have C0 : Hid (Cl w0 W W2 r mb g de da s cl E eb D R f w1.heap.size T va vc f p st st1) := aQ0 (Cl.new hNX HR.out (Nat.le_refl _) hR1 hS1 hF1 (aZi hO1 hBel) (HE0.out.fr HRM.out HS0.out hF1) PC0.out (by rw [← hW2]; exact bAl) (by rw [← hW2]; exact heap_alloc_new _ _))
  clear hR1 hS1 hF1 hO1 hNX hnx PC0 HR
  go_wp2_with fail
  clear hW2
  go_loopw [6] (fun v6 wr => ∃ (kb n p : Nat) (st st1 : Rs) (T : Tk) (va : Option Addr) (vc : Nat), v6 = .pointer (some ⟨kb, 0, none⟩) ∧ Cl w0 W wr r mb g de da s cl E eb D R f kb T va vc n p st st1) (fun v6 wr => 2 * (s.size - imAt wr g) + tkK wr v6)
  case atStart => exact ⟨w1.heap.size, f, p, st, st1, T, va, vc, rfl, C0.out⟩
  case round =>
   clear C0
   obtain ⟨kb, n, p, st, st1, T, va, vc, rfl, hCl⟩ := hrel
   have CL := aQ0 hCl
   have hend := HEND.out T (.slice va T.attrs.length vc) wr hCl.ed
   obtain ⟨t0, t1, t2, t3, tf⟩ := aQ6 hCl.tk
   have HMU : Hid (2 * (s.size - imAt wr g) + tkK wr (.pointer (some ⟨kb, 0, none⟩)) = 2 * (s.size - T.pos) + if T.kind = 0 then 0 else 1) := aQ0 (by rw [@aX9 (srcE cl) _ _ _ _ hCl.sc, aKx hCl.tk])
   clear hCl tf
   obtain ⟨b, hb⟩ : ∃ b, aJr E T = b := ⟨_, rfl⟩
   have HB := aQ0 hb
   rw [hb] at hend
   clear hb
   cases b with
   | true =>
    go_wp2_with fail
    refine hend.mono ?_
    rintro e w2 ⟨rfl, hb2⟩
    have hRR := CL.out.go
    rw [cg_end CL.out.nx HB.out] at hRR
    obtain ⟨ev1, tx1, hr1⟩ := CL.out.rm
    have R2 := aQ0 (hr1.below hb2)
    have S2 : Hid (aQd w2 g s T.pos cl) := aQ0 (CL.out.sc.keep (hb2.block g CL.out.sc.lt))
    have F2 := aQ0 (CL.out.fr.trans (Fr.below (g := none) hb2) (fun k hk => by cases hk))
    clear hend hb2 hr1
    go_wp2
    go_end0
    rw [← hRR]
    exact ⟨rfl, ⟨_, _, R2.out, F2.out⟩, S2.out⟩
   | false =>
    go_wp2_with fail
    refine hend.mono ?_
    rintro e w2 ⟨rfl, hb2⟩
    obtain ⟨ev1, tx1, hr1⟩ := CL.out.rm
    have R2 := aQ0 (hr1.below hb2)
    have S2 : Hid (aQd w2 g s T.pos cl) := aQ0 (CL.out.sc.keep (hb2.block g CL.out.sc.lt))
    have F2 := aQ0 (CL.out.fr.trans (Fr.below (g := none) hb2) (fun k hk => by cases hk))
    have K2 := aQ0 (CL.out.tk.below hb2)
    have E2 := aQ0 (CL.out.ed.below hb2)
    have O2 : Hid (w2.ownsRow w0.heap.size 148 2 (.slice va T.attrs.length vc) T.attrs.length (aQ8 T.attrs)) := aQ0 (aQj CL.out.row (fun k hk => hb2.block k (by obtain ⟨cs, hc, _⟩ := aQ4 CL.out.row hk; exact (gLt hc))))
    obtain ⟨t0, t1, t2, t3, tf⟩ := aQ6 K2.out
    have hie := bQq T.kind T.name T.text (.slice va T.attrs.length vc) w2
    obtain ⟨hst1, hT⟩ := aKg HV0.out CL.out.pc.pp CL.out.pc.vb CL.out.nx
    have HT := aQ0 hT
    have A1 : Hid (StOk 0 st st1) := aQ0 (by rw [hst1]; exact at_ok CL.out.pc.sp)
    clear hend hb2 hr1 tf hst1 hT
    have hsz : T.kind ≠ 0 → TkOk s p T := fun h => by
     rcases HT.out with h1 | ⟨_, h1⟩
     · exact h1
     · rw [h1] at h; exact absurd rfl h
    have HSZ := aQ0 hsz
    clear hsz
    by_cases hk13 : T.kind = 1 ∨ T.kind = 3
    · have hT := HSZ.out (by omega)
      rw [decide_eq_true hk13] at hie
      have HK0 : Hid (T.kind ≠ 0) := aQ0 (by omega)
      have HK13 := aQ0 hk13
      clear hk13
      go_wp2_with fail
      refine hie.mono ?_
      rintro e w3 ⟨rfl, hbx⟩
      have R3 := aQ0 (R2.out.below hbx)
      have S3 : Hid (aQd w3 g s T.pos cl) := aQ0 (S2.out.keep (hbx.block g S2.out.lt))
      have F3 := aQ0 (F2.out.trans (Fr.below (g := none) hbx) (fun k hk => by cases hk))
      have K3 := aQ0 (K2.out.below hbx)
      have E3 := aQ0 (E2.out.below hbx)
      have O3 : Hid (w3.ownsRow w0.heap.size 148 2 (.slice va T.attrs.length vc) T.attrs.length (aQ8 T.attrs)) := aQ0 (aQj O2.out (fun k hk => hbx.block k (by obtain ⟨cs, hc, _⟩ := aQ4 O2.out hk; exact (gLt hc))))
      obtain ⟨t0, t1, t2, t3, tf⟩ := aQ6 K3.out
      clear hbx tf R2 S2 F2 K2 E2 O2
      have hel := bJp (f := n) HC.out R3.out S3.out hg0 O3.out (by have := hT.len; omega) (fun a ha => ⟨by have := (hT.attrs a ha).1; omega, (hT.attrs a ha).2⟩) (by rw [A1.out.dt, CL.out.pc.dt]; exact HD.out) (by rw [A1.out.dt, CL.out.pc.dt]; exact HA.out) A1.out.sp4 (by rw [A1.out.wi]; have := CL.out.pc.wi (by have := hT.lt; have := hT.sz; omega); have := CL.out.pc.sp; omega) (by have h1 := A1.out.pot; have h2 := CL.out.pc.pot; have h3 := A1.out.sp; unfold pt at h1 h2; omega) (by rw [A1.out.deep]; have := CL.out.pc.deep; omega)
       (fun st2 eb2 Wx hstt hk1 hrx hsx hex hne hbb => by
        obtain ⟨ev2, tx2, hrx⟩ := hrx
        obtain ⟨h1, h30⟩ := bQc (by rw [A1.out.dt, CL.out.pc.dt]; exact HD.out) A1.out.sp4 hstt
        have h01 := A1.out.trans h1
        have hpo := h01.pot
        have hpo2 := CL.out.pc.pot
        have hme := CL.out.pc.meas
        have hsp2 := h01.sp
        have hlt := hT.lt
        have hsz := hT.sz
        unfold PlainR.meas at hme
        refine HIH.out n (by have := CL.out.nf; omega) Wx g s T.pos cl { st2 with deep := st2.deep + 1 } ev2 tx2 (some T.name) eb2 hrx hsx hg0 hex HV0.out hs4 hT.sz hT.vb (h01.dt.trans CL.out.pc.dt) h01.sp4 (fun h0 => ?_) ?_ ?_ ?_
        · show st2.wi.length ≤ st2.spent
          rw [h01.wi]
          have := CL.out.pc.wi h0
          omega
        · show st2.deep + 1 ≤ 30
          have := CL.out.pc.deep
          have e1 := h1.deep
          have e2 := A1.out.deep
          omega
        · show pt st2 + 8 * (s.size - T.pos) + 8 * (4000 - st2.spent) ≤ 900000
          omega
        · show PlainR.meas st2.spent s.size T.pos ≤ n
          unfold PlainR.meas
          omega)
       (fun st2 hstt => by
        obtain ⟨h1, h30⟩ := bQc (by rw [A1.out.dt, CL.out.pc.dt]; exact HD.out) A1.out.sp4 hstt
        have h01 := A1.out.trans h1
        have hpo := h01.pot
        have hpo2 := CL.out.pc.pot
        have hlt := hT.lt
        have hsz := hT.sz
        refine ⟨by unfold pt at hpo hpo2; omega, fun q hq => ?_⟩
        cases hc : aZ3 n (some T.name) s T.pos cl { st2 with deep := st2.deep + 1 } with
        | mk a oc =>
         rw [hc] at hq
         simp only at hq
         subst hq
         have hk := aWr HD.out n _ _ _ _ _ _ _ HV0.out hT.sz hT.vb (show ({ st2 with deep := st2.deep + 1 } : Rs).dt = D from h01.dt.trans CL.out.pc.dt) h01.sp4 hc
         have hkp := hk.st.pot
         have hqs := hk.qs
         have hpq := hk.pq
         simp only [pt] at hkp hpo hpo2 ⊢
         exact ⟨by omega, by omega, hk.st.deep⟩)
      clear hie hT
      go_wp2_with fail
      refine hel.mono ?_
      rintro e w5 hP
      obtain ⟨RE, hRE⟩ : ∃ RE, aWa n s T cl st1 = RE := ⟨_, rfl⟩
      rw [hRE] at hP
      obtain ⟨st5, oc⟩ := RE
      have hgo := CL.out.go
      rw [cg_el CL.out.nx HB.out HK13.out, hRE] at hgo
      cases oc with
      | error c =>
       simp only at hgo
       subst hgo
       obtain ⟨he, hrest⟩ := hP
       unfold aQr at he
       subst he
       go_wp2
       exact ⟨rfl, rfl, hrest⟩
      | ok q5 =>
       simp only at hgo
       obtain ⟨rfl, ⟨ev5, tx5, hr5, hf5⟩, hs5⟩ := hP
       simp only at hr5
       have hT := HSZ.out HK0.out
       obtain ⟨hco, hq5⟩ := elem_ok HD.out (aWr HD.out n) HV0.out hT (A1.out.dt.trans CL.out.pc.dt) A1.out.sp4 hRE
       have C5 : Hid (aYa s p q5 st st5) := aQ0 ⟨(A1.out.trans hco.st).le (by omega), hco.pq, hco.qs, hco.vb⟩
       have HQ : Hid (p < q5) := aQ0 (by have := hT.lt; omega)
       have HM := aQ0 hq5
       have G5 := aQ0 hgo
       have R5 := aQ0 hr5
       have S5 := aQ0 hs5
       have K5 := aQ0 (K3.out.fr R3.out S3.out hf5 (fun j hj => (Option.some.inj hj).symm))
       have E5 := aQ0 (E3.out.fr R3.out S3.out hf5)
       have F5 := aQ0 (F3.out.trans hf5 (fun k hk => .inl hk))
       have HSZ5 := aQ0 F5.out.size
       clear hel hr5 hs5 hf5 hco hq5 hgo hRE hT R3 S3 F3 K3 E3 O3 A1
       obtain ⟨n', rfl⟩ : ∃ n', n = n' + 1 := ⟨n - 1, by have h1 := (CL.out.pc.on C5.out HQ.out).meas; unfold PlainR.meas at h1; omega⟩
       have P5 := aQ0 (CL.out.pc.on C5.out HQ.out)
       have NF := aQ0 CL.out.nf
       obtain ⟨t0, t1, t2, t3, tf⟩ := aQ6 K5.out
       obtain ⟨W6, hW6⟩ : ∃ W6, w5.alloc (.cells #[.int .i64 T.kind, .string T.name, .string T.text, .slice va T.attrs.length vc] 73) = W6 := ⟨_, rfl⟩
       have HW6 := aQ0 hW6
       have hb6 : Below w5.heap.size w5 W6 := by rw [← hW6]; exact bAl
       have R6 := aQ0 (R5.out.below hb6)
       have S6 : Hid (aQd W6 g s q5 cl) := aQ0 (S5.out.keep (hb6.block g S5.out.lt))
       have F6 := aQ0 (F5.out.trans (Fr.below (g := none) hb6) (fun k hk => by cases hk))
       have K6 : Hid (aQt W6 w5.heap.size T.kind T.name T.text (.slice va T.attrs.length vc)) := aQ0 (by rw [← hW6]; exact heap_alloc_new _ _)
       have E6 := aQ0 (E5.out.below hb6)
       have hbl6 : w0.heap.size ≤ W6.heap.size := R6.out.bel.size
       have hk6 : w0.heap.size ≤ w5.heap.size := R5.out.bel.size
       have hnx := aVd HC.out R6.out S6.out hg0 P5.out.pp (by omega) HV0.out
       clear hW6 hb6 R5 S5 F5 K5 E5 tf CL
       go_wp2_with fail
       rw [HW6.out]
       refine hnx.mono ?_
       rintro e w7 hP
       obtain ⟨NX, hNX⟩ : ∃ NX, aXt st5 s q5 cl = NX := ⟨_, rfl⟩
       rw [hNX] at hP
       obtain ⟨st7, oc⟩ := NX
       cases oc with
       | error c =>
        have hRR := G5.out
        rw [bVz hNX] at hRR
        subst hRR
        obtain ⟨he, hrest⟩ := hP
        unfold aQr at he
        subst he
        go_wp2
        exact ⟨rfl, rfl, hrest⟩
       | ok T7 =>
        obtain ⟨av, rfl, hR7, hS7, hF7, hO7⟩ := hP
        obtain ⟨va7, vc7, hv'⟩ := aQh hO7
        subst hv'
        have K7 : aQt w7 w5.heap.size T.kind T.name T.text (.slice va T.attrs.length vc) := K6.out.fr R6.out S6.out hF7 (fun j hj => (Option.some.inj hj).symm)
        obtain ⟨t0, t1, t2, t3, u0, u1, u2, u3⟩ := aQ6 K7
        have hg8 : w7.grownBy ((((w7.setCell ⟨w5.heap.size, 0, none⟩ (.int .i64 T7.kind)).setCell ⟨w5.heap.size, 1, none⟩ (.string T7.name)).setCell ⟨w5.heap.size, 2, none⟩ (.string T7.text)).setCell ⟨w5.heap.size, 3, none⟩ (.slice va7 T7.attrs.length vc7)) (some w5.heap.size) := aQ3 (aQ3 (aQ3 (aQa _) (aQa _)) (aQa _)) (aQa _)
        have K8 : aQt ((((w7.setCell ⟨w5.heap.size, 0, none⟩ (.int .i64 T7.kind)).setCell ⟨w5.heap.size, 1, none⟩ (.string T7.name)).setCell ⟨w5.heap.size, 2, none⟩ (.string T7.text)).setCell ⟨w5.heap.size, 3, none⟩ (.slice va7 T7.attrs.length vc7)) w5.heap.size T7.kind T7.name T7.text (.slice va7 T7.attrs.length vc7) := by
         unfold aQt
         rw [aQ7 (aQ7 (aQ7 (aQ7 K7 _) _) _) _]
         rfl
        have R8 := hR7.off hg8 K7 aKa hk6
        have hgk : g ≠ w5.heap.size := fun e => aQe K7 (aXo hS7) (by decide) e.symm
        have S8 : aQd _ g s T7.pos cl := hS7.keep (hg8.block g hS7.lt (fun e => hgk (Option.some.inj e)))
        have hWk : W.heap.size ≤ w5.heap.size := HSZ5.out
        have F8 := (F6.out.trans hF7 (fun k hk => .inl hk)).trans (Fr.grown (g := some w5.heap.size) hg8 (fun j hj => .inr (.inr (.inl hj.symm)))) (fun k hk => .inr (by have := Option.some.inj hk; omega))
        have O8 : World.ownsRow _ w0.heap.size 148 2 (.slice va7 T7.attrs.length vc7) T7.attrs.length (aQ8 T7.attrs) := aQj (aZi hO7 hbl6) (fun k hk => hg8.block k (by obtain ⟨cs, hc, _⟩ := aQ4 hO7 hk; exact (gLt hc)) (fun e => by obtain ⟨cs, hc, _⟩ := aQ4 hO7 hk; rw [Option.some.inj e] at hc; exact aQe K7 hc (by decide) rfl))
        have hebk : ∀ nm, E = some nm → eb ≠ w5.heap.size := fun nm hEn e => by
         have h1 := HE0.out
         subst hEn
         obtain ⟨kd, tx, av, hb⟩ := h1
         have := (gLt hb)
         omega
        have E8 : aYp ((((w7.setCell ⟨w5.heap.size, 0, none⟩ (.int .i64 T7.kind)).setCell ⟨w5.heap.size, 1, none⟩ (.string T7.name)).setCell ⟨w5.heap.size, 2, none⟩ (.string T7.text)).setCell ⟨w5.heap.size, 3, none⟩ (.slice va7 T7.attrs.length vc7)) E eb := by
         have h1 := E6.out.fr R6.out S6.out hF7
         cases E with
         | none => trivial
         | some nm =>
          obtain ⟨kd, tx, av, hb⟩ := h1
          exact ⟨kd, tx, av, (hg8.block eb (gLt hb) (fun e => hebk nm rfl (Option.some.inj e))).trans hb⟩
        obtain ⟨hst7, hT7⟩ := aKg HV0.out P5.out.pp P5.out.vb hNX
        have C8 : Hid (Cl w0 W _ r mb g de da s cl E eb D R f w5.heap.size T7 va7 vc7 n' q5 st5 st7) := aQ0 ⟨hNX, G5.out, by have := NF.out; omega, ⟨_, _, R8⟩, S8, F8, K8, O8, E8, P5.out⟩
        have hmu : 2 * (s.size - T7.pos) + (if T7.kind = 0 then 0 else 1) < 2 * (s.size - T.pos) + 1 := by
         have hq := HM.out
         rcases hT7 with h7 | ⟨h7, h8⟩
         · have := h7.lt
           have := h7.sz
           split <;> omega
         · rw [h8]
           simp only
           rw [if_pos trivial]
           omega
        have HMU8 : Hid (2 * (s.size - imAt ((((w7.setCell ⟨w5.heap.size, 0, none⟩ (.int .i64 T7.kind)).setCell ⟨w5.heap.size, 1, none⟩ (.string T7.name)).setCell ⟨w5.heap.size, 2, none⟩ (.string T7.text)).setCell ⟨w5.heap.size, 3, none⟩ (.slice va7 T7.attrs.length vc7)) g) + tkK ((((w7.setCell ⟨w5.heap.size, 0, none⟩ (.int .i64 T7.kind)).setCell ⟨w5.heap.size, 1, none⟩ (.string T7.name)).setCell ⟨w5.heap.size, 2, none⟩ (.string T7.text)).setCell ⟨w5.heap.size, 3, none⟩ (.slice va7 T7.attrs.length vc7)) (.pointer (some ⟨w5.heap.size, 0, none⟩)) < 2 * (s.size - imAt wr g) + tkK wr (.pointer (some ⟨kb, 0, none⟩))) := aQ0 (by
         rw [HMU.out, @aX9 (srcE cl) _ _ _ _ S8, aKx K8, if_neg HK0.out]
         exact hmu)
        clear hR7 hS7 hF7 hO7 hg8 K8 R8 S8 F8 O8 E8 hmu hT7 hst7 hnx
        go_wp2
        go_roundw
        case rel => exact ⟨w5.heap.size, n', q5, st5, st7, T7, va7, vc7, rfl, C8.out⟩
        case measure => exact HMU8.out
    by_cases hk67 : T.kind = 6 ∨ T.kind = 7
    · have hT := HSZ.out (by omega)
      rw [decide_eq_false hk13] at hie
      have hia := fun wx => aKi T.kind T.name T.text (.slice va T.attrs.length vc) wx
      rw [decide_eq_true hk67] at hia
      have HK0 : Hid (T.kind ≠ 0) := aQ0 (by omega)
      have HK67 := aQ0 hk67
      clear hk13 hk67
      go_wp2_with fail
      refine hie.mono ?_
      rintro e w3 ⟨rfl, hbx⟩
      have R3 := aQ0 (R2.out.below hbx)
      have S3 : Hid (aQd w3 g s T.pos cl) := aQ0 (S2.out.keep (hbx.block g S2.out.lt))
      have F3 := aQ0 (F2.out.trans (Fr.below (g := none) hbx) (fun k hk => by cases hk))
      have K3 := aQ0 (K2.out.below hbx)
      have E3 := aQ0 (E2.out.below hbx)
      have O3 : Hid (w3.ownsRow w0.heap.size 148 2 (.slice va T.attrs.length vc) T.attrs.length (aQ8 T.attrs)) := aQ0 (aQj O2.out (fun k hk => hbx.block k (by obtain ⟨cs, hc, _⟩ := aQ4 O2.out hk; exact (gLt hc))))
      obtain ⟨t0, t1, t2, t3, tf⟩ := aQ6 K3.out
      clear hbx tf R2 S2 F2 K2 E2 O2
      clear hie
      go_wp2_with fail
      refine (hia _).mono ?_
      rintro e w4 ⟨rfl, hbx⟩
      have R4 := aQ0 (R3.out.below hbx)
      have S4 : Hid (aQd w4 g s T.pos cl) := aQ0 (S3.out.keep (hbx.block g S3.out.lt))
      have F4 := aQ0 (F3.out.trans (Fr.below (g := none) hbx) (fun k hk => by cases hk))
      have K4 := aQ0 (K3.out.below hbx)
      have E4 := aQ0 (E3.out.below hbx)
      have O4 : Hid (w4.ownsRow w0.heap.size 148 2 (.slice va T.attrs.length vc) T.attrs.length (aQ8 T.attrs)) := aQ0 (aQj O3.out (fun k hk => hbx.block k (by obtain ⟨cs, hc, _⟩ := aQ4 O3.out hk; exact (gLt hc))))
      obtain ⟨t0, t1, t2, t3, tf⟩ := aQ6 K4.out
      clear hbx tf R3 S3 F3 K3 E3 O3
      have has := aside_any (av := .slice va T.attrs.length vc) (T := T) R4.out (by have h1 := A1.out.pot; have h2 := CL.out.pc.pot; unfold pt at h1 h2; omega) (by have h1 := A1.out.pot; have h2 := CL.out.pc.pot; unfold pt at h1 h2; omega)
      clear hia
      go_wp2_with fail
      refine has.mono ?_
      rintro e w5 ⟨rfl, ev5, tx5, hr5, hf5⟩
      have hgo := CL.out.go
      rw [cg_aside CL.out.nx HB.out HK67.out] at hgo
      obtain ⟨st5, hst5⟩ : ∃ st5, bX0 st1 T = st5 := ⟨_, rfl⟩
      have htl : StOk 1 st1 st5 := by rw [← hst5]; exact bX5 A1.out.sp4
      rw [hst5] at hgo hr5
      have hlt := hT.lt
      have C5 : Hid (aYa s p T.pos st st5) := aQ0 ⟨(A1.out.trans htl).le (by omega), by omega, hT.sz, hT.vb⟩
      have HQ : Hid (p < T.pos) := aQ0 hlt
      have HM : Hid (T.pos ≤ T.pos) := aQ0 (Nat.le_refl _)
      have G5 := aQ0 hgo
      have R5 := aQ0 hr5
      have S5 := aQ0 (S4.out.fr R4.out hf5)
      have K5 := aQ0 (K4.out.fr R4.out S4.out hf5 (fun j hj => by cases hj))
      have E5 := aQ0 (E4.out.fr R4.out S4.out ⟨hf5.size, fun k hk a b c d => hf5.keep k hk a b (by simp) d⟩)
      have F5 := aQ0 (F4.out.trans hf5 (fun k hk => by cases hk))
      have HSZ5 := aQ0 F5.out.size
      clear has hr5 hf5 htl hgo hst5 hT hlt R4 S4 F4 K4 E4 O4 A1
      obtain ⟨n', rfl⟩ : ∃ n', n = n' + 1 := ⟨n - 1, by have h1 := (CL.out.pc.on C5.out HQ.out).meas; unfold PlainR.meas at h1; omega⟩
      have P5 := aQ0 (CL.out.pc.on C5.out HQ.out)
      have NF := aQ0 CL.out.nf
      obtain ⟨t0, t1, t2, t3, tf⟩ := aQ6 K5.out
      obtain ⟨W6, hW6⟩ : ∃ W6, w5.alloc (.cells #[.int .i64 T.kind, .string T.name, .string T.text, .slice va T.attrs.length vc] 73) = W6 := ⟨_, rfl⟩
      have HW6 := aQ0 hW6
      have hb6 : Below w5.heap.size w5 W6 := by rw [← hW6]; exact bAl
      have R6 := aQ0 (R5.out.below hb6)
      have S6 : Hid (aQd W6 g s T.pos cl) := aQ0 (S5.out.keep (hb6.block g S5.out.lt))
      have F6 := aQ0 (F5.out.trans (Fr.below (g := none) hb6) (fun k hk => by cases hk))
      have K6 : Hid (aQt W6 w5.heap.size T.kind T.name T.text (.slice va T.attrs.length vc)) := aQ0 (by rw [← hW6]; exact heap_alloc_new _ _)
      have E6 := aQ0 (E5.out.below hb6)
      have hbl6 : w0.heap.size ≤ W6.heap.size := R6.out.bel.size
      have hk6 : w0.heap.size ≤ w5.heap.size := R5.out.bel.size
      have hnx := aVd HC.out R6.out S6.out hg0 P5.out.pp (by omega) HV0.out
      clear hW6 hb6 R5 S5 F5 K5 E5 tf CL
      go_wp2_with fail
      rw [HW6.out]
      refine hnx.mono ?_
      rintro e w7 hP
      obtain ⟨NX, hNX⟩ : ∃ NX, aXt st5 s T.pos cl = NX := ⟨_, rfl⟩
      rw [hNX] at hP
      obtain ⟨st7, oc⟩ := NX
      cases oc with
      | error c =>
       have hRR := G5.out
       rw [bVz hNX] at hRR
       subst hRR
       obtain ⟨he, hrest⟩ := hP
       unfold aQr at he
       subst he
       go_wp2
       exact ⟨rfl, rfl, hrest⟩
      | ok T7 =>
       obtain ⟨av, rfl, hR7, hS7, hF7, hO7⟩ := hP
       obtain ⟨va7, vc7, hv'⟩ := aQh hO7
       subst hv'
       have K7 : aQt w7 w5.heap.size T.kind T.name T.text (.slice va T.attrs.length vc) := K6.out.fr R6.out S6.out hF7 (fun j hj => (Option.some.inj hj).symm)
       obtain ⟨t0, t1, t2, t3, u0, u1, u2, u3⟩ := aQ6 K7
       have hg8 : w7.grownBy ((((w7.setCell ⟨w5.heap.size, 0, none⟩ (.int .i64 T7.kind)).setCell ⟨w5.heap.size, 1, none⟩ (.string T7.name)).setCell ⟨w5.heap.size, 2, none⟩ (.string T7.text)).setCell ⟨w5.heap.size, 3, none⟩ (.slice va7 T7.attrs.length vc7)) (some w5.heap.size) := aQ3 (aQ3 (aQ3 (aQa _) (aQa _)) (aQa _)) (aQa _)
       have K8 : aQt ((((w7.setCell ⟨w5.heap.size, 0, none⟩ (.int .i64 T7.kind)).setCell ⟨w5.heap.size, 1, none⟩ (.string T7.name)).setCell ⟨w5.heap.size, 2, none⟩ (.string T7.text)).setCell ⟨w5.heap.size, 3, none⟩ (.slice va7 T7.attrs.length vc7)) w5.heap.size T7.kind T7.name T7.text (.slice va7 T7.attrs.length vc7) := by
        unfold aQt
        rw [aQ7 (aQ7 (aQ7 (aQ7 K7 _) _) _) _]
        rfl
       have R8 := hR7.off hg8 K7 aKa hk6
       have hgk : g ≠ w5.heap.size := fun e => aQe K7 (aXo hS7) (by decide) e.symm
       have S8 : aQd _ g s T7.pos cl := hS7.keep (hg8.block g hS7.lt (fun e => hgk (Option.some.inj e)))
       have hWk : W.heap.size ≤ w5.heap.size := HSZ5.out
       have F8 := (F6.out.trans hF7 (fun k hk => .inl hk)).trans (Fr.grown (g := some w5.heap.size) hg8 (fun j hj => .inr (.inr (.inl hj.symm)))) (fun k hk => .inr (by have := Option.some.inj hk; omega))
       have O8 : World.ownsRow _ w0.heap.size 148 2 (.slice va7 T7.attrs.length vc7) T7.attrs.length (aQ8 T7.attrs) := aQj (aZi hO7 hbl6) (fun k hk => hg8.block k (by obtain ⟨cs, hc, _⟩ := aQ4 hO7 hk; exact (gLt hc)) (fun e => by obtain ⟨cs, hc, _⟩ := aQ4 hO7 hk; rw [Option.some.inj e] at hc; exact aQe K7 hc (by decide) rfl))
       have hebk : ∀ nm, E = some nm → eb ≠ w5.heap.size := fun nm hEn e => by
        have h1 := HE0.out
        subst hEn
        obtain ⟨kd, tx, av, hb⟩ := h1
        have := (gLt hb)
        omega
       have E8 : aYp ((((w7.setCell ⟨w5.heap.size, 0, none⟩ (.int .i64 T7.kind)).setCell ⟨w5.heap.size, 1, none⟩ (.string T7.name)).setCell ⟨w5.heap.size, 2, none⟩ (.string T7.text)).setCell ⟨w5.heap.size, 3, none⟩ (.slice va7 T7.attrs.length vc7)) E eb := by
        have h1 := E6.out.fr R6.out S6.out hF7
        cases E with
        | none => trivial
        | some nm =>
         obtain ⟨kd, tx, av, hb⟩ := h1
         exact ⟨kd, tx, av, (hg8.block eb (gLt hb) (fun e => hebk nm rfl (Option.some.inj e))).trans hb⟩
       obtain ⟨hst7, hT7⟩ := aKg HV0.out P5.out.pp P5.out.vb hNX
       have C8 : Hid (Cl w0 W _ r mb g de da s cl E eb D R f w5.heap.size T7 va7 vc7 n' T.pos st5 st7) := aQ0 ⟨hNX, G5.out, by have := NF.out; omega, ⟨_, _, R8⟩, S8, F8, K8, O8, E8, P5.out⟩
       have hmu : 2 * (s.size - T7.pos) + (if T7.kind = 0 then 0 else 1) < 2 * (s.size - T.pos) + 1 := by
        have hq := HM.out
        rcases hT7 with h7 | ⟨h7, h8⟩
        · have := h7.lt
          have := h7.sz
          split <;> omega
        · rw [h8]
          simp only
          rw [if_pos trivial]
          omega
       have HMU8 : Hid (2 * (s.size - imAt ((((w7.setCell ⟨w5.heap.size, 0, none⟩ (.int .i64 T7.kind)).setCell ⟨w5.heap.size, 1, none⟩ (.string T7.name)).setCell ⟨w5.heap.size, 2, none⟩ (.string T7.text)).setCell ⟨w5.heap.size, 3, none⟩ (.slice va7 T7.attrs.length vc7)) g) + tkK ((((w7.setCell ⟨w5.heap.size, 0, none⟩ (.int .i64 T7.kind)).setCell ⟨w5.heap.size, 1, none⟩ (.string T7.name)).setCell ⟨w5.heap.size, 2, none⟩ (.string T7.text)).setCell ⟨w5.heap.size, 3, none⟩ (.slice va7 T7.attrs.length vc7)) (.pointer (some ⟨w5.heap.size, 0, none⟩)) < 2 * (s.size - imAt wr g) + tkK wr (.pointer (some ⟨kb, 0, none⟩))) := aQ0 (by
        rw [HMU.out, @aX9 (srcE cl) _ _ _ _ S8, aKx K8, if_neg HK0.out]
        exact hmu)
       clear hR7 hS7 hF7 hO7 hg8 K8 R8 S8 F8 O8 E8 hmu hT7 hst7 hnx
       go_wp2
       go_roundw
       case rel => exact ⟨w5.heap.size, n', T.pos, st5, st7, T7, va7, vc7, rfl, C8.out⟩
       case measure => exact HMU8.out
    by_cases hk4 : T.kind = 4
    · have hT := HSZ.out (by omega)
      rw [decide_eq_false hk13] at hie
      have hia := fun wx => aKi T.kind T.name T.text (.slice va T.attrs.length vc) wx
      rw [decide_eq_false hk67] at hia
      have HK0 : Hid (T.kind ≠ 0) := aQ0 (by omega)
      have hk4b : (T.kind == 4) = true := by simp [hk4]
      have HK4 := aQ0 hk4
      clear hk13 hk67 hk4
      go_wp2_with fail
      refine hie.mono ?_
      rintro e w3 ⟨rfl, hbx⟩
      have R3 := aQ0 (R2.out.below hbx)
      have S3 : Hid (aQd w3 g s T.pos cl) := aQ0 (S2.out.keep (hbx.block g S2.out.lt))
      have F3 := aQ0 (F2.out.trans (Fr.below (g := none) hbx) (fun k hk => by cases hk))
      have K3 := aQ0 (K2.out.below hbx)
      have E3 := aQ0 (E2.out.below hbx)
      have O3 : Hid (w3.ownsRow w0.heap.size 148 2 (.slice va T.attrs.length vc) T.attrs.length (aQ8 T.attrs)) := aQ0 (aQj O2.out (fun k hk => hbx.block k (by obtain ⟨cs, hc, _⟩ := aQ4 O2.out hk; exact (gLt hc))))
      obtain ⟨t0, t1, t2, t3, tf⟩ := aQ6 K3.out
      clear hbx tf R2 S2 F2 K2 E2 O2
      clear hie
      go_wp2_with fail
      refine (hia _).mono ?_
      rintro e w4 ⟨rfl, hbx⟩
      have R4 := aQ0 (R3.out.below hbx)
      have S4 : Hid (aQd w4 g s T.pos cl) := aQ0 (S3.out.keep (hbx.block g S3.out.lt))
      have F4 := aQ0 (F3.out.trans (Fr.below (g := none) hbx) (fun k hk => by cases hk))
      have K4 := aQ0 (K3.out.below hbx)
      have E4 := aQ0 (E3.out.below hbx)
      have O4 : Hid (w4.ownsRow w0.heap.size 148 2 (.slice va T.attrs.length vc) T.attrs.length (aQ8 T.attrs)) := aQ0 (aQj O3.out (fun k hk => hbx.block k (by obtain ⟨cs, hc, _⟩ := aQ4 O3.out hk; exact (gLt hc))))
      obtain ⟨t0, t1, t2, t3, tf⟩ := aQ6 K4.out
      clear hbx tf R3 S3 F3 K3 E3 O3
      have hpa := bZx (tb := 0) (v := false) (EN := entC n) (D := D) (σ := (st1, [])) HC.out ⟨_, _, R4.out, (fun h => by cases h), fun _ => rfl⟩ (by have := hT.text; have := hT.sz; omega) (hT.tv HK4.out) HD.out (entC_ok (aWr HD.out n)) (A1.out.dt.trans CL.out.pc.dt) A1.out.sp4 (by show st1.wi.length ≤ 100000; rw [A1.out.wi]; have := CL.out.pc.wi (by have := hT.lt; have := hT.sz; omega); have := CL.out.pc.sp; omega)
       (by have h1 := A1.out.pot; have h2 := CL.out.pc.pot; have h3 := hT.text; have h4 := hT.sz; show pot (st1, []) + 8 * T.text.size + 8 * (4000 - st1.spent) ≤ 900000; unfold pot; unfold pt at h1 h2; simp only [List.length_nil]; omega)
       (fun h0 => by
        intro σx tx Wx hI hd hs hsx hp hw hdp hv ht
        have hlt := hT.lt
        have hsz := hT.sz
        have hme := CL.out.pc.meas
        have hsp1 := A1.out.sp
        unfold PlainR.meas at hme
        simp only at hs hw hdp
        refine entityC_any (f := n) HC.out hI ht (fun g' Wy hm hry hsy hgy => ?_)
        obtain ⟨ev', tx', hry⟩ := hry
        refine HIH.out n (by have := CL.out.nf; omega) Wy g' tx 0 true σx.1 ev' tx' none 0 hry hsy hgy trivial hv ht (Nat.zero_le _) hv hd hsx (fun h1 => ?_) ?_ ?_ ?_
        · have h2 := CL.out.pc.wi (by omega)
          have h3 := A1.out.wi
          rw [h3] at hw
          omega
        · rw [hdp, A1.out.deep]; exact CL.out.pc.deep
        · have hp' : pot σx + 8 * tx.size + 8 * (4000 - σx.1.spent) ≤ 900000 := hp
          unfold pot at hp'
          unfold pt
          omega
        · unfold PlainR.meas
          omega)
       (fun h => by cases h)
      have htk : tkV false 0 r = .iface 156 (.agg #[.pointer (some ⟨r, 0, none⟩)]) := rfl
      rw [htk] at hpa
      clear hia htk
      go_wp2_with fail
      refine hpa.mono ?_
      rintro e w5 hP
      have hpk := aVy (v := false) (entC_ok (aWr HD.out n)) HD.out (s := T.text) (T.text.size + 1) 0 (st1, []) (Nat.zero_le _) (A1.out.dt.trans CL.out.pc.dt) A1.out.sp4
      obtain ⟨PG, hPG⟩ : ∃ PG, aX5 false (entC n) (T.text.size + 1) T.text 0 (st1, []) = PG := ⟨_, rfl⟩
      have hgo := CL.out.go
      rw [cg_text CL.out.nx HB.out HK4.out, hPG] at hgo
      rw [hPG] at hP hpk
      obtain ⟨σ5, oc⟩ := PG
      cases oc with
      | some c =>
       simp only at hgo
       subst hgo
       obtain ⟨he, hrest⟩ := hP
       unfold aQr at he
       subst he
       go_wp2
       exact ⟨rfl, rfl, hrest⟩
      | none =>
       simp only at hgo
       obtain ⟨rfl, ⟨ev5, tx5, hr5, _, _⟩, hf5⟩ := hP
       have hf5 : Fr w4 w5 r mb none := hf5
       obtain ⟨st5, l5⟩ := σ5
       simp only at hgo hr5
       obtain ⟨a1, a2, a3, a4, a5, a6⟩ := hpk rfl
       unfold pot at a5
       simp only [List.length_nil] at a1 a2 a3 a4 a5 a6
       have hlt := hT.lt
       have htx := hT.text
       have C5 : Hid (aYa s p T.pos st st5) := aQ0 ⟨(A1.out.trans (⟨a1.trans (A1.out.dt.trans CL.out.pc.dt).symm, a2, a6, a3, a4, by unfold pt; omega⟩ : StOk (8 * T.text.size) st1 st5)).le (by omega), by omega, hT.sz, hT.vb⟩
       have HQ : Hid (p < T.pos) := aQ0 hlt
       have HM : Hid (T.pos ≤ T.pos) := aQ0 (Nat.le_refl _)
       have G5 := aQ0 hgo
       have R5 := aQ0 hr5
       have S5 := aQ0 (S4.out.fr R4.out hf5)
       have K5 := aQ0 (K4.out.fr R4.out S4.out hf5 (fun j hj => by cases hj))
       have E5 := aQ0 (E4.out.fr R4.out S4.out ⟨hf5.size, fun k hk a b c d => hf5.keep k hk a b (by simp) d⟩)
       have F5 := aQ0 (F4.out.trans hf5 (fun k hk => by cases hk))
       have HSZ5 := aQ0 F5.out.size
       clear hpa hr5 hf5 hgo hPG hT hlt htx hpk a1 a2 a3 a4 a5 a6 R4 S4 F4 K4 E4 O4 A1
       obtain ⟨n', rfl⟩ : ∃ n', n = n' + 1 := ⟨n - 1, by have h1 := (CL.out.pc.on C5.out HQ.out).meas; unfold PlainR.meas at h1; omega⟩
       have P5 := aQ0 (CL.out.pc.on C5.out HQ.out)
       have NF := aQ0 CL.out.nf
       obtain ⟨t0, t1, t2, t3, tf⟩ := aQ6 K5.out
       obtain ⟨W6, hW6⟩ : ∃ W6, w5.alloc (.cells #[.int .i64 T.kind, .string T.name, .string T.text, .slice va T.attrs.length vc] 73) = W6 := ⟨_, rfl⟩
       have HW6 := aQ0 hW6
       have hb6 : Below w5.heap.size w5 W6 := by rw [← hW6]; exact bAl
       have R6 := aQ0 (R5.out.below hb6)
       have S6 : Hid (aQd W6 g s T.pos cl) := aQ0 (S5.out.keep (hb6.block g S5.out.lt))
       have F6 := aQ0 (F5.out.trans (Fr.below (g := none) hb6) (fun k hk => by cases hk))
       have K6 : Hid (aQt W6 w5.heap.size T.kind T.name T.text (.slice va T.attrs.length vc)) := aQ0 (by rw [← hW6]; exact heap_alloc_new _ _)
       have E6 := aQ0 (E5.out.below hb6)
       have hbl6 : w0.heap.size ≤ W6.heap.size := R6.out.bel.size
       have hk6 : w0.heap.size ≤ w5.heap.size := R5.out.bel.size
       have hnx := aVd HC.out R6.out S6.out hg0 P5.out.pp (by omega) HV0.out
       clear hW6 hb6 R5 S5 F5 K5 E5 tf CL
       go_wp2_with fail
       rw [HW6.out]
       refine hnx.mono ?_
       rintro e w7 hP
       obtain ⟨NX, hNX⟩ : ∃ NX, aXt st5 s T.pos cl = NX := ⟨_, rfl⟩
       rw [hNX] at hP
       obtain ⟨st7, oc⟩ := NX
       cases oc with
       | error c =>
        have hRR := G5.out
        rw [bVz hNX] at hRR
        subst hRR
        obtain ⟨he, hrest⟩ := hP
        unfold aQr at he
        subst he
        go_wp2
        exact ⟨rfl, rfl, hrest⟩
       | ok T7 =>
        obtain ⟨av, rfl, hR7, hS7, hF7, hO7⟩ := hP
        obtain ⟨va7, vc7, hv'⟩ := aQh hO7
        subst hv'
        have K7 : aQt w7 w5.heap.size T.kind T.name T.text (.slice va T.attrs.length vc) := K6.out.fr R6.out S6.out hF7 (fun j hj => (Option.some.inj hj).symm)
        obtain ⟨t0, t1, t2, t3, u0, u1, u2, u3⟩ := aQ6 K7
        have hg8 : w7.grownBy ((((w7.setCell ⟨w5.heap.size, 0, none⟩ (.int .i64 T7.kind)).setCell ⟨w5.heap.size, 1, none⟩ (.string T7.name)).setCell ⟨w5.heap.size, 2, none⟩ (.string T7.text)).setCell ⟨w5.heap.size, 3, none⟩ (.slice va7 T7.attrs.length vc7)) (some w5.heap.size) := aQ3 (aQ3 (aQ3 (aQa _) (aQa _)) (aQa _)) (aQa _)
        have K8 : aQt ((((w7.setCell ⟨w5.heap.size, 0, none⟩ (.int .i64 T7.kind)).setCell ⟨w5.heap.size, 1, none⟩ (.string T7.name)).setCell ⟨w5.heap.size, 2, none⟩ (.string T7.text)).setCell ⟨w5.heap.size, 3, none⟩ (.slice va7 T7.attrs.length vc7)) w5.heap.size T7.kind T7.name T7.text (.slice va7 T7.attrs.length vc7) := by
         unfold aQt
         rw [aQ7 (aQ7 (aQ7 (aQ7 K7 _) _) _) _]
         rfl
        have R8 := hR7.off hg8 K7 aKa hk6
        have hgk : g ≠ w5.heap.size := fun e => aQe K7 (aXo hS7) (by decide) e.symm
        have S8 : aQd _ g s T7.pos cl := hS7.keep (hg8.block g hS7.lt (fun e => hgk (Option.some.inj e)))
        have hWk : W.heap.size ≤ w5.heap.size := HSZ5.out
        have F8 := (F6.out.trans hF7 (fun k hk => .inl hk)).trans (Fr.grown (g := some w5.heap.size) hg8 (fun j hj => .inr (.inr (.inl hj.symm)))) (fun k hk => .inr (by have := Option.some.inj hk; omega))
        have O8 : World.ownsRow _ w0.heap.size 148 2 (.slice va7 T7.attrs.length vc7) T7.attrs.length (aQ8 T7.attrs) := aQj (aZi hO7 hbl6) (fun k hk => hg8.block k (by obtain ⟨cs, hc, _⟩ := aQ4 hO7 hk; exact (gLt hc)) (fun e => by obtain ⟨cs, hc, _⟩ := aQ4 hO7 hk; rw [Option.some.inj e] at hc; exact aQe K7 hc (by decide) rfl))
        have hebk : ∀ nm, E = some nm → eb ≠ w5.heap.size := fun nm hEn e => by
         have h1 := HE0.out
         subst hEn
         obtain ⟨kd, tx, av, hb⟩ := h1
         have := (gLt hb)
         omega
        have E8 : aYp ((((w7.setCell ⟨w5.heap.size, 0, none⟩ (.int .i64 T7.kind)).setCell ⟨w5.heap.size, 1, none⟩ (.string T7.name)).setCell ⟨w5.heap.size, 2, none⟩ (.string T7.text)).setCell ⟨w5.heap.size, 3, none⟩ (.slice va7 T7.attrs.length vc7)) E eb := by
         have h1 := E6.out.fr R6.out S6.out hF7
         cases E with
         | none => trivial
         | some nm =>
          obtain ⟨kd, tx, av, hb⟩ := h1
          exact ⟨kd, tx, av, (hg8.block eb (gLt hb) (fun e => hebk nm rfl (Option.some.inj e))).trans hb⟩
        obtain ⟨hst7, hT7⟩ := aKg HV0.out P5.out.pp P5.out.vb hNX
        have C8 : Hid (Cl w0 W _ r mb g de da s cl E eb D R f w5.heap.size T7 va7 vc7 n' T.pos st5 st7) := aQ0 ⟨hNX, G5.out, by have := NF.out; omega, ⟨_, _, R8⟩, S8, F8, K8, O8, E8, P5.out⟩
        have hmu : 2 * (s.size - T7.pos) + (if T7.kind = 0 then 0 else 1) < 2 * (s.size - T.pos) + 1 := by
         have hq := HM.out
         rcases hT7 with h7 | ⟨h7, h8⟩
         · have := h7.lt
           have := h7.sz
           split <;> omega
         · rw [h8]
           simp only
           rw [if_pos trivial]
           omega
        have HMU8 : Hid (2 * (s.size - imAt ((((w7.setCell ⟨w5.heap.size, 0, none⟩ (.int .i64 T7.kind)).setCell ⟨w5.heap.size, 1, none⟩ (.string T7.name)).setCell ⟨w5.heap.size, 2, none⟩ (.string T7.text)).setCell ⟨w5.heap.size, 3, none⟩ (.slice va7 T7.attrs.length vc7)) g) + tkK ((((w7.setCell ⟨w5.heap.size, 0, none⟩ (.int .i64 T7.kind)).setCell ⟨w5.heap.size, 1, none⟩ (.string T7.name)).setCell ⟨w5.heap.size, 2, none⟩ (.string T7.text)).setCell ⟨w5.heap.size, 3, none⟩ (.slice va7 T7.attrs.length vc7)) (.pointer (some ⟨w5.heap.size, 0, none⟩)) < 2 * (s.size - imAt wr g) + tkK wr (.pointer (some ⟨kb, 0, none⟩))) := aQ0 (by
         rw [HMU.out, @aX9 (srcE cl) _ _ _ _ S8, aKx K8, if_neg HK0.out]
         exact hmu)
        clear hR7 hS7 hF7 hO7 hg8 K8 R8 S8 F8 O8 E8 hmu hT7 hst7 hnx
        go_wp2
        go_roundw
        case rel => exact ⟨w5.heap.size, n', T.pos, st5, st7, T7, va7, vc7, rfl, C8.out⟩
        case measure => exact HMU8.out
    by_cases hk5 : T.kind = 5
    · have hT := HSZ.out (by omega)
      rw [decide_eq_false hk13] at hie
      have hia := fun wx => aKi T.kind T.name T.text (.slice va T.attrs.length vc) wx
      rw [decide_eq_false hk67] at hia
      have HK0 : Hid (T.kind ≠ 0) := aQ0 (by omega)
      have hk4b : (T.kind == 4) = false := by simpa using hk4
      have hk5b : (T.kind == 5) = true := by simp [hk5]
      have HK5 := aQ0 hk5
      clear hk13 hk67 hk4 hk5
      go_wp2_with fail
      refine hie.mono ?_
      rintro e w3 ⟨rfl, hbx⟩
      have R3 := aQ0 (R2.out.below hbx)
      have S3 : Hid (aQd w3 g s T.pos cl) := aQ0 (S2.out.keep (hbx.block g S2.out.lt))
      have F3 := aQ0 (F2.out.trans (Fr.below (g := none) hbx) (fun k hk => by cases hk))
      have K3 := aQ0 (K2.out.below hbx)
      have E3 := aQ0 (E2.out.below hbx)
      have O3 : Hid (w3.ownsRow w0.heap.size 148 2 (.slice va T.attrs.length vc) T.attrs.length (aQ8 T.attrs)) := aQ0 (aQj O2.out (fun k hk => hbx.block k (by obtain ⟨cs, hc, _⟩ := aQ4 O2.out hk; exact (gLt hc))))
      obtain ⟨t0, t1, t2, t3, tf⟩ := aQ6 K3.out
      clear hbx tf R2 S2 F2 K2 E2 O2
      clear hie
      go_wp2_with fail
      refine (hia _).mono ?_
      rintro e w4 ⟨rfl, hbx⟩
      have R4 := aQ0 (R3.out.below hbx)
      have S4 : Hid (aQd w4 g s T.pos cl) := aQ0 (S3.out.keep (hbx.block g S3.out.lt))
      have F4 := aQ0 (F3.out.trans (Fr.below (g := none) hbx) (fun k hk => by cases hk))
      have K4 := aQ0 (K3.out.below hbx)
      have E4 := aQ0 (E3.out.below hbx)
      have O4 : Hid (w4.ownsRow w0.heap.size 148 2 (.slice va T.attrs.length vc) T.attrs.length (aQ8 T.attrs)) := aQ0 (aQj O3.out (fun k hk => hbx.block k (by obtain ⟨cs, hc, _⟩ := aQ4 O3.out hk; exact (gLt hc))))
      obtain ⟨t0, t1, t2, t3, tf⟩ := aQ6 K4.out
      clear hbx tf R3 S3 F3 K3 E3 O3
      clear hia
      obtain ⟨i0, hi, hz0, hz1, hz2⟩ := info_parts rowU8
      obtain ⟨at', ct, htx⟩ := aQh R4.out.txt
      subst htx
      obtain ⟨⟨c0, c1, c2, c3, c4, c5, c6, c7⟩, f0, f1, f2, f3, f4, f5, f7⟩ := R4.out.cells
      have hbs := R4.out.bel.size
      have ROW := aQ0 R4.out.txt.drew
      have RD := aQ0 (R4.out.below ((Below.refl w4.heap.size w4).drew))
      have hts := hT.text
      have htsz := hT.sz
      have htl : st1.txt.length ≤ 900000 := by have h1 := A1.out.pot; have h2 := CL.out.pc.pot; unfold pt at h1 h2; omega
      clear c0 c1 c2 c4 c5 c6 c7 f0 f1 f2 f4 f5 f7
      go_wp2_with fail
      go_region_law (refine aKb rfl (.tmp 51) (.tmp 53) 22 9 rfl w0.heap.size 5 i0 Tryz.underlying22 Tryz.underlying9 hi hz0 hz1 hz2 (.slice at' st1.txt.length ct) st1.txt.length _ (by simp [Act.eval]) ROW.out T.text (by simp [Act.eval]) (by unfold maxLen; omega) (by omega) hbs ?_; intro v' wa hoa hga; obtain ⟨ao', cv', hv'⟩ := aQh hoa; subst hv'; obtain ⟨d2, d3, e2, e3⟩ := RD.out.cellsOf ROW.out hga (by decide); replace hoa := aQ0 hoa; replace hga := aQ0 hga)
      all_goals
       obtain ⟨a1, a2⟩ := RD.out.addTx hga.out (l := T.text.data.toList) (v' := .slice ao' (st1.txt.length + T.text.size) cv') (by rw [List.length_append, bZ4, List.map_append, ← aYk, Array.length_toList]; exact hoa.out)
       obtain ⟨w5, hw5⟩ : ∃ w5, wa.setCell ⟨r, 3, none⟩ (.slice ao' (st1.txt.length + T.text.size) cv') = w5 := ⟨_, rfl⟩
       rw [hw5] at a1 a2
       first | rw [hw5] | (simp only [hw5])
       have hgo := CL.out.go
       rw [cg_cdata CL.out.nx HB.out HK5.out] at hgo
       obtain ⟨st5, hst5⟩ : ∃ st5, ({ st1 with txt := st1.txt ++ T.text.data.toList } : Rs) = st5 := ⟨_, rfl⟩
       have hl : T.text.data.toList.length = T.text.size := Array.length_toList
       have htl : StOk T.text.size st1 st5 := by rw [← hst5]; exact ⟨rfl, rfl, rfl, Nat.le_refl _, A1.out.sp4, by unfold pt; simp only [List.length_append]; omega⟩
       rw [hst5] at hgo a1
       have hlt := hT.lt
       have hf5 : Fr w4 w5 r mb none := (Fr.below (g := none) ((Below.refl w4.heap.size w4).drew)).trans a2 (fun k hk => by cases hk)
       have C5 : Hid (aYa s p T.pos st st5) := aQ0 ⟨(A1.out.trans htl).le (by omega), by omega, hT.sz, hT.vb⟩
       have HQ : Hid (p < T.pos) := aQ0 hlt
       have HM : Hid (T.pos ≤ T.pos) := aQ0 (Nat.le_refl _)
       have G5 := aQ0 hgo
       have R5 := aQ0 a1
       have S5 := aQ0 (S4.out.fr R4.out hf5)
       have K5 := aQ0 (K4.out.fr R4.out S4.out hf5 (fun j hj => by cases hj))
       have E5 := aQ0 (E4.out.fr R4.out S4.out ⟨hf5.size, fun k hk a b c d => hf5.keep k hk a b (by simp) d⟩)
       have F5 := aQ0 (F4.out.trans hf5 (fun k hk => by cases hk))
       have HSZ5 := aQ0 F5.out.size
       clear a1 a2 hf5 htl hgo hst5 hT hlt hl hw5 hoa hga R4 S4 F4 K4 E4 O4 A1 ROW RD d2 d3 e2 e3 c3 f3
       obtain ⟨n', rfl⟩ : ∃ n', n = n' + 1 := ⟨n - 1, by have h1 := (CL.out.pc.on C5.out HQ.out).meas; unfold PlainR.meas at h1; omega⟩
       have P5 := aQ0 (CL.out.pc.on C5.out HQ.out)
       have NF := aQ0 CL.out.nf
       obtain ⟨t0, t1, t2, t3, tf⟩ := aQ6 K5.out
       obtain ⟨W6, hW6⟩ : ∃ W6, w5.alloc (.cells #[.int .i64 T.kind, .string T.name, .string T.text, .slice va T.attrs.length vc] 73) = W6 := ⟨_, rfl⟩
       have HW6 := aQ0 hW6
       have hb6 : Below w5.heap.size w5 W6 := by rw [← hW6]; exact bAl
       have R6 := aQ0 (R5.out.below hb6)
       have S6 : Hid (aQd W6 g s T.pos cl) := aQ0 (S5.out.keep (hb6.block g S5.out.lt))
       have F6 := aQ0 (F5.out.trans (Fr.below (g := none) hb6) (fun k hk => by cases hk))
       have K6 : Hid (aQt W6 w5.heap.size T.kind T.name T.text (.slice va T.attrs.length vc)) := aQ0 (by rw [← hW6]; exact heap_alloc_new _ _)
       have E6 := aQ0 (E5.out.below hb6)
       have hbl6 : w0.heap.size ≤ W6.heap.size := R6.out.bel.size
       have hk6 : w0.heap.size ≤ w5.heap.size := R5.out.bel.size
       have hnx := aVd HC.out R6.out S6.out hg0 P5.out.pp (by omega) HV0.out
       clear hW6 hb6 R5 S5 F5 K5 E5 tf CL
       go_wp2_with fail
       rw [HW6.out]
       refine hnx.mono ?_
       rintro e w7 hP
       obtain ⟨NX, hNX⟩ : ∃ NX, aXt st5 s T.pos cl = NX := ⟨_, rfl⟩
       rw [hNX] at hP
       obtain ⟨st7, oc⟩ := NX
       cases oc with
       | error c =>
        have hRR := G5.out
        rw [bVz hNX] at hRR
        subst hRR
        obtain ⟨he, hrest⟩ := hP
        unfold aQr at he
        subst he
        go_wp2
        exact ⟨rfl, rfl, hrest⟩
       | ok T7 =>
        obtain ⟨av, rfl, hR7, hS7, hF7, hO7⟩ := hP
        obtain ⟨va7, vc7, hv'⟩ := aQh hO7
        subst hv'
        have K7 : aQt w7 w5.heap.size T.kind T.name T.text (.slice va T.attrs.length vc) := K6.out.fr R6.out S6.out hF7 (fun j hj => (Option.some.inj hj).symm)
        obtain ⟨t0, t1, t2, t3, u0, u1, u2, u3⟩ := aQ6 K7
        have hg8 : w7.grownBy ((((w7.setCell ⟨w5.heap.size, 0, none⟩ (.int .i64 T7.kind)).setCell ⟨w5.heap.size, 1, none⟩ (.string T7.name)).setCell ⟨w5.heap.size, 2, none⟩ (.string T7.text)).setCell ⟨w5.heap.size, 3, none⟩ (.slice va7 T7.attrs.length vc7)) (some w5.heap.size) := aQ3 (aQ3 (aQ3 (aQa _) (aQa _)) (aQa _)) (aQa _)
        have K8 : aQt ((((w7.setCell ⟨w5.heap.size, 0, none⟩ (.int .i64 T7.kind)).setCell ⟨w5.heap.size, 1, none⟩ (.string T7.name)).setCell ⟨w5.heap.size, 2, none⟩ (.string T7.text)).setCell ⟨w5.heap.size, 3, none⟩ (.slice va7 T7.attrs.length vc7)) w5.heap.size T7.kind T7.name T7.text (.slice va7 T7.attrs.length vc7) := by
         unfold aQt
         rw [aQ7 (aQ7 (aQ7 (aQ7 K7 _) _) _) _]
         rfl
        have R8 := hR7.off hg8 K7 aKa hk6
        have hgk : g ≠ w5.heap.size := fun e => aQe K7 (aXo hS7) (by decide) e.symm
        have S8 : aQd _ g s T7.pos cl := hS7.keep (hg8.block g hS7.lt (fun e => hgk (Option.some.inj e)))
        have hWk : W.heap.size ≤ w5.heap.size := HSZ5.out
        have F8 := (F6.out.trans hF7 (fun k hk => .inl hk)).trans (Fr.grown (g := some w5.heap.size) hg8 (fun j hj => .inr (.inr (.inl hj.symm)))) (fun k hk => .inr (by have := Option.some.inj hk; omega))
        have O8 : World.ownsRow _ w0.heap.size 148 2 (.slice va7 T7.attrs.length vc7) T7.attrs.length (aQ8 T7.attrs) := aQj (aZi hO7 hbl6) (fun k hk => hg8.block k (by obtain ⟨cs, hc, _⟩ := aQ4 hO7 hk; exact (gLt hc)) (fun e => by obtain ⟨cs, hc, _⟩ := aQ4 hO7 hk; rw [Option.some.inj e] at hc; exact aQe K7 hc (by decide) rfl))
        have hebk : ∀ nm, E = some nm → eb ≠ w5.heap.size := fun nm hEn e => by
         have h1 := HE0.out
         subst hEn
         obtain ⟨kd, tx, av, hb⟩ := h1
         have := (gLt hb)
         omega
        have E8 : aYp ((((w7.setCell ⟨w5.heap.size, 0, none⟩ (.int .i64 T7.kind)).setCell ⟨w5.heap.size, 1, none⟩ (.string T7.name)).setCell ⟨w5.heap.size, 2, none⟩ (.string T7.text)).setCell ⟨w5.heap.size, 3, none⟩ (.slice va7 T7.attrs.length vc7)) E eb := by
         have h1 := E6.out.fr R6.out S6.out hF7
         cases E with
         | none => trivial
         | some nm =>
          obtain ⟨kd, tx, av, hb⟩ := h1
          exact ⟨kd, tx, av, (hg8.block eb (gLt hb) (fun e => hebk nm rfl (Option.some.inj e))).trans hb⟩
        obtain ⟨hst7, hT7⟩ := aKg HV0.out P5.out.pp P5.out.vb hNX
        have C8 : Hid (Cl w0 W _ r mb g de da s cl E eb D R f w5.heap.size T7 va7 vc7 n' T.pos st5 st7) := aQ0 ⟨hNX, G5.out, by have := NF.out; omega, ⟨_, _, R8⟩, S8, F8, K8, O8, E8, P5.out⟩
        have hmu : 2 * (s.size - T7.pos) + (if T7.kind = 0 then 0 else 1) < 2 * (s.size - T.pos) + 1 := by
         have hq := HM.out
         rcases hT7 with h7 | ⟨h7, h8⟩
         · have := h7.lt
           have := h7.sz
           split <;> omega
         · rw [h8]
           simp only
           rw [if_pos trivial]
           omega
        have HMU8 : Hid (2 * (s.size - imAt ((((w7.setCell ⟨w5.heap.size, 0, none⟩ (.int .i64 T7.kind)).setCell ⟨w5.heap.size, 1, none⟩ (.string T7.name)).setCell ⟨w5.heap.size, 2, none⟩ (.string T7.text)).setCell ⟨w5.heap.size, 3, none⟩ (.slice va7 T7.attrs.length vc7)) g) + tkK ((((w7.setCell ⟨w5.heap.size, 0, none⟩ (.int .i64 T7.kind)).setCell ⟨w5.heap.size, 1, none⟩ (.string T7.name)).setCell ⟨w5.heap.size, 2, none⟩ (.string T7.text)).setCell ⟨w5.heap.size, 3, none⟩ (.slice va7 T7.attrs.length vc7)) (.pointer (some ⟨w5.heap.size, 0, none⟩)) < 2 * (s.size - imAt wr g) + tkK wr (.pointer (some ⟨kb, 0, none⟩))) := aQ0 (by
         rw [HMU.out, @aX9 (srcE cl) _ _ _ _ S8, aKx K8, if_neg HK0.out]
         exact hmu)
        clear hR7 hS7 hF7 hO7 hg8 K8 R8 S8 F8 O8 E8 hmu hT7 hst7 hnx
        go_wp2
        go_roundw
        case rel => exact ⟨w5.heap.size, n', T.pos, st5, st7, T7, va7, vc7, rfl, C8.out⟩
        case measure => exact HMU8.out
    · rw [decide_eq_false hk13] at hie
      have hia := fun wx => aKi T.kind T.name T.text (.slice va T.attrs.length vc) wx
      rw [decide_eq_false hk67] at hia
      have hk4b : (T.kind == 4) = false := by simpa using hk4
      have hk5b : (T.kind == 5) = false := by simpa using hk5
      have hRR := CL.out.go
      rw [cg_no CL.out.nx HB.out (fun h => hk13 (.inl h)) (fun h => hk13 (.inr h)) (fun h => hk67 (.inl h)) (fun h => hk67 (.inr h)) hk4 hk5] at hRR
      have hfail := fun wx => aX3 (.pointer (some ⟨r, 0, none⟩)) 3 wx
      clear hk13 hk67 hk4 hk5
      go_wp2_with fail
      refine hie.mono ?_
      rintro e w3 ⟨rfl, hbx⟩
      have R3 := aQ0 (R2.out.below hbx)
      have S3 : Hid (aQd w3 g s T.pos cl) := aQ0 (S2.out.keep (hbx.block g S2.out.lt))
      have F3 := aQ0 (F2.out.trans (Fr.below (g := none) hbx) (fun k hk => by cases hk))
      have K3 := aQ0 (K2.out.below hbx)
      have E3 := aQ0 (E2.out.below hbx)
      have O3 : Hid (w3.ownsRow w0.heap.size 148 2 (.slice va T.attrs.length vc) T.attrs.length (aQ8 T.attrs)) := aQ0 (aQj O2.out (fun k hk => hbx.block k (by obtain ⟨cs, hc, _⟩ := aQ4 O2.out hk; exact (gLt hc))))
      obtain ⟨t0, t1, t2, t3, tf⟩ := aQ6 K3.out
      clear hbx tf R2 S2 F2 K2 E2 O2
      clear hie
      go_wp2_with fail
      refine (hia _).mono ?_
      rintro e w4 ⟨rfl, hbx⟩
      have R4 := aQ0 (R3.out.below hbx)
      have S4 : Hid (aQd w4 g s T.pos cl) := aQ0 (S3.out.keep (hbx.block g S3.out.lt))
      have F4 := aQ0 (F3.out.trans (Fr.below (g := none) hbx) (fun k hk => by cases hk))
      have K4 := aQ0 (K3.out.below hbx)
      have E4 := aQ0 (E3.out.below hbx)
      have O4 : Hid (w4.ownsRow w0.heap.size 148 2 (.slice va T.attrs.length vc) T.attrs.length (aQ8 T.attrs)) := aQ0 (aQj O3.out (fun k hk => hbx.block k (by obtain ⟨cs, hc, _⟩ := aQ4 O3.out hk; exact (gLt hc))))
      obtain ⟨t0, t1, t2, t3, tf⟩ := aQ6 K4.out
      clear hbx tf R3 S3 F3 K3 E3 O3
      clear hia
      go_wp2_with fail
      refine (hfail _).mono ?_
      rintro e w5 ⟨he, rfl⟩
      unfold aQr at he
      subst he
      go_wp2
      rw [← hRR]
      exact ⟨rfl, R4.out.fell 3⟩
theorem content_any {w0 : World} {r mb : Nat} {de da : Value} {D : Dt} {m : Int} (hctx : Ctx w0 m) (hD : DOk D) (hA : AOk D) (f : Nat) : ConC w0 r mb de da D f :=
 Nat.strongRecOn f fun f IH => content_step hctx hD hA IH
end Go.Proofs.YtdblemolaojebaaGreatDoor
