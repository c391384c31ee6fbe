import Derived.Test.YtdblemolaojebaaGreatDoorRaD
set_option maxRecDepth 100000
set_option maxHeartbeats 8000000
set_option linter.unusedVariables false
set_option linter.unusedSectionVars false
namespace Go.Proofs.YtdblemolaojebaaGreatDoor
open Go.RowKit Strs Strs2 Lists Plain5 Plain6 Plain9 Plain10 Plain11 Plain23 Plain27 PlainR Go.Lib Ents
variable [Inhabited aJ5]
theorem aQu {P : Program} {f : FuncId} {fn : Func} {c : Code} (hf : P.funcs[f]? = some fn) (hname : (fn.name == "runtime.NumGoroutine") = false) (hb : fn.body = some c) (args : Array Value) (w : World) : (callFunc f args).run P w = .ok (.enter f args) w := by
 have h1 : fn.name ≠ "runtime.NumGoroutine" := by simpa using hname
 simp [callFunc, hf, h1, hb]
theorem tk_form (v : Bool) (tb r : Nat) : ∃ ty rv, tkV v tb r = .iface ty rv ∧ (∀ w, (Go.method 424 ty rv "loop.example/g00352/impl.plain").run Tryz.prog w = .ok (fnP v, rcv v tb r) w) ∧ (∀ w, (Go.method 424 ty rv "loop.example/g00352/impl.sign").run Tryz.prog w = .ok (fnS v, rcv v tb r) w) ∧ (∀ args w, (callFunc (fnP v) args).run Tryz.prog w = .ok (.enter (fnP v) args) w) ∧ (∀ args w, (callFunc (fnS v) args).run Tryz.prog w = .ok (.enter (fnS v) args) w) := by
 cases v with
 | true => exact ⟨_, _, rfl, fun w => mthPV _ w, fun w => mthSV _ w, fun a w => aQu Tryz.func200 (by kernel_rfl) rfl a w, fun a w => aQu Tryz.func201 (by kernel_rfl) rfl a w⟩
 | false => exact ⟨_, _, rfl, fun w => mthPC _ w, fun w => mthSC _ w, fun a w => aQu Tryz.func191 (by kernel_rfl) rfl a w, fun a w => aQu Tryz.func192 (by kernel_rfl) rfl a w⟩
theorem encB_ne (c : Int) : (encB c == ([] : List UInt8)) = false := by
 unfold encB Utf8.encode
 simp only
 repeat' split
 all_goals rfl
theorem ref_name {s : ByteArray} {p q : Nat} {nm : ByteArray} (h : refZ s p = some (.inr nm, q)) : 1 ≤ nm.size ∧ nm.size ≤ 60 := by
 unfold refZ at h
 split at h
 · cases hn : numZ s (p + 2) with
   | none => rw [hn] at h; cases h
   | some x => rw [hn] at h; simp at h
 · unfold bQn at h
   split at h
   · rename_i hf
     obtain ⟨h1, h2, h3, h4⟩ := aJg hf.1
     simp at h
     have : nm.size = aXw s (p + 1) := by
      rw [← h.1]
      unfold nmT
      rw [aX7 (by omega)]
      omega
     omega
   · cases h
theorem bKf {w0 W W' : World} {r mb tb gs : Nat} {de da : Value} {v : Bool} {σ : Sg} {s : ByteArray} {p : Nat} (h : bXl W gs s p) (hI : Inv w0 W r mb tb de da v σ) (hF : Fr W W' r mb (gv v tb)) (ht : v = true → tb ≠ gs) : bXl W' gs s p := by
 obtain ⟨ev, tx, hr, _, _⟩ := hI
 exact hF.block (bZs h) (by decide) (by decide) (aQe (bZs h) hr.box (by decide)) (aJb (bZs h) hr.map) (fun e => by
  unfold gv at e
  cases v with
  | true => exact ht rfl (Option.some.inj e).symm
  | false => simp at e)
theorem bQd {v : Bool} {σ : Sg} {l : List UInt8} : (aWg v σ l).1.dt = σ.1.dt ∧ (aWg v σ l).1.spent = σ.1.spent ∧ (aWg v σ l).1.wi = σ.1.wi ∧ pot (aWg v σ l) = pot σ + l.length := by
 unfold aWg pot
 cases v <;> simp <;> omega
theorem bVn : ∀ (l r : List UInt8), aJ7 l = some r → r.length = l.length
 | [], r, h => by simp [aJ7] at h; subst h; rfl
 | c :: l, r, h => by
  unfold aJ7 at h
  split at h
  · cases h
  · cases hl : aJ7 l with
    | none => rw [hl] at h; cases h
    | some x =>
     rw [hl] at h
     simp at h
     subst h
     simp [bVn l x hl]
theorem bVo {v : Bool} {σ σ' : Sg} {l : List UInt8} (h : aKf v σ l = some σ') : σ'.1.dt = σ.1.dt ∧ σ'.1.spent = σ.1.spent ∧ σ'.1.wi = σ.1.wi ∧ pot σ' = pot σ + l.length := by
 unfold aKf at h
 cases v with
 | true =>
  rw [if_pos rfl] at h
  cases hl : aJ7 l with
  | none => rw [hl] at h; cases h
  | some x =>
   rw [hl] at h
   have := bVn l x hl
   simp at h
   subst h
   unfold pot
   simp
   omega
 | false =>
  rw [if_neg (by simp)] at h
  simp at h
  subst h
  unfold pot
  simp
  omega
theorem aYf {v : Bool} {σ : Sg} {l : List UInt8} : (aWg v σ l).1.deep = σ.1.deep := by unfold aWg; split <;> rfl
theorem bZw {v : Bool} {σ σ' : Sg} {l : List UInt8} (h : aKf v σ l = some σ') : σ'.1.deep = σ.1.deep := by
 unfold aKf at h
 split at h
 · cases hl : aJ7 l with
   | none => rw [hl] at h; cases h
   | some x => rw [hl] at h; simp at h; subst h; rfl
 · cases h; rfl
def bVm (v : Bool) : Nat := if v = true then 1000000 else 900000
theorem bZu (v : Bool) : bVm v ≤ 1000000 := by unfold bVm; split <;> omega
def EnCalls (w0 : World) (r mb tb : Nat) (de da : Value) (v : Bool) (D : Dt) (sp0 wl dp : Nat) (EN : Sg → ByteArray → Sg × Option Int) : Prop :=
 ∀ σx tx Wx, Inv w0 Wx r mb tb de da v σx → σx.1.dt = D → sp0 + tx.size ≤ σx.1.spent → σx.1.spent ≤ 4000 → pot σx + 8 * tx.size + 8 * (4000 - σx.1.spent) ≤ bVm v → σx.1.wi.length ≤ wl + 1 → σx.1.deep = dp → VB tx 0 → tx.size ≤ 4000 →
  Calls Tryz.prog (fnE v) #[rcv v tb r, .string tx] Wx fun e W' => bX2 w0 Wx r mb tb de da v (EN σx tx) e W'
structure Pl (w0 W wr : World) (r mb tb gs : Nat) (de da : Value) (v : Bool) (D : Dt) (sp0 wl dp : Nat) (s : ByteArray) (p : Nat) (σ : Sg) : Prop where
 inv : Inv w0 wr r mb tb de da v σ
 sc : bXl wr gs s p
 fr : Fr W wr r mb (gv v tb)
 dt : σ.1.dt = D
 sp : sp0 ≤ σ.1.spent
 sp4 : σ.1.spent ≤ 4000
 wi : σ.1.wi.length = wl
 pot : pot σ + 8 * (s.size - p) + 8 * (4000 - σ.1.spent) ≤ bVm v
 dp : σ.1.deep = dp
theorem bZx {w0 W : World} {r mb tb : Nat} {de da : Value} {v : Bool} {σ : Sg} {s : ByteArray} {EN : Sg → ByteArray → Sg × Option Int} {D : Dt} {m : Int} (hctx : Ctx w0 m) (h : Inv w0 W r mb tb de da v σ) (hs : s.size ≤ 4000) (hv : VB s 0) (hD : DOk D) (hEok : EnOk D EN) (hdt : σ.1.dt = D) (hsp : σ.1.spent ≤ 4000) (hwl : σ.1.wi.length ≤ 100000) (hpot : pot σ + 8 * s.size + 8 * (4000 - σ.1.spent) ≤ bVm v)
 (hEN : 0 < s.size → EnCalls w0 r mb tb de da v D σ.1.spent σ.1.wi.length σ.1.deep EN) (htb : v = true → tb < W.heap.size) :
 Calls Tryz.prog 79 #[.pointer (some ⟨r, 0, none⟩), .string s, tkV v tb r] W fun e W' => bX2 w0 W r mb tb de da v (aX5 v EN (s.size + 1) s 0 σ) e W' := by
 obtain ⟨R, hR⟩ : ∃ R, aX5 v EN (s.size + 1) s 0 σ = R := ⟨_, rfl⟩
 rw [hR]
 have HR := aQ0 hR
 have hb0 := h.bel.size
 have hB1 : Below W.heap.size W (W.alloc (.cells #[.string s, .int .i64 0] 58)) := bAl
 have P0 : Hid (Pl w0 W (W.alloc (.cells #[.string s, .int .i64 0] 58)) r mb tb W.heap.size de da v D σ.1.spent σ.1.wi.length σ.1.deep s 0 σ) := aQ0 ⟨h.below hB1, heap_alloc_new _ _, Fr.below hB1, hdt, Nat.le_refl _, hsp, rfl, by simpa using hpot, rfl⟩
 have HC := aQ0 hctx
 have HV0 := aQ0 hv
 have HDo := aQ0 hD
 have HEo := aQ0 hEok
 have HEN := aQ0 hEN
 obtain ⟨gs, hgs⟩ : ∃ gs, W.heap.size = gs := ⟨_, rfl⟩
 obtain ⟨sp0, hsp0⟩ : ∃ sp0, σ.1.spent = sp0 := ⟨_, rfl⟩
 obtain ⟨wl, hwl0⟩ : ∃ wl, σ.1.wi.length = wl := ⟨_, rfl⟩
 obtain ⟨dp, hdp0⟩ : ∃ dp, σ.1.deep = dp := ⟨_, rfl⟩
 rw [hgs, hsp0, hwl0, hdp0] at P0
 rw [hsp0, hwl0, hdp0] at HEN
 have HGS := aQ0 hgs
 have hg0 : w0.heap.size ≤ gs := by omega
 have hwlb : wl ≤ 100000 := by omega
 have htg : v = true → tb ≠ gs := fun e => by have := htb e; omega
 clear hR h hB1 hctx hv hD hEok hdt hsp hpot hEN htb hwl hsp0 hwl0 hdp0
 obtain ⟨ty, rv, htk, hmP, hmS, hcP, hcS⟩ := tk_form v tb r
 have HTK := aQ0 htk
 rw [htk]
 clear htk
 go_enter Tryz.func79, Tryz.ntmps79
 go_wp2_with fail
 go_loopw [] (fun wr => ∃ (n p : Nat) (σ' : Sg), p ≤ s.size ∧ Pl w0 W wr r mb tb gs de da v D sp0 wl dp s p σ' ∧ aX5 v EN n s p σ' = R ∧ s.size < p + n) (fun wr => s.size - imAt wr gs)
 case atStart => exact ⟨s.size + 1, 0, σ, Nat.zero_le _, P0.out, HR.out, by omega⟩
 case round =>
  obtain ⟨n, p, σ', hp, hPl, hgo, hfu⟩ := hrel
  obtain ⟨n', rfl⟩ : ∃ n', n = n' + 1 := ⟨n - 1, by omega⟩
  have PL := aQ0 hPl
  have HGO := aQ0 hgo
  have HAT := aQ0 (@aX9 scE _ _ _ _ hPl.sc)
  obtain ⟨c0, c1, f1⟩ := @aQz scE _ _ _ _ hPl.sc
  clear hPl hgo P0 HR
  by_cases hlt : p < s.size
  · have hlti : (p : Int) < (s.size : Int) := by omega
    have hah := @aJc scE wr gs s ⟨#[38]⟩ p PL.out.sc hp
    rw [show (⟨#[38]⟩ : ByteArray).data.toList = [38] from rfl] at hah
    by_cases h38 : aQ2 s p = 38
    · have ha : aQ5 s p [38] = true := by rw [bJc hlt]; simpa using h38
      rw [ha] at hah
      go_wp2_with fail
      refine (hah _ rfl).mono ?_
      rintro e w1 ⟨rfl, k1, hww⟩
      have hg1 : wr.grownBy w1 none := by rw [hww]; exact aQb wr k1 none
      have I1 := aQ0 (PL.out.inv.below ⟨hg1.os, hg1.tape, hg1.output, hg1.size, fun k hk => hg1.block k hk (by simp)⟩)
      have S1 : Hid (bXl w1 gs s p) := aQ0 ((hg1.block gs (@bXh scE _ _ _ _ PL.out.sc) (by simp)).trans PL.out.sc)
      have F1 := aQ0 (PL.out.fr.trans (Fr.grown (g := none) hg1 (fun j hj => by cases hj)) (fun k hk => by cases hk))
      have hvb1 : VB s (p + 1) := aJj HV0.out (by omega) (by rw [Nat.add_sub_cancel, h38]; decide)
      have href := @bQi scE w1 gs s p m S1.out (HC.out.env.below I1.out.bel) (HC.out.env.farG hg0) (by omega) hp ha hvb1
      obtain ⟨Z, hZ⟩ : ∃ Z, refZ s p = Z := ⟨_, rfl⟩
      rw [hZ] at href
      clear hah hww hg1
      go_wp2_with fail
      refine href.mono ?_
      rintro e w2 ⟨nm, ch, f, q, rfl, hb2, hq, hg2, hcase⟩
      have I2 := aQ0 (I1.out.scan S1.out hg2 hg0)
      have F2 := aQ0 (F1.out.trans (Fr.grown (g := some gs) hg2 (fun j hj => .inr (.inr (.inl hj.symm)))) (fun k hk => .inr (by have := Option.some.inj hk; have := HGS.out; omega)))
      obtain ⟨W3, hW3⟩ : ∃ W3, w2.alloc (.cells #[.string nm, .int .i64 ch] 211) = W3 := ⟨_, rfl⟩
      have HW3 := aQ0 hW3
      have hB3 : Below w2.heap.size w2 W3 := by rw [← hW3]; exact bAl
      have I3 := aQ0 (I2.out.below hB3)
      have S3 : Hid (bXl W3 gs s q) := aQ0 ((hB3.block gs (@bXh scE _ _ _ _ hb2)).trans hb2)
      have F3 := aQ0 (F2.out.trans (Fr.below (g := none) hB3) (fun k hk => by cases hk))
      have X3 : Hid (W3.heap[w2.heap.size]? = some (.cells #[.string nm, .int .i64 ch] 211)) := aQ0 (by rw [← hW3]; exact heap_alloc_new _ _)
      have hqp : Hid (Z ≠ none → p < q) := aQ0 (fun hz => by
       rcases hcase with ⟨_, x, hx, _, _⟩ | ⟨_, hx⟩
       · exact (aWi hlt (hZ.trans hx)).1
       · exact absurd hx hz)
      have HZ := aQ0 hZ
      clear href hb2 hg2 hB3 I1 S1 F1 I2 F2 hZ c0 c1 f1
      rcases hcase with ⟨rfl, x, hx, hnm, hch⟩ | ⟨hf, hx⟩
      · rw [aXq]
        have HPQ : Hid (p < q) := aQ0 (hqp.out (by rw [hx]; simp))
        have hx0 : W3.cell? ⟨w2.heap.size, 0, none⟩ = some (.string nm) := by simp [World.cell?, X3.out]
        have hx1 : W3.cell? ⟨w2.heap.size, 1, none⟩ = some (.int .i64 ch) := by simp [World.cell?, X3.out]
        cases x with
        | inl c =>
         simp only [rfN, rfC] at hnm hch
         subst hnm hch
         have hcb := (aWi hlt (HZ.out.trans hx)).2.2.1 ch rfl
         have HRs : Hid (aX5 v EN n' s q (aWg v σ' (encB ch)) = R) := aQ0 ((pg_char hlt h38 (HZ.out.trans hx)).symm.trans HGO.out)
         have hsg := fun wx => signOf_char ch hcb wx
         obtain ⟨SG, hSG⟩ : ∃ SG : ByteArray, (⟨(encB ch).toArray⟩ : ByteArray) = SG := ⟨_, rfl⟩
         have HSD : Hid (SG.data.toList = encB ch) := aQ0 (by rw [← hSG])
         have HLN : Hid ((encB ch).length ≤ 4) := aQ0 (encB_len ch)
         have hSs : SG.size ≤ 4 := by have h1 := HLN.out; have h2 := HSD.out; have h3 : SG.data.toList.length = SG.size := Array.length_toList; rw [h2] at h3; omega
         have hne : (SG.toList == ([] : List UInt8)) = false := by rw [ByteArray.toList_eq, HSD.out]; exact encB_ne ch
         have hne2 : (SG.toList != ([] : List UInt8)) = true := by unfold bne; rw [hne]; rfl
         rw [hSG] at hsg
         clear hSG hcb hx
         go_wp2_with fail
         refine (hsg _).mono ?_
         rintro e w4 ⟨rfl, hb4⟩
         clear hsg hx0 hx1
         have hsz4 := hb4.size
         have I4 := aQ0 (I3.out.below hb4)
         have S4 : Hid (bXl w4 gs s q) := aQ0 ((hb4.block gs (@bXh scE _ _ _ _ S3.out)).trans S3.out)
         have F4 := aQ0 (F3.out.trans (Fr.below (g := none) hb4) (fun k hk => by cases hk))
         have hcall := signT_any (t := SG) I4.out (by have := PL.out.pot; have := bZu v; omega) (by omega)
         clear hb4 hsz4 I3 S3 F3
         go_wp2_with fail
         refine hcall.mono ?_
         rintro e w5 ⟨rfl, hI5, hF5⟩
         simp only at hI5
         rw [HSD.out] at hI5
         obtain ⟨q1, q2, q3, q4⟩ := bQd (v := v) (σ := σ') (l := (encB ch))
         have S5 := aQ0 (bKf S4.out I4.out hF5 htg)
         have P5 : Hid (Pl w0 W w5 r mb tb gs de da v D sp0 wl dp s q (aWg v σ' (encB ch))) := aQ0 ⟨hI5, S5.out, F4.out.trans hF5 (fun k hk => .inl hk), q1.trans PL.out.dt, by rw [q2]; exact PL.out.sp, by rw [q2]; exact PL.out.sp4, by rw [q3]; exact PL.out.wi, by
          have h1 := PL.out.pot
          have h2 := HLN.out
          have h3 := HPQ.out
          rw [q2, q4]
          omega, aYf.trans PL.out.dp⟩
         have h3 := HPQ.out
         clear hI5 hF5 hcall q1 q2 q3 q4
         go_wp2
         go_roundw
         case rel => exact ⟨n', q, _, hq, P5.out, HRs.out, by omega⟩
         case measure => rw [HAT.out, @aX9 scE _ _ _ _ S5.out]; omega
        | inr nm0 =>
         simp only [rfN] at hnm
         subst hnm
         clear hch
         obtain ⟨hn1, hn60⟩ := ref_name (HZ.out.trans hx)
         have hnn : (nm.toList == ([] : List UInt8)) = false := by
          cases hb : (nm.toList == ([] : List UInt8)) with
          | false => rfl
          | true => rw [bytes_eq hb] at hn1; exact absurd hn1 (by decide)
         have hsg := fun wx => signOf_name nm ch hnn wx
         cases hgz : aW8 nm with
         | some b =>
          have HRs : Hid (aX5 v EN n' s q (aWg v σ' [b]) = R) := aQ0 ((pg_given hlt h38 (HZ.out.trans hx) hgz).symm.trans HGO.out)
          obtain ⟨SG, hSG⟩ : ∃ SG : ByteArray, aWw nm = SG := ⟨_, rfl⟩
          have HSD : Hid (SG.data.toList = [b]) := aQ0 (by rw [← hSG]; unfold aWw; rw [hgz])
          have HLN : Hid (([b] : List UInt8).length ≤ 4) := aQ0 (by simp)
          have hSs : SG.size ≤ 4 := by have h1 := HLN.out; have h2 := HSD.out; have h3 : SG.data.toList.length = SG.size := Array.length_toList; rw [h2] at h3; omega
          have hne : (SG.toList == ([] : List UInt8)) = false := by rw [ByteArray.toList_eq, HSD.out]; rfl
          have hne2 : (SG.toList != ([] : List UInt8)) = true := by unfold bne; rw [hne]; rfl
          rw [hSG] at hsg
          clear hSG hgz hx hnn
          go_wp2_with fail
          refine (hsg _).mono ?_
          rintro e w4 ⟨rfl, hb4⟩
          clear hsg hx0 hx1
          have hsz4 := hb4.size
          have I4 := aQ0 (I3.out.below hb4)
          have S4 : Hid (bXl w4 gs s q) := aQ0 ((hb4.block gs (@bXh scE _ _ _ _ S3.out)).trans S3.out)
          have F4 := aQ0 (F3.out.trans (Fr.below (g := none) hb4) (fun k hk => by cases hk))
          have hcall := signT_any (t := SG) I4.out (by have := PL.out.pot; have := bZu v; omega) (by omega)
          clear hb4 hsz4 I3 S3 F3
          go_wp2_with fail
          refine hcall.mono ?_
          rintro e w5 ⟨rfl, hI5, hF5⟩
          simp only at hI5
          rw [HSD.out] at hI5
          obtain ⟨q1, q2, q3, q4⟩ := bQd (v := v) (σ := σ') (l := [b])
          have S5 := aQ0 (bKf S4.out I4.out hF5 htg)
          have P5 : Hid (Pl w0 W w5 r mb tb gs de da v D sp0 wl dp s q (aWg v σ' [b])) := aQ0 ⟨hI5, S5.out, F4.out.trans hF5 (fun k hk => .inl hk), q1.trans PL.out.dt, by rw [q2]; exact PL.out.sp, by rw [q2]; exact PL.out.sp4, by rw [q3]; exact PL.out.wi, by
           have h1 := PL.out.pot
           have h2 := HLN.out
           have h3 := HPQ.out
           rw [q2, q4]
           omega, aYf.trans PL.out.dp⟩
          have h3 := HPQ.out
          clear hI5 hF5 hcall q1 q2 q3 q4
          go_wp2
          go_roundw
          case rel => exact ⟨n', q, _, hq, P5.out, HRs.out, by omega⟩
          case measure => rw [HAT.out, @aX9 scE _ _ _ _ S5.out]; omega
         | none =>
          have hgs0 : aWw nm = ⟨#[]⟩ := by unfold aWw; rw [hgz]
          rw [hgs0] at hsg
          have hRe := (pg_enter (v := v) (EN := EN) (n := n') (σ := σ') hlt h38 (HZ.out.trans hx) hgz).symm.trans HGO.out
          have HRe := aQ0 hRe
          clear hgs0 hgz hx hnn hRe
          go_wp2_with fail
          refine (hsg _).mono ?_
          rintro e w4 ⟨rfl, hb4⟩
          have I4 := aQ0 (I3.out.below hb4)
          have S4 : Hid (bXl w4 gs s q) := aQ0 ((hb4.block gs (@bXh scE _ _ _ _ S3.out)).trans S3.out)
          have F4 := aQ0 (F3.out.trans (Fr.below (g := none) hb4) (fun k hk => by cases hk))
          have X4 : Hid (w4.heap[w2.heap.size]? = some (.cells #[.string nm, .int .i64 ch] 211)) := aQ0 ((hb4.block _ (gLt X3.out)).trans X3.out)
          have hy0 : w4.cell? ⟨w2.heap.size, 0, none⟩ = some (.string nm) := by simp [World.cell?, X4.out]
          have hcall := enter_any (nm := nm) (EN := EN) I4.out (by omega) (by rw [PL.out.dt]; exact HDo.out.len) (by rw [PL.out.dt]; exact fun e he => ⟨(HDo.out.ents e he).1, by have := (HDo.out.ents e he).2.1; omega⟩) (by rw [PL.out.wi]; omega) (by have := PL.out.sp4; omega)
           (fun tx hok hn => (HEo.out.ok (goIn σ' nm tx) tx PL.out.dt (bWc (by rw [PL.out.dt]; exact HDo.out) hok).1 hn).2.1)
           (fun tx Wx hok hI => by
            obtain ⟨h1, h2, h3, _⟩ := bWc (by rw [PL.out.dt]; exact HDo.out) hok
            exact HEN.out (by omega) _ tx Wx hI PL.out.dt (by have := PL.out.sp; simp only [goIn]; omega) h1 (by have := PL.out.pot; simp only [goIn, pot] at *; omega) (by simp only [goIn, List.length_cons]; rw [PL.out.wi]; exact Nat.le_refl _) PL.out.dp h3 h2)
          rw [HTK.out] at hcall
          clear hsg hx0 hx1 hb4 I3 S3 F3 X3
          go_wp2_with fail
          refine hcall.mono ?_
          rintro e w5 hP
          obtain ⟨RE, hRE⟩ : ∃ RE, aV0 EN σ' nm = RE := ⟨_, rfl⟩
          have hok5 := fun h => enter_ok (nm := nm) HEo.out HDo.out PL.out.dt h
          have hRe := HRe.out
          rw [hRE] at hP hok5 hRe
          obtain ⟨σ1, oc⟩ := RE
          cases oc with
          | some c =>
           simp only at hRe
           subst hRe
           obtain ⟨he, hrest⟩ := hP
           unfold aQr at he
           subst he
           go_wp2
           exact ⟨rfl, rfl, hrest⟩
          | none =>
           simp only at hRe
           obtain ⟨rfl, hI5, hF5⟩ := hP
           obtain ⟨q1, q2, q3, q4, q5, q6⟩ := hok5 rfl
           simp only at q1 q2 q3 q4 q5 q6
           have HRs := aQ0 hRe
           have S5 := aQ0 (bKf S4.out I4.out hF5 htg)
           have P5 : Hid (Pl w0 W w5 r mb tb gs de da v D sp0 wl dp s q σ1) := aQ0 ⟨hI5, S5.out, F4.out.trans hF5 (fun k hk => .inl hk), q1, Nat.le_trans PL.out.sp q3, q4, by rw [q2]; exact PL.out.wi, by
            have h1 := PL.out.pot
            have h3 := HPQ.out
            omega, q6.trans PL.out.dp⟩
           have h3 := HPQ.out
           clear hI5 hF5 hcall q1 q2 q3 q4 q5 q6 hok5 hRE hRe
           go_wp2
           go_roundw
           case rel => exact ⟨n', q, _, hq, P5.out, HRs.out, by omega⟩
           case measure => rw [HAT.out, @aX9 scE _ _ _ _ S5.out]; omega
      · have hRs := pg_none (v := v) (EN := EN) (n := n') (σ := σ') hlt h38 (HZ.out.trans hx)
        rw [HGO.out] at hRs
        subst hRs
        have E3 := aQ0 (HC.out.et.below I3.out.bel)
        have hfail := fun wx => aX3 (.pointer (some ⟨r, 0, none⟩)) 3 wx
        rcases hf with rfl | rfl
        · have hfc := fun Wx hx => aQx Wx 1 true (by decide) (by decide) hx
          rw [aZ1] at hfc ⊢
          go_wp2_with fail
          refine (hfc _ E3.out).mono ?_
          rintro e w6 ⟨rfl, hg6⟩
          have I6 := aQ0 (I3.out.below ⟨hg6.os, hg6.tape, hg6.output, hg6.size, fun k hk => hg6.block k hk (by simp)⟩)
          clear hfc hg6
          go_wp2_with fail
          refine (hfail _).mono ?_
          rintro e w7 ⟨he, rfl⟩
          unfold aQr at he
          subst he
          go_wp2
          exact ⟨rfl, I6.out.fell 3⟩
        · have hfc := fun Wx hx => aQx Wx 2 true (by decide) (by decide) hx
          rw [aZp] at hfc ⊢
          go_wp2_with fail
          refine (hfc _ E3.out).mono ?_
          rintro e w6 ⟨rfl, hg6⟩
          have I6 := aQ0 (I3.out.below ⟨hg6.os, hg6.tape, hg6.output, hg6.size, fun k hk => hg6.block k hk (by simp)⟩)
          clear hfc hg6
          go_wp2_with fail
          refine (hfail _).mono ?_
          rintro e w7 ⟨he, rfl⟩
          unfold aQr at he
          subst he
          go_wp2
          exact ⟨rfl, I6.out.fell 3⟩
    · have ha : aQ5 s p [38] = false := by
       cases hb : aQ5 s p [38] with
       | false => rfl
       | true => rw [bJc hlt] at hb; exact absurd (by simpa using hb) h38
      rw [ha] at hah
      obtain ⟨hX, hpe, hes⟩ := amp_cut (s := s) (p := p) hp
      have hal := amp_lt hlt h38
      have HG38 := aQ0 (fun σ1 => pg_plain (v := v) (EN := EN) (n := n') (σ := σ') (σ' := σ1) hlt h38)
      have HB38 := aQ0 (pg_bad (v := v) (EN := EN) (n := n') (σ := σ') hlt h38)
      obtain ⟨E, hE⟩ : ∃ E, ampE s p = E := ⟨_, rfl⟩
      rw [hE] at hX hpe hes hal HB38
      simp only [hE] at HG38
      obtain ⟨X, hXd⟩ : ∃ X, s.extract p E = X := ⟨_, rfl⟩
      have hXs : X.size = E - p := by rw [← hXd, aX7 hes]
      rw [hXd] at hX HB38
      simp only [hXd] at HG38
      have hsl : ∀ wx, (Instr.slice 9 (.string s) (some (.int .i64 (p : Int))) none none).run Tryz.prog wx = .ok (.string (s.extract p s.size)) wx := fun wx => aZh wx _ s p _ rfl hp Tryz.underlying9
      have hcut := fun (Wx : World) (hm : Wx.cell? ⟨1, 0, none⟩ = some (.int .i64 m)) => Tryz.strings_Cut (s.extract p s.size) ⟨#[38]⟩ m Wx (by rw [aWx]; omega) hm
      simp only [aJl] at hcut
      rw [hX] at hcut
      obtain ⟨Y, hY⟩ : ∃ Y : ByteArray, (⟨(Lib.cut (rest s p) [38]).2.1.toArray⟩ : ByteArray) = Y := ⟨_, rfl⟩
      obtain ⟨B, hB⟩ : ∃ B, (Lib.cut (rest s p) [38]).2.2 = B := ⟨_, rfl⟩
      rw [hY, hB] at hcut
      have hw1 : IntKind.i64.wrap ((p : Int) + (X.size : Int)) = (E : Int) := by rw [aZ2 (by omega) (by omega)]; omega
      have HXS := aQ0 hXs
      clear hX hY hB hE hXd hXs
      go_wp2_with fail
      refine (hah _ rfl).mono ?_
      rintro e w1 ⟨rfl, k1, hww⟩
      have hg1 : wr.grownBy w1 none := by rw [hww]; exact aQb wr k1 none
      have I1 := aQ0 (PL.out.inv.below ⟨hg1.os, hg1.tape, hg1.output, hg1.size, fun k hk => hg1.block k hk (by simp)⟩)
      have S1 : Hid (bXl w1 gs s p) := aQ0 ((hg1.block gs (@bXh scE _ _ _ _ PL.out.sc) (by simp)).trans PL.out.sc)
      have F1 := aQ0 (PL.out.fr.trans (Fr.grown (g := none) hg1 (fun j hj => by cases hj)) (fun k hk => by cases hk))
      obtain ⟨c0, c1, f1⟩ := @aQz scE _ _ _ _ S1.out
      have hc1 := hcut w1 (HC.out.env.below I1.out.bel).env.mx
      clear hah hww hg1 hcut
      go_wp2_with fail
      refine hc1.mono ?_
      rintro e w2 ⟨rfl, k2, hww⟩
      have hg2 : w1.grownBy w2 none := by rw [hww]; exact aQb w1 k2 none
      have I2 := aQ0 (I1.out.below ⟨hg2.os, hg2.tape, hg2.output, hg2.size, fun k hk => hg2.block k hk (by simp)⟩)
      have S2 : Hid (bXl w2 gs s p) := aQ0 ((hg2.block gs (@bXh scE _ _ _ _ S1.out) (by simp)).trans S1.out)
      have F2 := aQ0 (F1.out.trans (Fr.grown (g := none) hg2 (fun j hj => by cases hj)) (fun k hk => by cases hk))
      obtain ⟨c0, c1, f1⟩ := @aQz scE _ _ _ _ S2.out
      obtain ⟨W3, hW3⟩ : ∃ W3, w2.setCell ⟨gs, 1, none⟩ (.int .i64 (E : Int)) = W3 := ⟨_, rfl⟩
      have hg3 : w2.grownBy W3 (some gs) := by rw [← hW3]; exact aQa _
      have I3 := aQ0 (I2.out.scan S2.out hg3 hg0)
      have S3 : Hid (bXl W3 gs s E) := aQ0 (by rw [← hW3]; exact @aW7 scE _ _ _ _ S2.out _ E rfl)
      have F3 := aQ0 (F2.out.trans (Fr.grown (g := some gs) hg3 (fun j hj => .inr (.inr (.inl hj.symm)))) (fun k hk => .inr (by have := Option.some.inj hk; have := HGS.out; omega)))
      have hcall := plainT_any (t := X) I3.out (by have := PL.out.pot; have := bZu v; omega) (by have := HXS.out; omega)
      clear hc1 hww hg2 I1 S1 F1 I2 S2 F2 hg3 hmS
      go_wp2_with fail
      refine hcall.mono ?_
      rintro e w4 hP
      cases hpl : aKf v σ' X.data.toList with
      | none =>
       rw [hpl] at hP
       have hRs := HB38.out hpl
       rw [HGO.out] at hRs
       subst hRs
       obtain ⟨he, hrest⟩ := hP
       unfold aQr at he
       subst he
       go_wp2
       exact ⟨rfl, rfl, hrest⟩
      | some σ1 =>
       rw [hpl] at hP
       obtain ⟨rfl, hI4, hF4⟩ := hP
       have HRs := aQ0 ((HG38.out σ1 hpl).symm.trans HGO.out)
       obtain ⟨q1, q2, q3, q4⟩ := bVo hpl
       have S4 := aQ0 (bKf S3.out I3.out hF4 htg)
       have P4 : Hid (Pl w0 W w4 r mb tb gs de da v D sp0 wl dp s E σ1) := aQ0 ⟨hI4, S4.out, F3.out.trans hF4 (fun k hk => .inl hk), q1.trans PL.out.dt, by rw [q2]; exact PL.out.sp, by rw [q2]; exact PL.out.sp4, by rw [q3]; exact PL.out.wi, by
        have h1 := PL.out.pot
        have h2 := HXS.out
        have h3 : X.data.toList.length = X.size := Array.length_toList
        rw [q2, q4, h3]
        omega, (bZw hpl).trans PL.out.dp⟩
       clear hI4 hF4 hcall hpl q1 q2 q3 q4
       go_wp2
       go_roundw
       case rel => exact ⟨n', E, σ1, hes, P4.out, HRs.out, by omega⟩
       case measure => rw [HAT.out, @aX9 scE _ _ _ _ S4.out]; omega
  · have hkn : s.size ≤ p := by omega
    have hRs := HGO.out
    rw [pg_end hkn] at hRs
    subst hRs
    go_wp2
    go_end0
    exact ⟨rfl, PL.out.inv, PL.out.fr⟩
open Go.RowKit Strs Plain9 Plain10 Plain23 Plain27 PlainR Go.Lib Ents
variable [Inhabited aJ5]
theorem aVy {D : Dt} {v : Bool} {EN : Sg → ByteArray → Sg × Option Int} (hE : EnOk D EN) (hD : DOk D) {s : ByteArray} : ∀ (n p : Nat) (σ : Sg), p ≤ s.size → σ.1.dt = D → σ.1.spent ≤ 4000 → (aX5 v EN n s p σ).2 = none →
 (aX5 v EN n s p σ).1.1.dt = D ∧ (aX5 v EN n s p σ).1.1.wi = σ.1.wi ∧ σ.1.spent ≤ (aX5 v EN n s p σ).1.1.spent ∧ (aX5 v EN n s p σ).1.1.spent ≤ 4000 ∧ pot (aX5 v EN n s p σ).1 + 8 * (4000 - (aX5 v EN n s p σ).1.1.spent) ≤ pot σ + 8 * (s.size - p) + 8 * (4000 - σ.1.spent) ∧ (aX5 v EN n s p σ).1.1.deep = σ.1.deep
 | 0, p, σ, hp, hd, hs, h => by simp [aX5] at h
 | n + 1, p, σ, hp, hd, hs, h => by
  by_cases hlt : p < s.size
  · by_cases h38 : aQ2 s p = 38
    · cases hr : refZ s p with
      | none => rw [pg_none hlt h38 hr] at h; cases h
      | some x =>
       obtain ⟨x, q⟩ := x
       obtain ⟨h1, h2, _, _⟩ := aWi hlt hr
       cases x with
       | inl c =>
        rw [pg_char hlt h38 hr] at h ⊢
        obtain ⟨q1, q2, q3, q4⟩ := bQd (v := v) (σ := σ) (l := encB c)
        have hl := encB_len c
        obtain ⟨a1, a2, a3, a4, a5, a6⟩ := aVy hE hD n q (aWg v σ (encB c)) h2 (q1.trans hd) (by rw [q2]; exact hs) h
        rw [q2] at a3 a5
        rw [q4] at a5
        exact ⟨a1, a2.trans q3, a3, a4, by omega, a6.trans aYf⟩
       | inr nm =>
        cases hg : aW8 nm with
        | some b =>
         rw [pg_given hlt h38 hr hg] at h ⊢
         obtain ⟨q1, q2, q3, q4⟩ := bQd (v := v) (σ := σ) (l := [b])
         obtain ⟨a1, a2, a3, a4, a5, a6⟩ := aVy hE hD n q (aWg v σ [b]) h2 (q1.trans hd) (by rw [q2]; exact hs) h
         rw [q2] at a3 a5
         rw [q4] at a5
         exact ⟨a1, a2.trans q3, a3, a4, by simp only [List.length_cons, List.length_nil] at a5; omega, a6.trans aYf⟩
        | none =>
         rw [pg_enter hlt h38 hr hg] at h ⊢
         have he := fun hn => enter_ok (nm := nm) hE hD hd hn
         cases hR : aV0 EN σ nm with
         | mk σ1 oc =>
          rw [hR] at h he
          cases oc with
          | some c => cases h
          | none =>
           obtain ⟨e1, e2, e3, e4, e5, e6⟩ := he rfl
           simp only at h e1 e2 e3 e4 e5 e6 ⊢
           obtain ⟨a1, a2, a3, a4, a5, a6⟩ := aVy hE hD n q σ1 h2 e1 e4 h
           exact ⟨a1, a2.trans e2, by omega, a4, by omega, a6.trans e6⟩
    · cases hp2 : aKf v σ (s.extract p (ampE s p)).data.toList with
      | none => rw [pg_bad hlt h38 hp2] at h; cases h
      | some σ1 =>
       rw [pg_plain hlt h38 hp2] at h ⊢
       obtain ⟨q1, q2, q3, q4⟩ := bVo hp2
       obtain ⟨_, hpe, hes⟩ := amp_cut (s := s) (p := p) hp
       have hal := amp_lt hlt h38
       have hXs : (s.extract p (ampE s p)).data.toList.length = ampE s p - p := by rw [Array.length_toList]; exact aX7 hes
       obtain ⟨a1, a2, a3, a4, a5, a6⟩ := aVy hE hD n (ampE s p) σ1 hes (q1.trans hd) (by rw [q2]; exact hs) h
       rw [q2] at a3 a5
       rw [q4, hXs] at a5
       exact ⟨a1, a2.trans q3, a3, a4, by omega, a6.trans (bZw hp2)⟩
  · rw [pg_end (by omega)]
    exact ⟨hd, rfl, Nat.le_refl _, hs, by simp only; omega, rfl⟩
theorem bZg {D : Dt} (hD : DOk D) : ∀ f, EnOk D (PlainR.valE f)
 | 0 => ⟨fun σx tx hd hs h => by simp [PlainR.valE] at h⟩
 | f + 1 => ⟨fun σx tx hd hs h => by
  have := aVy (v := true) (bZg hD f) hD (s := tx) (tx.size + 1) 0 σx (Nat.zero_le _) hd hs h
  unfold PlainR.valE
  exact this⟩
theorem entityV_any {w0 W : World} {r mb tb : Nat} {de da : Value} {σ : Sg} {t : ByteArray} {R : Sg × Option Int} (h : Inv w0 W r mb tb de da true σ) (hc : Calls Tryz.prog 79 #[.pointer (some ⟨r, 0, none⟩), .string t, tkV true tb r] W fun e W' => bX2 w0 W r mb tb de da true R e W') :
 Calls Tryz.prog 199 #[.pointer (some ⟨tb, 0, none⟩), .string t] W fun e W' => bX2 w0 W r mb tb de da true R e W' := by
 obtain ⟨ev, tx, hr, hv, _⟩ := h
 obtain ⟨vv, hb, _⟩ := hv rfl
 obtain ⟨c0, c1, f1⟩ := Vt.cells (w0 := w0) hb
 clear hr hv hb
 unfold tkV at hc
 rw [if_pos rfl] at hc
 go_enter Tryz.func199, Tryz.ntmps199
 go_wp2_with fail
 refine hc.mono ?_
 rintro e w1 hP
 obtain ⟨σ2, oc⟩ := R
 cases oc with
 | none =>
  obtain ⟨rfl, h1, h2⟩ := hP
  go_wp2
  go_end0
  exact ⟨rfl, h1, h2⟩
 | some c =>
  obtain ⟨he, hrest⟩ := hP
  unfold aQr at he
  subst he
  go_wp2
  exact ⟨rfl, rfl, hrest⟩
theorem bVh {w0 : World} {r mb tb : Nat} {de da : Value} {D : Dt} {m : Int} (hctx : Ctx w0 m) (hD : DOk D) : ∀ (f sp0 wl dp : Nat), 4001 ≤ f + sp0 → wl + f ≤ 50000 → EnCalls w0 r mb tb de da true D sp0 wl dp (PlainR.valE f)
 | 0, sp0, wl, dp, h1, h2 => fun σx tx Wx hI hd hs hs4 hp hw hdp hv ht => by omega
 | f + 1, sp0, wl, dp, h1, h2 => fun σx tx Wx hI hd hs hs4 hp hw hdp hv ht => by
  refine entityV_any hI ?_
  have htb : tb < Wx.heap.size := by
   obtain ⟨ev, tx', hr, hv', _⟩ := hI
   obtain ⟨vv, hb, _⟩ := hv' rfl
   exact (gLt hb)
  exact bZx hctx hI ht hv hD (bZg hD f) hd hs4 (by omega) hp (fun h0 => bVh hctx hD f σx.1.spent σx.1.wi.length σx.1.deep (by omega) (by omega)) (fun _ => htb)
open Go.RowKit Lists Plain10 PlainR Go.Lib Ents
variable [Inhabited aJ5]
theorem aside_any {w0 W : World} {r mb : Nat} {st : Rs} {de da ev tx av : Value} {T : Tk} (h : Rm w0 W r mb st de da ev tx) (hel : st.evs.length ≤ 1000000) (htl : st.txt.length ≤ 1000000) :
 Calls Tryz.prog 19 #[.pointer (some ⟨r, 0, none⟩), .agg #[.int .i64 T.kind, .string T.name, .string T.text, av]] W fun e W' => e = .returned (.tuple #[]) ∧ Goes w0 W r mb none (bX0 st T) de da W' := by
 obtain ⟨W1, hW1⟩ : ∃ W1, W.alloc (.cells #[.int .i64 T.kind, .string T.name, .string T.text, av] 73) = W1 := ⟨_, rfl⟩
 have hB : Below W.heap.size W W1 := by rw [← hW1]; exact bAl
 have R1 := h.below hB
 have F1 := aQ0 (Fr.below (r := r) (mb := mb) (g := none) hB)
 have hk0 : W1.cell? ⟨W.heap.size, 0, none⟩ = some (.int .i64 T.kind) := by rw [← hW1]; simp
 have hk1 : W1.cell? ⟨W.heap.size, 1, none⟩ = some (.string T.name) := by rw [← hW1]; simp
 have hk2 : W1.cell? ⟨W.heap.size, 2, none⟩ = some (.string T.text) := by rw [← hW1]; simp
 have ht := fun kd => bZ2 (E := ⟨kd, T.name, T.text, []⟩) (av := .slice none 0 0) R1 (World.ownsRow_nil _ _ _ _) (by omega) (by omega)
 clear h hB R1
 unfold bX0
 by_cases h7 : T.kind = 7
 · rw [if_pos h7]
   have h7b : (T.kind == 7) = true := by simp [h7]
   have ht5 := ht 5
   clear ht h7
   go_enter Tryz.func19, Tryz.ntmps19
   go_wp2_with fail
   refine ht5.mono ?_
   rintro e w2 ⟨rfl, ev', tx', h1, h2⟩
   go_wp2
   go_end0
   exact ⟨rfl, ev', tx', h1, F1.out.trans h2 (fun k hk => by cases hk)⟩
 · rw [if_neg h7]
   have h7b : (T.kind == 7) = false := by simpa using h7
   have ht4 := ht 4
   clear ht h7
   go_enter Tryz.func19, Tryz.ntmps19
   go_wp2_with fail
   refine ht4.mono ?_
   rintro e w2 ⟨rfl, ev', tx', h1, h2⟩
   go_wp2
   go_end0
   exact ⟨rfl, ev', tx', h1, F1.out.trans h2 (fun k hk => by cases hk)⟩
def endV (E : Option ByteArray) (eb : Nat) : Value := match E with | none => .func (.func 193) #[] #[] | some _ => .func (.func 44) #[] #[.pointer (some ⟨eb, 0, none⟩)]
def aYp (W : World) (E : Option ByteArray) (eb : Nat) : Prop := match E with | none => True | some nm => ∃ kd tx av, W.heap[eb]? = some (.cells #[.int .i64 kd, .string nm, .string tx, av] 73)
theorem endN_any (T : Tk) (av : Value) (w : World) : Calls Tryz.prog 193 #[.agg #[.int .i64 T.kind, .string T.name, .string T.text, av]] w fun e w' => e = .returned (.bool (aJr none T)) ∧ Below w.heap.size w w' := by
 have hd : aJr none T = (T.kind == 0) := by unfold aJr; cases h : (T.kind == 0) <;> simp_all
 rw [hd]
 go_enter Tryz.func193, Tryz.ntmps193
 go_wp2
 go_ret
 exact ⟨rfl, bAl⟩
theorem endE_any {W : World} {nm : ByteArray} {eb : Nat} (h : aYp W (some nm) eb) (T : Tk) (av : Value) : Calls Tryz.prog 44 #[.agg #[.int .i64 T.kind, .string T.name, .string T.text, av], .pointer (some ⟨eb, 0, none⟩)] W fun e w' => e = .returned (.bool (aJr (some nm) T)) ∧ Below W.heap.size W w' := by
 obtain ⟨kd, tx, av', hb⟩ := h
 have hlt := (gLt hb)
 have c1 : (W.alloc (.cells #[.int .i64 T.kind, .string T.name, .string T.text, av] 73)).cell? ⟨eb, 1, none⟩ = some (.string nm) := by
  rw [World.cell?_of_block (a := ⟨eb, 1, none⟩) (heap_alloc_old W _ hlt)]
  simp [World.cell?, hb]
 clear hb
 by_cases h2 : T.kind = 2
 · have h2b : (T.kind == 2) = true := by simp [h2]
   cases hn : (T.name.toList == nm.toList) with
   | true =>
    have hd : aJr (some nm) T = true := by unfold aJr; simp [h2, hn]
    rw [hd]
    clear h2 hd
    go_enter Tryz.func44, Tryz.ntmps44
    go_wp2
    go_ret
    exact ⟨rfl, bAl⟩
   | false =>
    have hd : aJr (some nm) T = false := by unfold aJr; simp [h2, hn]
    rw [hd]
    clear h2 hd
    go_enter Tryz.func44, Tryz.ntmps44
    go_wp2
    go_ret
    exact ⟨rfl, bAl⟩
 · have h2b : (T.kind == 2) = false := by simpa using h2
   have hd : aJr (some nm) T = false := by unfold aJr; simp [h2]
   rw [hd]
   clear h2 hd
   go_enter Tryz.func44, Tryz.ntmps44
   go_wp2
   go_ret
   exact ⟨rfl, bAl⟩
end Go.Proofs.YtdblemolaojebaaGreatDoor
