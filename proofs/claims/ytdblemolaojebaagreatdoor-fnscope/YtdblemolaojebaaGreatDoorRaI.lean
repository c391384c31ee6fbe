import Derived.Test.YtdblemolaojebaaGreatDoorRaG
set_option maxRecDepth 100000
set_option maxHeartbeats 4000000
set_option linter.unusedVariables false
set_option linter.unusedSectionVars false
namespace Go.Proofs.YtdblemolaojebaaGreatDoor
open Go.RowKit Lists Plain9 Plain10 PlainR Go.Lib Ents
variable [Inhabited aJ5]
def aY6 (s : ByteArray) (cl : Bool) : Option Nat :=
 if aQ5 s 0 verL = true then some 21
 else if aQ5 s 0 encL = true then some 38
 else if cl = false ∧ ((rest s 0).isPrefixOf verL = true ∨ (rest s 0).isPrefixOf encL = true) then none
 else some 0
theorem doc_first (s : ByteArray) (cl : Bool) : docR s cl = match aY6 s cl with | some q => aV1 (s.size + 1) s q cl false false st0 | none => (st0, some 4) := by
 unfold docR aY6
 split
 · rfl
 · split
   · rfl
   · split <;> rfl
def verB : ByteArray := ⟨#[60, 63, 120, 109, 108, 32, 118, 101, 114, 115, 105, 111, 110, 61, 34, 49, 46, 48, 34, 63, 62]⟩
def bWd : ByteArray := ⟨#[60, 63, 120, 109, 108, 32, 118, 101, 114, 115, 105, 111, 110, 61, 34, 49, 46, 48, 34, 32, 101, 110, 99, 111, 100, 105, 110, 103, 61, 34, 85, 84, 70, 45, 56, 34, 63, 62]⟩
theorem bXf (s : ByteArray) : aKy s 0 [verB, bWd] = if (rest s 0).isPrefixOf verL = true ∨ (rest s 0).isPrefixOf encL = true then 1 else 2 := by
 have e1 : verB.data.toList = verL := rfl
 have e2 : bWd.data.toList = encL := rfl
 unfold aKy
 simp only [List.find?_cons, List.find?_nil, e1, e2]
 cases h1 : (rest s 0).isPrefixOf verL <;> cases h2 : (rest s 0).isPrefixOf encL <;> simp
def FlSays (w0 W : World) (r mb g : Nat) (s : ByteArray) (cl : Bool) (st : Rs) (de da ev tx : Value) (R : Option Nat) (e : Ending) (W' : World) : Prop :=
 match R with
 | some q => e = .returned (.tuple #[]) ∧ Rm w0 W' r mb st de da ev tx ∧ aQd W' g s q cl
 | none => Fell w0 r st 4 e W'
theorem bK8 {w0 W W' : World} {r mb g : Nat} {st : Rs} {de da ev tx : Value} {s : ByteArray} {p : Nat} {cl : Bool} (h : Rm w0 W r mb st de da ev tx) (hs : aQd W g s p cl) (hg : W.grownBy W' (some g)) (hg0 : w0.heap.size ≤ g) : Rm w0 W' r mb st de da ev tx := h.off hg (aXo hs) bZj hg0
theorem bW5 {w0 W : World} {r mb g : Nat} {st : Rs} {de da ev tx : Value} {s : ByteArray} {cl : Bool} {m : Int} (hc : Ctx w0 m) (h : Rm w0 W r mb st de da ev tx) (hs : aQd W g s 0 cl) (hg0 : w0.heap.size ≤ g) (h4 : s.size ≤ 4000) :
 Calls Tryz.prog 16 #[.pointer (some ⟨r, 0, none⟩), .pointer (some ⟨g, 0, none⟩)] W fun e W' => FlSays w0 W r mb g s cl st de da ev tx (aY6 s cl) e W' := by
 obtain ⟨R, hR⟩ : ∃ R, aY6 s cl = R := ⟨_, rfl⟩
 rw [hR]
 have HR := aQ0 hR
 have HC := aQ0 hc
 have R0 := aQ0 h
 have S0 := aQ0 hs
 have ht1 := @aQc (srcE cl) W g s verB 0 hs (by omega) (Nat.zero_le _)
 rw [show verB.data.toList = verL from rfl] at ht1
 clear hR hc h hs
 cases hv : aQ5 s 0 verL with
 | true =>
  have hRR : R = some 21 := by rw [← HR.out]; unfold aY6; rw [if_pos hv]
  subst hRR
  rw [hv] at ht1
  clear hv HR
  go_enter Tryz.func16, Tryz.ntmps16
  go_wp2_with fail
  refine ht1.mono ?_
  rintro e w1 ⟨rfl, hb1, hg1⟩
  rw [if_pos trivial] at hb1
  have R1 := aQ0 (bK8 R0.out S0.out hg1 hg0)
  clear ht1 hg1
  go_wp2
  first | go_end0 | refine bodyPost_ret (results_none rfl _ _ _) rfl ?_
  exact ⟨rfl, R1.out, hb1⟩
 | false =>
  rw [hv] at ht1
  have HV := aQ0 hv
  clear hv
  go_enter Tryz.func16, Tryz.ntmps16
  go_wp2_with fail
  refine ht1.mono ?_
  rintro e w1 ⟨rfl, hb1, hg1⟩
  rw [if_neg (by simp)] at hb1
  have R1 := aQ0 (bK8 R0.out S0.out hg1 hg0)
  have S1 : Hid (aQd w1 g s 0 cl) := aQ0 hb1
  have ht2 := @aQc (srcE cl) w1 g s bWd 0 hb1 (by omega) (Nat.zero_le _)
  rw [show bWd.data.toList = encL from rfl] at ht2
  clear ht1 hg1 hb1
  cases he : aQ5 s 0 encL with
  | true =>
   have hRR : R = some 38 := by rw [← HR.out]; unfold aY6; rw [if_neg (by rw [HV.out]; simp), if_pos he]
   subst hRR
   rw [he] at ht2
   clear he HR
   go_wp2_with fail
   refine ht2.mono ?_
   rintro e w2 ⟨rfl, hb2, hg2⟩
   rw [if_pos trivial] at hb2
   have R2 := aQ0 (bK8 R1.out S1.out hg2 hg0)
   clear ht2 hg2
   go_wp2
   first | go_end0 | refine bodyPost_ret (results_none rfl _ _ _) rfl ?_
   exact ⟨rfl, R2.out, hb2⟩
  | false =>
   rw [he] at ht2
   have HE := aQ0 he
   clear he
   go_wp2_with fail
   refine ht2.mono ?_
   rintro e w2 ⟨rfl, hb2, hg2⟩
   rw [if_neg (by simp)] at hb2
   have R2 := aQ0 (bK8 R1.out S1.out hg2 hg0)
   have S2 : Hid (aQd w2 g s 0 cl) := aQ0 hb2
   clear ht2 hg2 hb2
   obtain ⟨f, hf⟩ : ∃ f, aKy s 0 [verB, bWd] = f := ⟨_, rfl⟩
   have hf12 : f = 1 ∨ f = 2 := by rw [← hf, bXf]; split <;> simp
   have hl : ∀ wx, Below w2.heap.size w2 wx → wx.heap[w2.heap.size]? = some (.cells #[.string verB, .string bWd] 9) → Calls Tryz.prog 31 #[.pointer (some ⟨g, 0, none⟩), .slice (some ⟨w2.heap.size, 0, none⟩) 2 2] wx fun e w' => e = .returned (errV f) ∧ Below w2.heap.size w2 w' ∧ w'.cell? ⟨g, 2, none⟩ = some (.bool cl) := fun wx hb hh => by
    refine (@aY3 (srcE cl) wx g s 0 (S2.out.keep (hb.block g S2.out.lt)) (Nat.zero_le _) [verB, bWd] _ 2 2 rfl (by decide) ⟨w2.heap.size, fun _ => rfl, fun i hi => by
     have : i = 0 ∨ i = 1 := by simp at hi; omega
     rcases this with rfl | rfl <;> simp [World.cell?, hh]⟩).mono ?_
    rintro e w' ⟨rfl, n, rfl⟩
    have hb' : Below w2.heap.size w2 (wx.drewN n) := hb.grown (aQb wx n none) hb.size (fun k hk => by cases hk)
    exact ⟨by rw [hf], hb', (aZl (S2.out.keep (hb'.block g S2.out.lt))).2.2.1⟩
   have hfc : ∀ wx, Below w2.heap.size w2 wx → Calls Tryz.prog 30 #[errV f, .bool cl] wx fun e w' => e = .returned (.int .i64 (aZf f cl)) ∧ wx.grownBy w' none := fun wx hb =>
    aQx wx f cl (by omega) (by omega) ((HC.out.et.below R2.out.bel).below hb)
   have hentL := fun a w => aQu Tryz.func31 (by kernel_rfl) rfl a w
   have hentF := fun a w => aQu Tryz.func30 (by kernel_rfl) rfl a w
   obtain ⟨s0, s1, s2, sf⟩ := aZl S2.out
   have HF := aQ0 hf
   clear hf
   have s2a : (w2.alloc (.cells #[.string verB, .string bWd] 9)).cell? ⟨g, 2, none⟩ = some (.bool cl) := (World.cell?_of_block (a := ⟨g, 2, none⟩) (heap_alloc_old w2 _ S2.out.lt)).trans s2
   have hfail := fun wx => aX3 (.pointer (some ⟨r, 0, none⟩)) 4 wx
   obtain ⟨cd, hcd⟩ : ∃ cd, aZf f cl = cd := ⟨_, rfl⟩
   rw [hcd] at hfc
   have HCD := aQ0 hcd
   clear hcd hf12 s0 s1 sf
   unfold verB bWd at hl s2a
   by_cases hsh : cl = false ∧ ((rest s 0).isPrefixOf verL = true ∨ (rest s 0).isPrefixOf encL = true)
   · have hRR : R = none := by rw [← HR.out]; unfold aY6; rw [if_neg (by rw [HV.out]; simp), if_neg (by rw [HE.out]; simp), if_pos hsh]
     have hc4 : cd = 4 := by
      rw [← HCD.out, ← HF.out, bXf, if_pos hsh.2, hsh.1]
      rfl
     have hc4b : (cd == 4) = true := by simp [hc4]
     subst hRR
     clear hsh hc4
     go_wp2_with fail
     go_region_law (first | (refine aVg rfl 31 #[.tmp 16, .tmp 17] #[58, 23] rfl #[.pointer (some ⟨g, 0, none⟩), .slice (some ⟨w2.heap.size, 0, none⟩) 2 2] (by simp [Act.eval]) hentL (hl _ (by first | exact ((Below.refl w2.heap.size w2).alloc (Nat.le_refl _) _).drew | exact ((Below.refl w2.heap.size w2).drew.alloc (Nat.le_refl _) _)) (by first | exact heap_alloc_new w2 _ | exact heap_alloc_new w2.drew _)) ?_ (fun ch w3 hP => by (obtain ⟨he, _⟩ := hP; cases he)) (fun w' hP => by (obtain ⟨he, _⟩ := hP; cases he)); intro v' w3 hP; obtain ⟨he, hb3, s23⟩ := hP; cases he; have B3 := aQ0 hb3; clear hb3) | (refine aVg rfl 30 #[.tmp 18, .tmp 22] #[90, 4] rfl #[errV f, .bool cl] (by simp [Act.eval]) hentF (hfc _ B3.out) ?_ (fun ch w3 hP => by (obtain ⟨he, _⟩ := hP; cases he)) (fun w' hP => by (obtain ⟨he, _⟩ := hP; cases he)); intro v' w4 hP; obtain ⟨he, hg4⟩ := hP; cases he; have G4 := aQ0 hg4; clear hg4))
     all_goals
      have R4 := aQ0 ((R2.out.below B3.out).grew G4.out)
      go_wp2_with fail
      refine (hfail _).mono ?_
      rintro e w5 ⟨he, rfl⟩
      unfold aQr at he
      subst he
      go_wp2
      exact ⟨rfl, R4.out.fell 4⟩
   · have hRR : R = some 0 := by rw [← HR.out]; unfold aY6; rw [if_neg (by rw [HV.out]; simp), if_neg (by rw [HE.out]; simp), if_neg hsh]
     have hc4 : cd ≠ 4 := by
      rw [← HCD.out, ← HF.out, bXf]
      by_cases hp : (rest s 0).isPrefixOf verL = true ∨ (rest s 0).isPrefixOf encL = true
      · rw [if_pos hp]
        cases cl with
        | true => decide
        | false => exact absurd ⟨rfl, hp⟩ hsh
      · rw [if_neg hp]
        cases cl <;> decide
     have hc4b : (cd == 4) = false := by simpa using hc4
     subst hRR
     clear hsh hc4
     go_wp2_with fail
     go_region_law (first | (refine aVg rfl 31 #[.tmp 16, .tmp 17] #[58, 23] rfl #[.pointer (some ⟨g, 0, none⟩), .slice (some ⟨w2.heap.size, 0, none⟩) 2 2] (by simp [Act.eval]) hentL (hl _ (by first | exact ((Below.refl w2.heap.size w2).alloc (Nat.le_refl _) _).drew | exact ((Below.refl w2.heap.size w2).drew.alloc (Nat.le_refl _) _)) (by first | exact heap_alloc_new w2 _ | exact heap_alloc_new w2.drew _)) ?_ (fun ch w3 hP => by (obtain ⟨he, _⟩ := hP; cases he)) (fun w' hP => by (obtain ⟨he, _⟩ := hP; cases he)); intro v' w3 hP; obtain ⟨he, hb3, s23⟩ := hP; cases he; have B3 := aQ0 hb3; clear hb3) | (refine aVg rfl 30 #[.tmp 18, .tmp 22] #[90, 4] rfl #[errV f, .bool cl] (by simp [Act.eval]) hentF (hfc _ B3.out) ?_ (fun ch w3 hP => by (obtain ⟨he, _⟩ := hP; cases he)) (fun w' hP => by (obtain ⟨he, _⟩ := hP; cases he)); intro v' w4 hP; obtain ⟨he, hg4⟩ := hP; cases he; have G4 := aQ0 hg4; clear hg4))
     all_goals
      have R4 := aQ0 ((R2.out.below B3.out).grew G4.out)
      have S4 : Hid (aQd w4 g s 0 cl) := aQ0 (aQd.keep (aQd.keep S2.out (B3.out.block g S2.out.lt)) (G4.out.block g (by have := S2.out.lt; have := B3.out.size; omega) (by simp)))
      go_wp2
      go_end0
      exact ⟨rfl, R4.out, S4.out⟩
open Go.RowKit Lists Plain23 PlainR Go.Lib Ents
def bK1 (w0 W : World) (r mb : Nat) (st : Rs) (ev tx : Value) (R : DOut) (e : Ending) (W' : World) : Prop :=
 if R.code = 0 then e = .returned (.tuple #[]) ∧ (∃ de da, Rm w0 W' r mb { st with dt := R.dtd } de da ev tx) ∧ Fr W W' r mb none
 else Fell w0 r st R.code e W'
theorem Rm.head {w0 W : World} {r mb : Nat} {st : Rs} {de da ev tx de' da' : Value} {D : Dt} (h : Rm w0 W r mb st de da ev tx) (h1 : W.ownsRow w0.heap.size 195 2 de' D.ents.length (aQ8 D.ents)) (h2 : W.ownsRow w0.heap.size 150 5 da' D.atts.length (aJp D.atts)) :
 Rm w0 ((W.setCell ⟨r, 0, none⟩ de').setCell ⟨r, 1, none⟩ da') r mb { st with dt := D } de' da' ev tx := by
 have hg : W.grownBy ((W.setCell ⟨r, 0, none⟩ de').setCell ⟨r, 1, none⟩ da') (some r) := aQ3 (aQa _) (aQa _)
 have hbk : ∀ k, k < W.heap.size → k ≠ r → ((W.setCell ⟨r, 0, none⟩ de').setCell ⟨r, 1, none⟩ da').heap[k]? = W.heap[k]? := fun k hk hne => hg.block k hk (fun e => hne (Option.some.inj e))
 have hne : ∀ {k : Nat} {cs : Array Value} {t : TypeId}, W.heap[k]? = some (.cells cs t) → t ≠ 51 → k ≠ r := fun hc ht e => by
  rw [e, h.box] at hc
  injection (Option.some.inj hc) with _ h2 _
  exact ht h2.symm
 have hrow : ∀ {e : TypeId} {size : Nat} {v : Value} {n : Nat} {xs : List Value}, e ≠ 51 → W.ownsRow w0.heap.size e size v n xs → ((W.setCell ⟨r, 0, none⟩ de').setCell ⟨r, 1, none⟩ da').ownsRow w0.heap.size e size v n xs := fun he ho => aQj ho fun k hk' => by
  obtain ⟨cs, hc, _⟩ := aQ4 ho hk'
  exact hbk k (gLt hc) (hne hc he)
 have hbox : ((W.setCell ⟨r, 0, none⟩ de').setCell ⟨r, 1, none⟩ da').heap[r]? = some (.cells #[de', da', ev, tx, .int .i64 (st.pos : Int), .int .i64 (st.deep : Int), .map (some mb), .int .i64 (st.spent : Int)] 51) := by
  rw [aQ7 (aQ7 h.box de') da']
  rfl
 exact ⟨hbox, hrow (by decide) h1, hrow (by decide) h2, h.evs.keep (fun k cs hc _ => hbk k (gLt hc) (hne hc (by decide))) (fun k cs _ hc => hbk k (gLt hc) (hne hc (by decide))), hrow (by decide) h.txt, h.map.keep (hbk _ h.map.lt h.mne), h.bel.grown hg h.bel.size (fun k hk => by have := Option.some.inj hk; have := h.r0; omega), h.r0, h.m0⟩
theorem head_any {w0 W : World} {r mb : Nat} {st : Rs} {de da ev tx : Value} {t : ByteArray} {m : Int} (hc : Ctx w0 m) (h : Rm w0 W r mb st de da ev tx) :
 Calls Tryz.prog 21 #[.pointer (some ⟨r, 0, none⟩), .string t] W fun e W' => bK1 w0 W r mb st ev tx (aZ7 t) e W' := by
 have hd := fun wx (hb : Below W.heap.size W wx) => implDtd_any t wx m ((hc.env.below h.bel).below hb) ((hc.et.below h.bel).below hb)
 obtain ⟨R, hR⟩ : ∃ R, aZ7 t = R := ⟨_, rfl⟩
 rw [hR] at hd ⊢
 clear hR
 have R0 := aQ0 h
 clear h hc
 go_enter Tryz.func21, Tryz.ntmps21
 go_wp2_with fail
 refine (hd W (Below.refl _ _)).mono ?_
 rintro e w1 ⟨ae, ce, aa, ca, rfl, hre, hra, hb1⟩
 obtain ⟨W2, hW2⟩ : ∃ W2, w1.alloc (.cells #[.slice ae R.dtd.ents.length ce, .slice aa R.dtd.atts.length ca, .int .i64 R.at1, .int .i64 R.code] 103) = W2 := ⟨_, rfl⟩
 have HW2 := aQ0 hW2
 have hb2 : Below w1.heap.size w1 W2 := by rw [← hW2]; exact bAl
 have R2 := aQ0 ((R0.out.below hb1).below hb2)
 have F2 := aQ0 ((Fr.below (r := r) (mb := mb) (g := none) hb1).trans (Fr.below (g := none) hb2) (fun k hk => by cases hk))
 have hl := R0.out.bel.size
 have E2 : Hid (W2.ownsRow w0.heap.size 195 2 (.slice ae R.dtd.ents.length ce) R.dtd.ents.length (aQ8 R.dtd.ents)) := aQ0 (by rw [← hW2]; exact aZi (hre.alloc _) hl)
 have A2 : Hid (W2.ownsRow w0.heap.size 150 5 (.slice aa R.dtd.atts.length ca) R.dtd.atts.length (aJp R.dtd.atts)) := aQ0 (by rw [← hW2]; exact aZi (hra.alloc _) hl)
 obtain ⟨⟨c0, c1, c2, c3, c4, c5, c6, c7⟩, f0, f1, f2, f3, f4, f5, f7⟩ := R2.out.cells
 rw [← hW2] at c0 c1 f0 f1
 clear hre hra hb1 hb2 hd hW2 c2 c3 c4 c5 c6 c7 f2 f3 f4 f5 f7 hl
 by_cases h0 : R.code = 0
 · have h0b : (R.code != 0) = false := by simp [h0]
   have HK := aQ0 h0
   clear h0
   go_wp2
   go_end0
   unfold bK1
   rw [if_pos HK.out, HW2.out]
   refine ⟨rfl, ⟨_, _, R2.out.head E2.out A2.out⟩, F2.out.trans (Fr.grown (g := none) (k := some r) (aQ3 (aQa _) (aQa _)) (fun j hj => .inl (Option.some.inj hj).symm)) (fun k hk => by cases hk)⟩
 · have h0b : (R.code != 0) = true := by simp [h0]
   have hfail := fun wx => aX3 (.pointer (some ⟨r, 0, none⟩)) R.code wx
   have HK := aQ0 h0
   clear h0
   go_wp2_with fail
   refine (hfail _).mono ?_
   rintro e w3 ⟨he, rfl⟩
   unfold aQr at he
   subst he
   go_wp2
   refine ⟨rfl, ?_⟩
   show bK1 w0 W r mb st ev tx R _ _
   unfold bK1
   rw [if_neg HK.out, HW2.out]
   exact R2.out.fell R.code
end Go.Proofs.YtdblemolaojebaaGreatDoor
