import Derived.Test.YtdblemolaojebaaGreatDoorHdB
set_option maxHeartbeats 4000000
set_option maxRecDepth 100000
namespace Go.Proofs.YtdblemolaojebaaGreatDoor
open Go.RowKit Strs Plain9 Plain10 Plain11 Plain13 Plain23 Plain27 Go.Lib
theorem aVe (s : ByteArray) (p : Nat) : gapO s p = if aKp s p = 0 then some (whiteZ s p) else none := by
 unfold gapO aKp
 by_cases h : p < whiteZ s p
 · rw [if_pos h, if_pos h, if_pos rfl]
 · rw [if_neg h, if_neg h, if_neg (by unfold aW5; split <;> omega)]
theorem bZv {α : Type} (s : ByteArray) (p : Nat) (K : ByteArray × Nat → Option α) : ((gapO s p).bind fun a => (aVt s a).bind K) = if pnF s p = 0 then K (nmT s (whiteZ s p), nmP s (whiteZ s p)) else none := by
 rw [aVe]
 unfold pnF
 by_cases h : aKp s p = 0
 · rw [if_pos h, if_pos h]
   show (aVt s (whiteZ s p)).bind K = _
   unfold aVt
   by_cases h2 : nmF s (whiteZ s p) = 0
   · rw [if_pos h2, if_pos h2]; rfl
   · rw [if_neg h2, if_neg h2]; rfl
 · rw [if_neg h, if_neg h, if_neg h]; rfl
theorem bKi (s : ByteArray) (p : Nat) : pnF s p = 0 ∨ pnF s p = 1 ∨ pnF s p = 2 := by
 unfold pnF
 by_cases h : aKp s p = 0
 · rw [if_pos h]; exact aWl _ _
 · rw [if_neg h]; exact aJ8 _ _
theorem pn_VB {s : ByteArray} {p : Nat} (h0 : VB s 0) (hv : VB s p) : VB s (nmP s (whiteZ s p)) := nm_VB (aZj h0 hv)
theorem val_ways (s : ByteArray) (p : Nat) : valF s p = 0 ∨ valF s p = 1 ∨ valF s p = 2 := by
 unfold valF
 split
 · simp
 · split
   · have h := bZd (s := s) (c := 60) (q := aQ2 s p) (s.size + 1) (p + 1) (by omega) (by omega)
     simp only [vb60] at h
     omega
   · simp
structure Hp [Inhabited Hold] (w W : World) (g : Nat) (s : ByteArray) (p : Nat) (m : Int) : Prop where
 sc : aQi W g s p
 env : EnvH W m
 grown : w.grownBy W (some g)
 far : FarH g
theorem Hp.start [Inhabited Hold] {w : World} {g : Nat} {s : ByteArray} {p : Nat} {m : Int} (h : aQi w g s p) (he : EnvH w m) (hf : FarH g) : Hp w w g s p m :=
 ⟨h, he, ⟨rfl, rfl, rfl, Nat.le_refl _, fun _ _ _ => rfl⟩, hf⟩
theorem Hp.step [Inhabited Hold] {w W W' : World} {g : Nat} {s : ByteArray} {p p' : Nat} {m : Int} (h : Hp w W g s p m) (hb : aQi W' g s p') (hg : W.grownBy W' (some g)) : Hp w W' g s p' m :=
 ⟨hb, h.env.keep h.far hg, aQ3 h.grown hg, h.far⟩
def ErSays [Inhabited Hold] (w : World) (g : Nat) (s : ByteArray) (r : Option Nat) (e : Ending) (w' : World) : Prop :=
 ∃ f q, e = .returned (errV f) ∧ aQi w' g s q ∧ q ≤ s.size ∧ w.grownBy w' (some g) ∧ ((f = 0 ∧ r = some q) ∨ ((f = 1 ∨ f = 2) ∧ r = none))
theorem er_1 [Inhabited Hold] {w W : World} {g : Nat} {s : ByteArray} {p : Nat} {m : Int} {r : Option Nat} (h : Hp w W g s p m) (hp : p ≤ s.size) (hr : r = none) : ErSays w g s r (.returned (.iface 128 (.agg #[]))) W :=
 ⟨1, p, rfl, h.sc, hp, h.grown, .inr ⟨.inl rfl, hr⟩⟩
theorem er_2 [Inhabited Hold] {w W : World} {g : Nat} {s : ByteArray} {p : Nat} {m : Int} {r : Option Nat} (h : Hp w W g s p m) (hp : p ≤ s.size) (hr : r = none) : ErSays w g s r (.returned (.iface 131 (.agg #[.int .i64 3]))) W :=
 ⟨2, p, rfl, h.sc, hp, h.grown, .inr ⟨.inr rfl, hr⟩⟩
theorem bJq [Inhabited Hold] {w : World} {g : Nat} {s : ByteArray} {p : Nat} {m : Int} (h : aQi w g s p) (he : EnvH w m) (hF : FarH g) (hv0 : VB s 0) (hv : VB s p) (hs : s.size ≤ 1048576) (hp : p ≤ s.size) :
 Calls Tryz.prog 106 #[.pointer (some ⟨g, 0, none⟩)] w fun e w' => ErSays w g s ((aJ3 s p).map (·.2)) e w' := by
 have F0 := aQ1 (Hp.start h he hF)
 have hc := aZx h he.env hF.1 hv0 hv hs hp
 obtain ⟨Z, hZ⟩ : ∃ Z, (aJ3 s p).map (·.2) = Z := ⟨_, rfl⟩
 rw [hZ]
 unfold aJ3 at hZ
 rw [bZv] at hZ
 have HZ := aQ1 hZ
 clear h he hZ
 go_enter Tryz.func106, Tryz.ntmps106
 go_wp2_with fail
 refine hc.mono ?_
 rintro e w1 ⟨t, q, rfl, hb1, hq, hT, hg1⟩
 have F1 := aQ1 (F0.out.step hb1 hg1)
 clear hc hb1 hg1 F0
 rcases bKi s p with h0 | h0 | h0
 · obtain ⟨ht, hq'⟩ := hT h0
   have hz := HZ.out
   rw [if_pos h0, ← hq', aVe] at hz
   have HZ := aQ1 hz
   have hc := aZe F1.out.sc hs hq
   simp only [h0, aXq]
   clear hT ht hq' hz h0
   go_wp2_with fail
   refine hc.mono ?_
   rintro e w2 ⟨rfl, hb2, hg2⟩
   have F2 := aQ1 (F1.out.step hb2 hg2)
   have hq2 := aQq (s := s) hq
   clear hc hb2 hg2 F1
   rcases aJ8 s q with h0 | h0 | h0
   · have hz := HZ.out
     rw [if_pos h0] at hz
     obtain ⟨q2, hqd⟩ : ∃ q2, whiteZ s q = q2 := ⟨_, rfl⟩
     rw [hqd] at hz F2 hq2
     have HZ := aQ1 hz
     have hc := aKr (sg := ⟨#[62]⟩) F2.out.sc F2.out.env.env.mx hs hq2
     simp only [h0, aXq]
     clear hz h0 hqd
     go_wp2_with fail
     refine hc.mono ?_
     rintro e w3 ⟨x, q3, rfl, hb3, hq3, hT, hg3⟩
     have F3 := aQ1 (F2.out.step hb3 hg3)
     clear hc hb3 hg3 F2
     by_cases hf : upF s q2 [62] = 0
     · obtain ⟨hx, hq'⟩ := hT hf
       have hxs : x.size ≤ 1048576 := by rw [hx]; have := (upT_size hq2 hf).1; omega
       have hz := HZ.out
       change Option.map _ (if upF s q2 [62] = 0 ∧ Lib.index (upT s q2 [62]).data.toList [60] = -1 then some ([], upP s q2 [62]) else none) = Z at hz
       rw [← hx, ← hq'] at hz
       have hct := Tryz.strings_Contains x ⟨#[60]⟩ m w3 (by omega) F3.out.env.env.mx
       rw [show (⟨#[60]⟩ : ByteArray).data.toList = [60] from rfl] at hct
       simp only [hf, aXq]
       by_cases hix : Lib.index x.data.toList [60] = -1
       · rw [if_pos ⟨hf, hix⟩] at hz
         have HZ := aQ1 hz
         have hcf : Lib.contains x.data.toList [60] = false := by unfold Lib.contains; rw [hix]; rfl
         rw [hcf] at hct
         clear hT hx hq' hf hz hix hcf
         go_wp2_with fail
         refine hct.mono ?_
         rintro e w4 ⟨rfl, hww⟩
         obtain rfl := hww.symm
         go_wp2
         go_ret
         exact ⟨0, q3, rfl, F3.out.sc, hq3, F3.out.grown, .inl ⟨rfl, HZ.out.symm⟩⟩
       · rw [if_neg (fun hc => hix hc.2)] at hz
         have HZ := aQ1 hz
         have hcf : Lib.contains x.data.toList [60] = true := by
          unfold Lib.contains
          have := Lib.index_ge x.data.toList [60]
          exact decide_eq_true (by omega)
         rw [hcf] at hct
         clear hT hx hq' hf hz hix hcf
         go_wp2_with fail
         refine hct.mono ?_
         rintro e w4 ⟨rfl, hww⟩
         obtain rfl := hww.symm
         go_wp2
         go_ret
         exact er_2 F3.out hq3 HZ.out.symm
     · have hf1 : upF s q2 [62] = 1 := (aYw hf).2
       have hz := HZ.out
       change Option.map _ (if upF s q2 [62] = 0 ∧ Lib.index (upT s q2 [62]).data.toList [60] = -1 then some ([], upP s q2 [62]) else none) = Z at hz
       rw [if_neg (fun hc => hf hc.1)] at hz
       have HZ := aQ1 hz
       simp only [hf1, aZ1]
       clear hT hf hf1 hz
       go_wp2
       go_ret
       exact er_1 F3.out hq3 HZ.out.symm
   all_goals
    have hz := HZ.out
    rw [if_neg (by omega)] at hz
    have HZ := aQ1 hz
    simp only [h0, aZ1, aZp]
    clear hz h0
    go_wp2
    go_ret
    first
     | exact er_1 F2.out hq2 HZ.out.symm
     | exact er_2 F2.out hq2 HZ.out.symm
 all_goals
  have hz := HZ.out
  rw [if_neg (by omega)] at hz
  have HZ := aQ1 hz
  simp only [h0, aZ1, aZp]
  clear hT hz h0
  go_wp2
  go_ret
  first
   | exact er_1 F1.out hq HZ.out.symm
   | exact er_2 F1.out hq HZ.out.symm
def dvZ (s : ByteArray) (p : Nat) : Option (ByteArray × Nat) :=
 if aQ5 s p fixL = true then (gapO s (p + 6)).bind fun a => valO s a else valO s p
def SrSays [Inhabited Hold] (w : World) (g : Nat) (s : ByteArray) (r : Option (ByteArray × Nat)) (e : Ending) (w' : World) : Prop :=
 ∃ t f q, e = .returned (.tuple #[.string t, errV f]) ∧ aQi w' g s q ∧ q ≤ s.size ∧ w.grownBy w' (some g) ∧ ((f = 0 ∧ r = some (t, q)) ∨ ((f = 1 ∨ f = 2) ∧ r = none))
theorem sr_of_val [Inhabited Hold] {w W W' : World} {g : Nat} {s : ByteArray} {p : Nat} {e : Ending} (hg : w.grownBy W (some g)) (h : bXv W g s (valF s p) (valT s p) (valP s p) e W') : SrSays w g s (valO s p) e W' := by
 obtain ⟨t, q, rfl, hb, hq, hT, hg2⟩ := h
 rcases val_ways s p with h0 | h0 | h0
 · obtain ⟨rfl, rfl⟩ := hT h0
   exact ⟨_, 0, _, by rw [h0], hb, hq, aQ3 hg hg2, .inl ⟨rfl, by unfold valO; rw [if_pos h0]⟩⟩
 · exact ⟨t, 1, q, by rw [h0], hb, hq, aQ3 hg hg2, .inr ⟨.inl rfl, by unfold valO; rw [if_neg (by omega)]⟩⟩
 · exact ⟨t, 2, q, by rw [h0], hb, hq, aQ3 hg hg2, .inr ⟨.inr rfl, by unfold valO; rw [if_neg (by omega)]⟩⟩
theorem aZy [Inhabited Hold] {w : World} {g : Nat} {s : ByteArray} {p : Nat} {m : Int} (h : aQi w g s p) (he : EnvH w m) (hF : FarH g) (hs : s.size ≤ 1048576) (hp : p ≤ s.size) :
 Calls Tryz.prog 140 #[.pointer (some ⟨g, 0, none⟩)] w fun e w' => SrSays w g s (dvZ s p) e w' := by
 have F0 := aQ1 (Hp.start h he hF)
 have hc := aQc (sg := ⟨#[35, 70, 73, 88, 69, 68]⟩) h hs hp
 rw [show (⟨#[35, 70, 73, 88, 69, 68]⟩ : ByteArray).data.toList = fixL from rfl] at hc
 obtain ⟨Z, hZ⟩ : ∃ Z, dvZ s p = Z := ⟨_, rfl⟩
 rw [hZ]
 unfold dvZ at hZ
 cases hx : aQ5 s p fixL with
 | true =>
  have hp6 : p + 6 ≤ s.size := by have := aQ9 hx hp; simpa [fixL] using this
  rw [hx] at hc
  rw [if_pos hx, aVe] at hZ
  simp only [if_true, show fixL.length = 6 from rfl] at hc
  have HZ := aQ1 hZ
  clear h he hZ hx
  go_enter Tryz.func140, Tryz.ntmps140
  go_wp2_with fail
  refine hc.mono ?_
  rintro e w1 ⟨rfl, hb1, hg1⟩
  have F1 := aQ1 (F0.out.step hb1 hg1)
  clear hc hb1 hg1 F0
  have hc := aZe F1.out.sc hs hp6
  go_wp2_with fail
  refine hc.mono ?_
  rintro e w2 ⟨rfl, hb2, hg2⟩
  have F2 := aQ1 (F1.out.step hb2 hg2)
  have hq2 := aQq (s := s) hp6
  clear hc hb2 hg2 F1
  obtain ⟨q2, hqd⟩ : ∃ q2, whiteZ s (p + 6) = q2 := ⟨_, rfl⟩
  rw [hqd] at HZ F2 hq2
  clear hqd
  rcases aJ8 s (p + 6) with h0 | h0 | h0
  · have hz := HZ.out
    rw [if_pos h0] at hz
    have HZ := aQ1 (show valO s q2 = Z from hz)
    have hc := bQ7 F2.out.sc hs hq2
    simp only [h0, aXq]
    clear hz h0
    go_wp2_with fail
    refine hc.mono ?_
    rintro e w3 hS
    have HS := aQ1 (sr_of_val F2.out.grown hS)
    obtain ⟨t, f, q, he, hr⟩ := HS.out
    subst he
    rw [HZ.out] at hr
    have HR := aQ1 hr
    clear hc hS HS hr
    go_wp2
    go_ret2
    exact ⟨t, f, q, rfl, HR.out⟩
  all_goals
   have hz := HZ.out
   rw [if_neg (by omega)] at hz
   have HZ := aQ1 hz
   simp only [h0, aZ1, aZp]
   clear hz h0
   go_wp2
   go_ret2
   first
    | exact ⟨_, 1, q2, rfl, F2.out.sc, hq2, F2.out.grown, .inr ⟨.inl rfl, HZ.out.symm⟩⟩
    | exact ⟨_, 2, q2, rfl, F2.out.sc, hq2, F2.out.grown, .inr ⟨.inr rfl, HZ.out.symm⟩⟩
 | false =>
  rw [hx, if_neg (by simp)] at hc
  rw [hx, if_neg (by simp)] at hZ
  have HZ := aQ1 hZ
  clear h he hZ hx
  go_enter Tryz.func140, Tryz.ntmps140
  go_wp2_with fail
  refine hc.mono ?_
  rintro e w1 ⟨rfl, hb1, hg1⟩
  have F1 := aQ1 (F0.out.step hb1 hg1)
  clear hc hb1 hg1 F0
  have hc := bQ7 F1.out.sc hs hp
  go_wp2_with fail
  refine hc.mono ?_
  rintro e w3 hS
  have HS := aQ1 (sr_of_val F1.out.grown hS)
  obtain ⟨t, f, q, he, hr⟩ := HS.out
  subst he
  rw [HZ.out] at hr
  have HR := aQ1 hr
  clear hc hS HS hr
  go_wp2
  go_ret2
  exact ⟨t, f, q, rfl, HR.out⟩
open Go.RowKit Strs Plain3 Plain9 Plain10 Plain11 Plain23 Plain27 Go.Lib Ents
def dfV : Df → Value
 | .inl e => .iface 197 (.agg #[.string e.1, .string e.2])
 | .inr a => .iface 199 (.agg #[.string a.of, .string a.nm, .bool a.words, .bool a.has, .string a.val])
def bX3 [Inhabited Hold] (w : World) (g : Nat) (s : ByteArray) (r : Option (List Df × Nat)) (e : Ending) (w' : World) : Prop :=
 ∃ a n c f q, e = .returned (.tuple #[.slice a n c, errV f]) ∧ aQi w' g s q ∧ q ≤ s.size ∧ w.grownBy w' (some g) ∧ ((f = 0 ∧ ∃ l, r = some (l, q) ∧ w'.ownsRow w.heap.size 189 1 (.slice a n c) l.length (l.map dfV)) ∨ ((f = 1 ∨ f = 2) ∧ r = none))
theorem ds_1 [Inhabited Hold] {w W : World} {g : Nat} {s : ByteArray} {p : Nat} {m : Int} {r : Option (List Df × Nat)} (h : Hp w W g s p m) (hp : p ≤ s.size) (hr : r = none) (a : Option Addr) (n c : Nat) : bX3 w g s r (.returned (.tuple #[.slice a n c, .iface 128 (.agg #[])])) W :=
 ⟨a, n, c, 1, p, rfl, h.sc, hp, h.grown, .inr ⟨.inl rfl, hr⟩⟩
theorem ds_2 [Inhabited Hold] {w W : World} {g : Nat} {s : ByteArray} {p : Nat} {m : Int} {r : Option (List Df × Nat)} (h : Hp w W g s p m) (hp : p ≤ s.size) (hr : r = none) (a : Option Addr) (n c : Nat) : bX3 w g s r (.returned (.tuple #[.slice a n c, .iface 131 (.agg #[.int .i64 3])])) W :=
 ⟨a, n, c, 2, p, rfl, h.sc, hp, h.grown, .inr ⟨.inr rfl, hr⟩⟩
theorem bKj {w w' : World} {B g : Nat} {e : TypeId} {size : Nat} {v : Value} {n : Nat} {xs : List Value} (h : w.ownsRow B e size v n xs) (hg : w.grownBy w' (some g)) (hne : v.ownBlock ≠ some g) : w'.ownsRow B e size v n xs :=
 h.kept hg (by
  cases hv : v.ownBlock with
  | none => exact .inl rfl
  | some b => exact .inr (fun e => hne (by rw [hv]; exact e)))
theorem ds_must [Inhabited Hold] {w W : World} {g : Nat} {s : ByteArray} {q : Nat} {m : Int} {Z : Option (List Df × Nat)} {a : Option Addr} {n c : Nat} {l : List Df} (h : Hp w W g s (if aQm s q [62] = 0 then q + [(62 : UInt8)].length else q) m) (hq : q ≤ s.size)
 (ho : W.ownsRow w.heap.size 189 1 (.slice a n c) l.length (l.map dfV)) (hZ : Z = (bQ6 s q [62]).bind fun z => some (l, z)) : bX3 w g s Z (.returned (.tuple #[.slice a n c, errV (aQm s q [62])])) W := by
 rcases bQp s q [62] with h62 | h62 | h62
 · have hh := aX8.1 h62
   have hroom := aQ9 hh hq
   rw [h62, if_pos rfl] at h
   rw [h62]
   refine ⟨a, n, c, 0, q + 1, rfl, h.sc, by simpa using hroom, h.grown, .inl ⟨rfl, l, ?_, ho⟩⟩
   rw [hZ]; unfold bQ6; rw [if_pos hh]; rfl
 all_goals
  have hh : ¬ aQ5 s q [62] = true := fun hc => by have := aX8.2 hc; omega
  rw [h62, if_neg (by omega)] at h
  rw [h62]
  refine ⟨a, n, c, _, q, rfl, h.sc, hq, h.grown, .inr ⟨by simp, ?_⟩⟩
  rw [hZ]; unfold bQ6; rw [if_neg hh]; rfl
theorem bZr {c : Int} (h : aKe c = true) : c < 128 := by
 unfold aKe at h; have := of_decide_eq_true h; omega
theorem bV9 [Inhabited Hold] {w : World} {g : Nat} {s : ByteArray} {p : Nat} {m : Int} (h : aQi w g s p) (he : EnvH w m) (hF : FarH g) (hv0 : VB s 0) (hv : VB s p) (hs : s.size ≤ 1048576) (hp : p ≤ s.size) :
 Calls Tryz.prog 104 #[.pointer (some ⟨g, 0, none⟩)] w fun e w' => bX3 w g s (aKj s p) e w' := by
 have F0 := aQ1 (Hp.start h he hF)
 have hc := aZx h he.env hF.1 hv0 hv hs hp
 obtain ⟨Z, hZ⟩ : ∃ Z, aKj s p = Z := ⟨_, rfl⟩
 rw [hZ]
 unfold aKj at hZ
 rw [bZv] at hZ
 have HZ := aQ1 hZ
 have HV0 := aQ1 hv0
 clear h he hZ hv0 hv
 go_enter Tryz.func104, Tryz.ntmps104
 go_wp2_with fail
 refine hc.mono ?_
 rintro e w1 ⟨t, q, rfl, hb1, hq, hT, hg1⟩
 have F1 := aQ1 (F0.out.step hb1 hg1)
 clear hc hb1 hg1 F0
 rcases bKi s p with h0 | h0 | h0
 · obtain ⟨ht, hq'⟩ := hT h0
   have hz := HZ.out
   rw [if_pos h0, ← hq', ← ht, aVe] at hz
   have HZ := aQ1 hz
   have hc := aZe F1.out.sc hs hq
   simp only [h0, aXq]
   clear hT ht hq' hz h0
   go_wp2_with fail
   refine hc.mono ?_
   rintro e w2 ⟨rfl, hb2, hg2⟩
   have F2 := aQ1 (F1.out.step hb2 hg2)
   have hq2 := aQq (s := s) hq
   clear hc hb2 hg2 F1
   obtain ⟨q2, hqd⟩ : ∃ q2, whiteZ s q = q2 := ⟨_, rfl⟩
   rw [hqd] at HZ F2 hq2
   clear hqd
   rcases aJ8 s q with h0 | h0 | h0
   · have hz := HZ.out
     rw [if_pos h0] at hz
     have HZ := aQ1 (show ((qtO s q2).bind fun v => (entO v.1).bind fun x => (bQ6 s (whiteZ s v.2) [62]).bind fun y => some ([Sum.inl (t, strOfNums x)], y)) = Z from hz)
     have hc := imValueP_any F2.out.sc hs hq2
     simp only [h0, aXq]
     clear hz h0
     go_wp2_with fail
     refine hc.mono ?_
     rintro e w3 ⟨x, q3, rfl, hb3, hq3, hT, hg3⟩
     have F3 := aQ1 (F2.out.step hb3 hg3)
     clear hc hb3 hg3 F2
     rcases qt_vb (s := s) q2 hq2 with ⟨h0, hqt, h37, he1, he2, heq⟩ | ⟨h0, h2, hno⟩
     · obtain ⟨hx, hq'⟩ := hT h0
       have hz := HZ.out
       rw [hqt, ← hq', ← hx] at hz
       have HZ := aQ1 (show ((entO x).bind fun y => (bQ6 s (whiteZ s q3) [62]).bind fun z => some ([Sum.inl (t, strOfNums y)], z)) = Z from hz)
       have hq20 : aQ2 s q2 < 128 := by
        have := bKe hqt
        exact bZr this.2.1
       have hvx : VB x 0 := by
        rw [hx]
        unfold vbT
        refine cut_VB (by omega) he1 (aJj HV0.out (by omega) (by rw [Nat.add_sub_cancel]; exact hq20)) (.inr ?_)
        have := bZr heq
        unfold aX1; omega
       have hxs : x.size ≤ 1048576 := by rw [hx]; unfold vbT; rw [aX7 (by omega)]; omega
       rw [← hx] at h37
       have hc := bV8 x w3 m F3.out.env hxs hvx h37
       simp only [h0, aXq]
       clear hT hx hq' hqt h37 he1 he2 heq hq20 hvx hz h0
       go_wp2_with fail
       refine hc.mono ?_
       rintro e w4 ⟨⟨y, f4, rfl, hR4⟩, hb4⟩
       have F4 := aQ1 (F3.out.step (aZt F3.out.sc hb4) (aJz hb4))
       clear hc hb4 F3
       rcases hR4 with ⟨rfl, l, hl, rfl⟩ | ⟨hf4, hl⟩
       · have hz := HZ.out
         rw [hl] at hz
         have HZ := aQ1 (show ((bQ6 s (whiteZ s q3) [62]).bind fun z => some ([Sum.inl (t, strOfNums l)], z)) = Z from hz)
         have hc := aXi F4.out.sc hs hq3
         obtain ⟨T, hT⟩ : ∃ T, strOfNums l = T := ⟨_, rfl⟩
         rw [hT] at HZ ⊢
         simp only [aXq]
         clear hz hl hT
         go_wp2_with fail
         refine hc.mono ?_
         rintro e w5 ⟨rfl, hb5, hg5⟩
         have F5 := aQ1 (F4.out.step hb5 hg5)
         have hq5 := aQq (s := s) hq3
         clear hc hb5 hg5 F4
         obtain ⟨q5, hqd⟩ : ∃ q5, whiteZ s q3 = q5 := ⟨_, rfl⟩
         rw [hqd] at HZ F5 hq5
         clear hqd
         have O6 := aQ1 (World.ownsRow_lit (base := w.heap.size) (e := 189) (size := 1) w5 #[dfV (.inl (t, T))] 1 F5.out.grown.size (by unfold maxLen; omega) rfl)
         have F6 := aQ1 (F5.out.step (aZu F5.out.sc (.cells #[dfV (.inl (t, T))] 189)) (aZg w5 _ _))
         have hc := aZ8 (sg := ⟨#[62]⟩) F6.out.sc hs hq5
         have hlt5 := bXh F5.out.sc
         clear F5
         go_wp2_with fail
         refine hc.mono ?_
         rintro e w6 ⟨rfl, hb6, hg6⟩
         have F7 := aQ1 (F6.out.step hb6 hg6)
         have O7 := aQ1 (bKj O6.out hg6 (fun e => by have := Option.some.inj (show some w5.heap.size = some g from e); omega))
         clear hc hb6 hg6 O6 F6
         go_wp2
         go_ret2
         exact ds_must (l := [.inl (t, T)]) F7.out hq5 O7.out HZ.out.symm
       · have hz := HZ.out
         rw [hl] at hz
         have HZ := aQ1 (show none = Z from hz)
         clear hz hl
         rcases hf4 with rfl | rfl
         all_goals
          simp only [aZ1, aZp]
          go_wp2
          go_ret2
          first
           | exact ds_1 F4.out hq3 HZ.out.symm _ _ _
           | exact ds_2 F4.out hq3 HZ.out.symm _ _ _
     · have hz := HZ.out
       rw [hno] at hz
       have HZ := aQ1 hz
       have h12 : vbF s 37 q2 = 1 ∨ vbF s 37 q2 = 2 := by omega
       clear hT hz hno h0 h2
       rcases h12 with h0 | h0
       all_goals
        simp only [h0, aZ1, aZp]
        clear h0
        go_wp2
        go_ret2
        first
         | exact ds_1 F3.out hq3 HZ.out.symm _ _ _
         | exact ds_2 F3.out hq3 HZ.out.symm _ _ _
   all_goals
    have hz := HZ.out
    rw [if_neg (by omega)] at hz
    have HZ := aQ1 hz
    simp only [h0, aZ1, aZp]
    clear hz h0
    go_wp2
    go_ret2
    first
     | exact ds_1 F2.out hq2 HZ.out.symm _ _ _
     | exact ds_2 F2.out hq2 HZ.out.symm _ _ _
 all_goals
  have hz := HZ.out
  rw [if_neg (by omega)] at hz
  have HZ := aQ1 hz
  simp only [h0, aZ1, aZp]
  clear hT hz h0
  go_wp2
  go_ret2
  first
   | exact ds_1 F1.out hq HZ.out.symm _ _ _
   | exact ds_2 F1.out hq HZ.out.symm _ _ _
end Go.Proofs.YtdblemolaojebaaGreatDoor
