import Derived.Test.YtdblemolaojebaaGreatDoorHdA
import Derived.Test.YtdblemolaojebaaGreatDoorImC
import Derived.Test.YtdblemolaojebaaGreatDoorPlF
set_option maxHeartbeats 4000000
set_option maxRecDepth 100000
namespace Go.Proofs.YtdblemolaojebaaGreatDoor
open Go.RowKit Plain1 Strs2 Lists Plain9 Plain10 Plain11 Plain14 Plain23 Plain25 Plain27 Plain28
structure EnvH (w : World) (m : Int) : Prop where
 env : Env w m
 syn : SynCell w
def FarH (g : Nat) : Prop := Far g ∧ 9 ≠ g
theorem EnvH.keep {w w' : World} {m : Int} {g : Nat} (h : EnvH w m) (hF : FarH g) (hg : w.grownBy w' (some g)) : EnvH w' m := by
 obtain ⟨ev, h1, h2⟩ := h.syn
 exact ⟨h.env.keep hF.1 hg, ev, aZ4 (hg.block _ (aQf h1) (fun e => hF.2 (Option.some.inj e))) h1, h2⟩
theorem EnvH.below {w w' : World} {m : Int} (h : EnvH w m) (hb : Below w.heap.size w w') : EnvH w' m := by
 obtain ⟨ev, h1, h2⟩ := h.syn
 refine ⟨⟨h.env.tabs.below hb, aZ4 (hb.block _ (aQf h.env.mx)) h.env.mx, fun i z hz => aZ4 (hb.block _ (aQf (h.env.fo i z hz))) (h.env.fo i z hz)⟩, ev, aZ4 (hb.block _ (aQf h1)) h1, h2⟩
def NuSays [Inhabited Hold] (w : World) (g : Nat) (s : ByteArray) (r : Option (Int × Nat)) (e : Ending) (w' : World) : Prop :=
 ∃ n f q, e = .returned (.tuple #[.int .i64 n, errV f]) ∧ aQi w' g s q ∧ q ≤ s.size ∧ w.grownBy w' (some g) ∧ ((f = 0 ∧ r = some (n, q)) ∨ ((f = 1 ∨ f = 2) ∧ r = none))
theorem bXd [Inhabited Hold] {w w' : World} {g : Nat} {s : ByteArray} {r : Option (Int × Nat)} {q : Nat} {n : Int} (hb : aQi w' g s q) (hq : q ≤ s.size) (hg : w.grownBy w' (some g)) (hr : r = none) : NuSays w g s r (.returned (.tuple #[.int .i64 n, .iface 131 (.agg #[.int .i64 3])])) w' :=
 ⟨n, 2, q, rfl, hb, hq, hg, .inr ⟨.inr rfl, hr⟩⟩
theorem trim10_call (t : ByteArray) (w : World) : Calls Tryz.prog 103 #[.string t, .string ⟨#[48, 49, 50, 51, 52, 53, 54, 55, 56, 57]⟩] w fun e w' => e = .returned (.string ⟨(Lib.trimLeftS t.data.toList set10).toArray⟩) ∧ Below w.heap.size w w' :=
 Any.strings_TrimLeft_laid Tryz.lays161 bKv t ⟨#[48, 49, 50, 51, 52, 53, 54, 55, 56, 57]⟩ w (by decide) (ascii_of_all (by decide))
theorem trim16_call (t : ByteArray) (w : World) : Calls Tryz.prog 103 #[.string t, .string ⟨#[48, 49, 50, 51, 52, 53, 54, 55, 56, 57, 97, 98, 99, 100, 101, 102, 65, 66, 67, 68, 69, 70]⟩] w fun e w' => e = .returned (.string ⟨(Lib.trimLeftS t.data.toList set16).toArray⟩) ∧ Below w.heap.size w w' :=
 Any.strings_TrimLeft_laid Tryz.lays161 bKv t ⟨#[48, 49, 50, 51, 52, 53, 54, 55, 56, 57, 97, 98, 99, 100, 101, 102, 65, 66, 67, 68, 69, 70]⟩ w (by decide) (ascii_of_all (by decide))
theorem bQp (s : ByteArray) (p : Nat) (sg : List UInt8) : aQm s p sg = 0 ∨ aQm s p sg = 1 ∨ aQm s p sg = 2 := by
 unfold aQm aW5; split <;> (try split) <;> simp
theorem nu_must [Inhabited Hold] {w w' : World} {g : Nat} {s : ByteArray} {q : Nat} {V : Int} {Z : Option (Int × Nat)} (hb : aQi w' g s (if aQm s q [59] = 0 then q + [(59 : UInt8)].length else q)) (hq : q ≤ s.size) (hg : w.grownBy w' (some g)) (hZ : Z = if aQ5 s q [59] = true then some (V, q + 1) else none) : NuSays w g s Z (.returned (.tuple #[.int .i64 V, errV (aQm s q [59])])) w' := by
 rcases bQp s q [59] with h59 | h59 | h59
 · have hh := aX8.1 h59
   have := aQ9 hh hq
   rw [h59, if_pos rfl] at hb
   rw [h59]
   exact ⟨V, 0, q + 1, rfl, hb, by simpa using this, hg, .inl ⟨rfl, by rw [hZ, if_pos hh]⟩⟩
 all_goals
  have hh : ¬ aQ5 s q [59] = true := fun hc => by have := aX8.2 hc; omega
  rw [h59, if_neg (by omega)] at hb
  rw [h59]
  exact ⟨V, _, q, rfl, hb, hq, hg, .inr ⟨by simp, by rw [hZ, if_neg hh]⟩⟩
theorem digs_part {base : Nat} {set : List UInt8} (hset : ∀ c : UInt8, set.contains c = decide (digV c < base)) {s : ByteArray} {q : Nat} (hq : q ≤ s.size) :
 let L := (digs base (rest s q)).length
 q + L ≤ s.size ∧ ((⟨(Lib.trimLeftS (rest s q) set).toArray⟩ : ByteArray).size : Int) = (s.size : Int) - q - L ∧ (s.extract q (q + L)).data.toList = digs base (rest s q) := by
 intro L
 have h1 := trim_digs base set hset (rest s q)
 have h2 := digs_le base (rest s q)
 have h3 : (rest s q).length = s.size - q := aVx s q
 have hL : L = (digs base (rest s q)).length := rfl
 refine ⟨by omega, ?_, ?_⟩
 · rw [Lib.size_eq]
   show (((Lib.trimLeftS (rest s q) set).length : Nat) : Int) = _
   omega
 · rw [aK1]
   show ((rest s q).take (q + L - q)) = _
   rw [Nat.add_sub_cancel_left, hL, ← digs_self, List.take_length]
theorem number10_any [Inhabited Hold] {w : World} {g : Nat} {s : ByteArray} {p q : Nat} {m : Int} (h : aQi w g s p) (he : EnvH w m) (hF : FarH g) (hs : s.size ≤ 1048576) (hp : p ≤ s.size) (hx : aQ5 s p [120] = false) (hqd : q = p) :
 Calls Tryz.prog 131 #[.pointer (some ⟨g, 0, none⟩)] w fun e w' => NuSays w g s (numZ s p) e w' := by
 have hq : q ≤ s.size := by omega
 have hB : aWk s p = 10 := by unfold aWk; rw [hx]; rfl
 have hA : aVj s p = q := by unfold aVj; rw [hx, hqd]; rfl
 have hD : numD s p = digs 10 (rest s q) := by unfold numD; rw [hB, hA]
 obtain ⟨d1, d2, d3⟩ := digs_part (base := 10) set10_digs hq
 obtain ⟨L, hL⟩ : ∃ L, (digs 10 (rest s q)).length = L := ⟨_, rfl⟩
 rw [hL] at d1 d2 d3
 have ht := aQc (sg := ⟨#[120]⟩) h hs hp
 rw [show (⟨#[120]⟩ : ByteArray).data.toList = [120] from rfl, hx] at ht
 rw [if_neg (by simp)] at ht
 rw [show p = q by omega] at ht
 have hsl : ∀ wx, (Instr.slice 9 (.string s) (some (.int .i64 (q : Int))) none none).run Tryz.prog wx = .ok (.string (s.extract q s.size)) wx := fun wx => aZh wx _ s q _ rfl hq Tryz.underlying9
 have hxs := aWx s q
 have htr := fun wx => trim10_call (s.extract q s.size) wx
 simp only [aJl] at htr
 obtain ⟨X, hX⟩ : ∃ X, s.extract q s.size = X := ⟨_, rfl⟩
 obtain ⟨Y, hY⟩ : ∃ Y : ByteArray, (⟨(Lib.trimLeftS (rest s q) set10).toArray⟩ : ByteArray) = Y := ⟨_, rfl⟩
 simp only [hX] at hsl htr hxs
 rw [hY] at d2
 simp only [hY] at htr
 have hsl2 : ∀ wx, (Instr.slice 9 (.string X) none (some (.int .i64 (L : Int))) none).run Tryz.prog wx = .ok (.string (s.extract q (q + L))) wx := fun wx => by
  rw [sub_to wx _ X L _ rfl (by omega) Tryz.underlying9, ← hX, ext_ext]
 have hw1 : IntKind.i64.wrap ((X.size : Int) - (Y.size : Int)) = (L : Int) := by rw [aZ2 (by omega) (by omega)]; omega
 have hZ : numZ s p = if 1 ≤ L ∧ L ≤ 8 ∧ aQ5 s (q + L) [59] = true ∧ aZq (digX 10 (digs 10 (rest s q)) : Nat) = true then some (((digX 10 (digs 10 (rest s q)) : Nat) : Int), q + L + 1) else none := by
  unfold numZ numOk numV
  rw [hD, hB, hA, hL]
 obtain ⟨Z, hZd⟩ : ∃ Z, numZ s p = Z := ⟨_, rfl⟩
 rw [hZd] at hZ ⊢
 have HZ2 := aQ1 hZ
 have HXS := aQ1 hxs
 have HD3 := aQ1 d3
 have HX := aQ1 hX
 clear hZ d3 hX hY hD hB hA d2 hx hqd hZd hxs
 go_enter Tryz.func131, Tryz.ntmps131
 go_wp2_with fail
 refine ht.mono ?_
 rintro e w1 ⟨rfl, hb1, hg1⟩
 have HB1 := aQ1 hb1
 have HG1 := aQ1 hg1
 have HE1 := aQ1 (he.keep hF hg1)
 clear ht hb1 hg1 h he
 obtain ⟨c0, c1, f1⟩ := aQz HB1.out
 go_wp2_with fail
 go_quiet (fail)
 have HB2 : Hid (aQi (w1.drewN nq) g s q) := HB1
 have HG2 := aQ1 (aQ3 HG1.out (aQb w1 nq (some g)))
 have HE2 := aQ1 (HE1.out.keep hF (aQb w1 nq (some g)))
 generalize w1.drewN nq = w2 at HB2 HG2 HE2 ⊢
 clear c0 c1 f1 HB1 HG1 HE1 hsl
 go_wp2_with fail
 refine (htr _).mono ?_
 rintro e w3 ⟨rfl, hb3⟩
 have HB3 := aQ1 (aZt HB2.out hb3)
 have HG3 := aQ1 (aQ3 HG2.out (aJz hb3))
 have HE3 := aQ1 (HE2.out.below hb3)
 clear hb3 htr HB2 HG2 HE2
 by_cases h8 : 8 < L
 · have hn : Z = none := by rw [HZ2.out, if_neg (by omega)]
   have HN := aQ1 hn
   clear hn hsl2
   go_wp2
   go_ret2
   exact bXd HB3.out hq HG3.out HN.out
 by_cases h0 : L = 0
 · have hn : Z = none := by rw [HZ2.out, if_neg (by omega)]
   have HN := aQ1 hn
   subst h0
   have hem : s.extract q (q + 0) = ⟨#[]⟩ := by
    apply ByteArray.ext
    apply Array.toList_inj.1
    rw [HD3.out]
    exact List.eq_nil_of_length_eq_zero hL
   rw [hem] at hsl2
   have hpi := bQk 10 w3 HE3.out.syn
   clear hn hem
   go_wp2_with fail
   refine hpi.mono ?_
   rintro e w4 ⟨⟨te, pe, rfl⟩, hb4⟩
   have HB4 := aQ1 (aZt HB3.out hb4)
   have HG4 := aQ1 (aQ3 HG3.out (aJz hb4))
   clear hb4 hpi HB3 HG3 HE3 hsl2
   go_wp2
   go_ret2
   exact bXd HB4.out hq HG4.out HN.out
 have hTs : (s.extract q (q + L)).size = L := by rw [aX7 d1]; omega
 have hdg : ∀ k, k < (s.extract q (q + L)).data.toList.length → digV ((s.extract q (q + L)).data.toList.getD k 0) < 10 := by
  rw [HD3.out]
  intro k hk
  have h1 := bWe (base := 10) (l := rest s q) (k := k) hk
  have h2 : (digs 10 (rest s q)).getD k 0 = (rest s q).getD k 0 := by
   have := bQv 10 (rest s q) (k + 1) (by omega)
   have e1 : ((digs 10 (rest s q)).take (k + 1)).getD k 0 = ((rest s q).take (k + 1)).getD k 0 := by rw [this]
   simpa [List.getD, List.getElem?_take] using e1
  rw [h2]; exact h1
 have hpi := bV2 (s.extract q (q + L)) (by omega) (by omega) hdg w3
 rw [HD3.out] at hpi
 obtain ⟨T, hT⟩ : ∃ T, s.extract q (q + L) = T := ⟨_, rfl⟩
 obtain ⟨V, hV⟩ : ∃ V : Int, ((digX 10 (digs 10 (rest s q)) : Nat) : Int) = V := ⟨_, rfl⟩
 have HZ3 : Hid (Z = if 1 ≤ L ∧ L ≤ 8 ∧ aQ5 s (q + L) [59] = true ∧ aZq V = true then some (V, q + L + 1) else none) := by rw [← hV]; exact HZ2
 rw [hT, hV] at hpi
 rw [hT] at hsl2
 have hch := fun wx => aKt V wx
 clear hT hV hTs hdg HD3 HX HZ2 hL
 cases hcb : aZq V with
 | false =>
  have hn : Z = none := by rw [HZ3.out, hcb, if_neg (by simp)]
  have HN := aQ1 hn
  rw [hcb] at hch
  clear hn hcb
  go_wp2_with fail
  refine hpi.mono ?_
  rintro e w4 ⟨rfl, hb4⟩
  have HB4 := aQ1 (aZt HB3.out hb4)
  have HG4 := aQ1 (aQ3 HG3.out (aJz hb4))
  clear hb4 hpi HB3 HG3 HE3 hsl2
  go_wp2_with fail
  refine (hch _).mono ?_
  rintro e w5 ⟨rfl, hww⟩
  obtain rfl := hww.symm
  go_wp2
  go_ret2
  exact bXd HB4.out hq HG4.out HN.out
 | true =>
  rw [hcb] at hch HZ3
  have hw2 : IntKind.i64.wrap ((q : Int) + (L : Int)) = (q : Int) + (L : Int) := aZ2 (by omega) (by omega)
  clear hcb
  go_wp2_with fail
  refine hpi.mono ?_
  rintro e w4 ⟨rfl, hb4⟩
  have HB4 := aQ1 (aZt HB3.out hb4)
  have HG4 := aQ1 (aQ3 HG3.out (aJz hb4))
  clear hb4 hpi HB3 HG3 HE3 hsl2
  go_wp2_with fail
  refine (hch _).mono ?_
  rintro e w5 ⟨rfl, hww⟩
  obtain rfl := hww.symm
  obtain ⟨c0, c1, f1⟩ := aQz HB4.out
  have hm := aZ8 (sg := ⟨#[59]⟩) (aW7 (z := (q : Int) + (L : Int)) HB4.out (q + L) (by omega)) hs d1
  go_wp2_with fail
  refine hm.mono ?_
  rintro e w6 ⟨rfl, hb6, hg6⟩
  have HB6 := aQ1 hb6
  have HG6 := aQ1 (aQ3 (aQ3 HG4.out (aQa (.int .i64 ((q : Int) + (L : Int))))) hg6)
  clear hb6 hg6 hm HB4 HG4 c0 c1 f1 hch
  go_wp2
  go_ret2
  refine nu_must HB6.out d1 HG6.out ?_
  rw [HZ3.out]
  by_cases hh : aQ5 s (q + L) [59] = true
  · rw [if_pos ⟨by omega, by omega, hh, trivial⟩, if_pos hh]
  · rw [if_neg (fun h => hh h.2.2.1), if_neg hh]
theorem number16_any [Inhabited Hold] {w : World} {g : Nat} {s : ByteArray} {p q : Nat} {m : Int} (h : aQi w g s p) (he : EnvH w m) (hF : FarH g) (hs : s.size ≤ 1048576) (hp : p ≤ s.size) (hx : aQ5 s p [120] = true) (hqd : q = p + 1) :
 Calls Tryz.prog 131 #[.pointer (some ⟨g, 0, none⟩)] w fun e w' => NuSays w g s (numZ s p) e w' := by
 have hq : q ≤ s.size := by have := aQ9 hx hp; simp at this; omega
 have hB : aWk s p = 16 := by unfold aWk; rw [hx]; rfl
 have hA : aVj s p = q := by unfold aVj; rw [hx, hqd]; rfl
 have hD : numD s p = digs 16 (rest s q) := by unfold numD; rw [hB, hA]
 obtain ⟨d1, d2, d3⟩ := digs_part (base := 16) set16_digs hq
 obtain ⟨L, hL⟩ : ∃ L, (digs 16 (rest s q)).length = L := ⟨_, rfl⟩
 rw [hL] at d1 d2 d3
 have ht := aQc (sg := ⟨#[120]⟩) h hs hp
 rw [show (⟨#[120]⟩ : ByteArray).data.toList = [120] from rfl, hx] at ht
 simp only [if_true, List.length_cons, List.length_nil] at ht
 rw [show p + (0 + 1) = q by omega] at ht
 have hsl : ∀ wx, (Instr.slice 9 (.string s) (some (.int .i64 (q : Int))) none none).run Tryz.prog wx = .ok (.string (s.extract q s.size)) wx := fun wx => aZh wx _ s q _ rfl hq Tryz.underlying9
 have hxs := aWx s q
 have htr := fun wx => trim16_call (s.extract q s.size) wx
 simp only [aJl] at htr
 obtain ⟨X, hX⟩ : ∃ X, s.extract q s.size = X := ⟨_, rfl⟩
 obtain ⟨Y, hY⟩ : ∃ Y : ByteArray, (⟨(Lib.trimLeftS (rest s q) set16).toArray⟩ : ByteArray) = Y := ⟨_, rfl⟩
 simp only [hX] at hsl htr hxs
 rw [hY] at d2
 simp only [hY] at htr
 have hsl2 : ∀ wx, (Instr.slice 9 (.string X) none (some (.int .i64 (L : Int))) none).run Tryz.prog wx = .ok (.string (s.extract q (q + L))) wx := fun wx => by
  rw [sub_to wx _ X L _ rfl (by omega) Tryz.underlying9, ← hX, ext_ext]
 have hw1 : IntKind.i64.wrap ((X.size : Int) - (Y.size : Int)) = (L : Int) := by rw [aZ2 (by omega) (by omega)]; omega
 have hZ : numZ s p = if 1 ≤ L ∧ L ≤ 8 ∧ aQ5 s (q + L) [59] = true ∧ aZq (digX 16 (digs 16 (rest s q)) : Nat) = true then some (((digX 16 (digs 16 (rest s q)) : Nat) : Int), q + L + 1) else none := by
  unfold numZ numOk numV
  rw [hD, hB, hA, hL]
 obtain ⟨Z, hZd⟩ : ∃ Z, numZ s p = Z := ⟨_, rfl⟩
 rw [hZd] at hZ ⊢
 have HZ2 := aQ1 hZ
 have HXS := aQ1 hxs
 have HD3 := aQ1 d3
 have HX := aQ1 hX
 clear hZ d3 hX hY hD hB hA d2 hx hqd hZd hxs
 go_enter Tryz.func131, Tryz.ntmps131
 go_wp2_with fail
 refine ht.mono ?_
 rintro e w1 ⟨rfl, hb1, hg1⟩
 have HB1 := aQ1 hb1
 have HG1 := aQ1 hg1
 have HE1 := aQ1 (he.keep hF hg1)
 clear ht hb1 hg1 h he
 obtain ⟨c0, c1, f1⟩ := aQz HB1.out
 go_wp2_with fail
 go_quiet (fail)
 have HB2 : Hid (aQi (w1.drewN nq) g s q) := HB1
 have HG2 := aQ1 (aQ3 HG1.out (aQb w1 nq (some g)))
 have HE2 := aQ1 (HE1.out.keep hF (aQb w1 nq (some g)))
 generalize w1.drewN nq = w2 at HB2 HG2 HE2 ⊢
 clear c0 c1 f1 HB1 HG1 HE1 hsl
 go_wp2_with fail
 refine (htr _).mono ?_
 rintro e w3 ⟨rfl, hb3⟩
 have HB3 := aQ1 (aZt HB2.out hb3)
 have HG3 := aQ1 (aQ3 HG2.out (aJz hb3))
 have HE3 := aQ1 (HE2.out.below hb3)
 clear hb3 htr HB2 HG2 HE2
 by_cases h8 : 8 < L
 · have hn : Z = none := by rw [HZ2.out, if_neg (by omega)]
   have HN := aQ1 hn
   clear hn hsl2
   go_wp2
   go_ret2
   exact bXd HB3.out hq HG3.out HN.out
 by_cases h0 : L = 0
 · have hn : Z = none := by rw [HZ2.out, if_neg (by omega)]
   have HN := aQ1 hn
   subst h0
   have hem : s.extract q (q + 0) = ⟨#[]⟩ := by
    apply ByteArray.ext
    apply Array.toList_inj.1
    rw [HD3.out]
    exact List.eq_nil_of_length_eq_zero hL
   rw [hem] at hsl2
   have hpi := bQk 16 w3 HE3.out.syn
   clear hn hem
   go_wp2_with fail
   refine hpi.mono ?_
   rintro e w4 ⟨⟨te, pe, rfl⟩, hb4⟩
   have HB4 := aQ1 (aZt HB3.out hb4)
   have HG4 := aQ1 (aQ3 HG3.out (aJz hb4))
   clear hb4 hpi HB3 HG3 HE3 hsl2
   go_wp2
   go_ret2
   exact bXd HB4.out hq HG4.out HN.out
 have hTs : (s.extract q (q + L)).size = L := by rw [aX7 d1]; omega
 have hdg : ∀ k, k < (s.extract q (q + L)).data.toList.length → digV ((s.extract q (q + L)).data.toList.getD k 0) < 16 := by
  rw [HD3.out]
  intro k hk
  have h1 := bWe (base := 16) (l := rest s q) (k := k) hk
  have h2 : (digs 16 (rest s q)).getD k 0 = (rest s q).getD k 0 := by
   have := bQv 16 (rest s q) (k + 1) (by omega)
   have e1 : ((digs 16 (rest s q)).take (k + 1)).getD k 0 = ((rest s q).take (k + 1)).getD k 0 := by rw [this]
   simpa [List.getD, List.getElem?_take] using e1
  rw [h2]; exact h1
 have hpi := bV1 (s.extract q (q + L)) (by omega) (by omega) hdg w3
 rw [HD3.out] at hpi
 obtain ⟨T, hT⟩ : ∃ T, s.extract q (q + L) = T := ⟨_, rfl⟩
 obtain ⟨V, hV⟩ : ∃ V : Int, ((digX 16 (digs 16 (rest s q)) : Nat) : Int) = V := ⟨_, rfl⟩
 have HZ3 : Hid (Z = if 1 ≤ L ∧ L ≤ 8 ∧ aQ5 s (q + L) [59] = true ∧ aZq V = true then some (V, q + L + 1) else none) := by rw [← hV]; exact HZ2
 rw [hT, hV] at hpi
 rw [hT] at hsl2
 have hch := fun wx => aKt V wx
 clear hT hV hTs hdg HD3 HX HZ2 hL
 cases hcb : aZq V with
 | false =>
  have hn : Z = none := by rw [HZ3.out, hcb, if_neg (by simp)]
  have HN := aQ1 hn
  rw [hcb] at hch
  clear hn hcb
  go_wp2_with fail
  refine hpi.mono ?_
  rintro e w4 ⟨rfl, hb4⟩
  have HB4 := aQ1 (aZt HB3.out hb4)
  have HG4 := aQ1 (aQ3 HG3.out (aJz hb4))
  clear hb4 hpi HB3 HG3 HE3 hsl2
  go_wp2_with fail
  refine (hch _).mono ?_
  rintro e w5 ⟨rfl, hww⟩
  obtain rfl := hww.symm
  go_wp2
  go_ret2
  exact bXd HB4.out hq HG4.out HN.out
 | true =>
  rw [hcb] at hch HZ3
  have hw2 : IntKind.i64.wrap ((q : Int) + (L : Int)) = (q : Int) + (L : Int) := aZ2 (by omega) (by omega)
  clear hcb
  go_wp2_with fail
  refine hpi.mono ?_
  rintro e w4 ⟨rfl, hb4⟩
  have HB4 := aQ1 (aZt HB3.out hb4)
  have HG4 := aQ1 (aQ3 HG3.out (aJz hb4))
  clear hb4 hpi HB3 HG3 HE3 hsl2
  go_wp2_with fail
  refine (hch _).mono ?_
  rintro e w5 ⟨rfl, hww⟩
  obtain rfl := hww.symm
  obtain ⟨c0, c1, f1⟩ := aQz HB4.out
  have hm := aZ8 (sg := ⟨#[59]⟩) (aW7 (z := (q : Int) + (L : Int)) HB4.out (q + L) (by omega)) hs d1
  go_wp2_with fail
  refine hm.mono ?_
  rintro e w6 ⟨rfl, hb6, hg6⟩
  have HB6 := aQ1 hb6
  have HG6 := aQ1 (aQ3 (aQ3 HG4.out (aQa (.int .i64 ((q : Int) + (L : Int))))) hg6)
  clear hb6 hg6 hm HB4 HG4 c0 c1 f1 hch
  go_wp2
  go_ret2
  refine nu_must HB6.out d1 HG6.out ?_
  rw [HZ3.out]
  by_cases hh : aQ5 s (q + L) [59] = true
  · rw [if_pos ⟨by omega, by omega, hh, trivial⟩, if_pos hh]
  · rw [if_neg (fun h => hh h.2.2.1), if_neg hh]
theorem number_any [Inhabited Hold] {w : World} {g : Nat} {s : ByteArray} {p : Nat} {m : Int} (h : aQi w g s p) (he : EnvH w m) (hF : FarH g) (hs : s.size ≤ 1048576) (hp : p ≤ s.size) :
 Calls Tryz.prog 131 #[.pointer (some ⟨g, 0, none⟩)] w fun e w' => NuSays w g s (numZ s p) e w' := by
 cases hx : aQ5 s p [120] with
 | true => exact number16_any h he hF hs hp hx rfl
 | false => exact number10_any h he hF hs hp hx rfl
open Go.RowKit Plain9 Plain10 Plain11 Plain23
structure Hf [Inhabited Hold] (w W : World) (g : Nat) (s : ByteArray) (p : Nat) (m : Int) (o : Obj) : Prop where
 sc : aQi W g s p
 res : W.heap[w.heap.size]? = some o
 env : EnvH W m
 grown : w.grownBy W (some g)
 lt : g < w.heap.size
 far : FarH g
theorem Hf.start [Inhabited Hold] {w : World} {g : Nat} {s : ByteArray} {p : Nat} {m : Int} (h : aQi w g s p) (he : EnvH w m) (hf : FarH g) (o : Obj) : Hf w (w.alloc o) g s p m o :=
 ⟨aZu h _, heap_alloc_new w o, he.keep hf (aZg w _ _), aZg w _ _, bXh h, hf⟩
theorem Hf.step [Inhabited Hold] {w W W' : World} {g : Nat} {s : ByteArray} {p p' : Nat} {m : Int} {o : Obj} (h : Hf w W g s p m o) (hb : aQi W' g s p') (hg : W.grownBy W' (some g)) : Hf w W' g s p' m o :=
 ⟨hb, by rw [hg.block _ (gLt h.res) (fun e => by have := h.lt; have := Option.some.inj e; omega)]; exact h.res, h.env.keep h.far hg, aQ3 h.grown hg, h.lt, h.far⟩
theorem Hf.fin2 [Inhabited Hold] {w W : World} {g : Nat} {s : ByteArray} {p : Nat} {m : Int} {o : Obj} (h : Hf w W g s p m o) (a b : Value) :
 aQi ((W.setCell ⟨w.heap.size, 0, none⟩ a).setCell ⟨w.heap.size, 1, none⟩ b) g s p ∧ w.grownBy ((W.setCell ⟨w.heap.size, 0, none⟩ a).setCell ⟨w.heap.size, 1, none⟩ b) (some g) :=
 ⟨aZd (aZd h.sc (by have := h.lt; omega) _) (by have := h.lt; omega) _, aJ1 (aJ1 h.grown (Nat.le_refl _) _) (Nat.le_refl _) _⟩
def zRef : Obj := .cells #[.string ⟨#[]⟩, .int .i64 0] 211
theorem bKd [Inhabited Hold] {w W : World} {g : Nat} {s : ByteArray} {p : Nat} {m : Int} (h : Hf w W g s p m zRef) : W.cell? ⟨w.heap.size, 0, none⟩ = some (.string ⟨#[]⟩) ∧ W.cell? ⟨w.heap.size, 1, none⟩ = some (.int .i64 0) ∧ W.frozen? ⟨w.heap.size, 0, none⟩ = false ∧ W.frozen? ⟨w.heap.size, 1, none⟩ = false := by
 simp [World.cell?, World.frozen?, h.res, zRef]
def rfN : Rf → ByteArray
 | .inl _ => ⟨#[]⟩
 | .inr b => b
def rfC : Rf → Int
 | .inl n => n
 | .inr _ => 0
def RfSays [Inhabited Hold] (w : World) (g : Nat) (s : ByteArray) (r : Option (Rf × Nat)) (e : Ending) (w' : World) : Prop :=
 ∃ nm ch f q, e = .returned (.tuple #[.agg #[.string nm, .int .i64 ch], errV f]) ∧ aQi w' g s q ∧ q ≤ s.size ∧ w.grownBy w' (some g) ∧ ((f = 0 ∧ ∃ x, r = some (x, q) ∧ nm = rfN x ∧ ch = rfC x) ∨ ((f = 1 ∨ f = 2) ∧ r = none))
theorem bQi [Inhabited Hold] {w : World} {g : Nat} {s : ByteArray} {p : Nat} {m : Int} (h : aQi w g s p) (he : EnvH w m) (hF : FarH g) (hs : s.size ≤ 1048576) (hp : p ≤ s.size) (h38 : aQ5 s p [38] = true) (hv : VB s (p + 1)) :
 Calls Tryz.prog 110 #[.pointer (some ⟨g, 0, none⟩)] w fun e w' => RfSays w g s (refZ s p) e w' := by
 have F0 := aQ1 (Hf.start h he hF zRef)
 have hp1 : p + 1 ≤ s.size := by have := aQ9 h38 hp; simpa using this
 have ht := aQc (sg := ⟨#[38]⟩) F0.out.sc hs hp
 rw [show (⟨#[38]⟩ : ByteArray).data.toList = [38] from rfl, h38] at ht
 simp only [if_true, List.length_cons, List.length_nil, Nat.zero_add] at ht
 obtain ⟨Z, hZ⟩ : ∃ Z, refZ s p = Z := ⟨_, rfl⟩
 rw [hZ]
 have HZ := aQ1 hZ
 have HV := aQ1 hv
 clear h he hZ h38 hv
 go_enter Tryz.func110, Tryz.ntmps110
 go_wp2_with fail
 refine ht.mono ?_
 rintro e w1 ⟨rfl, hb1, hg1⟩
 have F1 := aQ1 (F0.out.step hb1 hg1)
 clear ht hb1 hg1 F0
 have ht := aQc (sg := ⟨#[35]⟩) F1.out.sc hs hp1
 rw [show (⟨#[35]⟩ : ByteArray).data.toList = [35] from rfl] at ht
 cases h35 : aQ5 s (p + 1) [35] with
 | true =>
  have hp2 : p + 2 ≤ s.size := by have := aQ9 h35 hp1; simpa using this
  rw [h35] at ht
  simp only [if_true, List.length_cons, List.length_nil, Nat.zero_add] at ht
  have hZ1 : Z = (numZ s (p + 2)).map fun x => (.inl x.1, x.2) := by rw [← HZ.out]; unfold refZ; rw [if_pos h35]
  have HZ1 := aQ1 hZ1
  clear hZ1 HZ h35
  go_wp2_with fail
  refine ht.mono ?_
  rintro e w2 ⟨rfl, hb2, hg2⟩
  have F2 := aQ1 (F1.out.step hb2 hg2)
  clear ht hb2 hg2 F1
  have hn := number_any F2.out.sc F2.out.env F2.out.far hs hp2
  go_wp2_with fail
  refine hn.mono ?_
  rintro e w3 ⟨n, f, q, rfl, hb3, hq, hg3, hR⟩
  have F3 := aQ1 (F2.out.step hb3 hg3)
  have HR := aQ1 hR
  clear hn hb3 hg3 F2 hR
  obtain ⟨r0, r1, s0, s1⟩ := bKd F3.out
  go_wp2
  refine bodyPost_ret (v := .tuple #[.agg #[.string ⟨#[]⟩, .int .i64 n], errV f]) (by simp [results, Tryz.results110, go_sem, r0, r1]) rfl ?_
  have hfin := F3.out.fin2 (.string ⟨#[]⟩) (.int .i64 n)
  refine ⟨_, _, f, q, rfl, hfin.1, hq, hfin.2, ?_⟩
  rcases HR.out with ⟨h1, h2⟩ | ⟨h1, h2⟩
  · exact .inl ⟨h1, .inl n, by rw [HZ1.out, h2]; rfl, rfl, rfl⟩
  · exact .inr ⟨h1, by rw [HZ1.out, h2]; rfl⟩
 | false =>
  rw [h35, if_neg (by simp)] at ht
  have hZ1 : Z = (bQn s (p + 1)).map fun x => (.inr x.1, x.2) := by rw [← HZ.out]; unfold refZ; rw [if_neg (by rw [h35]; simp)]
  have HZ1 := aQ1 hZ1
  clear hZ1 HZ h35
  go_wp2_with fail
  refine ht.mono ?_
  rintro e w2 ⟨rfl, hb2, hg2⟩
  have F2 := aQ1 (F1.out.step hb2 hg2)
  clear ht hb2 hg2 F1
  have hn := aV9 F2.out.sc F2.out.env.env.tabs HV.out hs hp1
  go_wp2_with fail
  refine hn.mono ?_
  rintro e w3 ⟨t, q, rfl, hb3, hq, hT, hg3⟩
  have F3 := aQ1 (F2.out.step hb3 hg3)
  clear hn hb3 hg3 F2
  obtain ⟨r0, r1, s0, s1⟩ := bKd F3.out
  rcases aWl s (p + 1) with h0 | h0 | h0
  · obtain ⟨ht, hq'⟩ := hT h0
    have hZ2 : Z = if aQ5 s q [59] = true then some (.inr t, q + 1) else none := by
     rw [HZ1.out]; unfold bQn; rw [ht, hq', h0]
     by_cases hh : aQ5 s (nmP s (p + 1)) [59] = true
     · rw [if_pos ⟨rfl, hh⟩, if_pos hh]; rfl
     · rw [if_neg (fun hc => hh hc.2), if_neg hh]; rfl
    have HZ2 := aQ1 hZ2
    have hm := aZ8 (sg := ⟨#[59]⟩) F3.out.sc hs hq
    simp only [h0, aXq]
    clear hT ht hq' hZ2 h0 HZ1
    go_wp2_with fail
    refine hm.mono ?_
    rintro e w4 ⟨rfl, hb4, hg4⟩
    have F4 := aQ1 (F3.out.step hb4 hg4)
    clear hm hb4 hg4 F3 r0 r1 s0 s1
    obtain ⟨r0, r1, s0, s1⟩ := bKd F4.out
    go_wp2
    refine bodyPost_ret (v := .tuple #[.agg #[.string t, .int .i64 0], errV (aQm s q [59])]) (by simp [results, Tryz.results110, go_sem, r0, r1]) rfl ?_
    have hfin := F4.out.fin2 (.string t) (.int .i64 0)
    rcases bQp s q [59] with h59 | h59 | h59
    · have hh := aX8.1 h59
      have hroom := aQ9 hh hq
      rw [h59, if_pos rfl] at hfin
      rw [h59]
      exact ⟨_, _, 0, q + 1, rfl, hfin.1, by simpa using hroom, hfin.2, .inl ⟨rfl, .inr t, by rw [HZ2.out, if_pos hh], rfl, rfl⟩⟩
    all_goals
     have hh : ¬ aQ5 s q [59] = true := fun hc => by have := aX8.2 hc; omega
     rw [h59, if_neg (by omega)] at hfin
     rw [h59]
     exact ⟨_, _, _, q, rfl, hfin.1, hq, hfin.2, .inr ⟨by simp, by rw [HZ2.out, if_neg hh]⟩⟩
  all_goals
   have hZ2 : Z = none := by rw [HZ1.out]; unfold bQn; rw [if_neg (by omega)]; rfl
   have HZ2 := aQ1 hZ2
   simp only [h0, aZ1, aZp]
   clear hT hZ2 h0 HZ1
   go_wp2
   refine bodyPost_ret (v := .tuple #[.agg #[.string ⟨#[]⟩, .int .i64 0], _]) (by simp [results, Tryz.results110, go_sem, r0, r1]; rfl) rfl ?_
   have hfin := F3.out.fin2 (.string ⟨#[]⟩) (.int .i64 0)
   first
    | exact ⟨_, _, 1, q, rfl, hfin.1, hq, hfin.2, .inr ⟨.inl rfl, HZ2.out⟩⟩
    | exact ⟨_, _, 2, q, rfl, hfin.1, hq, hfin.2, .inr ⟨.inr rfl, HZ2.out⟩⟩
open Go.RowKit Plain1 Strs Strs2 Lists Bytes Plain6 Plain9 Plain10 Plain11 Plain23 Plain27 Plain29 Go.Lib
theorem appRune_any (B : Nat) (v : Value) (n : Nat) (xs : List Int) (c : Int) (hc : aZq c = true) (w : World) (hown : w.ownsRow B 5 1 v n (xs.map (Value.int .u8))) (hlen : n + 4 ≤ 140737488355328) (hBw : B ≤ w.heap.size) :
 Calls Tryz.prog 139 #[v, .int .i32 c] w fun e w' => ∃ v', e = .returned v' ∧ w'.ownsRow B 5 1 v' (n + (encodeRuneZ c).length) ((xs ++ encodeRuneZ c).map (Value.int .u8)) ∧ Below B w w' := by
 have hr := (aJi c).1 hc
 refine (Tryz.utf8_AppendRune_plain B v n _ c (by omega) (by omega) w hown hlen hBw).mono ?_
 rintro e w' ⟨v', he, ho, o, hg⟩
 refine ⟨v', he, ?_, ((Below.refl B w).alloc hBw o).grown hg (by simp; omega) (fun k hk => (hown.lt k hk).1)⟩
 rw [List.map_append]
 simpa [runeCells] using ho
theorem aQh {w : World} {B : Nat} {e : TypeId} {size : Nat} {v : Value} {n : Nat} {xs : List Value} (h : w.ownsRow B e size v n xs) : ∃ ao cv, v = .slice ao n cv := by
 rcases aZm h with ⟨rfl, rfl⟩ | ⟨g, cap, rfl⟩
 · exact ⟨_, _, rfl⟩
 · exact ⟨_, _, rfl⟩
theorem EnvH.far {w : World} {m : Int} (h : EnvH w m) : FarH w.heap.size := by
 obtain ⟨ev, h1, _⟩ := h.syn
 obtain ⟨⟨t, fr, h2⟩, ⟨t', fr', h3⟩⟩ := h.env.tabs
 have a1 := aQf h1
 have a2 := (gLt h2)
 have a3 := (gLt h3)
 have a4 := aQf h.env.mx
 have a5 := aQf (h.env.fo 120 88 (by decide))
 exact ⟨⟨by omega, by omega, by omega, by omega⟩, by omega⟩
def EtSays (w : World) (r : Option (List Int)) (e : Ending) (w' : World) : Prop :=
 (∃ t f, e = .returned (.tuple #[.string t, errV f]) ∧ ((f = 0 ∧ ∃ l, r = some l ∧ t = strOfNums l) ∨ ((f = 1 ∨ f = 2) ∧ r = none))) ∧ Below w.heap.size w w'
structure Et [Inhabited Hold] (w W : World) (s : ByteArray) (k : Nat) (v : Value) (acc : List Int) (m : Int) : Prop where
 sc : aQi W w.heap.size s k
 own : W.ownsRow (w.heap.size + 1) 5 1 v acc.length (acc.map (Value.int .u8))
 bel : Below w.heap.size w W
 env : EnvH w m
 lt : w.heap.size < W.heap.size
theorem Et.envW [Inhabited Hold] {w W : World} {s : ByteArray} {k : Nat} {v : Value} {acc : List Int} {m : Int} (h : Et w W s k v acc m) : EnvH W m := h.env.below h.bel
theorem Et.step [Inhabited Hold] {w W W' : World} {s : ByteArray} {k k' : Nat} {v : Value} {acc : List Int} {m : Int} (h : Et w W s k v acc m) (hb : aQi W' w.heap.size s k') (hg : W.grownBy W' (some w.heap.size)) : Et w W' s k' v acc m :=
 ⟨hb, h.own.kept hg (by
  cases hv : v.ownBlock with
  | none => exact .inl rfl
  | some b => exact .inr (fun e => by have := (h.own.lt b hv).1; have := Option.some.inj e; omega)), h.bel.grown hg h.bel.size (fun j hj => by have := Option.some.inj hj; omega), h.env, Nat.lt_of_lt_of_le h.lt hg.size⟩
theorem Et.alloc [Inhabited Hold] {w W : World} {s : ByteArray} {k : Nat} {v : Value} {acc : List Int} {m : Int} (h : Et w W s k v acc m) (o : Obj) : Et w (W.alloc o) s k v acc m :=
 h.step (aZu h.sc o) (aZg W o _)
theorem Et.app [Inhabited Hold] {w W W' : World} {s : ByteArray} {k : Nat} {v v' : Value} {acc acc' : List Int} {m : Int} (h : Et w W s k v acc m) (hg : W.grownBy W' v.ownBlock) (ho : W'.ownsRow (w.heap.size + 1) 5 1 v' acc'.length (acc'.map (Value.int .u8))) : Et w W' s k v' acc' m := by
 have hb : ∀ b, v.ownBlock = some b → w.heap.size + 1 ≤ b := fun b hb => (h.own.lt b hb).1
 refine ⟨?_, ho, h.bel.grown hg h.bel.size (fun j hj => by have := hb j hj; omega), h.env, Nat.lt_of_lt_of_le h.lt hg.size⟩
 unfold aQi
 rw [hg.block _ h.lt (fun e => by have := hb _ e.symm; omega)]
 exact h.sc
theorem Et.rune [Inhabited Hold] {w W W' : World} {s : ByteArray} {k : Nat} {v v' : Value} {acc acc' : List Int} {m : Int} (h : Et w W s k v acc m) (hb : Below (w.heap.size + 1) W W') (ho : W'.ownsRow (w.heap.size + 1) 5 1 v' acc'.length (acc'.map (Value.int .u8))) : Et w W' s k v' acc' m := by
 refine ⟨?_, ho, h.bel.trans (hb.mono (by omega)), h.env, Nat.lt_of_lt_of_le h.lt hb.size⟩
 unfold aQi
 rw [hb.block _ (by omega)]
 exact h.sc
theorem Et.set [Inhabited Hold] {w W : World} {s : ByteArray} {k : Nat} {v : Value} {acc : List Int} {m : Int} (h : Et w W s k v acc m) (q : Nat) {z : Int} (hz : z = (q : Int)) : Et w (W.setCell ⟨w.heap.size, 1, none⟩ (.int .i64 z)) s q v acc m :=
 h.step (aW7 h.sc q hz) (aQa _)
def imAt (w : World) (g : Nat) : Nat := match w.cell? ⟨g, 1, none⟩ with | some (.int _ z) => z.toNat | _ => 0
theorem aX9 [Inhabited Hold] {w : World} {g : Nat} {s : ByteArray} {p : Nat} (h : aQi w g s p) : imAt w g = p := by
 unfold imAt; rw [(aQz h).2.1]; simp
theorem bJc {s : ByteArray} {c : UInt8} {i : Nat} (hi : i < s.size) : aQ5 s i [c] = decide (aQ2 s i = (c.toNat : Int)) := by
 apply Bool.eq_iff_iff.2
 rw [decide_eq_true_iff]
 constructor
 · intro h; exact aXm h hi
 · intro h
   unfold aQ5
   rw [aZw hi]
   rw [aXz] at h
   have : s.data.toList.getD i 0 = c := UInt8.toNat.inj (by omega)
   rw [this]; simp
theorem num_long {s : ByteArray} {p q : Nat} {n : Int} (h : numZ s p = some (n, q)) : p + 2 ≤ q ∧ aZq n = true := by
 obtain ⟨h1, h2⟩ := bKo h
 have : p ≤ aVj s p := by unfold aVj; split <;> omega
 have e := congrArg Prod.snd h2
 have e1 := congrArg Prod.fst h2
 simp only at e e1
 exact ⟨by have := h1.1; omega, by rw [e1]; exact h1.2.2.2⟩
theorem bWa [Inhabited Hold] (hx : IsSc) (s : ByteArray) (w : World) (m : Int) (he : EnvH w m) (hs : s.size ≤ 1048576) (hv : VB s 0) (h37 : ∀ k, k < s.size → aQ2 s k ≠ 37) :
 Calls Tryz.prog 129 #[.string s] w fun e w' => EtSays w (entO s) e w' := by
 obtain ⟨R, hR⟩ : ∃ R, entO s = R := ⟨_, rfl⟩
 rw [hR]
 have HR : Hid (aVm s (s.size + 1) 0 [] = R) := hR
 have HV := aQ1 hv
 have H37 := aQ1 h37
 have HF := aQ1 he.far
 have E0 : Hid (Et w (w.alloc (.cells #[.string s, .int .i64 0] 58)) s 0 (.slice none 0 0) [] m) := aQ1 ⟨im_sc hx (heap_alloc_new w _), World.ownsRow_nil _ _ _ _, bAl, he, by simp⟩
 clear hR hv h37 he
 obtain ⟨i0, hi, hz0, hz1, hz2⟩ := info_parts info8
 go_enter Tryz.func129, Tryz.ntmps129
 go_wp2_with fail
 go_loopw [4] (fun tv wr => ∃ (f k : Nat) (acc : List Int), k ≤ s.size ∧ acc.length ≤ k ∧ Et w wr s k tv acc m ∧ aVm s f k acc = R ∧ s.size < k + f) (fun _ wr => s.size - imAt wr w.heap.size)
 case atStart => exact ⟨s.size + 1, 0, [], Nat.zero_le _, Nat.le_refl _, E0.out, HR.out, by omega⟩
 case round =>
  obtain ⟨f, k, acc, hk, hacc, hE, hgo, hfu⟩ := hrel
  have HGO := aQ1 hgo
  have HE := aQ1 hE
  obtain ⟨ao, cv, htv⟩ := aQh hE.own
  subst htv
  obtain ⟨c0, c1, f1⟩ := aQz hE.sc
  have hah := aJc (sg := ⟨#[38]⟩) hE.sc hk
  rw [show (⟨#[38]⟩ : ByteArray).data.toList = [38] from rfl] at hah
  clear hgo hE E0
  by_cases hlt : k < s.size
  · obtain ⟨f', rfl⟩ : ∃ f', f = f' + 1 := ⟨f - 1, by omega⟩
    have hlti : (k : Int) < (s.size : Int) := by omega
    obtain ⟨b, hbe⟩ : ∃ b, aQ2 s k = b := ⟨_, rfl⟩
    have hbd := bQz s k
    rw [hbe] at hbd
    have h37b := H37.out k hlt
    have hone := bJc (s := s) (c := 38) hlt
    rw [hbe, show (((38 : UInt8).toNat : Nat) : Int) = 38 from rfl] at hone
    have HBE := aQ1 hbe
    have H3 := aQ1 h37b
    clear hbe h37b
    by_cases h38 : b = 38
    · subst h38
      have h38b : aQ5 s k [38] = true := by rw [hone]; rfl
      rw [h38b] at hah
      have hvb : VB s (k + 1) := aJj HV.out (by omega) (by rw [Nat.add_sub_cancel, HBE.out]; decide)
      have H38 := aQ1 h38b
      have HVB := aQ1 hvb
      clear h38b hvb hone hbd
      go_wp2_with fail
      refine (hah _ rfl).mono ?_
      rintro e w1 ⟨rfl, n1, hw1⟩
      have E1 : Hid (Et w w1 s k (.slice ao acc.length cv) acc m) := by rw [hw1]; exact aQ1 (HE.out.step HE.out.sc (aQb wr n1 _))
      clear hw1 hah c0 c1 f1
      have hr := bQi E1.out.sc E1.out.envW HF.out hs hk H38.out HVB.out
      go_wp2_with fail
      refine hr.mono ?_
      rintro e w2 ⟨nm, ch, f2, q, rfl, hb2, hq, hg2, hR2⟩
      have E2 := aQ1 (E1.out.step hb2 hg2)
      clear hb2 hg2 hr E1
      rcases hR2 with ⟨rfl, x, hx, rfl, rfl⟩ | ⟨hf2, hx⟩
      · obtain ⟨hkq, _, hxc, _⟩ := aWi hlt hx
        cases x with
        | inl n =>
         have hnc := hxc n rfl
         have hcr := (aJi n).1 hnc
         have hn0 : 0 ≤ n := by omega
         have hn1 : n ≤ 1114111 := by omega
         have hen := ent_chr (f := f') (acc := acc) hlt HBE.out hx
         rw [HGO.out] at hen
         have HEN := aQ1 hen
         have hq4 : k + 4 ≤ q := by
          unfold refZ at hx
          by_cases h35 : aQ5 s (k + 1) [35] = true
          · rw [if_pos h35] at hx
            cases hnz : numZ s (k + 2) with
            | none => rw [hnz] at hx; cases hx
            | some y =>
             rw [hnz] at hx
             have hy := Option.some.inj hx
             have e2 := congrArg Prod.snd hy
             simp only at e2
             have := (num_long (n := y.1) (q := y.2) hnz).1
             omega
          · rw [if_neg h35] at hx
            cases hnz : bQn s (k + 1) with
            | none => rw [hnz] at hx; cases hx
            | some y => rw [hnz] at hx; cases hx
         simp only [rfN, rfC, aXq]
         clear hx hxc hen hcr
         have hel := aKk n
         have E3 := aQ1 (E2.out.alloc (.cells #[.string ⟨#[]⟩, .int .i64 n] 211))
         have hput := appRune_any (w.heap.size + 1) _ _ _ n hnc _ E3.out.own (by omega) E3.out.lt
         have HAT := aQ1 (aX9 HE.out.sc)
         clear E2 HE hnc
         go_wp2_with fail
         refine hput.mono ?_
         rintro e w4 ⟨v', rfl, ho', hb'⟩
         have E4 : Hid (Et w w4 s q v' (acc ++ encodeRuneZ n) m) := aQ1 (E3.out.rune hb' (by rw [List.length_append]; exact ho'))
         clear hput ho' hb' E3
         go_wp2
         go_roundw
         case rel => exact ⟨f', q, acc ++ encodeRuneZ n, hq, by simp; omega, E4.out, HEN.out.symm, by omega⟩
         case measure => rw [HAT.out, aX9 E4.out.sc]; omega
        | inr t =>
         have hen := ent_nam (f := f') (acc := acc) hlt HBE.out hx
         rw [HGO.out] at hen
         have HEN := aQ1 hen
         have hts : 1 ≤ t.size := by
          unfold refZ at hx
          by_cases h35 : aQ5 s (k + 1) [35] = true
          · rw [if_pos h35] at hx
            cases hnz : numZ s (k + 2) with
            | none => rw [hnz] at hx; cases hx
            | some y => rw [hnz] at hx; cases hx
          · rw [if_neg h35] at hx
            unfold bQn at hx
            by_cases hn0 : nmF s (k + 1) = 0 ∧ aQ5 s (nmP s (k + 1)) [59] = true
            · rw [if_pos hn0] at hx
              have hy := Option.some.inj hx
              have e1 := Sum.inr.inj (congrArg Prod.fst hy)
              have hsp := aJ9 (name_yes hn0.1)
              have hnp : nmP s (k + 1) = k + 1 + aXw s (k + 1) := rfl
              rw [← e1]
              show 1 ≤ (s.extract (k + 1) (k + 1 + aXw s (k + 1))).size
              rw [aX7 (by omega)]
              omega
            · rw [if_neg hn0] at hx; cases hx
         have hemp : t.toList.isEmpty = false := by
          rw [← decide_eq_emptyBytes]
          exact decide_eq_false (fun h => by rw [h] at hts; exact absurd hts (by decide))
         have hXs : (s.extract k q).size = q - k := aX7 hq
         obtain ⟨X, hX⟩ : ∃ X, s.extract k q = X := ⟨_, rfl⟩
         have hsl : ∀ wx, (Instr.slice 9 (.string s) (some (.int .i64 (k : Int))) (some (.int .i64 (q : Int))) none).run Tryz.prog wx = .ok (.string X) wx := fun wx => by rw [← hX]; exact aYd wx _ s k q _ _ rfl rfl (by omega) hq Tryz.underlying9
         rw [hX] at hXs HEN
         have hXle : X.size ≤ s.size := by omega
         have HXS := aQ1 hXs
         have E3 := aQ1 (E2.out.alloc (.cells #[.string t, .int .i64 0] 211))
         have HAT := aQ1 (aX9 HE.out.sc)
         have hlt3 := E3.out.lt
         obtain ⟨c0, c1, f1⟩ := aQz E3.out.sc
         simp only [rfN, rfC, aXq]
         clear hx hxc hen hX hXs E2 HE
         go_wp2_with (at_builtin; refine wpList_append_own_string _ rfl _ _ 22 9 rfl (w.heap.size + 1) 5 i0 Tryz.underlying22 Tryz.underlying9 hi hz0 hz1 hz2 _ _ _ rfl E3.out.own X rfl ?d1 ?d2 ?d3 ?d4)
         case d1 => unfold maxLen; omega
         case d2 => omega
         case d3 => omega
         intro v' w4 hown4 hgrow _
         have E4 : Hid (Et w w4 s q v' (acc ++ nums X) m) := aQ1 (E3.out.app hgrow (by rw [List.length_append, bKn, List.map_append, ← nums_cells]; exact hown4))
         clear hown4 hgrow E3
         go_wp2
         go_roundw
         case rel => exact ⟨f', q, acc ++ nums X, hq, by rw [List.length_append, bKn, HXS.out]; omega, E4.out, HEN.out.symm, by omega⟩
         case measure => rw [HAT.out, aX9 E4.out.sc]; omega
      · have hen := ent_bad (f := f') (acc := acc) hlt HBE.out hx
        rw [HGO.out] at hen
        have HEN := aQ1 hen
        clear hx hen
        rcases hf2 with rfl | rfl
        all_goals
         simp only [aZ1, aZp]
         go_wp2
         go_ret2
         first
          | exact ⟨⟨_, 1, rfl, .inr ⟨.inl rfl, HEN.out⟩⟩, (E2.out.alloc _).bel⟩
          | exact ⟨⟨_, 2, rfl, .inr ⟨.inr rfl, HEN.out⟩⟩, (E2.out.alloc _).bel⟩
    · have h38b : aQ5 s k [38] = false := by rw [hone]; exact decide_eq_false h38
      rw [h38b] at hah
      have hix : ∀ wx, (Instr.index 9 (.string s) (.int .i64 (k : Int))).run Tryz.prog wx = .ok (.int .u8 b) wx := fun wx => by rw [aXl wx 9 s k hlt Tryz.underlying9, HBE.out]
      have hen := ent_on (f := f') (acc := acc) hlt H3.out (by rw [HBE.out]; exact h38)
      rw [HGO.out, HBE.out] at hen
      have HEN := aQ1 hen
      have hw1 : IntKind.i64.wrap ((k : Int) + 1) = (k : Int) + 1 := aZ2 (by omega) (by omega)
      clear h38b hone hen
      go_wp2_with fail
      refine (hah _ rfl).mono ?_
      rintro e w1 ⟨rfl, n1, hw2⟩
      have E1 : Hid (Et w w1 s k (.slice ao acc.length cv) acc m) := by rw [hw2]; exact aQ1 (HE.out.step HE.out.sc (aQb wr n1 _))
      have hat := aX9 HE.out.sc
      have HAT := aQ1 hat
      clear hw2 hah c0 c1 f1 HE hat
      have hlt1 := E1.out.lt
      go_wp2_with (at_builtin; refine wpList_append_own _ rfl _ _ 22 rfl (w.heap.size + 1) 5 i0 (.int .u8 0) 1 1 Tryz.underlying22 hi hz0 hz1 hz2 rfl (by decide) _ _ _ rfl (E1.out.own.alloc _) ⟨w1.heap.size, 0, none⟩ 1 1 [.int .u8 b] rfl rfl ?c1 ?c2 ?c3 ?c4 ?c5 ?c6)
      case c1 =>
       intro j u hj
       match j, hj with
       | 0, hj => simp at hj; subst hj; simp [Addr.add]
       | (j + 1), hj => simp at hj
      case c2 => intro u hu; simp at hu; subst hu; rfl
      case c3 => unfold maxLen; omega
      case c4 => omega
      case c5 => simp; omega
      intro v' w2 hown' hgrow _
      have E2 : Hid (Et w w2 s k v' (acc ++ [b]) m) := aQ1 ((E1.out.alloc _).app hgrow (by simpa using hown'))
      clear hown' hgrow E1
      obtain ⟨c0, c1, f1⟩ := aQz E2.out.sc
      go_wp2
      go_roundw
      case rel => exact ⟨f', k + 1, acc ++ [b], by omega, by simp; omega, E2.out.set (k + 1) (by omega), HEN.out.symm, by omega⟩
      case measure => rw [HAT.out, aX9 (E2.out.set (k + 1) (z := (k : Int) + 1) (by omega)).sc]; omega
  · have hlti : ¬ (k : Int) < (s.size : Int) := by omega
    have hn := ent_end (f := f) (acc := acc) hlt
    rw [HGO.out] at hn
    have HN := aQ1 hn
    have hconv := bZb (P := Tryz.prog) (src := 22) (dst := 9) Tryz.underlying22 Tryz.underlying5 Tryz.underlying9 HE.out.own
    clear hah hn
    go_wp2
    go_ret2
    exact ⟨⟨_, 0, rfl, .inl ⟨rfl, acc, HN.out, rfl⟩⟩, HE.out.bel⟩
theorem bV8 (s : ByteArray) (w : World) (m : Int) (he : EnvH w m) (hs : s.size ≤ 1048576) (hv : VB s 0) (h37 : ∀ k, k < s.size → aQ2 s k ≠ 37) :
 Calls Tryz.prog 129 #[.string s] w fun e w' => EtSays w (entO s) e w' := @bWa scE rfl s w m he hs hv h37
end Go.Proofs.YtdblemolaojebaaGreatDoor
