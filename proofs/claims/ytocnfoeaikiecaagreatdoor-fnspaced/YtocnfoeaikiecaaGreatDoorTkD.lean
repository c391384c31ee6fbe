import Derived.Test.YtocnfoeaikiecaaGreatDoorTkC
set_option maxHeartbeats 4000000
set_option maxRecDepth 100000
namespace Go.Proofs.YtocnfoeaikiecaaGreatDoor
open Go.RowKit Ents Plain9 Plain10 Plain11 Plain23 Plain24 Go.Lib Tryz
variable {B : Nat} {w W W' : World} {k g : Nat} {s : ByteArray} {σ σ' : Option Nat} {d : Dt} {E : Nat} {w0 : World} {a : At5}
def cQd (B : Nat) (w0 : World) (k g : Nat) (s : ByteArray) (d : Dt) (Z : Option (List Df × Nat)) (e : Ending) (w' : World) : Prop :=
 e = .returned (.tuple #[]) ∧ ∃ d', Rd B w0 w' k g s (Z.map (·.2)) d' ∧ (∀ r, Z = some r → d' = aZe d r.1) ∧ d'.ents.length ≤ d.ents.length + s.size ∧ d'.atts.length ≤ d.atts.length + s.size
def sPos (w : World) (g : Nat) : Nat := match w.cell? ⟨g, 1, none⟩ with | some (.int _ n) => n.toNat | _ => 0
theorem bZz {p : Nat} (h : aZc w g s (some p)) : sPos w g = p := by
 obtain ⟨_, c1, _⟩ := aJz h.2
 unfold sPos
 rw [c1]
 simp
theorem cQa (d : Dt) (a : At5) : (addD d (.inr a)).ents = d.ents ∧ (addD d (.inr a)).atts.length ≤ d.atts.length + 1 := by
 show (if (d.atts.find? (aV1 a.of a.nm)).isSome = true then d else ⟨d.ents, d.atts ++ [a]⟩ : Dt).ents = d.ents ∧ (if (d.atts.find? (aV1 a.of a.nm)).isSome = true then d else ⟨d.ents, d.atts ++ [a]⟩ : Dt).atts.length ≤ _
 by_cases h : (d.atts.find? (aV1 a.of a.nm)).isSome = true
 · rw [if_pos h]; exact ⟨rfl, by omega⟩
 · rw [if_neg h]; exact ⟨rfl, by simp⟩
theorem dQl {o : ByteArray} {p f : Nat} {acc : List At5} {Z : Option (List At5 × Nat)} (hZ : aKp s o (f + 1) p acc = Z) :
 (∃ r, aKt s o (some p) = some r ∧ aWo s o (some p) = some r.2 ∧ p < r.2 ∧ r.2 ≤ s.size ∧ aKp s o f r.2 (acc ++ [r.1]) = Z) ∨
 (aKt s o (some p) = none ∧ ∃ q, aWo s o (some p) = some q ∧ aQa s q [62] = true ∧ Z = some (acc, q + 1)) ∨ (aKt s o (some p) = none ∧ aWo s o (some p) = none ∧ Z = none) := by
 have hge := aXj s p
 unfold aKp at hZ
 unfold aKt aWo
 rw [Option.bind_some, Option.bind_some]
 by_cases h1 : aQa s (whiteZ s p) [62] = true
 · rw [if_pos h1] at hZ
   rw [if_pos h1, if_pos h1]
   exact .inr (.inl ⟨rfl, _, rfl, h1, hZ.symm⟩)
 · rw [if_neg h1] at hZ
   rw [if_neg h1, if_neg h1]
   by_cases h2 : whiteZ s p = p
   · rw [if_pos h2] at hZ
     rw [if_pos h2, if_pos h2]
     exact .inr (.inr ⟨rfl, rfl, hZ.symm⟩)
   · rw [if_neg h2] at hZ
     rw [if_neg h2, if_neg h2]
     cases h3 : attZ s o (whiteZ s p) with
     | none => rw [h3] at hZ; exact .inr (.inr ⟨rfl, rfl, hZ.symm⟩)
     | some r =>
      rw [h3] at hZ
      have hp := dQo h3
      exact .inl ⟨r, rfl, rfl, by omega, hp.2.1, hZ⟩
theorem cXx (h : Rd B w0 w k g s σ d) (hs : s.size ≤ 4000) (hd : d.atts.length ≤ 900000) :
 Calls prog 115 #[.pointer (some ⟨k, 0, none⟩)] w fun e w' => cQd B w0 k g s d (σ.bind (aK8 s)) e w' := by
 have H0 := aQ0 h
 obtain ⟨ve, va, hb0, _, _⟩ := h.box
 obtain ⟨r0, r1, r2, rf1, rf2⟩ := aZs hb0
 have hgap := bZ0 h.st (by omega)
 clear h hb0 r1 r2 rf1 rf2
 go_enter func115, ntmps115
 go_wp2_with fail
 refine hgap.mono ?_
 rintro e w1 ⟨rfl, hs1, hg1⟩
 have H1 := aQ0 (H0.out.step hs1 hg1)
 clear hgap hs1 hg1 H0 r0
 have hname := bJc H1.out.st (by omega)
 go_wp2_with fail
 refine hname.mono ?_
 rintro e w2 ⟨nm, rfl, hs2, hT2, hg2⟩
 have H2 := aQ0 (H1.out.step hs2 hg2)
 have HT2 := aQ0 hT2
 clear hname hs2 hg2 hT2 H1
 obtain ⟨R1, hR1⟩ := nmE ((σ.bind (gapO s)).bind (aJ6 s))
 have hZ : σ.bind (aK8 s) = R1.bind fun n => (aKp s n.1 (s.size + 1) n.2 []).bind fun l => some (l.1.map .inr, l.2) := by
  rw [← hR1]
  cases σ with
  | none => rfl
  | some p =>
   simp only [Option.bind_some]
   unfold aK8
   cases gapO s p with
   | none => rfl
   | some x => rfl
 rw [hR1] at H2 HT2
 have HZ := aQ0 hZ
 have hR1b : ∀ n, R1 = some n → n.1.size ≤ 60 := by
  intro n hn
  rw [← hR1] at hn
  obtain ⟨p1, _, hp1⟩ := Option.bind_eq_some_iff.1 hn
  obtain ⟨h1, h2, _⟩ := aZj hp1
  have hsp := aZx h1
  rw [h2]; unfold nmT
  rw [aXy (by simp only [nmP] at hsp; omega)]; omega
 clear hR1 hZ
 cases R1 with
 | none =>
  simp only [Option.map_none] at H2
  go_wp2_with fail
  go_loopw [] (fun wr => Rd B w0 wr k g s none d) (fun _ => 0)
  case atStart => exact H2.out
  case round =>
   have H3 := aQ0 hrel
   clear hrel
   have hdf := bWa nm H3.out (by omega) (fun p hp => by cases hp)
   go_wp2_with fail
   refine hdf.mono ?_
   rintro e w4 ⟨rfl, hr4⟩
   have H4 : Hid (Rd B w0 w4 k g s none d) := aQ0 hr4
   clear hdf hr4 H3
   have hmu := must_st H4.out.st ⟨#[62]⟩ [62] rfl (by omega) (by decide)
   go_wp2_with fail
   refine hmu.mono ?_
   rintro e w5 ⟨rfl, hs5, hg5⟩
   have H5 := aQ0 (H4.out.step hs5 hg5)
   clear hmu hs5 hg5 H4
   go_wp2
   go_end0
   refine ⟨rfl, d, ?_, fun r hr => (by rw [HZ.out] at hr; cases hr), by omega, by omega⟩
   rw [HZ.out]; exact H5.out
 | some n =>
  obtain rfl := HT2.out n rfl
  have hnb := hR1b n rfl
  simp only [Option.map_some] at H2
  obtain ⟨Z, hZe⟩ := nmE (aKp s n.1 (s.size + 1) n.2 [])
  rw [Option.bind_some, hZe] at HZ
  have HZE := aQ0 hZe
  clear hZe hR1b HT2
  go_wp2_with fail
  go_loopw [] (fun wr => ∃ (f : Nat) (σ' : Option Nat) (d' : Dt) (acc : List At5), Rd B w0 wr k g s σ' d' ∧ d'.ents = d.ents ∧ (∀ p, σ' = some p → d'.atts.length ≤ d.atts.length + p ∧ aKp s n.1 f p acc = Z ∧ s.size < p + f ∧ d' = aZe d (acc.map .inr)) ∧ (σ' = none → Z = none) ∧ d'.atts.length ≤ d.atts.length + s.size) (fun wr => s.size - sPos wr g)
  case atStart => exact ⟨s.size + 1, _, d, [], H2.out, rfl, fun p hp => (by cases hp; exact ⟨by omega, HZE.out, by omega, rfl⟩), fun h => (by cases h), by omega⟩
  case round =>
   obtain ⟨f, σ', d', acc, hrd, hde, hsome, hnone, hdl⟩ := hrel
   have H3 := aQ0 hrd
   have HDE := aQ0 hde
   have HSO := aQ0 hsome
   have HNO := aQ0 hnone
   have hdf := dKd n.1 H3.out (by omega) (by omega) (by omega)
   clear hrd hde hsome hnone
   have hways : (∃ p r, σ' = some p ∧ aKt s n.1 σ' = some r ∧ aWo s n.1 σ' = some r.2 ∧ p < r.2 ∧ r.2 ≤ s.size ∧ aKp s n.1 (f - 1) r.2 (acc ++ [r.1]) = Z) ∨ (aKt s n.1 σ' = none ∧ ∃ q, aWo s n.1 σ' = some q ∧ aQa s q [62] = true ∧ Z = some (acc, q + 1) ∧ d' = aZe d (acc.map .inr)) ∨ (aKt s n.1 σ' = none ∧ aWo s n.1 σ' = none ∧ Z = none) := by
    cases σ' with
    | none => exact .inr (.inr ⟨rfl, rfl, HNO.out rfl⟩)
    | some p =>
     obtain ⟨h1, h2, h3, h4⟩ := HSO.out p rfl
     have hps := dV9 H3.out.st
     obtain ⟨f', rfl⟩ : ∃ f', f = f' + 1 := ⟨f - 1, by omega⟩
     rcases dQl h2 with ⟨r, a1, a2, a3, a4, a5⟩ | ⟨a1, q, a2, a3, a4⟩ | ⟨a1, a2, a3⟩
     · exact .inl ⟨p, r, rfl, a1, a2, a3, a4, a5⟩
     · exact .inr (.inl ⟨a1, q, a2, a3, a4, h4⟩)
     · exact .inr (.inr ⟨a1, a2, a3⟩)
   rcases hways with ⟨p, r, hσ, b1, b2, b3, b4, b5⟩ | ⟨b1, q, b2, b3, b4, b5⟩ | ⟨b1, b2, b3⟩
   · subst hσ
     rw [b1, b2] at hdf
     obtain ⟨h1, h2, h3, h4⟩ := HSO.out p rfl
     have HB5 := aQ0 b5
     have HM := aQ0 (bZz H3.out.st)
     have H4A := aQ0 h4
     clear b1 b2 b5 h2 h4
     go_wp2_with fail
     refine hdf.mono ?_
     rintro e w4 ⟨rfl, hr4⟩
     have H4 : Hid (Rd B w0 w4 k g s (some r.2) (addD d' (.inr r.1))) := aQ0 hr4
     have HM4 := aQ0 (bZz H4.out.st)
     have hlen := cQa d' r.1
     clear hdf hr4
     go_wp2_with fail
     go_roundw
     case rel =>
      refine ⟨f - 1, some r.2, addD d' (.inr r.1), acc ++ [r.1], H4.out, by rw [hlen.1]; exact HDE.out, fun p' hp' => ?_, fun h => (by cases h), by omega⟩
      cases hp'
      refine ⟨by omega, HB5.out, by omega, ?_⟩
      rw [List.map_append, Plain26.cVv, ← H4A.out]; rfl
     case measure => rw [HM4.out, HM.out]; omega
   · rw [b1, b2] at hdf
     go_wp2_with fail
     refine hdf.mono ?_
     rintro e w4 ⟨rfl, hr4⟩
     have H4 : Hid (Rd B w0 w4 k g s (some q) d') := aQ0 hr4
     clear hdf hr4 b1 b2
     have hmu := must_st H4.out.st ⟨#[62]⟩ [62] rfl (by omega) (by decide)
     go_wp2_with fail
     refine hmu.mono ?_
     rintro e w5 ⟨rfl, hs5, hg5⟩
     have H5 := aQ0 (H4.out.step hs5 hg5)
     clear hmu hs5 hg5 H4
     go_wp2
     go_end0
     have hmo : bQh s q [62] = some (q + 1) := by unfold bQh; rw [if_pos b3]; rfl
     have hzz := HZ.out
     rw [b4, Option.bind_some] at hzz
     refine ⟨rfl, d', ?_, fun r hr => ?_, by rw [HDE.out]; omega, hdl⟩
     · rw [hzz]
       have := H5.out
       rw [Option.bind_some, hmo] at this
       exact this
     · rw [hzz] at hr; cases hr; exact b5
   · rw [b1, b2] at hdf
     go_wp2_with fail
     refine hdf.mono ?_
     rintro e w4 ⟨rfl, hr4⟩
     have H4 : Hid (Rd B w0 w4 k g s none d') := aQ0 hr4
     clear hdf hr4 b1 b2
     have hmu := must_st H4.out.st ⟨#[62]⟩ [62] rfl (by omega) (by decide)
     go_wp2_with fail
     refine hmu.mono ?_
     rintro e w5 ⟨rfl, hs5, hg5⟩
     have H5 := aQ0 (H4.out.step hs5 hg5)
     clear hmu hs5 hg5 H4
     go_wp2
     go_end0
     have hzz := HZ.out
     rw [b3] at hzz
     refine ⟨rfl, d', ?_, fun r hr => (by rw [hzz] at hr; cases hr), by rw [HDE.out]; omega, hdl⟩
     rw [hzz]; exact H5.out
open Go.RowKit Strs Lists Ents Plain9 Plain10 Plain11 Plain23 Go.Lib
variable {B : Nat} {w W W' : World} {k g : Nat} {s : ByteArray} {σ σ' : Option Nat} {d : Dt} {E : Nat} {w0 : World} {a : At5}
theorem cWl {c : UInt8} : ∀ (n p i : Nat), fz s p [c] = -1 → p ≤ i → i < s.size → i < p + n → aQ1 s i ≠ (c.toNat : Int)
 | 0, p, i, _, h1, _, h3 => by omega
 | n + 1, p, i, hz, h1, h2, h3 => by
  have hp : p < s.size := by omega
  cases hh : aQa s p [c] with
  | true => rw [bQ8 hp hh] at hz; omega
  | false =>
   by_cases hi : i = p
   · subst hi
     rw [aZ3 hp, decide_eq_false_iff_not] at hh; exact hh
   · rw [aYh hp hh] at hz
     exact cWl n (p + 1) i hz (by omega) h2 (by omega)
def bW8 (s : ByteArray) (b : Nat) : Option Nat := if upF s b [62] = 0 ∧ Lib.index (upT s b [62]).data.toList [60] = -1 then some (upP s b [62]) else none
theorem dZf {b : Nat} (hb : b ≤ s.size) (h : ∀ j, b ≤ j → j < s.size → aQ1 s j ≠ 62 ∧ aQ1 s j ≠ 60) : bW8 s b = none := by
 unfold bW8
 rw [if_neg]
 rintro ⟨h1, _⟩
 rcases aZa s b [62] hb with h2 | ⟨i, h2, h3, h4, h5, _⟩
 · unfold upF at h1; rw [if_pos h2] at h1; cases h1
 · simp only [List.length_cons, List.length_nil] at h4
   exact (h i h3 (by omega)).1 (aX6 h5 (by omega))
theorem dZg {b i : Nat} (hb : b ≤ i) (hi : i < s.size) (h : ∀ j, b ≤ j → j < i → aQ1 s j ≠ 62 ∧ aQ1 s j ≠ 60) (h60 : aQ1 s i = 60) : bW8 s b = none := by
 unfold bW8
 rw [if_neg]
 rintro ⟨h1, h0⟩
 rcases aZa s b [62] (by omega) with h2 | ⟨e, h2, h3, h4, h5, _⟩
 · unfold upF at h1; rw [if_pos h2] at h1; cases h1
 · simp only [List.length_cons, List.length_nil] at h4
   have hb5 := aX6 h5 (by omega)
   have hie : i < e := by
    apply Decidable.byContradiction
    intro hn
    by_cases he : e = i
    · rw [he, h60] at hb5; revert hb5; decide
    · exact (h e h3 (by omega)).1 hb5
   have hT : upT s b [62] = s.extract b e := by unfold upT; rw [h2]; rfl
   rw [hT] at h0
   have hz : fz (s.extract b e) 0 [60] = -1 := (aJp _ 0 _).2 h0
   have hsz : (s.extract b e).size = e - b := aXy (by omega)
   refine cWl (s := s.extract b e) (c := 60) (e - b + 1) 0 (i - b) hz (by omega) (by omega) (by omega) ?_
   rw [aZ0, Plain25.aK5]
   simp only [List.getD, List.getElem?_take, List.getElem?_drop]
   rw [if_pos (by omega), show b + (i - b) = i by omega]
   exact h60
theorem dZe {b i : Nat} (hb : b ≤ i) (hi : i < s.size) (h : ∀ j, b ≤ j → j < i → aQ1 s j ≠ 62 ∧ aQ1 s j ≠ 60) (h62 : aQ1 s i = 62) : bW8 s b = some (i + 1) := by
 have hfz := Plain27.dZ8 (c := 62) hb hi h62 (fun j h1 h2 => (h j h1 h2).1)
 have hup : upF s b [62] = 0 := by unfold upF; rw [hfz, if_neg (by omega)]
 have hT : upT s b [62] = s.extract b i := by unfold upT; rw [hfz]; rfl
 have hsz : (s.extract b i).size = i - b := aXy (by omega)
 unfold bW8
 rw [if_pos, show upP s b [62] = i + 1 by unfold upP; rw [hfz]; rfl]
 refine ⟨hup, ?_⟩
 rw [hT]
 refine (aJp (s.extract b i) 0 [60]).1 ?_
 rcases aZa (s.extract b i) 0 [60] (Nat.zero_le _) with h2 | ⟨e, h2, h3, h4, h5, _⟩
 · exact h2
 · exfalso
   simp only [List.length_cons, List.length_nil] at h4
   have hb5 := aX6 h5 (by omega)
   rw [aZ0, Plain25.aK5] at hb5
   simp only [List.getD, List.getElem?_take, List.getElem?_drop] at hb5
   rw [if_pos (by omega)] at hb5
   exact (h (b + e) (by omega) (by omega)).2 hb5
def dQ6 (w : World) (g n : Nat) : Nat := match w.cell? ⟨g, 3, none⟩ with | some (.bool true) => 0 | _ => n + 1 - sPos w g
theorem bK8 {i n : Nat} (h : aZc w g s (some i)) : dQ6 w g n = n + 1 - i := by
 obtain ⟨c0, c1, c2, c3, c4, _⟩ := aJz h.2
 unfold dQ6
 rw [c3, bZz h]
 simp
theorem dQ5 {n : Nat} (h : w.cell? ⟨g, 3, none⟩ = some (.bool true)) : dQ6 w g n = 0 := by unfold dQ6; rw [h]
theorem elem_Z {R3 : Option Nat} (h : ((((σ.bind (gapO s)).bind (aJ6 s)).map (·.2)).bind (gapO s)) = R3) : σ.bind (aK7 s) = (R3.bind (bW8 s)).map fun q => ([], q) := by
 subst h
 cases σ with
 | none => rfl
 | some p =>
  simp only [Option.bind_some]
  unfold aK7
  cases gapO s p with
  | none => rfl
  | some a =>
   simp only [Option.bind_some]
   cases aJ6 s a with
   | none => rfl
   | some n =>
    simp only [Option.bind_some, Option.map_some]
    cases gapO s n.2 with
    | none => rfl
    | some b =>
     simp only [Option.bind_some]
     unfold bW8
     split <;> rfl
theorem cXr (h : Rd B w0 w k g s σ d) (hs : s.size ≤ 4000) :
 Calls prog 116 #[.pointer (some ⟨k, 0, none⟩)] w fun e w' => cQd B w0 k g s d (σ.bind (aK7 s)) e w' := by
 have H0 := aQ0 h
 obtain ⟨ve, va, hb0, _, _⟩ := h.box
 obtain ⟨r0, r1, r2, rf1, rf2⟩ := aZs hb0
 have hgap := bZ0 h.st (by omega)
 clear h hb0 r1 r2 rf1 rf2
 go_enter func116, ntmps116
 go_wp2_with fail
 refine hgap.mono ?_
 rintro e w1 ⟨rfl, hs1, hg1⟩
 have H1 := aQ0 (H0.out.step hs1 hg1)
 clear hgap hs1 hg1 H0 r0
 have hname := bJc H1.out.st (by omega)
 go_wp2_with fail
 refine hname.mono ?_
 rintro e w2 ⟨nm, rfl, hs2, _, hg2⟩
 have H2 := aQ0 (H1.out.step hs2 hg2)
 clear hname hs2 hg2 H1
 have hgap := bZ0 H2.out.st (by omega)
 go_wp2_with fail
 refine hgap.mono ?_
 rintro e w3 ⟨rfl, hs3, hg3⟩
 have H3 := aQ0 (H2.out.step hs3 hg3)
 clear hgap hs3 hg3 H2
 obtain ⟨R3, hR3⟩ := nmE (((((σ.bind (gapO s)).bind (aJ6 s)).map (·.2)).bind (gapO s)))
 have HZ := aQ0 (elem_Z hR3)
 rw [hR3] at H3
 clear hR3
 obtain ⟨Z, hZe⟩ := nmE (R3.bind (bW8 s))
 rw [hZe] at HZ
 have HZE := aQ0 hZe
 clear hZe
 go_wp2_with fail
 go_loopw [] (fun wr => ∃ σ', Rd B w0 wr k g s σ' d ∧ (σ' = none → Z = none) ∧ (∀ i, σ' = some i → ∃ b, R3 = some b ∧ b ≤ i ∧ ∀ j, b ≤ j → j < i → aQ1 s j ≠ 62 ∧ aQ1 s j ≠ 60)) (fun wr => dQ6 wr g s.size)
 case atStart =>
  refine ⟨R3, H3.out, fun h => ?_, fun i hi => ⟨i, hi, Nat.le_refl _, fun j h1 h2 => by omega⟩⟩
  rw [← HZE.out, h]; rfl
 case round =>
  obtain ⟨σ', hrd, hno, hso⟩ := hrel
  have H4 := aQ0 hrd
  have HNO := aQ0 hno
  have HSO := aQ0 hso
  clear hrd hno hso H3
  have hok := aW9 H4.out.st
  have endN : ∀ w9 : World, Rd B w0 w9 k g s none d → Z = none → cQd B w0 k g s d (σ.bind (aK7 s)) (.returned (.tuple #[])) w9 := by
   intro w9 h9 hz
   have hzz := HZ.out
   rw [hz] at hzz
   exact ⟨rfl, d, by rw [hzz]; exact h9, fun r hr => (by rw [hzz] at hr; cases hr), by omega, by omega⟩
  have ENDN := aQ0 endN
  clear endN
  cases σ' with
  | none =>
   simp only [Option.isSome_none] at hok
   go_wp2_with fail
   go_quiet ((go_at_call 83; exact Calls.quiet_of_same (hok _ rfl)))
   have H5 := aQ0 (H4.out.keep (aQs wr nq none))
   have hmu := must_st H5.out.st ⟨#[62]⟩ [62] rfl (by omega) (by decide)
   go_wp2_with fail
   refine hmu.mono ?_
   rintro e w9 ⟨rfl, hs9, hg9⟩
   have H9 := aQ0 (H5.out.step hs9 hg9)
   clear hmu hs9 hg9
   go_wp2
   go_end0
   exact ENDN.out _ H9.out (HNO.out (by first | rfl | trivial))
  | some i =>
   simp only [Option.isSome_some] at hok
   have his := dV9 H4.out.st
   obtain ⟨b, hR, hbi, hfree⟩ := HSO.out i rfl
   by_cases he : s.size ≤ i
   · have hZn : Z = none := by rw [← HZE.out, hR]; exact dZf (by omega) (fun j h1 h2 => hfree j h1 (by omega))
     have HZN := aQ0 hZn
     have hen := fun W' hW => cYw H4.out.st.2 (show i ≤ _ by omega) W' hW
     simp only [decide_eq_true he, aZb (x := ⟨i, 0⟩) (s := s) he rfl] at hen
     clear hfree hR hZn
     go_wp2_with fail
     refine wp_region_any (by kernel_rfl) ?_
     change wpAny _ _ _ _ _ _ _ (World.drew _)
     refine aQh (i := 0) (v := .pointer (some ⟨g, 0, none⟩)) rfl rfl (by kernel_rfl) (by kernel_rfl) (by kernel_rfl) (fun _ _ _ h => h) (Or.inl ⟨by rfl, fun wx => by go_simp⟩) ?_
     refine wpAny_ready (rs := [1]) (by kernel_rfl) (by simp) ?_
     refine AllReady.cons rfl (fun K hK => ?_) AllReady.nil
     go_simp
     refine (hok wr.drew rfl).mono ?_
     rintro e wo ⟨rfl, hww⟩
     subst hww
     refine hK _ _ ?_
     clear hK K
     refine aQh (i := 2) (v := .bool true) rfl rfl (by kernel_rfl) (by kernel_rfl) (by kernel_rfl) (fun _ _ _ h => h) (Or.inl ⟨by rfl, fun wx => by go_simp⟩) ?_
     refine aQh (i := 3) (v := .pointer (some ⟨g, 0, none⟩)) rfl rfl (by kernel_rfl) (by kernel_rfl) (by kernel_rfl) (fun _ _ _ h => h) (Or.inl ⟨by rfl, fun wx => by go_simp⟩) ?_
     refine wpAny_ready (rs := [4]) (by kernel_rfl) (by simp) ?_
     refine AllReady.cons rfl (fun K hK => ?_) AllReady.nil
     go_simp
     refine (hen wr.drew rfl).mono ?_
     rintro e w4 ⟨rfl, hb4, hg4⟩
     refine hK _ _ ?_
     clear hK K
     refine aQh (i := 5) (v := .bool false) rfl rfl (by kernel_rfl) (by kernel_rfl) (by kernel_rfl) (fun _ _ _ h => h) (Or.inl ⟨by rfl, fun wx => by go_simp⟩) ?_
     refine aQh (i := 6) (v := .bool false) rfl rfl (by kernel_rfl) (by kernel_rfl) (by kernel_rfl) (fun _ _ _ h => h) (Or.inl ⟨by rfl, fun wx => by go_simp⟩) ?_
     refine aQh (i := 7) (v := .bool false) rfl rfl (by kernel_rfl) (by kernel_rfl) (by kernel_rfl) (fun _ _ _ h => h) (Or.inl ⟨by rfl, fun wx => by go_simp⟩) ?_
     refine aQh (i := 8) (v := undef) rfl rfl (by kernel_rfl) (by kernel_rfl) (by kernel_rfl) (fun _ _ _ h => h) (Or.inr ⟨by kernel_rfl, rfl⟩) ?_
     refine aQh (i := 9) (v := undef) rfl rfl (by kernel_rfl) (by kernel_rfl) (by kernel_rfl) (fun _ _ _ h => h) (Or.inr ⟨by kernel_rfl, rfl⟩) ?_
     refine aQh (i := 10) (v := undef) rfl rfl (by kernel_rfl) (by kernel_rfl) (by kernel_rfl) (fun _ _ _ h => h) (Or.inr ⟨by kernel_rfl, rfl⟩) ?_
     refine aQh (i := 11) (v := undef) rfl rfl (by kernel_rfl) (by kernel_rfl) (by kernel_rfl) (fun _ _ _ h => h) (Or.inr ⟨by kernel_rfl, rfl⟩) ?_
     refine aQh (i := 12) (v := undef) rfl rfl (by kernel_rfl) (by kernel_rfl) (by kernel_rfl) (fun _ _ _ h => h) (Or.inr ⟨by kernel_rfl, rfl⟩) ?_
     refine aQh (i := 13) (v := undef) rfl rfl (by kernel_rfl) (by kernel_rfl) (by kernel_rfl) (fun _ _ _ h => h) (Or.inr ⟨by kernel_rfl, rfl⟩) ?_
     refine aQh (i := 14) (v := undef) rfl rfl (by kernel_rfl) (by kernel_rfl) (by kernel_rfl) (fun _ _ _ h => h) (Or.inr ⟨by kernel_rfl, rfl⟩) ?_
     refine aQh (i := 15) (v := undef) rfl rfl (by kernel_rfl) (by kernel_rfl) (by kernel_rfl) (fun _ _ _ h => h) (Or.inr ⟨by kernel_rfl, rfl⟩) ?_
     refine aQh (i := 16) (v := undef) rfl rfl (by kernel_rfl) (by kernel_rfl) (by kernel_rfl) (fun _ _ _ h => h) (Or.inr ⟨by kernel_rfl, rfl⟩) ?_
     refine aQh (i := 17) (v := undef) rfl rfl (by kernel_rfl) (by kernel_rfl) (by kernel_rfl) (fun _ _ _ h => h) (Or.inr ⟨by kernel_rfl, rfl⟩) ?_
     refine aQh (i := 18) (v := .bool false) rfl rfl (by kernel_rfl) (by kernel_rfl) (by kernel_rfl) (fun _ _ _ h => h) (Or.inl ⟨by kernel_rfl, fun wx => by go_simp⟩) ?_
     refine wpAny_done (by kernel_rfl) ?_ _
     go_simp
     have H5 := aQ0 (H4.out.step (σ' := none) (bZ2 hb4 (by simp) his) (aQ6 (b := wr.drew) ⟨rfl, rfl, rfl, Nat.le_refl _, fun _ _ _ => rfl⟩ hg4))
     clear hen hok hb4 hg4
     have hmu := must_st H5.out.st ⟨#[62]⟩ [62] rfl (by omega) (by decide)
     go_wp2_with fail
     refine hmu.mono ?_
     rintro e w9 ⟨rfl, hs9, hg9⟩
     have H9 := aQ0 (H5.out.step hs9 hg9)
     clear hmu hs9 hg9
     go_wp2
     go_end0
     exact ENDN.out _ H9.out HZN.out
   · have hlt : i < s.size := by omega
     have hen := fun W' hW => cJi H4.out.st.2 (show i < s.size by omega) W' hW
     obtain ⟨c, hcb⟩ := nmE (aQ1 s i)
     have hix : ∀ wx, (Instr.index 9 (.string s) (.int .i64 (i : Int))).run prog wx = .ok (.int .u8 c) wx := fun wx => by rw [aQ8 wx 9 s i hlt underlying9, hcb]
     obtain ⟨c0, c1, c2, c3, c4, f1, f2, f3, f4⟩ := aXi H4.out.st.2
     have HM := aQ0 (bK8 (n := s.size) H4.out.st)
     by_cases h62 : c = 62
     · subst h62
       have hZs : Z = some (i + 1) := by rw [← HZE.out, hR]; exact dZe hbi hlt hfree hcb
       have hmo : bQh s i [62] = some (i + 1) := by unfold bQh; rw [if_pos (by rw [aZ3 hlt, hcb]; rfl)]; rfl
       have HZS := aQ0 hZs
       have HMO := aQ0 hmo
       clear hfree hR hZs hmo hcb
       go_wp2_with fail
       go_quiet (first | (go_at_call 83; exact Calls.quiet_of_same (hok _ rfl)) | (go_at_call 84; exact Calls.quiet_of (hen _ rfl)))
       have H5 := aQ0 (H4.out.keep (aQs wr nq none))
       have hmu := must_st H5.out.st ⟨#[62]⟩ [62] rfl (by omega) (by decide)
       go_wp2_with fail
       refine hmu.mono ?_
       rintro e w9 ⟨rfl, hs9, hg9⟩
       have H9 := aQ0 (H5.out.step hs9 hg9)
       clear hmu hs9 hg9
       go_wp2
       go_end0
       have hzz := HZ.out
       rw [HZS.out] at hzz
       have h9 := H9.out
       rw [Option.bind_some, HMO.out] at h9
       exact ⟨rfl, d, by rw [hzz]; exact h9, fun r hr => (by rw [hzz] at hr; cases hr; rfl), by omega, by omega⟩
     · have h62b : (c != 62) = true := by simpa using h62
       have hbd := aXn s i
       rw [hcb] at hbd
       by_cases h60 : c = 60
       · subst h60
         have hZn : Z = none := by rw [← HZE.out, hR]; exact dZg hbi hlt hfree hcb
         have HZN := aQ0 hZn
         clear hfree hR hZn hcb h62
         go_wp2_with fail
         go_quiet (first | (go_at_call 83; exact Calls.quiet_of_same (hok _ rfl)) | (go_at_call 84; exact Calls.quiet_of (hen _ rfl)))
         go_wp2_with fail
         go_region
         all_goals
          have hnew : GBox (((wr.drewN (nq + 1)).setCell ⟨g, 3, none⟩ (.bool true)).setCell ⟨g, 1, none⟩ (.int .i64 ((i : Int) + 1))) g s (i + 1) false true false := set5 (set5 (w := wr.drewN (nq + 1)) H4.out.st.2 3 _) 1 _
          have hgn : wr.grownBy (((wr.drewN (nq + 1)).setCell ⟨g, 3, none⟩ (.bool true)).setCell ⟨g, 1, none⟩ (.int .i64 ((i : Int) + 1))) (some g) := aQ6 (b := wr.drewN (nq + 1)) ⟨rfl, rfl, rfl, Nat.le_refl _, fun _ _ _ => rfl⟩ (aQ6 (aX9 _) (aX9 _))
          have HN := aQ0 hnew
          have HGN := aQ0 hgn
          clear hnew hgn
          go_wp2
          go_roundw
          case rel => exact ⟨none, H4.out.step ⟨i + 1, false, true, false, by omega, rfl, HN.out⟩ HGN.out, fun _ => HZN.out, fun j hj => (by cases hj)⟩
          case measure => rw [HM.out, dQ5 (bJv HN.out).2.2.2.1]; omega
       · have h60b : (c == 60) = false := by simpa using h60
         have hfr : ∀ j, b ≤ j → j < i + 1 → aQ1 s j ≠ 62 ∧ aQ1 s j ≠ 60 := by
          intro j h1 h2
          by_cases hj : j = i
          · subst hj; rw [hcb]; exact ⟨h62, h60⟩
          · exact hfree j h1 (by omega)
         have HFR := aQ0 hfr
         clear hfree hcb h62 h60 hfr
         go_wp2_with fail
         go_quiet (first | (go_at_call 83; exact Calls.quiet_of_same (hok _ rfl)) | (go_at_call 84; exact Calls.quiet_of (hen _ rfl)))
         go_wp2_with fail
         go_region
         all_goals
          have hnew : aQj (((wr.drewN (nq + 1)).setCell ⟨g, 3, none⟩ (.bool false)).setCell ⟨g, 1, none⟩ (.int .i64 ((i : Int) + 1))) g s ⟨i + 1, 0⟩ := set5 (set5 (w := wr.drewN (nq + 1)) H4.out.st.2 3 _) 1 _
          have hgn : wr.grownBy (((wr.drewN (nq + 1)).setCell ⟨g, 3, none⟩ (.bool false)).setCell ⟨g, 1, none⟩ (.int .i64 ((i : Int) + 1))) (some g) := aQ6 (b := wr.drewN (nq + 1)) ⟨rfl, rfl, rfl, Nat.le_refl _, fun _ _ _ => rfl⟩ (aQ6 (aX9 _) (aX9 _))
          have HN := aQ0 (show aZc _ g s (some (i + 1)) from ⟨by omega, hnew⟩)
          have HGN := aQ0 hgn
          clear hnew hgn
          go_wp2
          go_roundw
          case rel => exact ⟨some (i + 1), H4.out.step HN.out HGN.out, fun h => (by cases h), fun j hj => (by cases hj; exact ⟨b, hR, by omega, HFR.out⟩)⟩
          case measure => rw [HM.out, bK8 HN.out]; omega
open Go.RowKit Ents Plain9 Plain10 Plain23 Go.Lib
variable {B : Nat} {w W W' : World} {k g : Nat} {s : ByteArray} {σ σ' : Option Nat} {d : Dt} {E : Nat} {w0 : World} {a : At5}
theorem dJb {p : Nat} {T : Tk} {e : Ending} (h : Rd B w0 W k g s (some p) d) (ht : aVx W g s T e W') : Rd B w0 W' k g s (if T.fl = 0 then some T.pos else none) d := by
 obtain ⟨kd, nm, tx, ao, an, ac, q, _, hb, hq, hT, hg⟩ := ht
 refine h.step (dX7 hb hq (fun h0 => ?_) (fun h0 => ?_)) hg
 · rw [if_pos h0, (hT h0).2.2.2.1]
 · rw [if_neg h0]
theorem cWh {Z : Option (List Df × Nat)} {w' : World} (h : Rd B w0 w' k g s (Z.map (·.2)) (outD d Z)) (hl : ∀ r, Z = some r → r.1.length ≤ s.size) : cQd B w0 k g s d Z (.returned (.tuple #[])) w' := by
 cases Z with
 | none => exact ⟨rfl, d, h, fun r hr => (by cases hr), by omega, by omega⟩
 | some r =>
  have hc := Plain26.bZ4 r.1 d
  have := hl r rfl
  exact ⟨rfl, aZe d r.1, h, fun r' hr => (by cases hr; rfl), by omega, by omega⟩
theorem dK5 {p : Nat} {r : List Df × Nat} (h : aJs s p = some r) : r.1.length = 1 ∧ p < s.size := by
 unfold aJs at h
 obtain ⟨a, ha, h⟩ := Option.bind_eq_some_iff.1 h
 obtain ⟨n, hn, h⟩ := Option.bind_eq_some_iff.1 h
 obtain ⟨b, hb, h⟩ := Option.bind_eq_some_iff.1 h
 obtain ⟨v, hq, h⟩ := Option.bind_eq_some_iff.1 h
 obtain ⟨x, hx, h⟩ := Option.bind_eq_some_iff.1 h
 obtain ⟨q, hm, h⟩ := Option.bind_eq_some_iff.1 h
 cases h
 have h1 := (aJg ha).1
 have h2 := (aZj hn).2.2.2
 exact ⟨rfl, by omega⟩
theorem dXz {p : Nat} (h : Rd B w0 w k g s (some p) d) (hs : s.size ≤ 4000) (hde : d.ents.length ≤ 900000) (hda : d.atts.length ≤ 900000) :
 Calls prog 102 #[.pointer (some ⟨k, 0, none⟩)] w fun e w' => cQd B w0 k g s d (aWu s p) e w' := by
 obtain ⟨Z, hZ⟩ := nmE (aWu s p)
 rw [hZ]
 unfold aWu at hZ
 have HZ := aQ0 hZ
 have H0 := aQ0 h
 obtain ⟨ve, va, hb0, _, _⟩ := h.box
 obtain ⟨r0, r1, r2, rf1, rf2⟩ := aZs hb0
 clear h hb0 r1 r2 rf1 rf2 hZ
 cases h0 : aQa s p [60, 33, 45, 45] with
 | true =>
  have hZ := HZ.out
  rw [if_pos h0] at hZ
  have HZ2 := aQ0 hZ
  have hi0 := bXx ⟨#[60, 33, 45, 45]⟩ [60, 33, 45, 45] H0.out.st rfl (by simp) (by omega) (by decide) h0
  clear hZ
  go_enter func102, ntmps102
  go_wp2_with fail
  refine hi0.mono ?_
  rintro e v1 ⟨rfl, hs1, hg1⟩
  have G1 := aQ0 (H0.out.step hs1 hg1)
  clear hi0 hs1 hg1
  have hc := comment_ok _ g s (p + 4) G1.out.st.2 (by omega) G1.out.st.1
  go_wp2_with fail
  refine hc.mono ?_
  rintro e v2 ht
  have G2 := aQ0 (dJb G1.out ht)
  obtain ⟨kd, nm, tx, ao, an, ac, q, rfl, _⟩ := ht
  clear hc
  go_wp2
  go_end0
  rw [← HZ2.out]
  by_cases hf : (aXa s (p + 4)).fl = 0
  · have := G2.out
    rw [if_pos hf] at this ⊢
    exact ⟨rfl, d, this, fun r hr => (by cases hr; rfl), by omega, by omega⟩
  · have := G2.out
    rw [if_neg hf] at this ⊢
    exact ⟨rfl, d, this, fun r hr => (by cases hr), by omega, by omega⟩
 | false =>
  have hi0 := bYn ⟨#[60, 33, 45, 45]⟩ [60, 33, 45, 45] H0.out.st rfl (by simp) (by omega) (by decide) h0
  go_enter func102, ntmps102
  go_wp2_with fail
  refine hi0.mono ?_
  rintro e u0w ⟨rfl, hs1, hg1⟩
  have H1 := aQ0 (H0.out.step hs1 hg1)
  clear hi0 hs1 hg1
  cases h1 : aQa s p [60, 63] with
  | true =>
   have hZ := HZ.out
   rw [if_neg (by rw [h0]; simp)] at hZ
   rw [if_pos h1] at hZ
   have HZ2 := aQ0 hZ
   have hi1 := bXx ⟨#[60, 63]⟩ [60, 63] H1.out.st rfl (by simp) (by omega) (by decide) h1
   clear hZ
   go_wp2_with fail
   refine hi1.mono ?_
   rintro e v1 ⟨rfl, hs1, hg1⟩
   have G1 := aQ0 (H1.out.step hs1 hg1)
   clear hi1 hs1 hg1
   have hc := pi_ok _ g s (p + 2) G1.out.st.2 (by omega) G1.out.st.1
   go_wp2_with fail
   refine hc.mono ?_
   rintro e v2 ht
   have G2 := aQ0 (dJb G1.out ht)
   obtain ⟨kd, nm, tx, ao, an, ac, q, rfl, _⟩ := ht
   clear hc
   go_wp2
   go_end0
   rw [← HZ2.out]
   by_cases hf : (piZ s (p + 2)).fl = 0
   · have := G2.out
     rw [if_pos hf] at this ⊢
     exact ⟨rfl, d, this, fun r hr => (by cases hr; rfl), by omega, by omega⟩
   · have := G2.out
     rw [if_neg hf] at this ⊢
     exact ⟨rfl, d, this, fun r hr => (by cases hr), by omega, by omega⟩
  | false =>
   have hi1 := bYn ⟨#[60, 63]⟩ [60, 63] H1.out.st rfl (by simp) (by omega) (by decide) h1
   go_wp2_with fail
   refine hi1.mono ?_
   rintro e u1w ⟨rfl, hs1, hg1⟩
   have H2 := aQ0 (H1.out.step hs1 hg1)
   clear hi1 hs1 hg1
   cases h2 : aQa s p entL with
   | true =>
    have hZ := HZ.out
    rw [if_neg (by rw [h0]; simp)] at hZ
    rw [if_neg (by rw [h1]; simp)] at hZ
    rw [if_pos h2] at hZ
    have HZ2 := aQ0 hZ
    have hi2 := bXx ⟨#[60, 33, 69, 78, 84, 73, 84, 89]⟩ entL H2.out.st rfl (by simp [entL]) (by omega) (by decide) h2
    clear hZ
    go_wp2_with fail
    refine hi2.mono ?_
    rintro e v1 ⟨rfl, hs1, hg1⟩
    have G1 := aQ0 (H2.out.step hs1 hg1)
    clear hi2 hs1 hg1
    have hc := cVh G1.out (by omega) (by omega)
    go_wp2_with fail
    refine hc.mono ?_
    rintro e v2 ⟨rfl, ht⟩
    clear hc
    go_wp2
    go_end0
    rw [← HZ2.out]
    exact cWh ht (fun r hr => (by have := dK5 hr; omega))
   | false =>
    have hi2 := bYn ⟨#[60, 33, 69, 78, 84, 73, 84, 89]⟩ entL H2.out.st rfl (by simp [entL]) (by omega) (by decide) h2
    go_wp2_with fail
    refine hi2.mono ?_
    rintro e u2w ⟨rfl, hs1, hg1⟩
    have H3 := aQ0 (H2.out.step hs1 hg1)
    clear hi2 hs1 hg1
    cases h3 : aQa s p attL with
    | true =>
     have hZ := HZ.out
     rw [if_neg (by rw [h0]; simp)] at hZ
     rw [if_neg (by rw [h1]; simp)] at hZ
     rw [if_neg (by rw [h2]; simp)] at hZ
     rw [if_pos h3] at hZ
     have HZ2 := aQ0 hZ
     have hi3 := bXx ⟨#[60, 33, 65, 84, 84, 76, 73, 83, 84]⟩ attL H3.out.st rfl (by simp [attL]) (by omega) (by decide) h3
     clear hZ
     go_wp2_with fail
     refine hi3.mono ?_
     rintro e v1 ⟨rfl, hs1, hg1⟩
     have G1 := aQ0 (H3.out.step hs1 hg1)
     clear hi3 hs1 hg1
     have hc := cXx G1.out hs (by omega)
     go_wp2_with fail
     refine hc.mono ?_
     rintro e v2 ht
     obtain ⟨rfl, ht⟩ := ht
     clear hc
     go_wp2
     go_end0
     rw [← HZ2.out]
     exact ⟨rfl, ht⟩
    | false =>
     have hi3 := bYn ⟨#[60, 33, 65, 84, 84, 76, 73, 83, 84]⟩ attL H3.out.st rfl (by simp [attL]) (by omega) (by decide) h3
     go_wp2_with fail
     refine hi3.mono ?_
     rintro e u3w ⟨rfl, hs1, hg1⟩
     have H4 := aQ0 (H3.out.step hs1 hg1)
     clear hi3 hs1 hg1
     cases h4 : aQa s p eleL with
     | true =>
      have hZ := HZ.out
      rw [if_neg (by rw [h0]; simp)] at hZ
      rw [if_neg (by rw [h1]; simp)] at hZ
      rw [if_neg (by rw [h2]; simp)] at hZ
      rw [if_neg (by rw [h3]; simp)] at hZ
      rw [if_pos h4] at hZ
      have HZ2 := aQ0 hZ
      have hi4 := bXx ⟨#[60, 33, 69, 76, 69, 77, 69, 78, 84]⟩ eleL H4.out.st rfl (by simp [eleL]) (by omega) (by decide) h4
      clear hZ
      go_wp2_with fail
      refine hi4.mono ?_
      rintro e v1 ⟨rfl, hs1, hg1⟩
      have G1 := aQ0 (H4.out.step hs1 hg1)
      clear hi4 hs1 hg1
      have hc := cXr G1.out hs
      go_wp2_with fail
      refine hc.mono ?_
      rintro e v2 ht
      obtain ⟨rfl, ht⟩ := ht
      clear hc
      go_wp2
      go_end0
      rw [← HZ2.out]
      exact ⟨rfl, ht⟩
     | false =>
      have hi4 := bYn ⟨#[60, 33, 69, 76, 69, 77, 69, 78, 84]⟩ eleL H4.out.st rfl (by simp [eleL]) (by omega) (by decide) h4
      go_wp2_with fail
      refine hi4.mono ?_
      rintro e u4w ⟨rfl, hs1, hg1⟩
      have H5 := aQ0 (H4.out.step hs1 hg1)
      clear hi4 hs1 hg1
      have hZ := HZ.out
      rw [if_neg (by rw [h0]; simp)] at hZ
      rw [if_neg (by rw [h1]; simp)] at hZ
      rw [if_neg (by rw [h2]; simp)] at hZ
      rw [if_neg (by rw [h3]; simp)] at hZ
      rw [if_neg (by rw [h4]; simp)] at hZ
      have HZ2 := aQ0 hZ
      clear hZ
      obtain ⟨bd, d1, d2, hbad⟩ := bWm H5.out.st
      have G1 := aQ0 (H5.out.step hbad (aX9 _))
      clear hbad
      go_wp2
      go_end0
      rw [← HZ2.out]
      exact ⟨rfl, d, G1.out, fun r hr => (by cases hr), by omega, by omega⟩
open Go.RowKit Ents Plain9 Plain11 Plain23 Go.Lib
variable {B : Nat} {w W W' : World} {k g : Nat} {s : ByteArray} {σ σ' : Option Nat} {d : Dt} {E : Nat} {w0 : World} {a : At5}
theorem cXf (s : ByteArray) (w : World) (hs : s.size ≤ 4000) (h0 : Plain11.VB s 0) :
 Calls prog 70 #[.string s] w fun e w' => dJv w (aY9 s (s.size + 1) 0 ⟨[], []⟩) e w' := by
 obtain ⟨R, hR⟩ := nmE (aY9 s (s.size + 1) 0 ⟨[], []⟩)
 rw [hR]
 have HR := aQ0 hR
 have HV := aQ0 h0
 clear hR h0
 go_enter func70, ntmps70
 go_wp2_with fail
 have hst0 : Rd (w.heap.size + 1) (w.alloc zDtd) (((w.alloc zDtd).alloc (.cells #[.string s, .int .i64 0, .bool false, .bool false, .bool false] 126)).alloc (.cells #[.pointer (some ⟨w.heap.size + 1, 0, none⟩), .slice none 0 0, .slice none 0 0] 155)) (w.heap.size + 1 + 1) (w.heap.size + 1) s (some 0) ⟨[], []⟩ := by
  refine ⟨⟨Nat.zero_le _, ?_⟩, Nat.le_refl _, by omega, ⟨.slice none 0 0, .slice none 0 0, ?_, World.ownsRow_nil _ _ _ _, World.ownsRow_nil _ _ _ _⟩, ?_⟩
  · unfold aQj
    rw [heap_alloc_old _ _ (by simp)]
    have := heap_alloc_new (w.alloc zDtd) (.cells #[.string s, .int .i64 0, .bool false, .bool false, .bool false] 126)
    simpa using this
  · unfold aZg
    have := heap_alloc_new ((w.alloc zDtd).alloc (.cells #[.string s, .int .i64 0, .bool false, .bool false, .bool false] 126)) (.cells #[.pointer (some ⟨w.heap.size + 1, 0, none⟩), .slice none 0 0, .slice none 0 0] 155)
    simpa using this
  · exact (((Below.refl _ _).alloc (by simp) _).alloc (by simp) _)
 have HST := aQ0 hst0
 clear hst0
 have hzero : Hid ((w.alloc zDtd).heap[w.heap.size]? = some zDtd) := aQ0 (heap_alloc_new w zDtd)
 have hw01 : Hid (Below w.heap.size w (w.alloc zDtd)) := aQ0 (bAl)
 go_loopw [] (fun wr => ∃ (f p : Nat) (d : Dt), Rd (w.heap.size + 1) (w.alloc zDtd) wr (w.heap.size + 1 + 1) (w.heap.size + 1) s (some p) d ∧ aY9 s f p d = R ∧ s.size < p + f ∧ d.ents.length ≤ 40 ∧ d.atts.length ≤ 40) (fun wr => s.size + 1 - sPos wr (w.heap.size + 1))
 case atStart => exact ⟨s.size + 1, 0, ⟨[], []⟩, HST.out, HR.out, by omega, by simp, by simp⟩
 case round =>
  obtain ⟨f, p, d, hrd, hgo, hf, hde, hda⟩ := hrel
  have H1 := aQ0 hrd
  have hps := dV9 hrd.st
  have HM := aQ0 (bZz hrd.st)
  obtain ⟨f', rfl⟩ : ∃ f', f = f' + 1 := ⟨f - 1, by omega⟩
  obtain ⟨q, hq⟩ := nmE (whiteZ s p)
  have hgo2 : (if q < s.size then (match aWu s q with | none => bVn (q : Int) 3 | some (l, q') => if bYt (aZe d l) = true then bVn (q : Int) 7 else aY9 s f' q' (aZe d l)) else (⟨d, 0, 0⟩ : DOut)) = R := by
   rw [← hgo, ← hq]; rfl
  have HGO := aQ0 hgo2
  have hpq : p ≤ q := by rw [← hq]; exact aXj s p
  have hqs : q ≤ s.size := by rw [← hq]; exact aQv hps
  have HQ := aQ0 hq
  obtain ⟨ve, va, hb0, _, _⟩ := hrd.box
  obtain ⟨r0, r1, r2, rf1, rf2⟩ := aZs hb0
  have hwh := aYn hrd.st (by omega)
  clear hrd hgo hgo2 hq hb0 r1 r2 rf1 rf2 HST
  go_wp2_with fail
  refine hwh.mono ?_
  rintro e w2 ⟨b2, rfl, hs2, _, hg2⟩
  have H2 : Hid (Rd (w.heap.size + 1) (w.alloc zDtd) w2 (w.heap.size + 1 + 1) (w.heap.size + 1) s (some q) d) := by
   have := H1.out.step hs2 hg2
   rw [Option.map_some, HQ.out] at this
   exact aQ0 this
  clear hwh hs2 hg2 H1 r0
  obtain ⟨ve, va, hb0, ho1, ho2⟩ := H2.out.box
  obtain ⟨ae, ce, rfl, _⟩ := aWx ho1
  obtain ⟨aa, ca, rfl, _⟩ := aWz ho2
  obtain ⟨r0, r1, r2, rf1, rf2⟩ := aZs hb0
  obtain ⟨c0, c1, c2, c3, c4, f1, f2, f3, f4⟩ := aXi H2.out.st.2
  have hz2 : w2.heap[w.heap.size]? = some zDtd := (H2.out.bel.block w.heap.size (by omega)).trans hzero.out
  have hzc : ∀ wx : World, wx.heap[w.heap.size]? = some zDtd → wx.cell? ⟨w.heap.size, 0, none⟩ = some (.slice none 0 0) ∧ wx.cell? ⟨w.heap.size, 1, none⟩ = some (.slice none 0 0) ∧ wx.cell? ⟨w.heap.size, 2, none⟩ = some (.int .i64 0) ∧ wx.cell? ⟨w.heap.size, 3, none⟩ = some (.int .i64 0) ∧ wx.frozen? ⟨w.heap.size, 0, none⟩ = false ∧ wx.frozen? ⟨w.heap.size, 1, none⟩ = false ∧ wx.frozen? ⟨w.heap.size, 2, none⟩ = false ∧ wx.frozen? ⟨w.heap.size, 3, none⟩ = false := by
   intro wx hx
   unfold zDtd at hx
   simp [World.cell?, World.frozen?, hx]
  have HZC := aQ0 hzc
  clear hzc
  have store4 : ∀ (wx : World) (R' : DOut) (u0 u1 u2 u3 : Value), Below (w.heap.size + 1) (w.alloc zDtd) wx → Below w.heap.size w ((((wx.setCell ⟨w.heap.size, 0, none⟩ u0).setCell ⟨w.heap.size, 1, none⟩ u1).setCell ⟨w.heap.size, 2, none⟩ u2).setCell ⟨w.heap.size, 3, none⟩ u3) := by
   intro wx R' u0 u1 u2 u3 hx
   have h1 : Below w.heap.size w wx := hw01.out.trans (hx.mono (by omega))
   have hsz := h1.size
   exact (((h1.grown (aX9 (g := w.heap.size) (j := 0) u0) (by omega) (fun j hj => by cases hj; omega)).grown (aX9 (g := w.heap.size) (j := 1) u1) (by simp; omega) (fun j hj => by cases hj; omega)).grown (aX9 (g := w.heap.size) (j := 2) u2) (by simp; omega) (fun j hj => by cases hj; omega)).grown (aX9 (g := w.heap.size) (j := 3) u3) (by simp; omega) (fun j hj => by cases hj; omega)
  have ST4 := aQ0 store4
  clear store4
  by_cases hlt : q < s.size
  · have hqb : ((q : Int) == (s.size : Int)) = false := by simp; omega
    have hmk := dXz H2.out hs (by omega) (by omega)
    have failS : ∀ (wx : World) (c : Int), Below (w.heap.size + 1) (w.alloc zDtd) wx → R = bVn (q : Int) c → dJv w R (.returned (.agg #[.slice none 0 0, .slice none 0 0, .int .i64 (q : Int), .int .i64 c])) ((((wx.setCell ⟨w.heap.size, 0, none⟩ (.slice none 0 0)).setCell ⟨w.heap.size, 1, none⟩ (.slice none 0 0)).setCell ⟨w.heap.size, 2, none⟩ (.int .i64 (q : Int))).setCell ⟨w.heap.size, 3, none⟩ (.int .i64 c)) := by
     intro wx c hx hr
     rw [hr]
     exact ⟨none, 0, none, 0, rfl, World.ownsRow_nil _ _ _ _, World.ownsRow_nil _ _ _ _, ST4.out wx R _ _ _ _ hx⟩
    have FSA := aQ0 failS
    have hRe := HGO.out
    rw [if_pos hlt] at hRe
    have HV0 := HV.out
    clear failS ho1 ho2
    cases hm : aWu s q with
    | none =>
     rw [hm] at hRe hmk
     have HRE := aQ0 hRe
     clear hRe hm HV0
     go_wp2_with fail
     refine hmk.mono ?_
     rintro e w3 ⟨rfl, d3, hrd3, _⟩
     have H3 : Hid (Rd (w.heap.size + 1) (w.alloc zDtd) w3 (w.heap.size + 1 + 1) (w.heap.size + 1) s none d3) := aQ0 hrd3
     clear hmk hrd3 r0 r1 r2 rf1 rf2 c0 c1 c2 c3 c4 f1 f2 f3 f4 hb0 H2
     obtain ⟨ve, va, hb3, _, _⟩ := H3.out.box
     obtain ⟨r0, r1, r2, rf1, rf2⟩ := aZs hb3
     have hz3 : w3.heap[w.heap.size]? = some zDtd := (H3.out.bel.block w.heap.size (by omega)).trans hzero.out
     obtain ⟨z0, z1, z2, z3, zf0, zf1, zf2, zf3⟩ := HZC.out w3 hz3
     have hok := cV5 H3.out.st
     simp only [Option.isSome_none] at hok
     go_wp2_with (go_at_call 83; refine hok.mono ?_; rintro e wk ⟨rfl, hwk⟩; obtain rfl := hwk.symm)
     refine bodyPost_ret (v := .agg #[.slice none 0 0, .slice none 0 0, .int .i64 (q : Int), .int .i64 3]) (by simp [results, results70, go_sem, z0, z1, z2, z3]) rfl ?_
     exact FSA.out _ 3 H3.out.bel HRE.out.symm
    | some lr =>
     rw [hm] at hRe hmk
     have hend := Plain26.dXy HV0 (Nat.le_of_lt hlt) hm
     have HRE : Hid ((if bYt (aZe d lr.1) = true then bVn (q : Int) 7 else aY9 s f' lr.2 (aZe d lr.1)) = R) := aQ0 hRe
     clear hRe hm HV0
     go_wp2_with fail
     refine hmk.mono ?_
     rintro e w3 ⟨rfl, d3, hrd3, hd3, _⟩
     obtain rfl := (hd3 lr rfl).symm
     have H3 : Hid (Rd (w.heap.size + 1) (w.alloc zDtd) w3 (w.heap.size + 1 + 1) (w.heap.size + 1) s (some lr.2) (aZe d lr.1)) := aQ0 hrd3
     have HM3 := aQ0 (bZz H3.out.st)
     clear hmk hrd3 r0 r1 r2 rf1 rf2 c0 c1 c2 c3 c4 f1 f2 f3 f4 hb0 H2 hd3
     obtain ⟨D, hD⟩ := nmE (aZe d lr.1)
     rw [hD] at H3 HRE
     clear hD
     obtain ⟨ve, va, hb3, ho1, ho2⟩ := H3.out.box
     obtain ⟨ae, ce, rfl, _⟩ := aWx ho1
     obtain ⟨aa, ca, rfl, _⟩ := aWz ho2
     obtain ⟨r0, r1, r2, rf1, rf2⟩ := aZs hb3
     have hz3 : w3.heap[w.heap.size]? = some zDtd := (H3.out.bel.block w.heap.size (by omega)).trans hzero.out
     obtain ⟨z0, z1, z2, z3, zf0, zf1, zf2, zf3⟩ := HZC.out w3 hz3
     have hok := cV5 H3.out.st
     simp only [Option.isSome_some] at hok
     clear ho1 ho2
     by_cases hfe : 40 < D.ents.length
     · have hfu : bYt D = true := decide_eq_true (.inl hfe)
       have hr := HRE.out
       rw [hfu, if_pos rfl] at hr
       have HR7 := aQ0 hr
       clear hr hfu HRE
       go_wp2_with (go_at_call 83; refine hok.mono ?_; rintro e wk ⟨rfl, hwk⟩; obtain rfl := hwk.symm)
       refine bodyPost_ret (v := .agg #[.slice none 0 0, .slice none 0 0, .int .i64 (q : Int), .int .i64 7]) (by simp [results, results70, go_sem, z0, z1, z2, z3]) rfl ?_
       exact FSA.out _ 7 H3.out.bel HR7.out.symm
     · by_cases hfa : 40 < D.atts.length
       · have hfu : bYt D = true := decide_eq_true (.inr hfa)
         have hr := HRE.out
         rw [hfu, if_pos rfl] at hr
         have HR7 := aQ0 hr
         clear hr hfu HRE
         go_wp2_with (go_at_call 83; refine hok.mono ?_; rintro e wk ⟨rfl, hwk⟩; obtain rfl := hwk.symm)
         refine bodyPost_ret (v := .agg #[.slice none 0 0, .slice none 0 0, .int .i64 (q : Int), .int .i64 7]) (by simp [results, results70, go_sem, z0, z1, z2, z3]) rfl ?_
         exact FSA.out _ 7 H3.out.bel HR7.out.symm
       · have hfu : bYt D = false := decide_eq_false (by omega)
         have hr := HRE.out
         rw [hfu] at hr
         simp only [Bool.false_eq_true, if_false] at hr
         have HRN := aQ0 hr
         clear hr hfu HRE
         go_wp2_with (go_at_call 83; refine hok.mono ?_; rintro e wk ⟨rfl, hwk⟩; obtain rfl := hwk.symm)
         go_roundw
         case rel => exact ⟨f', lr.2, D, H3.out, HRN.out, by omega, by omega, by omega⟩
         case measure => rw [HM3.out, HM.out]; omega
  · have hRe := HGO.out
    rw [if_neg hlt] at hRe
    have HRE := aQ0 hRe
    have hqe : (q : Int) = (s.size : Int) := by omega
    have hqb : ((q : Int) == (s.size : Int)) = true := by simpa using hqe
    obtain ⟨z0, z1, z2, z3, zf0, zf1, zf2, zf3⟩ := HZC.out w2 hz2
    have HO1 := aQ0 ho1
    have HO2 := aQ0 ho2
    clear hRe hqe ho1 ho2
    go_wp2
    refine bodyPost_ret (v := .agg #[.slice ae d.ents.length ce, .slice aa d.atts.length ca, .int .i64 0, .int .i64 0]) (by simp [results, results70, go_sem, z0, z1, z2, z3]) rfl ?_
    rw [← HRE.out]
    refine ⟨ae, ce, aa, ca, rfl, ?_, ?_, ST4.out _ R _ _ _ _ H2.out.bel⟩
    · exact cZr (ownsRow_setCell_below (ownsRow_setCell_below (ownsRow_setCell_below (ownsRow_setCell_below HO1.out (by simp) _) (by simp) _) (by simp) _) (by simp) _) (Nat.le_succ _)
    · exact cZr (ownsRow_setCell_below (ownsRow_setCell_below (ownsRow_setCell_below (ownsRow_setCell_below HO2.out (by simp) _) (by simp) _) (by simp) _) (by simp) _) (Nat.le_succ _)
end Go.Proofs.YtocnfoeaikiecaaGreatDoor
