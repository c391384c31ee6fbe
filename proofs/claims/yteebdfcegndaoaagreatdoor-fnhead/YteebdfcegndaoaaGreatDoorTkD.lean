/- The model's reader of a head: a list of definitions. -/
/- The model's reader of a head: an element's mark. -/
/- The model's reader of a head: a mark. -/
/- The model's reader of a head: all of it. -/
/- The model's DtdRead. -/
import Derived.Test.YteebdfcegndaoaaGreatDoorTkC
import Derived.Test.YteebdfcegndaoaaGreatDoorFrB
import Derived.Test.YteebdfcegndaoaaGreatDoorMdF
namespace Go.Proofs.YteebdfcegndaoaaGreatDoor
open Go.RowKit Plain1 Strs Strs2 Lists Ents Plain3 Plain5 Plain6 Plain9 Plain10 Plain11 Plain23 Plain24 Go.Lib
variable {B : Nat} {w W W' : World} {k g : Nat} {s : ByteArray} {σ σ' : Option Nat} {d : Dt} {E : Nat} {w0 : World} {a : At5}

/-- What a mark of a head comes to: of a fault what was read ahead of it may stay. -/
def MkSays (B : Nat) (w0 : World) (k g : Nat) (s : ByteArray) (d : Dt) (Z : Option (List Df × Nat)) (e : Ending) (w' : World) : Prop :=
  e = .returned (.tuple #[]) ∧ ∃ d', Rd B w0 w' k g s (Z.map (·.2)) d' ∧ (∀ r, Z = some r → d' = addAll d r.1) ∧ d'.ents.length ≤ d.ents.length + s.size ∧ d'.atts.length ≤ d.atts.length + s.size
def sPos (w : World) (g : Nat) : Nat := match w.cell? ⟨g, 1, none⟩ with | some (.int _ n) => n.toNat | _ => 0
theorem sPos_of {p : Nat} (h : StBox w g s (some p)) : sPos w g = p := by
  obtain ⟨_, c1, _⟩ := block5 h.2
  unfold sPos
  rw [c1]
  simp
theorem addD_att_len (d : Dt) (a : At5) : (addD d (.inr a)).ents = d.ents ∧ (addD d (.inr a)).atts.length ≤ d.atts.length + 1 := by
  show (if (d.atts.find? (isAtt a.of a.nm)).isSome = true then d else ⟨d.ents, d.atts ++ [a]⟩ : Dt).ents = d.ents ∧ (if (d.atts.find? (isAtt a.of a.nm)).isSome = true then d else ⟨d.ents, d.atts ++ [a]⟩ : Dt).atts.length ≤ _
  by_cases h : (d.atts.find? (isAtt a.of a.nm)).isSome = true
  · rw [if_pos h]; exact ⟨rfl, by omega⟩
  · rw [if_neg h]; exact ⟨rfl, by simp⟩
theorem atts_step {o : ByteArray} {p f : Nat} {acc : List At5} {Z : Option (List At5 × Nat)} (hZ : attsGo s o (f + 1) p acc = Z) :
    (∃ r, stepO s o (some p) = some r ∧ stepS s o (some p) = some r.2 ∧ p < r.2 ∧ r.2 ≤ s.size ∧ attsGo s o f r.2 (acc ++ [r.1]) = Z) ∨
    (stepO s o (some p) = none ∧ ∃ q, stepS s o (some p) = some q ∧ hasAt s q [62] = true ∧ Z = some (acc, q + 1)) ∨ (stepO s o (some p) = none ∧ stepS s o (some p) = none ∧ Z = none) := by
  have hge := whiteZ_ge s p
  unfold attsGo at hZ
  unfold stepO stepS
  rw [Option.bind_some, Option.bind_some]
  by_cases h1 : hasAt s (whiteZ s p) [62] = true
  · rw [if_pos h1] at hZ
    rw [if_pos h1, if_pos h1]
    exact .inr (.inl ⟨rfl, _, rfl, h1, hZ.symm⟩)
  · rw [if_neg h1] at hZ
    rw [if_neg h1, if_neg h1]
    by_cases h2 : whiteZ s p = p
    · rw [if_pos h2] at hZ
      rw [if_pos h2, if_pos h2]
      exact .inr (.inr ⟨rfl, rfl, hZ.symm⟩)
    · rw [if_neg h2] at hZ
      rw [if_neg h2, if_neg h2]
      cases h3 : attZ s o (whiteZ s p) with
      | none => rw [h3] at hZ; exact .inr (.inr ⟨rfl, rfl, hZ.symm⟩)
      | some r =>
        rw [h3] at hZ
        have hp := att_pos h3
        exact .inl ⟨r, rfl, rfl, by omega, hp.2.1, hZ⟩
set_option maxHeartbeats 4000000 in
set_option maxRecDepth 100000 in
theorem attlist_any (h : Rd B w0 w k g s σ d) (hs : s.size ≤ 4000) (hd : d.atts.length ≤ 900000) :
    Calls Tryz.prog 105 #[.pointer (some ⟨k, 0, none⟩)] w fun e w' => MkSays B w0 k g s d (σ.bind (attlistZ s)) e w' := by
  have H0 := mkHidT h
  obtain ⟨ve, va, hb0, _, _⟩ := h.box
  obtain ⟨r0, r1, r2, rf1, rf2⟩ := rdcells hb0
  have hgap := gap_st h.st (by omega)
  clear h hb0 r1 r2 rf1 rf2
  go_enter Tryz.func105, Tryz.ntmps105
  go_wp2_with fail
  refine hgap.mono ?_
  rintro e w1 ⟨rfl, hs1, hg1⟩
  have H1 := mkHidT (H0.out.step hs1 hg1)
  clear hgap hs1 hg1 H0 r0
  have hname := name_st H1.out.st (by omega)
  go_wp2_with fail
  refine hname.mono ?_
  rintro e w2 ⟨nm, rfl, hs2, hT2, hg2⟩
  have H2 := mkHidT (H1.out.step hs2 hg2)
  have HT2 := mkHidT hT2
  clear hname hs2 hg2 hT2 H1
  obtain ⟨R1, hR1⟩ : ∃ R1, (σ.bind (gapO s)).bind (nameO s) = R1 := ⟨_, rfl⟩
  have hZ : σ.bind (attlistZ s) = R1.bind fun n => (attsGo s n.1 (s.size + 1) n.2 []).bind fun l => some (l.1.map .inr, l.2) := by
    rw [← hR1]
    cases σ with
    | none => rfl
    | some p =>
      simp only [Option.bind_some]
      unfold attlistZ
      cases gapO s p with
      | none => rfl
      | some x => rfl
  rw [hR1] at H2 HT2
  have HZ := mkHidT hZ
  have hR1b : ∀ n, R1 = some n → n.1.size ≤ 60 := by
    intro n hn
    rw [← hR1] at hn
    obtain ⟨p1, _, hp1⟩ := Option.bind_eq_some_iff.1 hn
    obtain ⟨h1, h2, _⟩ := name_some hp1
    have hsp := nm_spec h1
    rw [h2]; unfold nmT
    rw [ext_size (by simp only [nmP] at hsp; omega)]; omega
  clear hR1 hZ
  cases R1 with
  | none =>
    simp only [Option.map_none] at H2
    go_wp2_with fail
    go_loopw [] (fun wr => Rd B w0 wr k g s none d) (fun _ => 0)
    case atStart => exact H2.out
    case round =>
      have H3 := mkHidT hrel
      clear hrel
      have hdf := def_stop nm H3.out (by omega) (fun p hp => by cases hp)
      go_wp2_with fail
      refine hdf.mono ?_
      rintro e w4 ⟨rfl, hr4⟩
      have H4 : Hid (Rd B w0 w4 k g s none d) := mkHidT hr4
      clear hdf hr4 H3
      have hmu := must_st H4.out.st ⟨#[62]⟩ [62] rfl (by omega) (by decide)
      go_wp2_with fail
      refine hmu.mono ?_
      rintro e w5 ⟨rfl, hs5, hg5⟩
      have H5 := mkHidT (H4.out.step hs5 hg5)
      clear hmu hs5 hg5 H4
      go_wp2
      go_end0
      refine ⟨rfl, d, ?_, fun r hr => (by rw [HZ.out] at hr; cases hr), by omega, by omega⟩
      rw [HZ.out]; exact H5.out
  | some n =>
    obtain rfl := HT2.out n rfl
    have hnb := hR1b n rfl
    simp only [Option.map_some] at H2
    obtain ⟨Z, hZe⟩ : ∃ Z, attsGo s n.1 (s.size + 1) n.2 [] = Z := ⟨_, rfl⟩
    rw [Option.bind_some, hZe] at HZ
    have HZE := mkHidT hZe
    clear hZe hR1b HT2
    go_wp2_with fail
    go_loopw [] (fun wr => ∃ (f : Nat) (σ' : Option Nat) (d' : Dt) (acc : List At5), Rd B w0 wr k g s σ' d' ∧ d'.ents = d.ents ∧ (∀ p, σ' = some p → d'.atts.length ≤ d.atts.length + p ∧ attsGo s n.1 f p acc = Z ∧ s.size < p + f ∧ d' = addAll d (acc.map .inr)) ∧ (σ' = none → Z = none) ∧ d'.atts.length ≤ d.atts.length + s.size) (fun wr => s.size - sPos wr g)
    case atStart => exact ⟨s.size + 1, _, d, [], H2.out, rfl, fun p hp => (by cases hp; exact ⟨by omega, HZE.out, by omega, rfl⟩), fun h => (by cases h), by omega⟩
    case round =>
      obtain ⟨f, σ', d', acc, hrd, hde, hsome, hnone, hdl⟩ := hrel
      have H3 := mkHidT hrd
      have HDE := mkHidT hde
      have HSO := mkHidT hsome
      have HNO := mkHidT hnone
      have hdf := def_any n.1 H3.out (by omega) (by omega) (by omega)
      clear hrd hde hsome hnone
      have hways : (∃ p r, σ' = some p ∧ stepO s n.1 σ' = some r ∧ stepS s n.1 σ' = some r.2 ∧ p < r.2 ∧ r.2 ≤ s.size ∧ attsGo s n.1 (f - 1) r.2 (acc ++ [r.1]) = Z) ∨ (stepO s n.1 σ' = none ∧ ∃ q, stepS s n.1 σ' = some q ∧ hasAt s q [62] = true ∧ Z = some (acc, q + 1) ∧ d' = addAll d (acc.map .inr)) ∨ (stepO s n.1 σ' = none ∧ stepS s n.1 σ' = none ∧ Z = none) := by
        cases σ' with
        | none => exact .inr (.inr ⟨rfl, rfl, HNO.out rfl⟩)
        | some p =>
          obtain ⟨h1, h2, h3, h4⟩ := HSO.out p rfl
          have hps := st_le H3.out.st
          obtain ⟨f', rfl⟩ : ∃ f', f = f' + 1 := ⟨f - 1, by omega⟩
          rcases atts_step h2 with ⟨r, a1, a2, a3, a4, a5⟩ | ⟨a1, q, a2, a3, a4⟩ | ⟨a1, a2, a3⟩
          · exact .inl ⟨p, r, rfl, a1, a2, a3, a4, a5⟩
          · exact .inr (.inl ⟨a1, q, a2, a3, a4, h4⟩)
          · exact .inr (.inr ⟨a1, a2, a3⟩)
      rcases hways with ⟨p, r, hσ, b1, b2, b3, b4, b5⟩ | ⟨b1, q, b2, b3, b4, b5⟩ | ⟨b1, b2, b3⟩
      · subst hσ
        rw [b1, b2] at hdf
        obtain ⟨h1, h2, h3, h4⟩ := HSO.out p rfl
        have HB5 := mkHidT b5
        have HM := mkHidT (sPos_of H3.out.st)
        have H4A := mkHidT h4
        clear b1 b2 b5 h2 h4
        go_wp2_with fail
        refine hdf.mono ?_
        rintro e w4 ⟨rfl, hr4⟩
        have H4 : Hid (Rd B w0 w4 k g s (some r.2) (addD d' (.inr r.1))) := mkHidT hr4
        have HM4 := mkHidT (sPos_of H4.out.st)
        have hlen := addD_att_len d' r.1
        clear hdf hr4
        go_wp2_with fail
        go_roundw
        case rel =>
          refine ⟨f - 1, some r.2, addD d' (.inr r.1), acc ++ [r.1], H4.out, by rw [hlen.1]; exact HDE.out, fun p' hp' => ?_, fun h => (by cases h), by omega⟩
          cases hp'
          refine ⟨by omega, HB5.out, by omega, ?_⟩
          rw [List.map_append, Plain26.addAll_app, ← H4A.out]; rfl
        case measure => rw [HM4.out, HM.out]; omega
      · rw [b1, b2] at hdf
        go_wp2_with fail
        refine hdf.mono ?_
        rintro e w4 ⟨rfl, hr4⟩
        have H4 : Hid (Rd B w0 w4 k g s (some q) d') := mkHidT hr4
        clear hdf hr4 b1 b2
        have hmu := must_st H4.out.st ⟨#[62]⟩ [62] rfl (by omega) (by decide)
        go_wp2_with fail
        refine hmu.mono ?_
        rintro e w5 ⟨rfl, hs5, hg5⟩
        have H5 := mkHidT (H4.out.step hs5 hg5)
        clear hmu hs5 hg5 H4
        go_wp2
        go_end0
        have hmo : mustO s q [62] = some (q + 1) := by unfold mustO; rw [if_pos b3]; rfl
        have hzz := HZ.out
        rw [b4, Option.bind_some] at hzz
        refine ⟨rfl, d', ?_, fun r hr => ?_, by rw [HDE.out]; omega, hdl⟩
        · rw [hzz]
          have := H5.out
          rw [Option.bind_some, hmo] at this
          exact this
        · rw [hzz] at hr; cases hr; exact b5
      · rw [b1, b2] at hdf
        go_wp2_with fail
        refine hdf.mono ?_
        rintro e w4 ⟨rfl, hr4⟩
        have H4 : Hid (Rd B w0 w4 k g s none d') := mkHidT hr4
        clear hdf hr4 b1 b2
        have hmu := must_st H4.out.st ⟨#[62]⟩ [62] rfl (by omega) (by decide)
        go_wp2_with fail
        refine hmu.mono ?_
        rintro e w5 ⟨rfl, hs5, hg5⟩
        have H5 := mkHidT (H4.out.step hs5 hg5)
        clear hmu hs5 hg5 H4
        go_wp2
        go_end0
        have hzz := HZ.out
        rw [b3] at hzz
        refine ⟨rfl, d', ?_, fun r hr => (by rw [hzz] at hr; cases hr), by rw [HDE.out]; omega, hdl⟩
        rw [hzz]; exact H5.out
end Go.Proofs.YteebdfcegndaoaaGreatDoor

namespace Go.Proofs.YteebdfcegndaoaaGreatDoor
open Go.RowKit Plain1 Strs Strs2 Lists Ents Plain3 Plain5 Plain6 Plain9 Plain10 Plain11 Plain23 Plain24 Go.Lib
variable {B : Nat} {w W W' : World} {k g : Nat} {s : ByteArray} {σ σ' : Option Nat} {d : Dt} {E : Nat} {w0 : World} {a : At5}

theorem no_byte {c : UInt8} : ∀ (n p i : Nat), fz s p [c] = -1 → p ≤ i → i < s.size → i < p + n → byteAt s i ≠ (c.toNat : Int)
  | 0, p, i, _, h1, _, h3 => by omega
  | n + 1, p, i, hz, h1, h2, h3 => by
    have hp : p < s.size := by omega
    cases hh : hasAt s p [c] with
    | true => rw [fz_hit hp hh] at hz; omega
    | false =>
      by_cases hi : i = p
      · subst hi
        rw [has_oneT hp, decide_eq_false_iff_not] at hh; exact hh
      · rw [fz_miss hp hh] at hz
        exact no_byte n (p + 1) i hz (by omega) h2 (by omega)
def elemO (s : ByteArray) (b : Nat) : Option Nat := if upF s b [62] = 0 ∧ Lib.index (upT s b [62]).data.toList [60] = -1 then some (upP s b [62]) else none
theorem elem_end {b : Nat} (hb : b ≤ s.size) (h : ∀ j, b ≤ j → j < s.size → byteAt s j ≠ 62 ∧ byteAt s j ≠ 60) : elemO s b = none := by
  unfold elemO
  rw [if_neg]
  rintro ⟨h1, _⟩
  rcases fz_spec s b [62] hb with h2 | ⟨i, h2, h3, h4, h5, _⟩
  · unfold upF at h1; rw [if_pos h2] at h1; cases h1
  · simp only [List.length_cons, List.length_nil] at h4
    exact (h i h3 (by omega)).1 (byteAt_of_cons h5 (by omega))
theorem elem_bad {b i : Nat} (hb : b ≤ i) (hi : i < s.size) (h : ∀ j, b ≤ j → j < i → byteAt s j ≠ 62 ∧ byteAt s j ≠ 60) (h60 : byteAt s i = 60) : elemO s b = none := by
  unfold elemO
  rw [if_neg]
  rintro ⟨h1, h0⟩
  rcases fz_spec s b [62] (by omega) with h2 | ⟨e, h2, h3, h4, h5, _⟩
  · unfold upF at h1; rw [if_pos h2] at h1; cases h1
  · simp only [List.length_cons, List.length_nil] at h4
    have hb5 := byteAt_of_cons h5 (by omega)
    have hie : i < e := by
      apply Decidable.byContradiction
      intro hn
      by_cases he : e = i
      · rw [he, h60] at hb5; revert hb5; decide
      · exact (h e h3 (by omega)).1 hb5
    have hT : upT s b [62] = s.extract b e := by unfold upT; rw [h2]; rfl
    rw [hT] at h0
    have hz : fz (s.extract b e) 0 [60] = -1 := (fz_index _ 0 _).2 h0
    have hsz : (s.extract b e).size = e - b := ext_size (by omega)
    refine no_byte (s := s.extract b e) (c := 60) (e - b + 1) 0 (i - b) hz (by omega) (by omega) (by omega) ?_
    rw [byteAt_head, Plain25.ext_list]
    simp only [List.getD, List.getElem?_take, List.getElem?_drop]
    rw [if_pos (by omega), show b + (i - b) = i by omega]
    exact h60
theorem elem_hit {b i : Nat} (hb : b ≤ i) (hi : i < s.size) (h : ∀ j, b ≤ j → j < i → byteAt s j ≠ 62 ∧ byteAt s j ≠ 60) (h62 : byteAt s i = 62) : elemO s b = some (i + 1) := by
  have hfz := Plain27.fz_first (c := 62) hb hi h62 (fun j h1 h2 => (h j h1 h2).1)
  have hup : upF s b [62] = 0 := by unfold upF; rw [hfz, if_neg (by omega)]
  have hT : upT s b [62] = s.extract b i := by unfold upT; rw [hfz]; rfl
  have hsz : (s.extract b i).size = i - b := ext_size (by omega)
  unfold elemO
  rw [if_pos, show upP s b [62] = i + 1 by unfold upP; rw [hfz]; rfl]
  refine ⟨hup, ?_⟩
  rw [hT]
  refine (fz_index (s.extract b i) 0 [60]).1 ?_
  rcases fz_spec (s.extract b i) 0 [60] (Nat.zero_le _) with h2 | ⟨e, h2, h3, h4, h5, _⟩
  · exact h2
  · exfalso
    simp only [List.length_cons, List.length_nil] at h4
    have hb5 := byteAt_of_cons h5 (by omega)
    rw [byteAt_head, Plain25.ext_list] at hb5
    simp only [List.getD, List.getElem?_take, List.getElem?_drop] at hb5
    rw [if_pos (by omega)] at hb5
    exact (h (b + e) (by omega) (by omega)).2 hb5
def eMeas (w : World) (g n : Nat) : Nat := match w.cell? ⟨g, 3, none⟩ with | some (.bool true) => 0 | _ => n + 1 - sPos w g
theorem eMeas_some {i n : Nat} (h : StBox w g s (some i)) : eMeas w g n = n + 1 - i := by
  obtain ⟨c0, c1, c2, c3, c4, _⟩ := block5 h.2
  unfold eMeas
  rw [c3, sPos_of h]
  simp
theorem eMeas_bad {n : Nat} (h : w.cell? ⟨g, 3, none⟩ = some (.bool true)) : eMeas w g n = 0 := by unfold eMeas; rw [h]
theorem elem_Z {R3 : Option Nat} (h : ((((σ.bind (gapO s)).bind (nameO s)).map (·.2)).bind (gapO s)) = R3) : σ.bind (elementZ s) = (R3.bind (elemO s)).map fun q => ([], q) := by
  subst h
  cases σ with
  | none => rfl
  | some p =>
    simp only [Option.bind_some]
    unfold elementZ
    cases gapO s p with
    | none => rfl
    | some a =>
      simp only [Option.bind_some]
      cases nameO s a with
      | none => rfl
      | some n =>
        simp only [Option.bind_some, Option.map_some]
        cases gapO s n.2 with
        | none => rfl
        | some b =>
          simp only [Option.bind_some]
          unfold elemO
          split <;> rfl
set_option maxHeartbeats 4000000 in
set_option maxRecDepth 100000 in
theorem element_any (h : Rd B w0 w k g s σ d) (hs : s.size ≤ 4000) :
    Calls Tryz.prog 106 #[.pointer (some ⟨k, 0, none⟩)] w fun e w' => MkSays B w0 k g s d (σ.bind (elementZ s)) e w' := by
  have H0 := mkHidT h
  obtain ⟨ve, va, hb0, _, _⟩ := h.box
  obtain ⟨r0, r1, r2, rf1, rf2⟩ := rdcells hb0
  have hgap := gap_st h.st (by omega)
  clear h hb0 r1 r2 rf1 rf2
  go_enter Tryz.func106, Tryz.ntmps106
  go_wp2_with fail
  refine hgap.mono ?_
  rintro e w1 ⟨rfl, hs1, hg1⟩
  have H1 := mkHidT (H0.out.step hs1 hg1)
  clear hgap hs1 hg1 H0 r0
  have hname := name_st H1.out.st (by omega)
  go_wp2_with fail
  refine hname.mono ?_
  rintro e w2 ⟨nm, rfl, hs2, _, hg2⟩
  have H2 := mkHidT (H1.out.step hs2 hg2)
  clear hname hs2 hg2 H1
  have hgap := gap_st H2.out.st (by omega)
  go_wp2_with fail
  refine hgap.mono ?_
  rintro e w3 ⟨rfl, hs3, hg3⟩
  have H3 := mkHidT (H2.out.step hs3 hg3)
  clear hgap hs3 hg3 H2
  obtain ⟨R3, hR3⟩ : ∃ R3, ((((σ.bind (gapO s)).bind (nameO s)).map (·.2)).bind (gapO s)) = R3 := ⟨_, rfl⟩
  have HZ := mkHidT (elem_Z hR3)
  rw [hR3] at H3
  clear hR3
  obtain ⟨Z, hZe⟩ : ∃ Z, R3.bind (elemO s) = Z := ⟨_, rfl⟩
  rw [hZe] at HZ
  have HZE := mkHidT hZe
  clear hZe
  go_wp2_with fail
  go_loopw [] (fun wr => ∃ σ', Rd B w0 wr k g s σ' d ∧ (σ' = none → Z = none) ∧ (∀ i, σ' = some i → ∃ b, R3 = some b ∧ b ≤ i ∧ ∀ j, b ≤ j → j < i → byteAt s j ≠ 62 ∧ byteAt s j ≠ 60)) (fun wr => eMeas wr g s.size)
  case atStart =>
    refine ⟨R3, H3.out, fun h => ?_, fun i hi => ⟨i, hi, Nat.le_refl _, fun j h1 h2 => by omega⟩⟩
    rw [← HZE.out, h]; rfl
  case round =>
    obtain ⟨σ', hrd, hno, hso⟩ := hrel
    have H4 := mkHidT hrd
    have HNO := mkHidT hno
    have HSO := mkHidT hso
    clear hrd hno hso H3
    have hok := ok_stAt H4.out.st
    have endN : ∀ w9 : World, Rd B w0 w9 k g s none d → Z = none → MkSays B w0 k g s d (σ.bind (elementZ s)) (.returned (.tuple #[])) w9 := by
      intro w9 h9 hz
      have hzz := HZ.out
      rw [hz] at hzz
      exact ⟨rfl, d, by rw [hzz]; exact h9, fun r hr => (by rw [hzz] at hr; cases hr), by omega, by omega⟩
    have ENDN := mkHidT endN
    clear endN
    cases σ' with
    | none =>
      simp only [Option.isSome_none] at hok
      go_wp2_with fail
      go_quiet ((go_at_call 68; exact Calls.quiet_of_same (hok _ rfl)))
      have H5 := mkHidT (H4.out.keep (gdrew5 wr nq none))
      have hmu := must_st H5.out.st ⟨#[62]⟩ [62] rfl (by omega) (by decide)
      go_wp2_with fail
      refine hmu.mono ?_
      rintro e w9 ⟨rfl, hs9, hg9⟩
      have H9 := mkHidT (H5.out.step hs9 hg9)
      clear hmu hs9 hg9
      go_wp2
      go_end0
      exact ENDN.out _ H9.out (HNO.out (by first | rfl | trivial))
    | some i =>
      simp only [Option.isSome_some] at hok
      have his := st_le H4.out.st
      obtain ⟨b, hR, hbi, hfree⟩ := HSO.out i rfl
      by_cases he : s.size ≤ i
      · have hZn : Z = none := by rw [← HZE.out, hR]; exact elem_end (by omega) (fun j h1 h2 => hfree j h1 (by omega))
        have HZN := mkHidT hZn
        have hen := fun W' hW => end_at H4.out.st.2 (show i ≤ _ by omega) W' hW
        simp only [decide_eq_true he, ended_end (x := ⟨i, 0⟩) (s := s) he rfl] at hen
        clear hfree hR hZn
        go_wp2_with fail
        refine wp_region_any (by kernel_rfl) ?_
        change wpAny _ _ _ _ _ _ _ (World.drew _)
        refine take_put (i := 0) (v := .pointer (some ⟨g, 0, none⟩)) rfl rfl (by kernel_rfl) (by kernel_rfl) (by kernel_rfl) (fun _ _ _ h => h) (Or.inl ⟨by rfl, fun wx => by go_simp⟩) ?_
        refine wpAny_ready (rs := [1]) (by kernel_rfl) (by simp) ?_
        refine AllReady.cons rfl (fun K hK => ?_) AllReady.nil
        go_simp
        refine (hok wr.drew rfl).mono ?_
        rintro e wo ⟨rfl, hww⟩
        subst hww
        refine hK _ _ ?_
        clear hK K
        refine take_put (i := 2) (v := .bool true) rfl rfl (by kernel_rfl) (by kernel_rfl) (by kernel_rfl) (fun _ _ _ h => h) (Or.inl ⟨by rfl, fun wx => by go_simp⟩) ?_
        refine take_put (i := 3) (v := .pointer (some ⟨g, 0, none⟩)) rfl rfl (by kernel_rfl) (by kernel_rfl) (by kernel_rfl) (fun _ _ _ h => h) (Or.inl ⟨by rfl, fun wx => by go_simp⟩) ?_
        refine wpAny_ready (rs := [4]) (by kernel_rfl) (by simp) ?_
        refine AllReady.cons rfl (fun K hK => ?_) AllReady.nil
        go_simp
        refine (hen wr.drew rfl).mono ?_
        rintro e w4 ⟨rfl, hb4, hg4⟩
        refine hK _ _ ?_
        clear hK K
        refine take_put (i := 5) (v := .bool false) rfl rfl (by kernel_rfl) (by kernel_rfl) (by kernel_rfl) (fun _ _ _ h => h) (Or.inl ⟨by rfl, fun wx => by go_simp⟩) ?_
        refine take_put (i := 6) (v := .bool false) rfl rfl (by kernel_rfl) (by kernel_rfl) (by kernel_rfl) (fun _ _ _ h => h) (Or.inl ⟨by rfl, fun wx => by go_simp⟩) ?_
        refine take_put (i := 7) (v := .bool false) rfl rfl (by kernel_rfl) (by kernel_rfl) (by kernel_rfl) (fun _ _ _ h => h) (Or.inl ⟨by rfl, fun wx => by go_simp⟩) ?_
        refine take_put (i := 8) (v := undef) rfl rfl (by kernel_rfl) (by kernel_rfl) (by kernel_rfl) (fun _ _ _ h => h) (Or.inr ⟨by kernel_rfl, rfl⟩) ?_
        refine take_put (i := 9) (v := undef) rfl rfl (by kernel_rfl) (by kernel_rfl) (by kernel_rfl) (fun _ _ _ h => h) (Or.inr ⟨by kernel_rfl, rfl⟩) ?_
        refine take_put (i := 10) (v := undef) rfl rfl (by kernel_rfl) (by kernel_rfl) (by kernel_rfl) (fun _ _ _ h => h) (Or.inr ⟨by kernel_rfl, rfl⟩) ?_
        refine take_put (i := 11) (v := undef) rfl rfl (by kernel_rfl) (by kernel_rfl) (by kernel_rfl) (fun _ _ _ h => h) (Or.inr ⟨by kernel_rfl, rfl⟩) ?_
        refine take_put (i := 12) (v := undef) rfl rfl (by kernel_rfl) (by kernel_rfl) (by kernel_rfl) (fun _ _ _ h => h) (Or.inr ⟨by kernel_rfl, rfl⟩) ?_
        refine take_put (i := 13) (v := undef) rfl rfl (by kernel_rfl) (by kernel_rfl) (by kernel_rfl) (fun _ _ _ h => h) (Or.inr ⟨by kernel_rfl, rfl⟩) ?_
        refine take_put (i := 14) (v := undef) rfl rfl (by kernel_rfl) (by kernel_rfl) (by kernel_rfl) (fun _ _ _ h => h) (Or.inr ⟨by kernel_rfl, rfl⟩) ?_
        refine take_put (i := 15) (v := undef) rfl rfl (by kernel_rfl) (by kernel_rfl) (by kernel_rfl) (fun _ _ _ h => h) (Or.inr ⟨by kernel_rfl, rfl⟩) ?_
        refine take_put (i := 16) (v := undef) rfl rfl (by kernel_rfl) (by kernel_rfl) (by kernel_rfl) (fun _ _ _ h => h) (Or.inr ⟨by kernel_rfl, rfl⟩) ?_
        refine take_put (i := 17) (v := undef) rfl rfl (by kernel_rfl) (by kernel_rfl) (by kernel_rfl) (fun _ _ _ h => h) (Or.inr ⟨by kernel_rfl, rfl⟩) ?_
        refine take_put (i := 18) (v := .bool false) rfl rfl (by kernel_rfl) (by kernel_rfl) (by kernel_rfl) (fun _ _ _ h => h) (Or.inl ⟨by kernel_rfl, fun wx => by go_simp⟩) ?_
        refine wpAny_done (by kernel_rfl) ?_ _
        go_simp
        have H5 := mkHidT (H4.out.step (σ' := none) (bad_of hb4 (by simp) his) (gtrans5 (b := wr.drew) ⟨rfl, rfl, rfl, Nat.le_refl _, fun _ _ _ => rfl⟩ hg4))
        clear hen hok hb4 hg4
        have hmu := must_st H5.out.st ⟨#[62]⟩ [62] rfl (by omega) (by decide)
        go_wp2_with fail
        refine hmu.mono ?_
        rintro e w9 ⟨rfl, hs9, hg9⟩
        have H9 := mkHidT (H5.out.step hs9 hg9)
        clear hmu hs9 hg9
        go_wp2
        go_end0
        exact ENDN.out _ H9.out HZN.out
      · have hlt : i < s.size := by omega
        have hen := fun W' hW => end_in H4.out.st.2 (show i < s.size by omega) W' hW
        obtain ⟨c, hcb⟩ : ∃ c, byteAt s i = c := ⟨_, rfl⟩
        have hix : ∀ wx, (Instr.index 9 (.string s) (.int .i64 (i : Int))).run Tryz.prog wx = .ok (.int .u8 c) wx := fun wx => by rw [run_index_byte wx 9 s i hlt Tryz.underlying9, hcb]
        obtain ⟨c0, c1, c2, c3, c4, f1, f2, f3, f4⟩ := block0 H4.out.st.2
        have HM := mkHidT (eMeas_some (n := s.size) H4.out.st)
        by_cases h62 : c = 62
        · subst h62
          have hZs : Z = some (i + 1) := by rw [← HZE.out, hR]; exact elem_hit hbi hlt hfree hcb
          have hmo : mustO s i [62] = some (i + 1) := by unfold mustO; rw [if_pos (by rw [has_oneT hlt, hcb]; rfl)]; rfl
          have HZS := mkHidT hZs
          have HMO := mkHidT hmo
          clear hfree hR hZs hmo hcb
          go_wp2_with fail
          go_quiet (first | (go_at_call 68; exact Calls.quiet_of_same (hok _ rfl)) | (go_at_call 88; exact Calls.quiet_of (hen _ rfl)))
          have H5 := mkHidT (H4.out.keep (gdrew5 wr nq none))
          have hmu := must_st H5.out.st ⟨#[62]⟩ [62] rfl (by omega) (by decide)
          go_wp2_with fail
          refine hmu.mono ?_
          rintro e w9 ⟨rfl, hs9, hg9⟩
          have H9 := mkHidT (H5.out.step hs9 hg9)
          clear hmu hs9 hg9
          go_wp2
          go_end0
          have hzz := HZ.out
          rw [HZS.out] at hzz
          have h9 := H9.out
          rw [Option.bind_some, HMO.out] at h9
          exact ⟨rfl, d, by rw [hzz]; exact h9, fun r hr => (by rw [hzz] at hr; cases hr; rfl), by omega, by omega⟩
        · have h62b : (c != 62) = true := by simpa using h62
          have hbd := byteAt_bd s i
          rw [hcb] at hbd
          by_cases h60 : c = 60
          · subst h60
            have hZn : Z = none := by rw [← HZE.out, hR]; exact elem_bad hbi hlt hfree hcb
            have HZN := mkHidT hZn
            clear hfree hR hZn hcb h62
            go_wp2_with fail
            go_quiet (first | (go_at_call 68; exact Calls.quiet_of_same (hok _ rfl)) | (go_at_call 88; exact Calls.quiet_of (hen _ rfl)))
            go_wp2_with fail
            go_region
            all_goals
              have hnew : GBox (((wr.drewN (nq + 1)).setCell ⟨g, 3, none⟩ (.bool true)).setCell ⟨g, 1, none⟩ (.int .i64 ((i : Int) + 1))) g s (i + 1) false true false := set5 (set5 (w := wr.drewN (nq + 1)) H4.out.st.2 3 _) 1 _
              have hgn : wr.grownBy (((wr.drewN (nq + 1)).setCell ⟨g, 3, none⟩ (.bool true)).setCell ⟨g, 1, none⟩ (.int .i64 ((i : Int) + 1))) (some g) := gtrans5 (b := wr.drewN (nq + 1)) ⟨rfl, rfl, rfl, Nat.le_refl _, fun _ _ _ => rfl⟩ (gtrans5 (gset5 _) (gset5 _))
              have HN := mkHidT hnew
              have HGN := mkHidT hgn
              clear hnew hgn
              go_wp2
              go_roundw
              case rel => exact ⟨none, H4.out.step ⟨i + 1, false, true, false, by omega, rfl, HN.out⟩ HGN.out, fun _ => HZN.out, fun j hj => (by cases hj)⟩
              case measure => rw [HM.out, eMeas_bad (gcells HN.out).2.2.2.1]; omega
          · have h60b : (c == 60) = false := by simpa using h60
            have hfr : ∀ j, b ≤ j → j < i + 1 → byteAt s j ≠ 62 ∧ byteAt s j ≠ 60 := by
              intro j h1 h2
              by_cases hj : j = i
              · subst hj; rw [hcb]; exact ⟨h62, h60⟩
              · exact hfree j h1 (by omega)
            have HFR := mkHidT hfr
            clear hfree hcb h62 h60 hfr
            go_wp2_with fail
            go_quiet (first | (go_at_call 68; exact Calls.quiet_of_same (hok _ rfl)) | (go_at_call 88; exact Calls.quiet_of (hen _ rfl)))
            go_wp2_with fail
            go_region
            all_goals
              have hnew : ScBox (((wr.drewN (nq + 1)).setCell ⟨g, 3, none⟩ (.bool false)).setCell ⟨g, 1, none⟩ (.int .i64 ((i : Int) + 1))) g s ⟨i + 1, 0⟩ := set5 (set5 (w := wr.drewN (nq + 1)) H4.out.st.2 3 _) 1 _
              have hgn : wr.grownBy (((wr.drewN (nq + 1)).setCell ⟨g, 3, none⟩ (.bool false)).setCell ⟨g, 1, none⟩ (.int .i64 ((i : Int) + 1))) (some g) := gtrans5 (b := wr.drewN (nq + 1)) ⟨rfl, rfl, rfl, Nat.le_refl _, fun _ _ _ => rfl⟩ (gtrans5 (gset5 _) (gset5 _))
              have HN := mkHidT (show StBox _ g s (some (i + 1)) from ⟨by omega, hnew⟩)
              have HGN := mkHidT hgn
              clear hnew hgn
              go_wp2
              go_roundw
              case rel => exact ⟨some (i + 1), H4.out.step HN.out HGN.out, fun h => (by cases h), fun j hj => (by cases hj; exact ⟨b, hR, by omega, HFR.out⟩)⟩
              case measure => rw [HM.out, eMeas_some HN.out]; omega
end Go.Proofs.YteebdfcegndaoaaGreatDoor

namespace Go.Proofs.YteebdfcegndaoaaGreatDoor
open Go.RowKit Plain1 Strs Strs2 Lists Ents Plain3 Plain5 Plain6 Plain9 Plain10 Plain11 Plain23 Plain24 Go.Lib
variable {B : Nat} {w W W' : World} {k g : Nat} {s : ByteArray} {σ σ' : Option Nat} {d : Dt} {E : Nat} {w0 : World} {a : At5}

theorem mk_tok {p : Nat} {T : Tk} {e : Ending} (h : Rd B w0 W k g s (some p) d) (ht : TkSays W g s T e W') : Rd B w0 W' k g s (if T.fl = 0 then some T.pos else none) d := by
  obtain ⟨kd, nm, tx, ao, an, ac, q, _, hb, hq, hT, hg⟩ := ht
  refine h.step (st_of hb hq (fun h0 => ?_) (fun h0 => ?_)) hg
  · rw [if_pos h0, (hT h0).2.2.2.1]
  · rw [if_neg h0]
theorem outD_says {Z : Option (List Df × Nat)} {w' : World} (h : Rd B w0 w' k g s (Z.map (·.2)) (outD d Z)) (hl : ∀ r, Z = some r → r.1.length ≤ s.size) : MkSays B w0 k g s d Z (.returned (.tuple #[])) w' := by
  cases Z with
  | none => exact ⟨rfl, d, h, fun r hr => (by cases hr), by omega, by omega⟩
  | some r =>
    have hc := Plain26.addAll_count r.1 d
    have := hl r rfl
    exact ⟨rfl, addAll d r.1, h, fun r' hr => (by cases hr; rfl), by omega, by omega⟩
theorem ent_one {p : Nat} {r : List Df × Nat} (h : entityZ s p = some r) : r.1.length = 1 ∧ p < s.size := by
  unfold entityZ at h
  obtain ⟨a, ha, h⟩ := Option.bind_eq_some_iff.1 h
  obtain ⟨n, hn, h⟩ := Option.bind_eq_some_iff.1 h
  obtain ⟨b, hb, h⟩ := Option.bind_eq_some_iff.1 h
  obtain ⟨v, hq, h⟩ := Option.bind_eq_some_iff.1 h
  obtain ⟨x, hx, h⟩ := Option.bind_eq_some_iff.1 h
  obtain ⟨q, hm, h⟩ := Option.bind_eq_some_iff.1 h
  cases h
  have h1 := (gap_some ha).1
  have h2 := (name_some hn).2.2.2
  exact ⟨rfl, by omega⟩
set_option maxHeartbeats 4000000 in
set_option maxRecDepth 100000 in
theorem mark_any {p : Nat} (h : Rd B w0 w k g s (some p) d) (hs : s.size ≤ 4000) (hde : d.ents.length ≤ 900000) (hda : d.atts.length ≤ 900000) :
    Calls Tryz.prog 67 #[.pointer (some ⟨k, 0, none⟩)] w fun e w' => MkSays B w0 k g s d (markO s p) e w' := by
  obtain ⟨Z, hZ⟩ : ∃ Z, markO s p = Z := ⟨_, rfl⟩
  rw [hZ]
  unfold markO at hZ
  have HZ := mkHidT hZ
  have H0 := mkHidT h
  obtain ⟨ve, va, hb0, _, _⟩ := h.box
  obtain ⟨r0, r1, r2, rf1, rf2⟩ := rdcells hb0
  clear h hb0 r1 r2 rf1 rf2 hZ
  cases h0 : hasAt s p [60, 33, 45, 45] with
  | true =>
    have hZ := HZ.out
    rw [if_pos h0] at hZ
    have HZ2 := mkHidT hZ
    have hi0 := is_yes ⟨#[60, 33, 45, 45]⟩ [60, 33, 45, 45] H0.out.st rfl (by simp) (by omega) (by decide) h0
    clear hZ
    go_enter Tryz.func67, Tryz.ntmps67
    go_wp2_with fail
    refine hi0.mono ?_
    rintro e v1 ⟨rfl, hs1, hg1⟩
    have G1 := mkHidT (H0.out.step hs1 hg1)
    clear hi0 hs1 hg1
    have hc := comment_ok _ g s (p + 4) G1.out.st.2 (by omega) G1.out.st.1
    go_wp2_with fail
    refine hc.mono ?_
    rintro e v2 ht
    have G2 := mkHidT (mk_tok G1.out ht)
    obtain ⟨kd, nm, tx, ao, an, ac, q, rfl, _⟩ := ht
    clear hc
    go_wp2
    go_end0
    rw [← HZ2.out]
    by_cases hf : (commentZ s (p + 4)).fl = 0
    · have := G2.out
      rw [if_pos hf] at this ⊢
      exact ⟨rfl, d, this, fun r hr => (by cases hr; rfl), by omega, by omega⟩
    · have := G2.out
      rw [if_neg hf] at this ⊢
      exact ⟨rfl, d, this, fun r hr => (by cases hr), by omega, by omega⟩
  | false =>
    have hi0 := is_no ⟨#[60, 33, 45, 45]⟩ [60, 33, 45, 45] H0.out.st rfl (by simp) (by omega) (by decide) h0
    go_enter Tryz.func67, Tryz.ntmps67
    go_wp2_with fail
    refine hi0.mono ?_
    rintro e u0w ⟨rfl, hs1, hg1⟩
    have H1 := mkHidT (H0.out.step hs1 hg1)
    clear hi0 hs1 hg1
    cases h1 : hasAt s p [60, 63] with
    | true =>
      have hZ := HZ.out
      rw [if_neg (by rw [h0]; simp)] at hZ
      rw [if_pos h1] at hZ
      have HZ2 := mkHidT hZ
      have hi1 := is_yes ⟨#[60, 63]⟩ [60, 63] H1.out.st rfl (by simp) (by omega) (by decide) h1
      clear hZ
      go_wp2_with fail
      refine hi1.mono ?_
      rintro e v1 ⟨rfl, hs1, hg1⟩
      have G1 := mkHidT (H1.out.step hs1 hg1)
      clear hi1 hs1 hg1
      have hc := pi_ok _ g s (p + 2) G1.out.st.2 (by omega) G1.out.st.1
      go_wp2_with fail
      refine hc.mono ?_
      rintro e v2 ht
      have G2 := mkHidT (mk_tok G1.out ht)
      obtain ⟨kd, nm, tx, ao, an, ac, q, rfl, _⟩ := ht
      clear hc
      go_wp2
      go_end0
      rw [← HZ2.out]
      by_cases hf : (piZ s (p + 2)).fl = 0
      · have := G2.out
        rw [if_pos hf] at this ⊢
        exact ⟨rfl, d, this, fun r hr => (by cases hr; rfl), by omega, by omega⟩
      · have := G2.out
        rw [if_neg hf] at this ⊢
        exact ⟨rfl, d, this, fun r hr => (by cases hr), by omega, by omega⟩
    | false =>
      have hi1 := is_no ⟨#[60, 63]⟩ [60, 63] H1.out.st rfl (by simp) (by omega) (by decide) h1
      go_wp2_with fail
      refine hi1.mono ?_
      rintro e u1w ⟨rfl, hs1, hg1⟩
      have H2 := mkHidT (H1.out.step hs1 hg1)
      clear hi1 hs1 hg1
      cases h2 : hasAt s p entL with
      | true =>
        have hZ := HZ.out
        rw [if_neg (by rw [h0]; simp)] at hZ
        rw [if_neg (by rw [h1]; simp)] at hZ
        rw [if_pos h2] at hZ
        have HZ2 := mkHidT hZ
        have hi2 := is_yes ⟨#[60, 33, 69, 78, 84, 73, 84, 89]⟩ entL H2.out.st rfl (by simp [entL]) (by omega) (by decide) h2
        clear hZ
        go_wp2_with fail
        refine hi2.mono ?_
        rintro e v1 ⟨rfl, hs1, hg1⟩
        have G1 := mkHidT (H2.out.step hs1 hg1)
        clear hi2 hs1 hg1
        have hc := entity_any G1.out (by omega) (by omega)
        go_wp2_with fail
        refine hc.mono ?_
        rintro e v2 ⟨rfl, ht⟩
        clear hc
        go_wp2
        go_end0
        rw [← HZ2.out]
        exact outD_says ht (fun r hr => (by have := ent_one hr; omega))
      | false =>
        have hi2 := is_no ⟨#[60, 33, 69, 78, 84, 73, 84, 89]⟩ entL H2.out.st rfl (by simp [entL]) (by omega) (by decide) h2
        go_wp2_with fail
        refine hi2.mono ?_
        rintro e u2w ⟨rfl, hs1, hg1⟩
        have H3 := mkHidT (H2.out.step hs1 hg1)
        clear hi2 hs1 hg1
        cases h3 : hasAt s p attL with
        | true =>
          have hZ := HZ.out
          rw [if_neg (by rw [h0]; simp)] at hZ
          rw [if_neg (by rw [h1]; simp)] at hZ
          rw [if_neg (by rw [h2]; simp)] at hZ
          rw [if_pos h3] at hZ
          have HZ2 := mkHidT hZ
          have hi3 := is_yes ⟨#[60, 33, 65, 84, 84, 76, 73, 83, 84]⟩ attL H3.out.st rfl (by simp [attL]) (by omega) (by decide) h3
          clear hZ
          go_wp2_with fail
          refine hi3.mono ?_
          rintro e v1 ⟨rfl, hs1, hg1⟩
          have G1 := mkHidT (H3.out.step hs1 hg1)
          clear hi3 hs1 hg1
          have hc := attlist_any G1.out hs (by omega)
          go_wp2_with fail
          refine hc.mono ?_
          rintro e v2 ht
          obtain ⟨rfl, ht⟩ := ht
          clear hc
          go_wp2
          go_end0
          rw [← HZ2.out]
          exact ⟨rfl, ht⟩
        | false =>
          have hi3 := is_no ⟨#[60, 33, 65, 84, 84, 76, 73, 83, 84]⟩ attL H3.out.st rfl (by simp [attL]) (by omega) (by decide) h3
          go_wp2_with fail
          refine hi3.mono ?_
          rintro e u3w ⟨rfl, hs1, hg1⟩
          have H4 := mkHidT (H3.out.step hs1 hg1)
          clear hi3 hs1 hg1
          cases h4 : hasAt s p eleL with
          | true =>
            have hZ := HZ.out
            rw [if_neg (by rw [h0]; simp)] at hZ
            rw [if_neg (by rw [h1]; simp)] at hZ
            rw [if_neg (by rw [h2]; simp)] at hZ
            rw [if_neg (by rw [h3]; simp)] at hZ
            rw [if_pos h4] at hZ
            have HZ2 := mkHidT hZ
            have hi4 := is_yes ⟨#[60, 33, 69, 76, 69, 77, 69, 78, 84]⟩ eleL H4.out.st rfl (by simp [eleL]) (by omega) (by decide) h4
            clear hZ
            go_wp2_with fail
            refine hi4.mono ?_
            rintro e v1 ⟨rfl, hs1, hg1⟩
            have G1 := mkHidT (H4.out.step hs1 hg1)
            clear hi4 hs1 hg1
            have hc := element_any G1.out hs
            go_wp2_with fail
            refine hc.mono ?_
            rintro e v2 ht
            obtain ⟨rfl, ht⟩ := ht
            clear hc
            go_wp2
            go_end0
            rw [← HZ2.out]
            exact ⟨rfl, ht⟩
          | false =>
            have hi4 := is_no ⟨#[60, 33, 69, 76, 69, 77, 69, 78, 84]⟩ eleL H4.out.st rfl (by simp [eleL]) (by omega) (by decide) h4
            go_wp2_with fail
            refine hi4.mono ?_
            rintro e u4w ⟨rfl, hs1, hg1⟩
            have H5 := mkHidT (H4.out.step hs1 hg1)
            clear hi4 hs1 hg1
            have hZ := HZ.out
            rw [if_neg (by rw [h0]; simp)] at hZ
            rw [if_neg (by rw [h1]; simp)] at hZ
            rw [if_neg (by rw [h2]; simp)] at hZ
            rw [if_neg (by rw [h3]; simp)] at hZ
            rw [if_neg (by rw [h4]; simp)] at hZ
            have HZ2 := mkHidT hZ
            clear hZ
            obtain ⟨bd, d1, d2, hbad⟩ := st_setbad H5.out.st
            have G1 := mkHidT (H5.out.step hbad (gset5 _))
            clear hbad
            go_wp2
            go_end0
            rw [← HZ2.out]
            exact ⟨rfl, d, G1.out, fun r hr => (by cases hr), by omega, by omega⟩
end Go.Proofs.YteebdfcegndaoaaGreatDoor

namespace Go.Proofs.YteebdfcegndaoaaGreatDoor
open Go.RowKit Plain1 Strs Strs2 Lists Ents Plain3 Plain5 Plain6 Plain9 Plain10 Plain11 Plain23 Plain24 Go.Lib
variable {B : Nat} {w W W' : World} {k g : Nat} {s : ByteArray} {σ σ' : Option Nat} {d : Dt} {E : Nat} {w0 : World} {a : At5}

set_option maxHeartbeats 4000000 in
set_option maxRecDepth 100000 in
theorem l03Read_any (s : ByteArray) (w : World) (hs : s.size ≤ 4000) (h0 : Plain11.VB s 0) :
    Calls Tryz.prog 41 #[.string s] w fun e w' => DtSays w (specGo s (s.size + 1) 0 ⟨[], []⟩) e w' := by
  obtain ⟨R, hR⟩ : ∃ R, specGo s (s.size + 1) 0 ⟨[], []⟩ = R := ⟨_, rfl⟩
  rw [hR]
  have HR := mkHidT hR
  have HV := mkHidT h0
  clear hR h0
  go_enter Tryz.func41, Tryz.ntmps41
  go_wp2_with fail
  have hst0 : Rd (w.heap.size + 1) (w.alloc zDtd) (((w.alloc zDtd).alloc (.cells #[.string s, .int .i64 0, .bool false, .bool false, .bool false] 114)).alloc (.cells #[.pointer (some ⟨w.heap.size + 1, 0, none⟩), .slice none 0 0, .slice none 0 0] 133)) (w.heap.size + 1 + 1) (w.heap.size + 1) s (some 0) ⟨[], []⟩ := by
    refine ⟨⟨Nat.zero_le _, ?_⟩, Nat.le_refl _, by omega, ⟨.slice none 0 0, .slice none 0 0, ?_, World.ownsRow_nil _ _ _ _, World.ownsRow_nil _ _ _ _⟩, ?_⟩
    · unfold ScBox
      rw [heap_alloc_old _ _ (by simp)]
      have := heap_alloc_new (w.alloc zDtd) (.cells #[.string s, .int .i64 0, .bool false, .bool false, .bool false] 114)
      simpa using this
    · unfold RdBox
      have := heap_alloc_new ((w.alloc zDtd).alloc (.cells #[.string s, .int .i64 0, .bool false, .bool false, .bool false] 114)) (.cells #[.pointer (some ⟨w.heap.size + 1, 0, none⟩), .slice none 0 0, .slice none 0 0] 133)
      simpa using this
    · exact (((Below.refl _ _).alloc (by simp) _).alloc (by simp) _)
  have HST := mkHidT hst0
  clear hst0
  have hzero : Hid ((w.alloc zDtd).heap[w.heap.size]? = some zDtd) := mkHidT (heap_alloc_new w zDtd)
  have hw01 : Hid (Below w.heap.size w (w.alloc zDtd)) := mkHidT ((Below.refl _ _).alloc (Nat.le_refl _) _)
  go_loopw [] (fun wr => ∃ (f p : Nat) (d : Dt), Rd (w.heap.size + 1) (w.alloc zDtd) wr (w.heap.size + 1 + 1) (w.heap.size + 1) s (some p) d ∧ specGo s f p d = R ∧ s.size < p + f ∧ d.ents.length ≤ 40 ∧ d.atts.length ≤ 40) (fun wr => s.size + 1 - sPos wr (w.heap.size + 1))
  case atStart => exact ⟨s.size + 1, 0, ⟨[], []⟩, HST.out, HR.out, by omega, by simp, by simp⟩
  case round =>
    obtain ⟨f, p, d, hrd, hgo, hf, hde, hda⟩ := hrel
    have H1 := mkHidT hrd
    have hps := st_le hrd.st
    have HM := mkHidT (sPos_of hrd.st)
    obtain ⟨f', rfl⟩ : ∃ f', f = f' + 1 := ⟨f - 1, by omega⟩
    obtain ⟨q, hq⟩ : ∃ q, whiteZ s p = q := ⟨_, rfl⟩
    have hgo2 : (if q < s.size then (match markO s q with | none => dFail (q : Int) 3 | some (l, q') => if fullB (addAll d l) = true then dFail (q : Int) 7 else specGo s f' q' (addAll d l)) else (⟨d, 0, 0⟩ : DOut)) = R := by
      rw [← hgo, ← hq]; rfl
    have HGO := mkHidT hgo2
    have hpq : p ≤ q := by rw [← hq]; exact whiteZ_ge s p
    have hqs : q ≤ s.size := by rw [← hq]; exact whiteZ_le hps
    have HQ := mkHidT hq
    obtain ⟨ve, va, hb0, _, _⟩ := hrd.box
    obtain ⟨r0, r1, r2, rf1, rf2⟩ := rdcells hb0
    have hwh := white_st hrd.st (by omega)
    clear hrd hgo hgo2 hq hb0 r1 r2 rf1 rf2 HST
    go_wp2_with fail
    refine hwh.mono ?_
    rintro e w2 ⟨b2, rfl, hs2, _, hg2⟩
    have H2 : Hid (Rd (w.heap.size + 1) (w.alloc zDtd) w2 (w.heap.size + 1 + 1) (w.heap.size + 1) s (some q) d) := by
      have := H1.out.step hs2 hg2
      rw [Option.map_some, HQ.out] at this
      exact mkHidT this
    clear hwh hs2 hg2 H1 r0
    obtain ⟨ve, va, hb0, ho1, ho2⟩ := H2.out.box
    obtain ⟨ae, ce, rfl, _⟩ := ents_of_row ho1
    obtain ⟨aa, ca, rfl, _⟩ := atts_of_row ho2
    obtain ⟨r0, r1, r2, rf1, rf2⟩ := rdcells hb0
    obtain ⟨c0, c1, c2, c3, c4, f1, f2, f3, f4⟩ := block0 H2.out.st.2
    have hz2 : w2.heap[w.heap.size]? = some zDtd := (H2.out.bel.block w.heap.size (by omega)).trans hzero.out
    have hzc : ∀ wx : World, wx.heap[w.heap.size]? = some zDtd → wx.cell? ⟨w.heap.size, 0, none⟩ = some (.slice none 0 0) ∧ wx.cell? ⟨w.heap.size, 1, none⟩ = some (.slice none 0 0) ∧ wx.cell? ⟨w.heap.size, 2, none⟩ = some (.int .i64 0) ∧ wx.cell? ⟨w.heap.size, 3, none⟩ = some (.int .i64 0) ∧ wx.frozen? ⟨w.heap.size, 0, none⟩ = false ∧ wx.frozen? ⟨w.heap.size, 1, none⟩ = false ∧ wx.frozen? ⟨w.heap.size, 2, none⟩ = false ∧ wx.frozen? ⟨w.heap.size, 3, none⟩ = false := by
      intro wx hx
      unfold zDtd at hx
      simp [World.cell?, World.frozen?, hx]
    have HZC := mkHidT hzc
    clear hzc
    have store4 : ∀ (wx : World) (R' : DOut) (u0 u1 u2 u3 : Value), Below (w.heap.size + 1) (w.alloc zDtd) wx → Below w.heap.size w ((((wx.setCell ⟨w.heap.size, 0, none⟩ u0).setCell ⟨w.heap.size, 1, none⟩ u1).setCell ⟨w.heap.size, 2, none⟩ u2).setCell ⟨w.heap.size, 3, none⟩ u3) := by
      intro wx R' u0 u1 u2 u3 hx
      have h1 : Below w.heap.size w wx := hw01.out.trans (hx.mono (by omega))
      have hsz := h1.size
      exact (((h1.grown (gset5 (g := w.heap.size) (j := 0) u0) (by omega) (fun j hj => by cases hj; omega)).grown (gset5 (g := w.heap.size) (j := 1) u1) (by simp; omega) (fun j hj => by cases hj; omega)).grown (gset5 (g := w.heap.size) (j := 2) u2) (by simp; omega) (fun j hj => by cases hj; omega)).grown (gset5 (g := w.heap.size) (j := 3) u3) (by simp; omega) (fun j hj => by cases hj; omega)
    have ST4 := mkHidT store4
    clear store4
    by_cases hlt : q < s.size
    · have hqb : ((q : Int) == (s.size : Int)) = false := by simp; omega
      have hmk := mark_any H2.out hs (by omega) (by omega)
      have failS : ∀ (wx : World) (c : Int), Below (w.heap.size + 1) (w.alloc zDtd) wx → R = dFail (q : Int) c → DtSays w R (.returned (.agg #[.slice none 0 0, .slice none 0 0, .int .i64 (q : Int), .int .i64 c])) ((((wx.setCell ⟨w.heap.size, 0, none⟩ (.slice none 0 0)).setCell ⟨w.heap.size, 1, none⟩ (.slice none 0 0)).setCell ⟨w.heap.size, 2, none⟩ (.int .i64 (q : Int))).setCell ⟨w.heap.size, 3, none⟩ (.int .i64 c)) := by
        intro wx c hx hr
        rw [hr]
        exact ⟨none, 0, none, 0, rfl, World.ownsRow_nil _ _ _ _, World.ownsRow_nil _ _ _ _, ST4.out wx R _ _ _ _ hx⟩
      have FSA := mkHidT failS
      have hRe := HGO.out
      rw [if_pos hlt] at hRe
      have HV0 := HV.out
      clear failS ho1 ho2
      cases hm : markO s q with
      | none =>
        rw [hm] at hRe hmk
        have HRE := mkHidT hRe
        clear hRe hm HV0
        go_wp2_with fail
        refine hmk.mono ?_
        rintro e w3 ⟨rfl, d3, hrd3, _⟩
        have H3 : Hid (Rd (w.heap.size + 1) (w.alloc zDtd) w3 (w.heap.size + 1 + 1) (w.heap.size + 1) s none d3) := mkHidT hrd3
        clear hmk hrd3 r0 r1 r2 rf1 rf2 c0 c1 c2 c3 c4 f1 f2 f3 f4 hb0 H2
        obtain ⟨ve, va, hb3, _, _⟩ := H3.out.box
        obtain ⟨r0, r1, r2, rf1, rf2⟩ := rdcells hb3
        have hz3 : w3.heap[w.heap.size]? = some zDtd := (H3.out.bel.block w.heap.size (by omega)).trans hzero.out
        obtain ⟨z0, z1, z2, z3, zf0, zf1, zf2, zf3⟩ := HZC.out w3 hz3
        have hok := ok_st H3.out.st
        simp only [Option.isSome_none] at hok
        go_wp2_with (go_at_call 68; refine hok.mono ?_; rintro e wk ⟨rfl, hwk⟩; obtain rfl := hwk.symm)
        refine bodyPost_ret (v := .agg #[.slice none 0 0, .slice none 0 0, .int .i64 (q : Int), .int .i64 3]) (by simp [results, Tryz.results41, go_sem, z0, z1, z2, z3]) rfl ?_
        exact FSA.out _ 3 H3.out.bel HRE.out.symm
      | some lr =>
        rw [hm] at hRe hmk
        have hend := Plain26.mark_end HV0 (Nat.le_of_lt hlt) hm
        have HRE : Hid ((if fullB (addAll d lr.1) = true then dFail (q : Int) 7 else specGo s f' lr.2 (addAll d lr.1)) = R) := mkHidT hRe
        clear hRe hm HV0
        go_wp2_with fail
        refine hmk.mono ?_
        rintro e w3 ⟨rfl, d3, hrd3, hd3, _⟩
        obtain rfl := (hd3 lr rfl).symm
        have H3 : Hid (Rd (w.heap.size + 1) (w.alloc zDtd) w3 (w.heap.size + 1 + 1) (w.heap.size + 1) s (some lr.2) (addAll d lr.1)) := mkHidT hrd3
        have HM3 := mkHidT (sPos_of H3.out.st)
        clear hmk hrd3 r0 r1 r2 rf1 rf2 c0 c1 c2 c3 c4 f1 f2 f3 f4 hb0 H2 hd3
        obtain ⟨D, hD⟩ : ∃ D, addAll d lr.1 = D := ⟨_, rfl⟩
        rw [hD] at H3 HRE
        clear hD
        obtain ⟨ve, va, hb3, ho1, ho2⟩ := H3.out.box
        obtain ⟨ae, ce, rfl, _⟩ := ents_of_row ho1
        obtain ⟨aa, ca, rfl, _⟩ := atts_of_row ho2
        obtain ⟨r0, r1, r2, rf1, rf2⟩ := rdcells hb3
        have hz3 : w3.heap[w.heap.size]? = some zDtd := (H3.out.bel.block w.heap.size (by omega)).trans hzero.out
        obtain ⟨z0, z1, z2, z3, zf0, zf1, zf2, zf3⟩ := HZC.out w3 hz3
        have hok := ok_st H3.out.st
        simp only [Option.isSome_some] at hok
        clear ho1 ho2
        by_cases hfe : 40 < D.ents.length
        · have hfu : fullB D = true := decide_eq_true (.inl hfe)
          have hr := HRE.out
          rw [hfu, if_pos rfl] at hr
          have HR7 := mkHidT hr
          clear hr hfu HRE
          go_wp2_with (go_at_call 68; refine hok.mono ?_; rintro e wk ⟨rfl, hwk⟩; obtain rfl := hwk.symm)
          refine bodyPost_ret (v := .agg #[.slice none 0 0, .slice none 0 0, .int .i64 (q : Int), .int .i64 7]) (by simp [results, Tryz.results41, go_sem, z0, z1, z2, z3]) rfl ?_
          exact FSA.out _ 7 H3.out.bel HR7.out.symm
        · by_cases hfa : 40 < D.atts.length
          · have hfu : fullB D = true := decide_eq_true (.inr hfa)
            have hr := HRE.out
            rw [hfu, if_pos rfl] at hr
            have HR7 := mkHidT hr
            clear hr hfu HRE
            go_wp2_with (go_at_call 68; refine hok.mono ?_; rintro e wk ⟨rfl, hwk⟩; obtain rfl := hwk.symm)
            refine bodyPost_ret (v := .agg #[.slice none 0 0, .slice none 0 0, .int .i64 (q : Int), .int .i64 7]) (by simp [results, Tryz.results41, go_sem, z0, z1, z2, z3]) rfl ?_
            exact FSA.out _ 7 H3.out.bel HR7.out.symm
          · have hfu : fullB D = false := decide_eq_false (by omega)
            have hr := HRE.out
            rw [hfu] at hr
            simp only [Bool.false_eq_true, if_false] at hr
            have HRN := mkHidT hr
            clear hr hfu HRE
            go_wp2_with (go_at_call 68; refine hok.mono ?_; rintro e wk ⟨rfl, hwk⟩; obtain rfl := hwk.symm)
            go_roundw
            case rel => exact ⟨f', lr.2, D, H3.out, HRN.out, by omega, by omega, by omega⟩
            case measure => rw [HM3.out, HM.out]; omega
    · have hRe := HGO.out
      rw [if_neg hlt] at hRe
      have HRE := mkHidT hRe
      have hqe : (q : Int) = (s.size : Int) := by omega
      have hqb : ((q : Int) == (s.size : Int)) = true := by simpa using hqe
      obtain ⟨z0, z1, z2, z3, zf0, zf1, zf2, zf3⟩ := HZC.out w2 hz2
      have HO1 := mkHidT ho1
      have HO2 := mkHidT ho2
      clear hRe hqe ho1 ho2
      go_wp2
      refine bodyPost_ret (v := .agg #[.slice ae d.ents.length ce, .slice aa d.atts.length ca, .int .i64 0, .int .i64 0]) (by simp [results, Tryz.results41, go_sem, z0, z1, z2, z3]) rfl ?_
      rw [← HRE.out]
      refine ⟨ae, ce, aa, ca, rfl, ?_, ?_, ST4.out _ R _ _ _ _ H2.out.bel⟩
      · exact own_base (ownsRow_setCell_below (ownsRow_setCell_below (ownsRow_setCell_below (ownsRow_setCell_below HO1.out (by simp) _) (by simp) _) (by simp) _) (by simp) _) (Nat.le_succ _)
      · exact own_base (ownsRow_setCell_below (ownsRow_setCell_below (ownsRow_setCell_below (ownsRow_setCell_below HO2.out (by simp) _) (by simp) _) (by simp) _) (by simp) _) (Nat.le_succ _)
end Go.Proofs.YteebdfcegndaoaaGreatDoor

namespace Go.Proofs.YteebdfcegndaoaaGreatDoor
open Go.RowKit Plain1 Strs Strs2 Lists Ents Plain3 Plain5 Plain6 Plain9 Plain10 Plain11 Plain23 Plain24 Go.Lib
variable {w W W' : World} {s : ByteArray}

theorem zcells {wx : World} {b : Nat} (hx : wx.heap[b]? = some zDtd) : wx.cell? ⟨b, 0, none⟩ = some (.slice none 0 0) ∧ wx.cell? ⟨b, 1, none⟩ = some (.slice none 0 0) ∧ wx.cell? ⟨b, 2, none⟩ = some (.int .i64 0) ∧ wx.cell? ⟨b, 3, none⟩ = some (.int .i64 0) ∧ wx.frozen? ⟨b, 0, none⟩ = false ∧ wx.frozen? ⟨b, 1, none⟩ = false ∧ wx.frozen? ⟨b, 2, none⟩ = false ∧ wx.frozen? ⟨b, 3, none⟩ = false := by
  unfold zDtd at hx
  simp [World.cell?, World.frozen?, hx]
theorem below4 {w wx : World} (u0 u1 u2 u3 : Value) (h : Below w.heap.size w wx) : Below w.heap.size w ((((wx.setCell ⟨w.heap.size, 0, none⟩ u0).setCell ⟨w.heap.size, 1, none⟩ u1).setCell ⟨w.heap.size, 2, none⟩ u2).setCell ⟨w.heap.size, 3, none⟩ u3) := by
  have hsz := h.size
  exact (((h.grown (gset5 (g := w.heap.size) (j := 0) u0) (by omega) (fun j hj => by cases hj; omega)).grown (gset5 (g := w.heap.size) (j := 1) u1) (by simp; omega) (fun j hj => by cases hj; omega)).grown (gset5 (g := w.heap.size) (j := 2) u2) (by simp; omega) (fun j hj => by cases hj; omega)).grown (gset5 (g := w.heap.size) (j := 3) u3) (by simp; omega) (fun j hj => by cases hj; omega)
theorem fail4 {w wx : World} (c : Int) (h : Below w.heap.size w wx) : DtSays w (dFail 0 c) (.returned (.agg #[.slice none 0 0, .slice none 0 0, .int .i64 0, .int .i64 c])) ((((wx.setCell ⟨w.heap.size, 0, none⟩ (.slice none 0 0)).setCell ⟨w.heap.size, 1, none⟩ (.slice none 0 0)).setCell ⟨w.heap.size, 2, none⟩ (.int .i64 0)).setCell ⟨w.heap.size, 3, none⟩ (.int .i64 c)) :=
  ⟨none, 0, none, 0, rfl, World.ownsRow_nil _ _ _ _, World.ownsRow_nil _ _ _ _, below4 _ _ _ _ h⟩
set_option maxHeartbeats 4000000 in
set_option maxRecDepth 100000 in
theorem specDtd_any (s : ByteArray) (w : World) : Calls Tryz.prog 12 #[.string s] w fun e w' => DtSays w (specDtd s) e w' := by
  have hz0 : (w.alloc zDtd).heap[w.heap.size]? = some zDtd := heap_alloc_new w zDtd
  have hb0 : Hid (Below w.heap.size w (w.alloc zDtd)) := mkHidT ((Below.refl _ _).alloc (Nat.le_refl _) _)
  by_cases h4 : 4000 < s.size
  · have hZ : Hid (specDtd s = dFail 0 2) := mkHidT (by unfold specDtd; rw [if_pos h4])
    have h4i : (4000 : Int) < (s.size : Int) := by omega
    go_enter Tryz.func12, Tryz.ntmps12
    go_wp2
    refine bodyPost_ret (v := .agg #[.slice none 0 0, .slice none 0 0, .int .i64 0, .int .i64 2]) (by simp [results, Tryz.results12, go_sem]) rfl ?_
    rw [hZ.out]
    exact ⟨none, 0, none, 0, rfl, World.ownsRow_nil _ _ _ _, World.ownsRow_nil _ _ _ _, (Below.refl _ _).alloc (Nat.le_refl _) _⟩
  · have h4i : ¬ (4000 : Int) < (s.size : Int) := by omega
    have HZ0 := mkHidT hz0
    have hru := l01Runes_any s (w.alloc zDtd) (by omega)
    have hfn := fun wx => find_any s 0 ⟨#[13]⟩ wx (by omega) (by decide) (Nat.zero_le _)
    rw [findZ_fz (by simp)] at hfn
    have hfn2 : ∀ wx, Calls Tryz.prog 33 #[.string s, .int .i64 0, .string ⟨#[13]⟩] wx fun e w' => e = .returned (.int .i64 (fz s 0 [13])) ∧ w' = wx := hfn
    obtain ⟨F, hF⟩ : ∃ F, fz s 0 [13] = F := ⟨_, rfl⟩
    obtain ⟨S, hS⟩ : ∃ S, (scanAll s).2 = S := ⟨_, rfl⟩
    have hFge : F = -1 ∨ 0 ≤ F := by
      rw [← hF]
      rcases fz_spec s 0 [13] (Nat.zero_le _) with h | ⟨i, h, _⟩
      · exact .inl h
      · right; rw [h]; omega
    rw [hF] at hfn2
    rw [hS] at hru
    have HF := mkHidT hF
    have HS := mkHidT hS
    have hbad : ¬ headOk s → specDtd s = dFail 0 1 := fun hh => by unfold specDtd; rw [if_neg h4, if_neg hh]
    have HBAD := mkHidT hbad
    clear hfn hF hS hbad hz0
    by_cases hSn : 0 ≤ S
    · have hZ := HBAD.out (fun hh => by have := hh.1; rw [HS.out] at this; omega)
      have HZ := mkHidT hZ
      clear hZ
      go_enter Tryz.func12, Tryz.ntmps12
      go_wp2_with fail
      refine hru.mono ?_
      rintro e w1 ⟨v1, rfl, _, hb1⟩
      have hz1 : w1.heap[w.heap.size]? = some zDtd := (hb1.block w.heap.size (by simp)).trans HZ0.out
      obtain ⟨z0, z1, z2, z3, zf0, zf1, zf2, zf3⟩ := zcells hz1
      have HB1 : Hid (Below w.heap.size w w1) := mkHidT (hb0.out.trans (hb1.mono (by simp)))
      clear hru hb1
      go_wp2
      refine bodyPost_ret (v := .agg #[.slice none 0 0, .slice none 0 0, .int .i64 0, .int .i64 1]) (by simp [results, Tryz.results12, go_sem, z0, z1, z2, z3]) rfl ?_
      rw [HZ.out]
      exact fail4 1 HB1.out
    · have hSd : decide (0 ≤ S) = false := decide_eq_false hSn
      by_cases hFn : 0 ≤ F
      · have hZ := HBAD.out (fun hh => by have := hh.2; rw [HF.out] at this; omega)
        have HZ := mkHidT hZ
        have hFd : decide (0 ≤ F) = true := decide_eq_true hFn
        clear hZ
        go_enter Tryz.func12, Tryz.ntmps12
        go_wp2_with fail
        refine hru.mono ?_
        rintro e w1 ⟨v1, rfl, _, hb1⟩
        have hz1 : w1.heap[w.heap.size]? = some zDtd := (hb1.block w.heap.size (by simp)).trans HZ0.out
        obtain ⟨z0, z1, z2, z3, zf0, zf1, zf2, zf3⟩ := zcells hz1
        have HB1 : Hid (Below w.heap.size w w1) := mkHidT (hb0.out.trans (hb1.mono (by simp)))
        clear hru hb1
        go_wp2_with (go_at_call 33; refine (hfn2 _).mono ?_; rintro e w2 ⟨rfl, rfl⟩)
        refine bodyPost_ret (v := .agg #[.slice none 0 0, .slice none 0 0, .int .i64 0, .int .i64 1]) (by simp [results, Tryz.results12, go_sem, z0, z1, z2, z3]) rfl ?_
        rw [HZ.out]
        exact fail4 1 HB1.out
      · have hk : headOk s := ⟨by rw [HS.out]; omega, by rw [HF.out]; rcases hFge with h | h; exact h; omega⟩
        have hFd : decide (0 ≤ F) = false := decide_eq_false hFn
        have hZ : specDtd s = specGo s (s.size + 1) 0 ⟨[], []⟩ := by unfold specDtd; rw [if_neg h4, if_pos hk]
        have hrd := fun wx => l03Read_any s wx (by omega) (Plain11.VB_all hk.1)
        rw [hZ]
        clear hZ hk hFge
        generalize specGo s (s.size + 1) 0 ⟨[], []⟩ = R at *
        go_enter Tryz.func12, Tryz.ntmps12
        go_wp2_with fail
        refine hru.mono ?_
        rintro e w1 ⟨v1, rfl, _, hb1⟩
        have hz1 : w1.heap[w.heap.size]? = some zDtd := (hb1.block w.heap.size (by simp)).trans HZ0.out
        have HB1 : Hid (Below w.heap.size w w1) := mkHidT (hb0.out.trans (hb1.mono (by simp)))
        have hl1 : w.heap.size < w1.heap.size := (Array.getElem?_eq_some_iff.1 hz1).1
        have HZ1 := mkHidT hz1
        clear hru hb1 hz1
        go_wp2_with (first | (go_at_call 33; refine (hfn2 _).mono ?_; rintro e w2 ⟨rfl, rfl⟩) | (go_at_call 41; refine (hrd _).mono ?_; rintro e w3 ⟨ae, ce, aa, ca, rfl, ho1, ho2, hb3⟩; have hz3 := zcells ((hb3.block w.heap.size hl1).trans HZ1.out); obtain ⟨z0, z1, z2, z3, zf0, zf1, zf2, zf3⟩ := hz3; replace ho1 := mkHidT ho1; replace ho2 := mkHidT ho2; replace hb3 := mkHidT hb3))
        refine bodyPost_ret (v := .agg #[.slice ae R.dtd.ents.length ce, .slice aa R.dtd.atts.length ca, .int .i64 R.at1, .int .i64 R.code]) (by simp [results, Tryz.results12, go_sem, z0, z1, z2, z3]) rfl ?_
        refine ⟨ae, ce, aa, ca, rfl, ?_, ?_, below4 _ _ _ _ (HB1.out.trans (hb3.out.mono (by omega)))⟩
        · exact own_base (ownsRow_setCell_below (ownsRow_setCell_below (ownsRow_setCell_below (ownsRow_setCell_below ho1.out hl1 _) hl1 _) hl1 _) hl1 _) (by omega)
        · exact own_base (ownsRow_setCell_below (ownsRow_setCell_below (ownsRow_setCell_below (ownsRow_setCell_below ho2.out hl1 _) hl1 _) hl1 _) hl1 _) (by omega)
end Go.Proofs.YteebdfcegndaoaaGreatDoor
