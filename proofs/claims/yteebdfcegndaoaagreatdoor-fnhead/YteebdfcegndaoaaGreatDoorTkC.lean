/- The model's reader of a head: an entity's mark. -/
/- The model's reader of a head: a definition in the making. -/
/- The model's reader of a head: a definition. -/
/- The model's reader of a head: a definition that is there. -/
import Derived.Test.YteebdfcegndaoaaGreatDoorFrB
import Derived.Test.YteebdfcegndaoaaGreatDoorTkB
import Derived.Test.YteebdfcegndaoaaGreatDoorMdD
import Derived.Deep.RegionLaw
import Derived.Deep.DeepAppendWide
import Derived.Test.YteebdfcegndaoaaGreatDoorMdE
import Derived.Deep.DeepCutAuto
namespace Go.Proofs.YteebdfcegndaoaaGreatDoor
open Go.RowKit Plain1 Strs Strs2 Lists Ents Plain3 Plain5 Plain6 Plain9 Plain10 Plain11 Plain23 Plain24 Go.Lib
variable {B : Nat} {w W W' : World} {k g : Nat} {s : ByteArray} {σ σ' : Option Nat} {d : Dt}

def outD (d : Dt) (Z : Option (List Df × Nat)) : Dt := match Z with | some r => addAll d r.1 | none => d
theorem st_fault {p : Nat} (h : StBox W g s (some p)) : W.cell? ⟨g, 3, none⟩ = some (.bool false) ∧ W.frozen? ⟨g, 3, none⟩ = false ∧ StBox (W.setCell ⟨g, 3, none⟩ (.bool true)) g s none ∧ StBox (W.setCell ⟨g, 3, none⟩ (.bool false)) g s (some p) := by
  obtain ⟨c0, c1, c2, c3, c4, f1, f2, f3, f4⟩ := block5 h.2
  refine ⟨by simpa using c3, f3, bad_of (box_bad h.2) (by simp) h.1, h.1, ?_⟩
  exact set5 h.2 3 _
theorem st_none (h : StBox W g s none) : ∃ bd : Bool, W.cell? ⟨g, 3, none⟩ = some (.bool bd) ∧ W.frozen? ⟨g, 3, none⟩ = false ∧ StBox (W.setCell ⟨g, 3, none⟩ (.bool bd)) g s none := by
  obtain ⟨p, sh, bd, th, hp, hf, hb⟩ := h
  obtain ⟨c0, c1, c2, c3, f1, f3⟩ := gcells hb
  exact ⟨bd, c3, f3, p, sh, bd, th, hp, hf, set5 hb 3 _⟩
theorem ent_empty : entO ⟨#[]⟩ = some [] := rfl
/-- An entity in the making, apart from what the reader has. -/
structure EB (W : World) (k g E : Nat) (nm tx : ByteArray) : Prop where
  box : EBox W E nm tx
  ne : ∀ ve va, RdBox W k g ve va → ve.ownBlock ≠ some E ∧ va.ownBlock ≠ some E
variable {E : Nat} {nm tx : ByteArray} {w0 : World}
theorem Rd.kl (h : Rd B w0 W k g s σ d) : k < W.heap.size := by
  obtain ⟨ve, va, hb, _, _⟩ := h.box
  exact (Array.getElem?_eq_some_iff.1 hb).1
theorem EB.keep {r : Option Nat} (h : EB W k g E nm tx) (hr : Rd B w0 W k g s σ d) (hg : W.grownBy W' r) (h1 : some E ≠ r) (h2 : some k ≠ r) : EB W' k g E nm tx :=
  ⟨h.box.keep hg h1, fun ve va hb => h.ne ve va (by unfold RdBox at hb ⊢; rw [hg.block k hr.kl h2] at hb; exact hb)⟩
theorem EB.step (h : EB W k g E nm tx) (hr : Rd B w0 W k g s σ d) (hg : W.grownBy W' (some g)) : EB W' k g E nm tx :=
  h.keep hr hg (fun e => h.box.ng hr.st (Option.some.inj e)) (fun e => hr.kg (Option.some.inj e))
theorem EB.grow (h : EB W k g E nm tx) (hr : Rd B w0 W k g s σ d) (hg : W.grownBy W' none) : EB W' k g E nm tx := h.keep hr hg (by simp) (by simp)
theorem EB.make (h : Rd B w0 W k g s σ d) (nm tx : ByteArray) : EB (W.alloc (.cells #[.string nm, .string tx] 50)) k g W.heap.size nm tx := by
  refine ⟨Below.heap_new _ _, fun ve va hb => ?_⟩
  obtain ⟨ve', va', hb', h1, h2⟩ := h.box
  have e : RdBox W k g ve va := by unfold RdBox at hb ⊢; rw [(galloc5 W _ none).block k h.kl (by simp)] at hb; exact hb
  unfold RdBox at e hb'
  rw [hb'] at e
  cases e
  exact ⟨fun e => by have := (h1.lt _ e).2; omega, fun e => by have := (h2.lt _ e).2; omega⟩
theorem EB.nk (h : EB W k g E nm tx) (hr : Rd B w0 W k g s σ d) : k ≠ E := by
  obtain ⟨ve, va, hb, _, _⟩ := hr.box
  have he := h.box
  intro e
  subst e
  unfold EBox at he
  unfold RdBox at hb
  rw [he] at hb
  cases hb
theorem Rd.estore (h : Rd B w0 W k g s σ d) (he : EB W k g E nm tx) (hB : B ≤ E) (t : ByteArray) : Rd B w0 (W.setCell ⟨E, 1, none⟩ (.string t)) k g s σ d ∧ EB (W.setCell ⟨E, 1, none⟩ (.string t)) k g E nm t := by
  have hsz := h.sz
  have hgE := he.box.ng h.st
  have hkE := he.nk h
  have hkl := h.kl
  have hg : W.grownBy (W.setCell ⟨E, 1, none⟩ (.string t)) (some E) := gset5 _
  have hkk := hg.block k hkl (fun e => hkE (Option.some.inj e))
  obtain ⟨ve, va, hb, h1, h2⟩ := h.box
  obtain ⟨n1, n2⟩ := he.ne ve va hb
  exact ⟨⟨st_grown h.st hg (fun e => hgE (Option.some.inj e).symm), h.gB, h.kB, ⟨ve, va, by unfold RdBox; rw [hkk]; exact hb, h1.kept hg (.inr n1), h2.kept hg (.inr n2)⟩, h.bel.grown hg hsz (fun j hj => by cases hj; exact hB)⟩,
    ⟨set5 he.box 1 _, fun ve va hb => he.ne ve va (by unfold RdBox at hb ⊢; rw [hkk] at hb; exact hb)⟩⟩
theorem fldE (a b : ByteArray) (w : World) : (Instr.field 50 (.agg #[.string a, .string b]) 0).run Tryz.prog w = .ok (.string a) w := by kernel_rfl
theorem entR_none {l : List (ByteArray × ByteArray)} {n : ByteArray} (h : n.size ≤ 4000) (hf : (l.find? (isEnt n)).isSome = false) : (entR l n).1 = ⟨#[]⟩ := by
  unfold entR
  rw [if_neg (by omega)]
  cases hc : l.find? (isEnt n) with
  | none => rfl
  | some e => rw [hc] at hf; cases hf
theorem entR_some {l : List (ByteArray × ByteArray)} {n : ByteArray} (h : n.size ≤ 4000) (h1 : 1 ≤ n.size) (hf : (l.find? (isEnt n)).isSome = true) : ((entR l n).1.toList == []) = false := by
  unfold entR
  rw [if_neg (by omega)]
  cases hc : l.find? (isEnt n) with
  | none => rw [hc] at hf; cases hf
  | some e =>
    have he := List.find?_some hc
    unfold isEnt at he
    have : e.1.toList = n.toList := by simpa using he
    show (e.1.toList == []) = false
    rw [this, ByteArray.toList_eq]
    cases hl : n.data.toList with
    | nil => rw [Lib.size_eq, hl] at h1; simp at h1
    | cons a b => rfl
/-- The reader behind an append to its entities. -/
theorem Rd.app (h : Rd B w0 W k g s σ d) {ae aa : Option Addr} {ce ca : Nat} (hb : RdBox W k g (.slice ae d.ents.length ce) (.slice aa d.atts.length ca)) (m : Nat) (o : Obj) {wa : World} {v' : Value} {e : ByteArray × ByteArray}
    (hoa : wa.ownsRow B 50 2 v' (d.ents.length + 1) (acells d.ents ++ [.string e.1, .string e.2])) (hga : ((W.drewN m).alloc o).grownBy wa (Value.slice ae d.ents.length ce).ownBlock) :
    RdBox wa k g (.slice ae d.ents.length ce) (.slice aa d.atts.length ca) ∧ ∃ gg cap, v' = .slice (some ⟨gg, 0, none⟩) (d.ents.length + 1) cap ∧ Rd B w0 (wa.setCell ⟨k, 1, none⟩ v') k g s σ ⟨d.ents ++ [e], d.atts⟩ := by
  have hkg := h.kg
  obtain ⟨ve, va, hb', h1, h2⟩ := h.box
  have hbb := hb
  unfold RdBox at hb' hbb
  rw [hbb] at hb'
  cases hb'
  have hg0 : W.grownBy ((W.drewN m).alloc o) none := gtrans5 (gdrew5 W m none) (galloc5 _ o none)
  have H1 := h.keep hg0
  have h1' := h1.kept hg0 (by cases (Value.slice ae d.ents.length ce).ownBlock with | none => exact .inl rfl | some _ => exact .inr (by simp))
  have h2' := h2.kept hg0 (by cases (Value.slice aa d.atts.length ca).ownBlock with | none => exact .inl rfl | some _ => exact .inr (by simp))
  have hb1 : RdBox ((W.drewN m).alloc o) k g (.slice ae d.ents.length ce) (.slice aa d.atts.length ca) := by unfold RdBox; rw [hg0.block k h.kl (by simp)]; exact hb
  obtain ⟨c, hc⟩ := st_cells H1.st
  have hwa : RdBox wa k g (.slice ae d.ents.length ce) (.slice aa d.atts.length ca) := by unfold RdBox; rw [hga.block k H1.kl (row_ne h1' hb1 (by decide)).symm]; exact hb1
  have hsta : StBox wa g s σ := st_grown H1.st hga (row_ne h1' hc (by decide)).symm
  have h2a := h2'.kept hga (rows_ne h2' h1' (by decide))
  have hbela : Below B w0 wa := H1.bel.grown hga H1.sz (fun j hj => (h1'.lt j hj).1)
  have hszB : B ≤ wa.heap.size := Nat.le_trans H1.sz hga.size
  refine ⟨hwa, ?_⟩
  obtain ⟨gg, cap, hv⟩ : ∃ gg cap, v' = .slice (some ⟨gg, 0, none⟩) (d.ents.length + 1) cap := by
    rcases hoa.2 with ⟨_, h⟩ | ⟨gg, cap, _, h, _⟩
    · omega
    · exact ⟨gg, cap, h⟩
  refine ⟨gg, cap, hv, ?_⟩
  have hgs : wa.grownBy (wa.setCell ⟨k, 1, none⟩ v') (some k) := gset5 _
  refine ⟨st_grown hsta hgs (fun e => hkg (Option.some.inj e).symm), h.gB, h.kB, ⟨v', .slice aa d.atts.length ca, set5 hwa 1 _, ?_, ?_⟩, hbela.grown hgs hszB (fun j hj => by cases hj; exact h.kB)⟩
  · have := hoa.kept hgs (.inr (row_ne hoa hwa (by decide)))
    rw [acells_snoc, List.length_append]
    exact this
  · exact h2a.kept hgs (.inr (row_ne h2a hwa (by decide)))
/-- How far an entity's mark is read. -/
def entR4 (s : ByteArray) (σ : Option Nat) : Option (ByteArray × Nat) := ((((σ.bind (gapO s)).bind (nameO s)).map (·.2)).bind (gapO s)).bind (qtO s)
theorem ent_Zno (h : (entR4 s σ).map (·.2) = none) : σ.bind (entityZ s) = none := by
  unfold entR4 at h
  rw [Option.map_eq_none_iff] at h
  cases σ with
  | none => rfl
  | some p =>
    simp only [Option.bind_some] at h ⊢
    unfold entityZ
    cases h1 : gapO s p with
    | none => rfl
    | some a =>
      rw [h1] at h
      simp only [Option.bind_some] at h ⊢
      cases h2 : nameO s a with
      | none => rfl
      | some n =>
        rw [h2] at h
        simp only [Option.map_some, Option.bind_some] at h ⊢
        cases h3 : gapO s n.2 with
        | none => rfl
        | some b =>
          rw [h3] at h
          simp only [Option.bind_some] at h ⊢
          rw [h]; rfl
theorem ent_Z {v : ByteArray × Nat} (h : entR4 s σ = some v) : ∃ n, (σ.bind (gapO s)).bind (nameO s) = some n ∧ σ.bind (entityZ s) = (entO v.1).bind fun t => (mustO s (whiteZ s v.2) [62]).bind fun q => some ([.inl (n.1, strOfNums t)], q) := by
  unfold entR4 at h
  cases σ with
  | none => cases h
  | some p =>
    simp only [Option.bind_some] at h ⊢
    unfold entityZ
    cases h1 : gapO s p with
    | none => rw [h1] at h; cases h
    | some a =>
      rw [h1] at h
      simp only [Option.bind_some] at h ⊢
      cases h2 : nameO s a with
      | none => rw [h2] at h; cases h
      | some n =>
        rw [h2] at h
        simp only [Option.map_some, Option.bind_some] at h ⊢
        refine ⟨n, rfl, ?_⟩
        cases h3 : gapO s n.2 with
        | none => rw [h3] at h; cases h
        | some b =>
          rw [h3] at h
          simp only [Option.bind_some] at h ⊢
          rw [h]; rfl
set_option maxHeartbeats 4000000 in
set_option maxRecDepth 100000 in
theorem entity_any (h : Rd B w0 w k g s σ d) (hs : s.size ≤ 1048576) (hd : d.ents.length ≤ 1000000) :
    Calls Tryz.prog 104 #[.pointer (some ⟨k, 0, none⟩)] w fun e w' => e = .returned (.tuple #[]) ∧ Rd B w0 w' k g s ((σ.bind (entityZ s)).map (·.2)) (outD d (σ.bind (entityZ s))) := by
  have H0 := mkHidT h
  have HWB : Hid (B ≤ w.heap.size) := mkHidT h.sz
  obtain ⟨ve, va, hb0, _, _⟩ := h.box
  obtain ⟨r0, r1, r2, rf1, rf2⟩ := rdcells hb0
  have hgap := gap_st h.st hs
  clear h hb0 r1 r2 rf1 rf2
  go_enter Tryz.func104, Tryz.ntmps104
  go_wp2_with fail
  refine hgap.mono ?_
  rintro e w1 ⟨rfl, hs1, hg1⟩
  have H1 := mkHidT (H0.out.step hs1 hg1)
  clear hgap hs1 hg1 H0 r0
  have hname := name_st H1.out.st hs
  go_wp2_with fail
  refine hname.mono ?_
  rintro e w2 ⟨nm, rfl, hs2, hT2, hg2⟩
  have H2a := mkHidT (H1.out.step hs2 hg2)
  have H2 := mkHidT (H2a.out.alloc (.cells #[.string nm, .string ⟨#[]⟩] 50))
  have E2 := mkHidT (EB.make H2a.out nm ⟨#[]⟩)
  have HB2 : Hid (B ≤ w2.heap.size) := mkHidT H2a.out.sz
  have HT2 := mkHidT hT2
  clear hname hs2 hg2 hT2 H1
  have hgap := gap_st H2.out.st hs
  go_wp2_with fail
  refine hgap.mono ?_
  rintro e w3 ⟨rfl, hs3, hg3⟩
  have H3 := mkHidT (H2.out.step hs3 hg3)
  have E3 := mkHidT (E2.out.step H2.out hg3)
  clear hgap hs3 hg3 H2 E2
  have hq := quoted_sq H3.out.st hs
  go_wp2_with fail
  refine hq.mono ?_
  rintro e w4 ⟨t, rfl, hs4, hT4, hN4, hg4⟩
  have H4 := mkHidT (H3.out.step hs4 hg4)
  have E4 := mkHidT (E3.out.step H3.out hg4)
  have hts : t.size ≤ 1048576 := by
    cases hR : ((((σ.bind (gapO s)).bind (nameO s)).map (·.2)).bind (gapO s)).bind (qtO s) with
    | none => rw [hN4 hR]; simp [ByteArray.size]
    | some v =>
      rw [hT4 v hR]
      obtain ⟨p, _, hp⟩ := Option.bind_eq_some_iff.1 hR
      obtain ⟨_, _, _, q4, _, _, q7⟩ := qt_some hp
      rw [q4]; unfold upT
      simp only [ByteArray.size_extract]
      omega
  have HT4 := mkHidT hT4
  have HN4 := mkHidT hN4
  clear hq hs4 hg4 hT4 hN4 H3 E3
  have htx := text_any t w4 hts
  go_wp2_with fail
  refine htx.mono ?_
  rintro e w5 ⟨rfl, hb5⟩
  have H5 := mkHidT (H4.out.keep (gbelow5 hb5))
  have E5 := mkHidT (E4.out.grow H4.out (gbelow5 hb5))
  clear htx hb5 H4 E4
  obtain ⟨σ4, hσ4⟩ : ∃ σ4, (entR4 s σ).map (·.2) = σ4 := ⟨_, rfl⟩
  have H5 : Hid (Rd B w0 w5 k g s ((entR4 s σ).map (·.2)) d) := H5
  have HT4 : Hid (∀ v, entR4 s σ = some v → t = v.1) := HT4
  have HN4 : Hid (entR4 s σ = none → t = ⟨#[]⟩) := HN4
  rw [hσ4] at H5
  have HS4 := mkHidT hσ4
  clear hσ4
  cases σ4 with
  | none =>
    have hR4 : entR4 s σ = none := Option.map_eq_none_iff.1 HS4.out
    obtain rfl := HN4.out hR4
    have hZ := mkHidT (ent_Zno HS4.out)
    rw [ent_empty]
    obtain ⟨bd, c3, f3, hst⟩ := st_none H5.out.st
    have H6 := mkHidT (H5.out.step hst (gset5 _))
    have E6 := mkHidT (E5.out.step H5.out (gset5 (j := 3) (.bool bd)))
    clear hst H5 E5 hR4
    cases bd
    all_goals
      have hwh := white_st H6.out.st hs
      go_wp2_with fail
      refine hwh.mono ?_
      rintro e w7 ⟨b7, rfl, hs7, _, hg7⟩
      have H7 := mkHidT (H6.out.step hs7 hg7)
      have E7 := mkHidT (E6.out.step H6.out hg7)
      clear hwh hs7 hg7 H6 E6 c3 f3
      have hmu := must_st H7.out.st ⟨#[62]⟩ [62] rfl hs (by decide)
      go_wp2_with fail
      refine hmu.mono ?_
      rintro e w8 ⟨rfl, hs8, hg8⟩
      have H8 := mkHidT (H7.out.step hs8 hg8)
      have E8 := mkHidT (E7.out.step H7.out hg8)
      clear hmu hs8 hg8 H7 E7
      obtain ⟨e0, e1, ef0, ef1⟩ := ecells E8.out.box
      obtain ⟨H9', E9'⟩ := H8.out.estore E8.out HB2.out (entS (some []))
      have H9 := mkHidT H9'
      clear H9' E9'
      have hok9 := ok_stAt H9.out.st
      simp only [Option.map_none, Option.bind_none, Option.isSome_none] at hok9
      go_wp2_with fail
      go_quiet ((go_at_call 68; exact Calls.quiet_of_same (hok9 _ rfl)))
      go_wp2
      go_end0
      rw [hZ.out]
      exact ⟨rfl, H9.out.keep (gdrew5 _ nq none)⟩
  | some p4 =>
    cases hok : entO t with
    | none =>
      obtain ⟨c3, f3, hbad, _⟩ := st_fault H5.out.st
      have H6 := mkHidT (H5.out.step hbad (gset5 _))
      have E6 := mkHidT (E5.out.step H5.out (gset5 (j := 3) (.bool true)))
      have HOK := mkHidT hok
      clear hok hbad H5 E5
      have hwh := white_st H6.out.st hs
      go_wp2_with fail
      refine hwh.mono ?_
      rintro e w7 ⟨b7, rfl, hs7, _, hg7⟩
      have H7 := mkHidT (H6.out.step hs7 hg7)
      have E7 := mkHidT (E6.out.step H6.out hg7)
      clear hwh hs7 hg7 H6 E6 c3 f3
      have hmu := must_st H7.out.st ⟨#[62]⟩ [62] rfl hs (by decide)
      go_wp2_with fail
      refine hmu.mono ?_
      rintro e w8 ⟨rfl, hs8, hg8⟩
      have H8 := mkHidT (H7.out.step hs8 hg8)
      have E8 := mkHidT (E7.out.step H7.out hg8)
      clear hmu hs8 hg8 H7 E7
      obtain ⟨e0, e1, ef0, ef1⟩ := ecells E8.out.box
      obtain ⟨H9', E9'⟩ := H8.out.estore E8.out HB2.out (entS none)
      have H9 := mkHidT H9'
      have E9 := mkHidT E9'
      clear H9' E9'
      have hok9 := ok_stAt H9.out.st
      simp only [Option.map_none, Option.bind_none, Option.isSome_none] at hok9
      go_wp2_with fail
      go_quiet ((go_at_call 68; exact Calls.quiet_of_same (hok9 _ rfl)))
      go_wp2
      go_end0
      have hZ : σ.bind (entityZ s) = none := by
        obtain ⟨v, hv, _⟩ := Option.map_eq_some_iff.1 HS4.out
        obtain ⟨n, _, hz⟩ := ent_Z hv
        rw [hz, ← HT4.out v hv, HOK.out]; rfl
      rw [hZ]
      exact ⟨rfl, H9.out.keep (gdrew5 _ nq none)⟩
    | some l =>
      obtain ⟨c3, f3, _, hgood⟩ := st_fault H5.out.st
      have H6 := mkHidT (H5.out.step hgood (gset5 _))
      have E6 := mkHidT (E5.out.step H5.out (gset5 (j := 3) (.bool false)))
      have HOK := mkHidT hok
      clear hok hgood H5 E5
      have hwh := white_st H6.out.st hs
      go_wp2_with fail
      refine hwh.mono ?_
      rintro e w7 ⟨b7, rfl, hs7, _, hg7⟩
      have H7 := mkHidT (H6.out.step hs7 hg7)
      have E7 := mkHidT (E6.out.step H6.out hg7)
      clear hwh hs7 hg7 H6 E6 c3 f3
      have hmu := must_st H7.out.st ⟨#[62]⟩ [62] rfl hs (by decide)
      go_wp2_with fail
      refine hmu.mono ?_
      rintro e w8 ⟨rfl, hs8, hg8⟩
      have H8 := mkHidT (H7.out.step hs8 hg8)
      have E8 := mkHidT (E7.out.step H7.out hg8)
      clear hmu hs8 hg8 H7 E7
      obtain ⟨e0, e1, ef0, ef1⟩ := ecells E8.out.box
      obtain ⟨H9', E9'⟩ := H8.out.estore E8.out HB2.out (entS (some l))
      have H9 := mkHidT H9'
      have E9 := mkHidT E9'
      clear H9' E9'
      obtain ⟨v, hv, hv2⟩ := Option.map_eq_some_iff.1 HS4.out
      obtain ⟨n, hn, hz⟩ := ent_Z hv
      obtain rfl : nm = n.1 := HT2.out n hn
      have htv := HT4.out v hv
      rw [← htv, HOK.out, Option.bind_some, hv2] at hz
      have HZ := mkHidT hz
      have HNM := mkHidT hn
      simp only [Option.map_some, Option.bind_some] at H9
      clear hn hz htv hv hv2
      cases hm : mustO s (whiteZ s p4) [62] with
      | none =>
        rw [hm] at H9 HZ
        have hok9 := ok_stAt H9.out.st
        simp only [Option.isSome_none] at hok9
        clear hm
        go_wp2_with fail
        go_quiet ((go_at_call 68; exact Calls.quiet_of_same (hok9 _ rfl)))
        go_wp2
        go_end0
        rw [HZ.out]
        exact ⟨rfl, H9.out.keep (gdrew5 _ nq none)⟩
      | some q =>
        rw [hm] at H9 HZ
        have hok9 := ok_stAt H9.out.st
        simp only [Option.isSome_some] at hok9
        clear hm H8 E8
        obtain ⟨ve, va, hbx, ho1, ho2⟩ := H9.out.box
        obtain ⟨ae, ce, rfl, hEnts⟩ := ents_of_row ho1
        obtain ⟨aa, ca, rfl, hAtts⟩ := atts_of_row ho2
        obtain ⟨r0, r1, r2, rf1, rf2⟩ := rdcells hbx
        obtain ⟨x0, x1, xf0, xf1⟩ := ecells E9.out.box
        go_wp2_with fail
        have hkl := H9.out.kl
        generalize w8.setCell ⟨w2.heap.size, 1, none⟩ (.string (entS (some l))) = W9 at *
        have hent := fun (W : World) (hW : W.heap = W9.heap) => specEntOf_any W ae aa d.ents.length ce d.atts.length ca d.ents n.1 rfl (by omega) (hEnts.keep (w' := W) (fun j _ => by rw [hW]))
        have HO1 := mkHidT ho1
        clear hEnts hAtts ho1 ho2 e0 e1 ef0 ef1
        have hns : 1 ≤ n.1.size ∧ n.1.size ≤ 4000 := by
          obtain ⟨p1, _, hp1⟩ := Option.bind_eq_some_iff.1 HNM.out
          obtain ⟨h1, h2, _⟩ := name_some hp1
          have hsp := nm_spec h1
          rw [h2]; unfold nmT
          rw [ext_size (by simp only [nmP] at hsp; omega)]; omega
        obtain ⟨R, hR⟩ : ∃ R, entR d.ents n.1 = R := ⟨_, rfl⟩
        simp only [hR] at hent
        have hfl := fun wx => fldE R.1 R.2 wx
        cases hfd : (d.ents.find? (isEnt n.1)).isSome with
        | true =>
          have hR1 := entR_some hns.2 hns.1 hfd
          rw [hR] at hR1
          have HFD := mkHidT hfd
          clear hfd hR
          go_region_held3 (fun W => W.cell? ⟨k, 1, none⟩ = some (.slice ae d.ents.length ce) ∧ W.cell? ⟨k, 2, none⟩ = some (.slice aa d.atts.length ca) ∧ W.cell? ⟨w2.heap.size, 0, none⟩ = some (.string n.1)) (go_keep) (first | (go_at_call 68; refine (hok9 _ (by rfl)).mono ?_; rintro e wk ⟨rfl, rfl⟩) | (go_at_call 18; refine (hent _ (by rfl)).mono ?_; rintro e wz ⟨rfl, hgz⟩; have hbz := rdcells (w := wz) (by unfold RdBox; rw [hgz.block k hkl (by simp)]; exact hbx); have hez := ecells (W := wz) (E9.out.box.keep (r := none) (W := W9) ⟨hgz.os, hgz.tape, hgz.output, hgz.size, hgz.block⟩ (by simp)); obtain ⟨_, r1, r2, _, _⟩ := hbz; obtain ⟨x0, x1, _, _⟩ := hez))
          go_wp2
          go_end0
          rw [HZ.out]
          refine ⟨rfl, ?_⟩
          show Rd B w0 wz k g s (some q) (addD d (.inl (n.1, strOfNums l)))
          rw [show addD d (.inl (n.1, strOfNums l)) = d from if_pos HFD.out]
          exact H9.out.keep ⟨hgz.os, hgz.tape, hgz.output, hgz.size, hgz.block⟩
        | false =>
          have hR1 := entR_none hns.2 hfd
          rw [hR] at hR1
          have HFD := mkHidT hfd
          clear hfd hR
          rw [hR1] at hent hfl
          go_region_held3 (fun W => W.cell? ⟨k, 1, none⟩ = some (.slice ae d.ents.length ce) ∧ W.cell? ⟨k, 2, none⟩ = some (.slice aa d.atts.length ca) ∧ W.cell? ⟨w2.heap.size, 0, none⟩ = some (.string n.1)) (go_keep) (first | (go_at_call 68; refine (hok9 _ (by rfl)).mono ?_; rintro e wk ⟨rfl, rfl⟩) | (go_at_call 18; refine (hent _ (by rfl)).mono ?_; rintro e wz ⟨rfl, hgz⟩; have hbz := rdcells (w := wz) (by unfold RdBox; rw [hgz.block k hkl (by simp)]; exact hbx); have hez := ecells (W := wz) (E9.out.box.keep (r := none) (W := W9) ⟨hgz.os, hgz.tape, hgz.output, hgz.size, hgz.block⟩ (by simp)); obtain ⟨_, r1, r2, _, _⟩ := hbz; obtain ⟨x0, x1, _, _⟩ := hez))
          have hgz' : W9.grownBy wz none := ⟨hgz.os, hgz.tape, hgz.output, hgz.size, hgz.block⟩
          have H10 := mkHidT (H9.out.keep hgz')
          have E10 := mkHidT (E9.out.grow H9.out hgz')
          have HGZ := mkHidT hgz'
          have hbz2 : RdBox wz k g (.slice ae d.ents.length ce) (.slice aa d.atts.length ca) := by unfold RdBox; rw [hgz'.block k hkl (by simp)]; exact hbx
          have ho1z := own_grown HO1.out hgz'
          have hklz := H10.out.kl
          obtain ⟨_, q1, q2, qf1, qf2⟩ := rdcells hbz2
          obtain ⟨y0, y1, _, _⟩ := ecells E10.out.box
          have hElz : w2.heap.size < wz.heap.size := (Array.getElem?_eq_some_iff.1 E10.out.box).1
          have q1a : (wz.alloc (.cells #[.string n.1, .string (entS (some l))] 50)).cell? ⟨k, 1, none⟩ = some (.slice ae d.ents.length ce) := (World.cell?_of_block (a := ⟨k, 1, none⟩) (heap_alloc_old _ _ hklz)).trans q1
          clear hgz hgz' hent hok9 hbx H9 E9
          obtain ⟨i0, hi0, hz0, hz1, hz2⟩ := info_parts infoE
          have HRD := mkHidT (fun (wa : World) (v' : Value) (hoa : wa.ownsRow B 50 2 v' (d.ents.length + 1) (acells d.ents ++ [.string n.1, .string (entS (some l))])) (hga : ((wz.drewN 1).alloc (.cells #[.string n.1, .string (entS (some l))] 50)).grownBy wa (Value.slice ae d.ents.length ce).ownBlock) => H10.out.app hbz2 1 (.cells #[.string n.1, .string (entS (some l))] 50) (e := (n.1, entS (some l))) hoa hga)
          have HROW : Hid ((wz.drew.alloc (.cells #[.string n.1, .string (entS (some l))] 50)).ownsRow B 50 2 (.slice ae d.ents.length ce) d.ents.length (acells d.ents)) := mkHidT (ho1z.drew.alloc _)
          have hBz := H10.out.sz
          clear hbz2 ho1z H10 E10
          go_wp2_with fail
          go_region_law (refine step_append_own rfl (.tmp 58) (.tmp 60) 36 rfl B 50 i0 (.agg #[.string ByteArray.empty, .string ByteArray.empty]) 2 32 Tryz.underlying36 hi0 hz0 hz1 hz2 rfl (by decide) (.slice ae d.ents.length ce) d.ents.length (acells d.ents) (by simp [Act.eval]) HROW.out ⟨wz.heap.size, 0, none⟩ 1 1 [.string n.1, .string (entS (some l))] (by simp [Act.eval]) rfl (cell_two_newN wz.drew _ _ _ wz.heap.size rfl) (by intro u hu; simp at hu; rcases hu with rfl | rfl <;> rfl) (by unfold maxLen; omega) (by omega) (by simp; omega) ?_; intro v' wa hoa hga; obtain ⟨hwa, gg, cap, rfl, hrd⟩ := HRD.out wa v' hoa hga; obtain ⟨r0, r1, r2, rf1, rf2⟩ := rdcells hwa; replace hrd := mkHidT hrd; replace hwa := mkHidT hwa; clear hoa hga)
          all_goals
            go_end0
            rw [HZ.out]
            refine ⟨rfl, ?_⟩
            show Rd B w0 _ k g s (some q) (addD d (.inl (n.1, strOfNums l)))
            rw [show addD d (.inl (n.1, strOfNums l)) = ⟨d.ents ++ [(n.1, strOfNums l)], d.atts⟩ from if_neg (by rw [HFD.out]; simp)]
            exact hrd.out
end Go.Proofs.YteebdfcegndaoaaGreatDoor

namespace Go.Proofs.YteebdfcegndaoaaGreatDoor
open Go.RowKit Plain1 Strs Strs2 Lists Ents Plain3 Plain5 Plain6 Plain9 Plain10 Plain11 Plain23 Plain24 Go.Lib
variable {B : Nat} {w W W' : World} {k g : Nat} {s : ByteArray} {σ σ' : Option Nat} {d : Dt} {E : Nat} {w0 : World} {a : At5}

def cells5 (a : At5) : Array Value := #[.string a.of, .string a.nm, .bool a.words, .bool a.has, .string a.val]
def ABox (W : World) (E : Nat) (a : At5) : Prop := W.heap[E]? = some (.cells (cells5 a) 53)
theorem acell {a : At5} (h : ABox W E a) : W.cell? ⟨E, 0, none⟩ = some (.string a.of) ∧ W.cell? ⟨E, 1, none⟩ = some (.string a.nm) ∧ W.cell? ⟨E, 2, none⟩ = some (.bool a.words) ∧ W.cell? ⟨E, 3, none⟩ = some (.bool a.has) ∧ W.cell? ⟨E, 4, none⟩ = some (.string a.val) ∧
    W.frozen? ⟨E, 2, none⟩ = false ∧ W.frozen? ⟨E, 3, none⟩ = false ∧ W.frozen? ⟨E, 4, none⟩ = false := by
  unfold ABox cells5 at h
  simp [World.cell?, World.frozen?, h]
theorem ABox.ng (h : ABox W E a) (hs : StBox W g s σ) : E ≠ g := by
  obtain ⟨c, hc⟩ := st_cells hs
  intro e
  subst e
  unfold ABox at h
  rw [hc] at h
  cases h
/-- A definition in the making, apart from what the reader has. -/
structure AB (W : World) (k g E : Nat) (a : At5) : Prop where
  box : ABox W E a
  ne : ∀ ve va, RdBox W k g ve va → ve.ownBlock ≠ some E ∧ va.ownBlock ≠ some E
theorem AB.keep {r : Option Nat} (h : AB W k g E a) (hr : Rd B w0 W k g s σ d) (hg : W.grownBy W' r) (h1 : some E ≠ r) (h2 : some k ≠ r) : AB W' k g E a :=
  ⟨by unfold ABox; rw [hg.block E (Array.getElem?_eq_some_iff.1 h.box).1 h1]; exact h.box, fun ve va hb => h.ne ve va (by unfold RdBox at hb ⊢; rw [hg.block k hr.kl h2] at hb; exact hb)⟩
theorem AB.step (h : AB W k g E a) (hr : Rd B w0 W k g s σ d) (hg : W.grownBy W' (some g)) : AB W' k g E a :=
  h.keep hr hg (fun e => h.box.ng hr.st (Option.some.inj e)) (fun e => hr.kg (Option.some.inj e))
theorem AB.grow (h : AB W k g E a) (hr : Rd B w0 W k g s σ d) (hg : W.grownBy W' none) : AB W' k g E a := h.keep hr hg (by simp) (by simp)
theorem AB.make (h : Rd B w0 W k g s σ d) (a : At5) : AB (W.alloc (.cells (cells5 a) 53)) k g W.heap.size a := by
  refine ⟨Below.heap_new _ _, fun ve va hb => ?_⟩
  obtain ⟨ve', va', hb', h1, h2⟩ := h.box
  have e : RdBox W k g ve va := by unfold RdBox at hb ⊢; rw [(galloc5 W _ none).block k h.kl (by simp)] at hb; exact hb
  unfold RdBox at e hb'
  rw [hb'] at e
  cases e
  exact ⟨fun e => by have := (h1.lt _ e).2; omega, fun e => by have := (h2.lt _ e).2; omega⟩
theorem AB.nk (h : AB W k g E a) (hr : Rd B w0 W k g s σ d) : k ≠ E := by
  obtain ⟨ve, va, hb, _, _⟩ := hr.box
  have he := h.box
  intro e
  subst e
  unfold ABox at he
  unfold RdBox at hb
  rw [he] at hb
  cases hb
theorem Rd.astore {j : Nat} {u : Value} {a' : At5} (h : Rd B w0 W k g s σ d) (he : AB W k g E a) (hB : B ≤ E) (hc : (cells5 a).setIfInBounds j u = cells5 a') : Rd B w0 (W.setCell ⟨E, j, none⟩ u) k g s σ d ∧ AB (W.setCell ⟨E, j, none⟩ u) k g E a' := by
  have hsz := h.sz
  have hgE := he.box.ng h.st
  have hkE := he.nk h
  have hkl := h.kl
  have hg : W.grownBy (W.setCell ⟨E, j, none⟩ u) (some E) := gset5 _
  have hkk := hg.block k hkl (fun e => hkE (Option.some.inj e))
  obtain ⟨ve, va, hb, h1, h2⟩ := h.box
  obtain ⟨n1, n2⟩ := he.ne ve va hb
  exact ⟨⟨st_grown h.st hg (fun e => hgE (Option.some.inj e).symm), h.gB, h.kB, ⟨ve, va, by unfold RdBox; rw [hkk]; exact hb, h1.kept hg (.inr n1), h2.kept hg (.inr n2)⟩, h.bel.grown hg hsz (fun j hj => by cases hj; exact hB)⟩,
    ⟨by unfold ABox; rw [← hc]; exact set5 he.box j u, fun ve va hb => he.ne ve va (by unfold RdBox at hb ⊢; rw [hkk] at hb; exact hb)⟩⟩
theorem store_words (a : At5) : (cells5 a).setIfInBounds 2 (.bool true) = cells5 { a with words := true } := rfl
theorem store_has (a : At5) : (cells5 a).setIfInBounds 3 (.bool true) = cells5 { a with has := true } := rfl
theorem store_val (a : At5) (v : ByteArray) : (cells5 a).setIfInBounds 4 (.string v) = cells5 { a with val := v } := rfl
/-- The reader behind an append to its attributes. -/
theorem Rd.appA (h : Rd B w0 W k g s σ d) {ae aa : Option Addr} {ce ca : Nat} (hb : RdBox W k g (.slice ae d.ents.length ce) (.slice aa d.atts.length ca)) (m : Nat) (o : Obj) {wa : World} {v' : Value} {e : At5}
    (hoa : wa.ownsRow B 53 5 v' (d.atts.length + 1) (tcells d.atts ++ [.string e.of, .string e.nm, .bool e.words, .bool e.has, .string e.val])) (hga : ((W.drewN m).alloc o).grownBy wa (Value.slice aa d.atts.length ca).ownBlock) :
    RdBox wa k g (.slice ae d.ents.length ce) (.slice aa d.atts.length ca) ∧ ∃ gg cap, v' = .slice (some ⟨gg, 0, none⟩) (d.atts.length + 1) cap ∧ Rd B w0 (wa.setCell ⟨k, 2, none⟩ v') k g s σ ⟨d.ents, d.atts ++ [e]⟩ := by
  have hkg := h.kg
  obtain ⟨ve, va, hb', h1, h2⟩ := h.box
  have hbb := hb
  unfold RdBox at hb' hbb
  rw [hbb] at hb'
  cases hb'
  have hg0 : W.grownBy ((W.drewN m).alloc o) none := gtrans5 (gdrew5 W m none) (galloc5 _ o none)
  have H1 := h.keep hg0
  have h1' := h1.kept hg0 (by cases (Value.slice ae d.ents.length ce).ownBlock with | none => exact .inl rfl | some _ => exact .inr (by simp))
  have h2' := h2.kept hg0 (by cases (Value.slice aa d.atts.length ca).ownBlock with | none => exact .inl rfl | some _ => exact .inr (by simp))
  have hb1 : RdBox ((W.drewN m).alloc o) k g (.slice ae d.ents.length ce) (.slice aa d.atts.length ca) := by unfold RdBox; rw [hg0.block k h.kl (by simp)]; exact hb
  obtain ⟨c, hc⟩ := st_cells H1.st
  have hwa : RdBox wa k g (.slice ae d.ents.length ce) (.slice aa d.atts.length ca) := by unfold RdBox; rw [hga.block k H1.kl (row_ne h2' hb1 (by decide)).symm]; exact hb1
  have hsta : StBox wa g s σ := st_grown H1.st hga (row_ne h2' hc (by decide)).symm
  have h1a := h1'.kept hga (rows_ne h1' h2' (by decide))
  have hbela : Below B w0 wa := H1.bel.grown hga H1.sz (fun j hj => (h2'.lt j hj).1)
  have hszB : B ≤ wa.heap.size := Nat.le_trans H1.sz hga.size
  refine ⟨hwa, ?_⟩
  obtain ⟨gg, cap, hv⟩ : ∃ gg cap, v' = .slice (some ⟨gg, 0, none⟩) (d.atts.length + 1) cap := by
    rcases hoa.2 with ⟨_, h⟩ | ⟨gg, cap, _, h, _⟩
    · omega
    · exact ⟨gg, cap, h⟩
  refine ⟨gg, cap, hv, ?_⟩
  have hgs : wa.grownBy (wa.setCell ⟨k, 2, none⟩ v') (some k) := gset5 _
  refine ⟨st_grown hsta hgs (fun e => hkg (Option.some.inj e).symm), h.gB, h.kB, ⟨.slice ae d.ents.length ce, v', set5 hwa 2 _, ?_, ?_⟩, hbela.grown hgs hszB (fun j hj => by cases hj; exact h.kB)⟩
  · exact h1a.kept hgs (.inr (row_ne h1a hwa (by decide)))
  · have := hoa.kept hgs (.inr (row_ne hoa hwa (by decide)))
    rw [tcells_snoc, List.length_append]
    exact this
theorem fldA (a : At5) (w : World) : (Instr.field 53 (.agg #[.string a.of, .string a.nm, .bool a.words, .bool a.has, .string a.val]) 1).run Tryz.prog w = .ok (.string a.nm) w := by kernel_rfl
theorem infoA : (Tryz.prog.info? 53).map (fun i => (i.zero, i.size, i.bytes)) = some (some (.agg #[.string ByteArray.empty, .string ByteArray.empty, .bool false, .bool false, .string ByteArray.empty]), 5, 56) := by kernel_rfl
theorem attR_none {l : List At5} {o n : ByteArray} (ho : o.size ≤ 4000) (h : n.size ≤ 4000) (hf : (l.find? (isAtt o n)).isSome = false) : attR l o n = zAtt := by
  unfold attR
  rw [if_neg (by omega)]
  cases hc : l.find? (isAtt o n) with
  | none => rfl
  | some e => rw [hc] at hf; cases hf
theorem attR_some {l : List At5} {o n : ByteArray} (ho : o.size ≤ 4000) (h : n.size ≤ 4000) (h1 : 1 ≤ n.size) (hf : (l.find? (isAtt o n)).isSome = true) : ((attR l o n).nm.toList == []) = false := by
  unfold attR
  rw [if_neg (by omega)]
  cases hc : l.find? (isAtt o n) with
  | none => rw [hc] at hf; cases hf
  | some e =>
    have he := List.find?_some hc
    unfold isAtt at he
    have : e.nm.toList = n.toList := by simp at he; exact he.2
    show (e.nm.toList == []) = false
    rw [this, ByteArray.toList_eq]
    cases hl : n.data.toList with
    | nil => rw [Lib.size_eq, hl] at h1; simp at h1
    | cons a b => rfl
end Go.Proofs.YteebdfcegndaoaaGreatDoor

namespace Go.Proofs.YteebdfcegndaoaaGreatDoor
open Go.RowKit Plain1 Strs Strs2 Lists Ents Plain3 Plain5 Plain6 Plain9 Plain10 Plain11 Plain23 Plain24 Go.Lib
variable {B : Nat} {w W W' : World} {k g : Nat} {s : ByteArray} {σ σ' : Option Nat} {d : Dt} {E : Nat} {w0 : World} {a : At5}

def stepO (s o : ByteArray) (σ : Option Nat) : Option (At5 × Nat) := σ.bind fun p => if hasAt s (whiteZ s p) [62] = true then none else if whiteZ s p = p then none else attZ s o (whiteZ s p)
def stepS (s o : ByteArray) (σ : Option Nat) : Option Nat := σ.bind fun p => if hasAt s (whiteZ s p) [62] = true then some (whiteZ s p) else if whiteZ s p = p then none else (attZ s o (whiteZ s p)).map (·.2)
def outA (d : Dt) (Z : Option (At5 × Nat)) : Dt := match Z with | some r => addD d (.inr r.1) | none => d
set_option maxHeartbeats 4000000 in
set_option maxRecDepth 100000 in
/-- Where there is no definition. -/
theorem def_stop (o : ByteArray) (h : Rd B w0 w k g s σ d) (hs : s.size ≤ 1048576) (hstop : ∀ p, σ = some p → s.size ≤ whiteZ s p ∨ byteAt s (whiteZ s p) = 62) :
    Calls Tryz.prog 130 #[.pointer (some ⟨k, 0, none⟩), .string o] w fun e w' => e = .returned (.bool (stepO s o σ).isSome) ∧ Rd B w0 w' k g s (stepS s o σ) (outA d (stepO s o σ)) := by
  have H0 := mkHidT h
  obtain ⟨ve, va, hb0, _, _⟩ := h.box
  obtain ⟨r0, r1, r2, rf1, rf2⟩ := rdcells hb0
  have hwh := white_st h.st hs
  clear h hb0 r1 r2 rf1 rf2
  go_enter Tryz.func130, Tryz.ntmps130
  go_wp2_with fail
  refine hwh.mono ?_
  rintro e w1 ⟨b1, rfl, hs1, hb1, hg1⟩
  have H1 := mkHidT (H0.out.step hs1 hg1)
  clear hwh hs1 hg1 H0 r0
  have hok := ok_stAt H1.out.st
  have HST := mkHidT hstop
  clear hstop
  cases σ with
  | none =>
    simp only [Option.map_none, Option.isSome_none] at hok
    go_wp2_with fail
    go_quiet ((go_at_call 68; exact Calls.quiet_of_same (hok _ rfl)))
    go_wp2
    go_ret
    exact ⟨rfl, H1.out.keep (gdrew5 _ nq none)⟩
  | some p =>
    simp only [Option.map_some, Option.isSome_some] at hok H1
    have hbe := hb1 p rfl
    obtain ⟨q, hq⟩ : ∃ q, whiteZ s p = q := ⟨_, rfl⟩
    rw [hq] at H1 hbe
    have hqs : q ≤ s.size := H1.out.st.1
    have HQ := mkHidT hq
    clear hb1 hq
    by_cases he : s.size ≤ q
    · have hen := fun W' hW => end_at H1.out.st.2 (show q ≤ _ by omega) W' hW
      simp only [decide_eq_true he, ended_end (x := ⟨q, 0⟩) (s := s) he rfl] at hen
      have hO : Hid (stepO s o (some p) = none ∧ stepS s o (some p) = none) := by
        show stepO s o (some p) = none ∧ stepS s o (some p) = none
        unfold stepO stepS
        have hno : ¬ hasAt s q [62] = true := by rw [has_past he]; simp
        rw [Option.bind_some, Option.bind_some, HQ.out, if_neg hno, if_neg hno]
        by_cases hqp : q = p
        · rw [if_pos hqp, if_pos hqp]; exact ⟨rfl, rfl⟩
        · rw [if_neg hqp, if_neg hqp]
          have : attZ s o q = none := by
            unfold attZ
            rw [name_none (by rw [Plain15.nmF_end he]; omega)]; rfl
          rw [this]; exact ⟨rfl, rfl⟩
      go_wp2_with fail
      refine wp_region_any (by kernel_rfl) ?_
      change wpAny _ _ _ _ _ _ _ (World.drew _)
      refine take_put (i := 0) (v := .pointer (some ⟨g, 0, none⟩)) rfl rfl (by kernel_rfl) (by kernel_rfl) (by kernel_rfl) (fun _ _ _ h => h) (Or.inl ⟨by rfl, fun wx => by go_simp⟩) ?_
      refine wpAny_ready (rs := [1]) (by kernel_rfl) (by simp) ?_
      refine AllReady.cons rfl (fun K hK => ?_) AllReady.nil
      go_simp
      refine (hok w1.drew rfl).mono ?_
      rintro e wo ⟨rfl, hww⟩
      subst hww
      refine hK _ _ ?_
      clear hK K
      refine take_put (i := 2) (v := .bool false) rfl rfl (by kernel_rfl) (by kernel_rfl) (by kernel_rfl) (fun _ _ _ h => h) (Or.inl ⟨by rfl, fun wx => by go_simp⟩) ?_
      refine take_put (i := 3) (v := .bool false) rfl rfl (by kernel_rfl) (by kernel_rfl) (by kernel_rfl) (fun _ _ _ h => h) (Or.inl ⟨by rfl, fun wx => by go_simp⟩) ?_
      refine take_put (i := 4) (v := .pointer (some ⟨g, 0, none⟩)) rfl rfl (by kernel_rfl) (by kernel_rfl) (by kernel_rfl) (fun _ _ _ h => h) (Or.inl ⟨by kernel_rfl, fun wx => by go_simp⟩) ?_
      refine wpAny_ready (rs := [5]) (by kernel_rfl) (by simp) ?_
      refine AllReady.cons rfl (fun K hK => ?_) AllReady.nil
      go_simp
      refine (hen w1.drew rfl).mono ?_
      rintro e w4 ⟨rfl, hb4, hg4⟩
      refine hK _ _ ?_
      clear hK K
      refine take_put (i := 6) (v := .bool true) rfl rfl (by kernel_rfl) (by kernel_rfl) (by kernel_rfl) (fun _ _ _ h => h) (Or.inl ⟨by rfl, fun wx => by go_simp⟩) ?_
      refine take_put (i := 7) (v := .bool true) rfl rfl (by kernel_rfl) (by kernel_rfl) (by kernel_rfl) (fun _ _ _ h => h) (Or.inl ⟨by rfl, fun wx => by go_simp⟩) ?_
      refine take_put (i := 8) (v := undef) rfl rfl (by kernel_rfl) (by kernel_rfl) (by kernel_rfl) (fun _ _ _ h => h) (Or.inr ⟨by kernel_rfl, rfl⟩) ?_
      refine take_put (i := 9) (v := undef) rfl rfl (by kernel_rfl) (by kernel_rfl) (by kernel_rfl) (fun _ _ _ h => h) (Or.inr ⟨by kernel_rfl, rfl⟩) ?_
      refine take_put (i := 10) (v := undef) rfl rfl (by kernel_rfl) (by kernel_rfl) (by kernel_rfl) (fun _ _ _ h => h) (Or.inr ⟨by kernel_rfl, rfl⟩) ?_
      refine take_put (i := 11) (v := undef) rfl rfl (by kernel_rfl) (by kernel_rfl) (by kernel_rfl) (fun _ _ _ h => h) (Or.inr ⟨by kernel_rfl, rfl⟩) ?_
      refine take_put (i := 12) (v := undef) rfl rfl (by kernel_rfl) (by kernel_rfl) (by kernel_rfl) (fun _ _ _ h => h) (Or.inr ⟨by kernel_rfl, rfl⟩) ?_
      refine take_put (i := 13) (v := undef) rfl rfl (by kernel_rfl) (by kernel_rfl) (by kernel_rfl) (fun _ _ _ h => h) (Or.inr ⟨by kernel_rfl, rfl⟩) ?_
      refine take_put (i := 14) (v := undef) rfl rfl (by kernel_rfl) (by kernel_rfl) (by kernel_rfl) (fun _ _ _ h => h) (Or.inr ⟨by kernel_rfl, rfl⟩) ?_
      refine take_put (i := 15) (v := undef) rfl rfl (by kernel_rfl) (by kernel_rfl) (by kernel_rfl) (fun _ _ _ h => h) (Or.inr ⟨by kernel_rfl, rfl⟩) ?_
      refine take_put (i := 16) (v := undef) rfl rfl (by kernel_rfl) (by kernel_rfl) (by kernel_rfl) (fun _ _ _ h => h) (Or.inr ⟨by kernel_rfl, rfl⟩) ?_
      refine take_put (i := 17) (v := undef) rfl rfl (by kernel_rfl) (by kernel_rfl) (by kernel_rfl) (fun _ _ _ h => h) (Or.inr ⟨by kernel_rfl, rfl⟩) ?_
      refine take_put (i := 18) (v := .bool true) rfl rfl (by kernel_rfl) (by kernel_rfl) (by kernel_rfl) (fun _ _ _ h => h) (Or.inl ⟨by kernel_rfl, fun wx => by go_simp⟩) ?_
      refine wpAny_done (by kernel_rfl) ?_ _
      go_simp
      have H4 := mkHidT (H1.out.step (σ' := none) (bad_of hb4 (by simp) hqs) (gtrans5 (b := w1.drew) ⟨rfl, rfl, rfl, Nat.le_refl _, fun _ _ _ => rfl⟩ hg4))
      clear hen hok H1 hb4 hg4
      go_wp2
      go_ret
      rw [hO.out.1, hO.out.2]
      exact ⟨rfl, H4.out⟩
    · have hlt : q < s.size := by omega
      have hen := fun W' hW => end_in H1.out.st.2 (show q < s.size by omega) W' hW
      obtain ⟨c, hcb⟩ : ∃ c, byteAt s q = c := ⟨_, rfl⟩
      have hix : ∀ wx, (Instr.index 9 (.string s) (.int .i64 (q : Int))).run Tryz.prog wx = .ok (.int .u8 c) wx := fun wx => by rw [run_index_byte wx 9 s q hlt Tryz.underlying9, hcb]
      obtain ⟨c0, c1, c2, c3, c4, f1, f2, f3, f4⟩ := block0 H1.out.st.2
      have h62 := has_oneT hlt 62
      rw [hcb] at h62
      have h62c : c = 62 := by
        rcases HST.out p rfl with hx | hx
        · rw [HQ.out] at hx; omega
        · rw [HQ.out, hcb] at hx; exact hx
      subst h62c
      have hh : hasAt s q [62] = true := by rw [h62]; rfl
      have hO : Hid (stepO s o (some p) = none ∧ stepS s o (some p) = some q) := by
        show stepO s o (some p) = none ∧ stepS s o (some p) = some q
        unfold stepO stepS
        rw [Option.bind_some, Option.bind_some, HQ.out, if_pos hh, if_pos hh]; exact ⟨rfl, rfl⟩
      clear hh h62 hcb
      go_wp2_with fail
      go_quiet (first | (go_at_call 68; exact Calls.quiet_of_same (hok _ rfl)) | (go_at_call 88; exact Calls.quiet_of (hen _ rfl)))
      go_wp2
      go_ret
      rw [hO.out.1, hO.out.2]
      exact ⟨rfl, H1.out.keep (gdrew5 _ nq none)⟩
end Go.Proofs.YteebdfcegndaoaaGreatDoor

namespace Go.Proofs.YteebdfcegndaoaaGreatDoor
open Go.RowKit Plain1 Strs Strs2 Lists Ents Plain3 Plain5 Plain6 Plain9 Plain10 Plain11 Plain23 Plain24 Go.Lib
variable {B : Nat} {w W W' : World} {k g : Nat} {s : ByteArray} {σ σ' : Option Nat} {d : Dt} {E : Nat} {w0 : World} {a : At5}

theorem st_setbad (h : StBox W g s σ) : ∃ bd : Bool, W.cell? ⟨g, 3, none⟩ = some (.bool bd) ∧ W.frozen? ⟨g, 3, none⟩ = false ∧ StBox (W.setCell ⟨g, 3, none⟩ (.bool true)) g s none := by
  cases σ with
  | some p =>
    obtain ⟨h1, h2, h3, _⟩ := st_fault h
    exact ⟨false, h1, h2, h3⟩
  | none =>
    obtain ⟨p, sh, bd, th, hp, hf, hb⟩ := h
    obtain ⟨c0, c1, c2, c3, f1, f3⟩ := gcells hb
    exact ⟨bd, c3, f3, p, sh, true, th, hp, by simp, set5 hb 3 _⟩
theorem is_none (what : ByteArray) (sg : List UInt8) (h : StBox W g s none) (hsg : what.data.toList = sg) (h0 : sg ≠ []) (hs : s.size ≤ 1048576) (hw : what.size ≤ 1048576) :
    Calls Tryz.prog 103 #[.pointer (some ⟨g, 0, none⟩), .string what] W fun e w' => e = .returned (.bool false) ∧ StBox w' g s none ∧ W.grownBy w' (some g) := is_st h what sg hsg h0 hs hw
theorem is_yes (what : ByteArray) (sg : List UInt8) {p : Nat} (h : StBox W g s (some p)) (hsg : what.data.toList = sg) (h0 : sg ≠ []) (hs : s.size ≤ 1048576) (hw : what.size ≤ 1048576) (hh : hasAt s p sg = true) :
    Calls Tryz.prog 103 #[.pointer (some ⟨g, 0, none⟩), .string what] W fun e w' => e = .returned (.bool true) ∧ StBox w' g s (some (p + sg.length)) ∧ W.grownBy w' (some g) := by
  have := is_st h what sg hsg h0 hs hw
  simp only [isB, isS, Option.map_some, hh, if_true] at this
  exact this
theorem is_no (what : ByteArray) (sg : List UInt8) {p : Nat} (h : StBox W g s (some p)) (hsg : what.data.toList = sg) (h0 : sg ≠ []) (hs : s.size ≤ 1048576) (hw : what.size ≤ 1048576) (hh : hasAt s p sg = false) :
    Calls Tryz.prog 103 #[.pointer (some ⟨g, 0, none⟩), .string what] W fun e w' => e = .returned (.bool false) ∧ StBox w' g s (some p) ∧ W.grownBy w' (some g) := by
  have := is_st h what sg hsg h0 hs hw
  simp only [isB, isS, Option.map_some, hh, Bool.false_eq_true, if_false] at this
  exact this
/-- A definition's reading, step by step. -/
theorem att_chain {o nm kd : ByteArray} {σ0 : Option Nat} (hnm : ∀ v, σ0.bind (nameO s) = some v → nm = v.1) (hkd : ∀ v, (((σ0.bind (nameO s)).map (·.2)).bind (gapO s)).bind (nameO s) = some v → kd = v.1) :
    σ0.bind (attZ s o) = (((((((σ0.bind (nameO s)).map (·.2)).bind (gapO s)).bind (nameO s)).map (·.2)).bind (gapO s)).bind fun x => (kindZ kd).map fun wd => (wd, x)).bind fun y => (defZ s y.2).map fun dd => (⟨o, nm, y.1, dd.1, dd.2.1⟩, dd.2.2) := by
  cases σ0 with
  | none => rfl
  | some p =>
    simp only [Option.bind_some] at hnm hkd ⊢
    unfold attZ
    cases h1 : nameO s p with
    | none => rfl
    | some n =>
      obtain rfl := hnm n h1
      rw [h1] at hkd
      simp only [Option.map_some, Option.bind_some] at hkd ⊢
      cases h2 : gapO s n.2 with
      | none => rfl
      | some a =>
        rw [h2] at hkd
        simp only [Option.bind_some] at hkd ⊢
        cases h3 : nameO s a with
        | none => rfl
        | some kk =>
          obtain rfl := hkd kk h3
          simp only [Option.map_some, Option.bind_some]
          cases h4 : kindZ kk.1 with
          | none => cases gapO s kk.2 <;> rfl
          | some wd =>
            simp only [Option.bind_some, Option.map_some]
            cases h5 : gapO s kk.2 with
            | none => rfl
            | some b =>
              simp only [Option.bind_some]
              cases defZ s b <;> rfl
set_option maxHeartbeats 4000000 in
set_option maxRecDepth 100000 in
theorem def_go (o : ByteArray) (p q : Nat) (h : Rd B w0 w k g s (some p) d) (hs : s.size ≤ 1048576) (hd : d.atts.length ≤ 1000000) (ho : o.size ≤ 4000) (hq : whiteZ s p = q) (hlt : q < s.size) (h62 : byteAt s q ≠ 62) :
    Calls Tryz.prog 130 #[.pointer (some ⟨k, 0, none⟩), .string o] w fun e w' => e = .returned (.bool (stepO s o (some p)).isSome) ∧ Rd B w0 w' k g s (stepS s o (some p)) (outA d (stepO s o (some p))) := by
  have H0 := mkHidT h
  obtain ⟨ve, va, hb0, _, _⟩ := h.box
  obtain ⟨r0, r1, r2, rf1, rf2⟩ := rdcells hb0
  have hwh := white_st h.st hs
  have hqp : p ≤ q := by rw [← hq]; exact whiteZ_ge s p
  have hstep : stepO s o (some p) = (if p < q then some q else none).bind (attZ s o) ∧ stepS s o (some p) = ((if p < q then some q else none).bind (attZ s o)).map (·.2) := by
    have hno : ¬ hasAt s q [62] = true := by
      rw [has_oneT hlt]; simp only [decide_eq_true_eq]; exact h62
    unfold stepO stepS
    rw [Option.bind_some, Option.bind_some, hq, if_neg hno, if_neg hno]
    by_cases hpq : p < q
    · rw [if_pos hpq, if_neg (by omega), if_neg (by omega)]; exact ⟨rfl, rfl⟩
    · rw [if_neg hpq, if_pos (by omega), if_pos (by omega)]; exact ⟨rfl, rfl⟩
  obtain ⟨O, hOe⟩ : ∃ O, stepO s o (some p) = O := ⟨_, rfl⟩
  obtain ⟨S, hSe⟩ : ∃ S, stepS s o (some p) = S := ⟨_, rfl⟩
  rw [hOe, hSe] at hstep ⊢
  have HSTEP := mkHidT hstep
  clear h hb0 r1 r2 rf1 rf2 hstep hOe hSe
  go_enter Tryz.func130, Tryz.ntmps130
  go_wp2_with fail
  refine hwh.mono ?_
  rintro e w1 ⟨b1, rfl, hs1, hb1, hg1⟩
  have hbe := hb1 p rfl
  have H1 : Hid (Rd B w0 w1 k g s (some q) d) := by rw [← hq]; exact mkHidT (H0.out.step hs1 hg1)
  rw [hq] at hbe
  have HQ := mkHidT hq
  clear hwh hs1 hg1 H0 r0 hb1 hq
  have hok := ok_stAt H1.out.st
  simp only [Option.isSome_some] at hok
  have hen := fun W' hW => end_in H1.out.st.2 (show q < s.size by omega) W' hW
  obtain ⟨c, hcb⟩ : ∃ c, byteAt s q = c := ⟨_, rfl⟩
  have hix : ∀ wx, (Instr.index 9 (.string s) (.int .i64 (q : Int))).run Tryz.prog wx = .ok (.int .u8 c) wx := fun wx => by rw [run_index_byte wx 9 s q hlt Tryz.underlying9, hcb]
  rw [hcb] at h62
  have h62b : (c == 62) = false := by simpa using h62
  obtain ⟨c0, c1, c2, c3, c4, f1, f2, f3, f4⟩ := block0 H1.out.st.2
  clear h62 hcb
  go_wp2_with fail
  go_quiet (first | (go_at_call 68; exact Calls.quiet_of_same (hok _ rfl)) | (go_at_call 88; exact Calls.quiet_of (hen _ rfl)))
  go_upto_region 5 with fail
  go_cut [] (fun wc => ∃ σ0, Rd B w0 wc k g s σ0 d ∧ O = σ0.bind (attZ s o) ∧ S = (σ0.bind (attZ s o)).map (·.2))
  case first =>
    obtain ⟨d1, d2, hbad, hgood⟩ := st_fault (W := w1.drewN nq) (p := q) (st_same H1.out.st rfl)
    have H2 := mkHidT (H1.out.keep (gdrew5 w1 nq none))
    by_cases hpq : p < q
    · rw [decide_eq_true hpq] at hbe
      subst hbe
      go_wp2_with fail
      go_meet
      refine ⟨some q, H2.out.step hgood (gset5 _), ?_⟩
      have := HSTEP.out
      rw [if_pos hpq] at this; exact this
    · rw [decide_eq_false hpq] at hbe
      subst hbe
      go_wp2_with fail
      go_meet
      refine ⟨none, H2.out.step hbad (gset5 _), ?_⟩
      have := HSTEP.out
      rw [if_neg hpq] at this; exact this
  case rest =>
  obtain ⟨σ0, H5', hO, hS⟩ := hcut
  have H5 := mkHidT H5'
  have HO := mkHidT hO
  have HS := mkHidT hS
  clear H5' hO hS H1 hok hen hix c0 c1 c2 c3 c4 f1 f2 f3 f4 h62b HSTEP hbe
  have hname := name_st H5.out.st hs
  go_wp2_with fail
  refine hname.mono ?_
  rintro e w6 ⟨nm, rfl, hs6, hT6, hg6⟩
  have H6a := mkHidT (H5.out.step hs6 hg6)
  have H6 := mkHidT (H6a.out.alloc (.cells (cells5 ⟨o, nm, false, false, ⟨#[]⟩⟩) 53))
  have A6 := mkHidT (AB.make H6a.out ⟨o, nm, false, false, ⟨#[]⟩⟩)
  have HB6 : Hid (B ≤ w6.heap.size) := mkHidT H6a.out.sz
  have HT6 := mkHidT hT6
  clear hname hs6 hg6 hT6 H5 H6a
  have hgap := gap_st H6.out.st hs
  go_wp2_with fail
  refine hgap.mono ?_
  rintro e w7 ⟨rfl, hs7, hg7⟩
  have H7 := mkHidT (H6.out.step hs7 hg7)
  have A7 := mkHidT (A6.out.step H6.out hg7)
  clear hgap hs7 hg7 H6 A6
  have hname := name_st H7.out.st hs
  go_wp2_with fail
  refine hname.mono ?_
  rintro e w8 ⟨kd, rfl, hs8, hT8, hg8⟩
  have H8 := mkHidT (H7.out.step hs8 hg8)
  have A8 := mkHidT (A7.out.step H7.out hg8)
  have HT8 := mkHidT hT8
  clear hname hs8 hg8 hT8 H7 A7
  have hgap := gap_st H8.out.st hs
  go_wp2_with fail
  refine hgap.mono ?_
  rintro e w9 ⟨rfl, hs9, hg9⟩
  have H9 := mkHidT (H8.out.step hs9 hg9)
  have A9 := mkHidT (A8.out.step H8.out hg9)
  clear hgap hs9 hg9 H8 A8
  obtain ⟨σ9, hσ9⟩ : ∃ σ9, (((((σ0.bind (nameO s)).map (·.2)).bind (gapO s)).bind (nameO s)).map (·.2)).bind (gapO s) = σ9 := ⟨_, rfl⟩
  rw [hσ9] at H9
  have HS9 := mkHidT hσ9
  clear hσ9
  rename_i K1 hK1 K0 hK0
  refine hK0 _ _ (hK1 _ _ ?_)
  refine wp_seq_k fun K hK => ?_
  clear hK0 hK1 K0 K1
  go_cut [] (fun wc => ∃ (wd : Bool) (σ10 : Option Nat), Rd B w0 wc k g s σ10 d ∧ AB wc k g w6.heap.size ⟨o, nm, wd, false, ⟨#[]⟩⟩ ∧ σ10 = (σ9.bind fun x => (kindZ kd).map fun _ => x) ∧ ∀ b, kindZ kd = some b → wd = b)
  case first =>
    obtain ⟨a0, a1, a2, a3, a4, af2, af3, af4⟩ := acell A9.out.box
    cases hk : kindZ kd with
    | some wd =>
      have hks : (wd = false ∧ kd = ⟨#[67, 68, 65, 84, 65]⟩) ∨ (wd = true ∧ (kd = ⟨#[73, 68]⟩ ∨ kd = ⟨#[73, 68, 82, 69, 70]⟩ ∨ kd = ⟨#[78, 77, 84, 79, 75, 69, 78]⟩ ∨ kd = ⟨#[78, 77, 84, 79, 75, 69, 78, 83]⟩)) := by
        unfold kindZ at hk
        split at hk
        · rename_i e; exact .inl ⟨(Option.some.inj hk).symm, Plain25.ba_ext e⟩
        split at hk
        · rename_i e
          exact .inr ⟨(Option.some.inj hk).symm, e.imp (fun e => Plain25.ba_ext e) (fun e => e.imp (fun e => Plain25.ba_ext e) (fun e => e.imp (fun e => Plain25.ba_ext e) (fun e => Plain25.ba_ext e)))⟩
        · cases hk
      have HK := mkHidT hk
      clear hk
      rcases hks with ⟨rfl, rfl⟩ | ⟨rfl, rfl | rfl | rfl | rfl⟩
      · go_wp2_with fail
        go_meet
        refine ⟨false, σ9, H9.out, A9.out, ?_, fun b hb => Option.some.inj hb⟩
        cases σ9 <;> rfl
      all_goals
        obtain ⟨H10, A10⟩ := H9.out.astore A9.out HB6.out (store_words ⟨o, nm, false, false, ⟨#[]⟩⟩)
        go_wp2_with fail
        go_meet
        refine ⟨true, σ9, H10, A10, ?_, fun b hb => Option.some.inj hb⟩
        cases σ9 <;> rfl
    | none =>
      have hks : kd.toList ≠ [67, 68, 65, 84, 65] ∧ kd.toList ≠ [73, 68] ∧ kd.toList ≠ [73, 68, 82, 69, 70] ∧ kd.toList ≠ [78, 77, 84, 79, 75, 69, 78] ∧ kd.toList ≠ [78, 77, 84, 79, 75, 69, 78, 83] := by
        unfold kindZ at hk
        split at hk
        · cases hk
        · rename_i e1
          split at hk
          · cases hk
          · rename_i e2
            rw [ByteArray.toList_eq]
            exact ⟨e1, fun e => e2 (.inl e), fun e => e2 (.inr (.inl e)), fun e => e2 (.inr (.inr (.inl e))), fun e => e2 (.inr (.inr (.inr e)))⟩
      have k1 : (kd.toList == [67, 68, 65, 84, 65]) = false := beq_eq_false_iff_ne.2 hks.1
      have k2 : (kd.toList == [73, 68]) = false := beq_eq_false_iff_ne.2 hks.2.1
      have k3 : (kd.toList == [73, 68, 82, 69, 70]) = false := beq_eq_false_iff_ne.2 hks.2.2.1
      have k4 : (kd.toList == [78, 77, 84, 79, 75, 69, 78]) = false := beq_eq_false_iff_ne.2 hks.2.2.2.1
      have k5 : (kd.toList == [78, 77, 84, 79, 75, 69, 78, 83]) = false := beq_eq_false_iff_ne.2 hks.2.2.2.2
      have HK := mkHidT hk
      clear hk hks
      obtain ⟨bd, d1, d2, hbad⟩ := st_setbad H9.out.st
      have H10 := mkHidT (H9.out.step hbad (gset5 _))
      have A10 := mkHidT (A9.out.step H9.out (gset5 (j := 3) (.bool true)))
      clear hbad
      go_wp2_with fail
      go_meet
      exact ⟨false, none, H10.out, A10.out, by rw [HK.out]; cases σ9 <;> rfl, fun b hb => (by rw [HK.out] at hb; cases hb)⟩
  case rest =>
  obtain ⟨wd, σ10, H10', A10', hσ10, hwd⟩ := hcut
  have H10 := mkHidT H10'
  have A10 := mkHidT A10'
  have HS10 := mkHidT hσ10
  have HWD := mkHidT hwd
  clear H10' A10' hσ10 hwd H9 A9
  refine hK _ _ ?_
  clear hK K
  refine wp_seq_k fun K hK => ?_
  go_cut [] (fun wc => ∃ (a2 : At5) (σ11 : Option Nat), Rd B w0 wc k g s σ11 d ∧ AB wc k g w6.heap.size a2 ∧ a2.of = o ∧ a2.nm = nm ∧ σ11 = (σ10.bind (defZ s)).map (·.2.2) ∧ ∀ r, σ10.bind (defZ s) = some r → a2 = ⟨o, nm, wd, r.1, r.2.1⟩)
  case first =>
    cases σ10 with
    | none =>
      have hi1 := is_none ⟨#[35, 82, 69, 81, 85, 73, 82, 69, 68]⟩ reqL H10.out.st rfl (by simp [reqL]) hs (by decide)
      go_wp2_with fail
      refine hi1.mono ?_
      rintro e v1 ⟨rfl, hs1, hg1⟩
      have H11 := mkHidT (H10.out.step hs1 hg1)
      have A11 := mkHidT (A10.out.step H10.out hg1)
      clear hi1 hs1 hg1 H10 A10
      have hi1 := is_none ⟨#[35, 73, 77, 80, 76, 73, 69, 68]⟩ impL H11.out.st rfl (by simp [impL]) hs (by decide)
      go_wp2_with fail
      refine hi1.mono ?_
      rintro e v2 ⟨rfl, hs1, hg1⟩
      have H12 := mkHidT (H11.out.step hs1 hg1)
      have A12 := mkHidT (A11.out.step H11.out hg1)
      clear hi1 hs1 hg1 H11 A11
      have hi1 := is_none ⟨#[35, 70, 73, 88, 69, 68]⟩ fixL H12.out.st rfl (by simp [fixL]) hs (by decide)
      go_wp2_with fail
      refine hi1.mono ?_
      rintro e v3 ⟨rfl, hs1, hg1⟩
      have H13 := mkHidT (H12.out.step hs1 hg1)
      have A13 := mkHidT (A12.out.step H12.out hg1)
      clear hi1 hs1 hg1 H12 A12
      obtain ⟨a0, a1, a2, a3, a4, af2, af3, af4⟩ := acell A13.out.box
      obtain ⟨H14', A14'⟩ := H13.out.astore A13.out HB6.out (store_has ⟨o, nm, wd, false, ⟨#[]⟩⟩)
      have H14 := mkHidT H14'
      have A14 := mkHidT A14'
      clear H14' A14' H13 A13
      have hva := value_st H14.out.st hs
      go_wp2_with fail
      refine hva.mono ?_
      rintro e v4 ⟨t4, rfl, hs1, _, hg1⟩
      have H15 := mkHidT (H14.out.step hs1 hg1)
      have A15 := mkHidT (A14.out.step H14.out hg1)
      clear hva hs1 hg1 H14 A14 a0 a1 a2 a3 a4 af2 af3 af4
      obtain ⟨a0, a1, a2, a3, a4, af2, af3, af4⟩ := acell A15.out.box
      obtain ⟨H16', A16'⟩ := H15.out.astore A15.out HB6.out (store_val _ t4)
      have H16 := mkHidT H16'
      have A16 := mkHidT A16'
      clear H16' A16'
      go_wp2_with fail
      go_meet
      exact ⟨_, none, H16.out, A16.out, rfl, rfl, rfl, fun r hr => (by cases hr)⟩
    | some b =>
      cases hreq : hasAt s b reqL with
      | true =>
        have HD : Hid (defZ s b = some (false, ⟨#[]⟩, b + 9)) := mkHidT (by unfold defZ; rw [if_pos hreq])
        have hi1 := is_yes ⟨#[35, 82, 69, 81, 85, 73, 82, 69, 68]⟩ reqL H10.out.st rfl (by simp [reqL]) hs (by decide) hreq
        go_wp2_with fail
        refine hi1.mono ?_
        rintro e v1 ⟨rfl, hs1, hg1⟩
        have H11 := mkHidT (H10.out.step hs1 hg1)
        have A11 := mkHidT (A10.out.step H10.out hg1)
        clear hi1 hs1 hg1 H10 A10
        clear hreq
        go_wp2_with fail
        go_meet
        exact ⟨_, _, H11.out, A11.out, rfl, rfl, by rw [Option.bind_some, HD.out]; rfl, fun r hr => (by rw [Option.bind_some, HD.out] at hr; cases hr; rfl)⟩
      | false =>
        have hi1 := is_no ⟨#[35, 82, 69, 81, 85, 73, 82, 69, 68]⟩ reqL H10.out.st rfl (by simp [reqL]) hs (by decide) hreq
        go_wp2_with fail
        refine hi1.mono ?_
        rintro e v1 ⟨rfl, hs1, hg1⟩
        have H11 := mkHidT (H10.out.step hs1 hg1)
        have A11 := mkHidT (A10.out.step H10.out hg1)
        clear hi1 hs1 hg1 H10 A10
        cases himp : hasAt s b impL with
        | true =>
          have HD : Hid (defZ s b = some (false, ⟨#[]⟩, b + 8)) := mkHidT (by unfold defZ; rw [if_neg (by rw [hreq]; simp), if_pos himp])
          have hi1 := is_yes ⟨#[35, 73, 77, 80, 76, 73, 69, 68]⟩ impL H11.out.st rfl (by simp [impL]) hs (by decide) himp
          go_wp2_with fail
          refine hi1.mono ?_
          rintro e v2 ⟨rfl, hs1, hg1⟩
          have H12 := mkHidT (H11.out.step hs1 hg1)
          have A12 := mkHidT (A11.out.step H11.out hg1)
          clear hi1 hs1 hg1 H11 A11
          clear hreq himp
          go_wp2_with fail
          go_meet
          exact ⟨_, _, H12.out, A12.out, rfl, rfl, by rw [Option.bind_some, HD.out]; rfl, fun r hr => (by rw [Option.bind_some, HD.out] at hr; cases hr; rfl)⟩
        | false =>
          have hi1 := is_no ⟨#[35, 73, 77, 80, 76, 73, 69, 68]⟩ impL H11.out.st rfl (by simp [impL]) hs (by decide) himp
          go_wp2_with fail
          refine hi1.mono ?_
          rintro e v2 ⟨rfl, hs1, hg1⟩
          have H12 := mkHidT (H11.out.step hs1 hg1)
          have A12 := mkHidT (A11.out.step H11.out hg1)
          clear hi1 hs1 hg1 H11 A11
          cases hfix : hasAt s b fixL with
          | true =>
            have HD : Hid (defZ s b = (gapO s (b + 6)).bind fun a => (valO s a).bind fun v => some (true, v.1, v.2)) := mkHidT (by unfold defZ; rw [if_neg (by rw [hreq]; simp), if_neg (by rw [himp]; simp), if_pos hfix])
            have hi1 := is_yes ⟨#[35, 70, 73, 88, 69, 68]⟩ fixL H12.out.st rfl (by simp [fixL]) hs (by decide) hfix
            go_wp2_with fail
            refine hi1.mono ?_
            rintro e v3 ⟨rfl, hs1, hg1⟩
            have H13a := mkHidT (H12.out.step hs1 hg1)
            have A13a := mkHidT (A12.out.step H12.out hg1)
            clear hi1 hs1 hg1 H12 A12
            clear hreq himp hfix
            have hgap := gap_st H13a.out.st hs
            go_wp2_with fail
            refine hgap.mono ?_
            rintro e v5 ⟨rfl, hs5, hg5⟩
            have H13 := mkHidT (H13a.out.step hs5 hg5)
            have A13 := mkHidT (A13a.out.step H13a.out hg5)
            clear hgap hs5 hg5 H13a A13a
            obtain ⟨a0, a1, a2, a3, a4, af2, af3, af4⟩ := acell A13.out.box
            obtain ⟨H14', A14'⟩ := H13.out.astore A13.out HB6.out (store_has ⟨o, nm, wd, false, ⟨#[]⟩⟩)
            have H14 := mkHidT H14'
            have A14 := mkHidT A14'
            clear H14' A14' H13 A13
            have hva := value_st H14.out.st hs
            go_wp2_with fail
            refine hva.mono ?_
            rintro e v4 ⟨t4, rfl, hs1, ht4, hg1⟩
            have H15 := mkHidT (H14.out.step hs1 hg1)
            have A15 := mkHidT (A14.out.step H14.out hg1)
            have HT4 := mkHidT ht4
            clear hva hs1 hg1 ht4 H14 A14 a0 a1 a2 a3 a4 af2 af3 af4
            obtain ⟨a0, a1, a2, a3, a4, af2, af3, af4⟩ := acell A15.out.box
            obtain ⟨H16', A16'⟩ := H15.out.astore A15.out HB6.out (store_val _ t4)
            have H16 := mkHidT H16'
            have A16 := mkHidT A16'
            clear H16' A16'
            go_wp2_with fail
            go_meet
            refine ⟨_, _, H16.out, A16.out, rfl, rfl, ?_, fun r hr => ?_⟩
            · rw [show (some b).bind (defZ s) = defZ s b from rfl, HD.out]
              show Option.map _ ((gapO s (b + 6)).bind (valO s)) = _
              cases gapO s (b + 6) with
              | none => rfl
              | some x => simp only [Option.bind_some]; cases valO s x <;> rfl
            · rw [Option.bind_some, HD.out] at hr
              obtain ⟨x, hx, hr⟩ := Option.bind_eq_some_iff.1 hr
              obtain ⟨y, hy, hr⟩ := Option.bind_eq_some_iff.1 hr
              cases hr
              have := HT4.out y (by show ((gapO s (b + 6)).bind (valO s)) = some y; rw [hx]; exact hy)
              rw [this]
          | false =>
            have HD : Hid (defZ s b = (valO s b).bind fun v => some (true, v.1, v.2)) := mkHidT (by unfold defZ; rw [if_neg (by rw [hreq]; simp), if_neg (by rw [himp]; simp), if_neg (by rw [hfix]; simp)])
            have hi1 := is_no ⟨#[35, 70, 73, 88, 69, 68]⟩ fixL H12.out.st rfl (by simp [fixL]) hs (by decide) hfix
            go_wp2_with fail
            refine hi1.mono ?_
            rintro e v3 ⟨rfl, hs1, hg1⟩
            have H13 := mkHidT (H12.out.step hs1 hg1)
            have A13 := mkHidT (A12.out.step H12.out hg1)
            clear hi1 hs1 hg1 H12 A12
            clear hreq himp hfix
            obtain ⟨a0, a1, a2, a3, a4, af2, af3, af4⟩ := acell A13.out.box
            obtain ⟨H14', A14'⟩ := H13.out.astore A13.out HB6.out (store_has ⟨o, nm, wd, false, ⟨#[]⟩⟩)
            have H14 := mkHidT H14'
            have A14 := mkHidT A14'
            clear H14' A14' H13 A13
            have hva := value_st H14.out.st hs
            go_wp2_with fail
            refine hva.mono ?_
            rintro e v4 ⟨t4, rfl, hs1, ht4, hg1⟩
            have H15 := mkHidT (H14.out.step hs1 hg1)
            have A15 := mkHidT (A14.out.step H14.out hg1)
            have HT4 := mkHidT ht4
            clear hva hs1 hg1 ht4 H14 A14 a0 a1 a2 a3 a4 af2 af3 af4
            obtain ⟨a0, a1, a2, a3, a4, af2, af3, af4⟩ := acell A15.out.box
            obtain ⟨H16', A16'⟩ := H15.out.astore A15.out HB6.out (store_val _ t4)
            have H16 := mkHidT H16'
            have A16 := mkHidT A16'
            clear H16' A16'
            go_wp2_with fail
            go_meet
            refine ⟨_, _, H16.out, A16.out, rfl, rfl, ?_, fun r hr => ?_⟩
            · rw [show (some b).bind (defZ s) = defZ s b from rfl, HD.out]
              show Option.map _ (valO s b) = _
              cases valO s b <;> rfl
            · rw [Option.bind_some, HD.out] at hr
              obtain ⟨y, hy, hr⟩ := Option.bind_eq_some_iff.1 hr
              cases hr
              have := HT4.out y (by rw [Option.bind_some]; exact hy)
              rw [this]
  case rest =>
  obtain ⟨a2, σ11, H11', A11', hof, hnm, hσ11, ha2⟩ := hcut
  have H11 := mkHidT H11'
  have A11 := mkHidT A11'
  have HS11 := mkHidT hσ11
  have HA2 := mkHidT ha2
  have HOF := mkHidT hof
  have HNM := mkHidT hnm
  clear H11' A11' hσ11 ha2 H10 A10 hof hnm
  refine hK _ _ ?_
  clear hK K
  have hchain := att_chain (s := s) (o := o) HT6.out HT8.out
  rw [HS9.out] at hchain
  have HCH := mkHidT hchain
  clear hchain
  have hok := ok_stAt H11.out.st
  cases σ11 with
  | none =>
    simp only [Option.isSome_none] at hok
    have hN : O = none := by
      rw [HO.out, HCH.out]
      have h1 := HS11.out.symm
      rw [Option.map_eq_none_iff, HS10.out] at h1
      cases σ9 with
      | none => rfl
      | some x =>
        cases hk : kindZ kd with
        | none => rfl
        | some wd' =>
          rw [hk] at h1
          simp only [Option.bind_some, Option.map_some] at h1 ⊢
          rw [h1]; rfl
    have hNS : S = none := by rw [HS.out, ← HO.out, hN]; rfl
    subst hN hNS
    go_wp2_with fail
    go_quiet ((go_at_call 68; exact Calls.quiet_of_same (hok _ rfl)))
    go_wp2_with (go_at_call 68; refine (hok _ (by rfl)).mono ?_; rintro e wk ⟨rfl, rfl⟩)
    go_ret
    exact ⟨rfl, H11.out.keep (gdrew5 _ nq none)⟩
  | some r =>
    simp only [Option.isSome_some] at hok
    obtain ⟨dd, hdd, hdr⟩ := Option.map_eq_some_iff.1 HS11.out.symm
    have hae := HA2.out dd hdd
    obtain ⟨y, hy, hyd⟩ := Option.bind_eq_some_iff.1 hdd
    rw [HS10.out] at hy
    obtain ⟨x, hx, hxk⟩ := Option.bind_eq_some_iff.1 hy
    obtain ⟨wd', hk, hxy⟩ := Option.map_eq_some_iff.1 hxk
    have hwd' := HWD.out wd' hk
    have hOs : O = some (a2, r) := by
      rw [HO.out, HCH.out, hx, Option.bind_some, hk, Option.map_some, Option.bind_some]
      simp only
      rw [hxy, hyd, Option.map_some, hae, hwd', hdr]
    have hSs : S = some r := by rw [HS.out, ← HO.out, hOs]; rfl
    have hns : 1 ≤ nm.size ∧ nm.size ≤ 4000 := by
      cases hR1 : σ0.bind (nameO s) with
      | none => have h9 := HS9.out; rw [hR1, hx] at h9; cases h9
      | some v =>
        rw [HT6.out v hR1]
        obtain ⟨p1, _, hp1⟩ := Option.bind_eq_some_iff.1 hR1
        obtain ⟨h1, h2, _⟩ := name_some hp1
        have hsp := nm_spec h1
        rw [h2]; unfold nmT
        rw [ext_size (by simp only [nmP] at hsp; omega)]; omega
    subst hOs hSs
    clear hdd hdr hae hy hyd hx hxk hk hxy hwd'
    obtain ⟨ve', va', hbx, ho1, ho2⟩ := H11.out.box
    obtain ⟨ae, ce, rfl, _⟩ := ents_of_row ho1
    obtain ⟨aa, ca, rfl, hAtts⟩ := atts_of_row ho2
    obtain ⟨r0, r1, r2, rf1, rf2⟩ := rdcells hbx
    obtain ⟨x0, x1, x2, x3, x4, xf2, xf3, xf4⟩ := acell A11.out.box
    rw [← HNM.out] at hns
    have hkl := H11.out.kl
    have hatt := fun (W : World) (hW : W.heap = wc.heap) => specAttOf_any W ae aa d.ents.length ce d.atts.length ca d.atts o a2.nm rfl (by omega) (hAtts.keep (w' := W) (fun j _ => by rw [hW]))
    have HO2 := mkHidT ho2
    clear hAtts ho1 ho2
    obtain ⟨R, hR⟩ : ∃ R, attR d.atts o a2.nm = R := ⟨_, rfl⟩
    simp only [hR] at hatt
    have hfl := fun wx => fldA R wx
    cases hfd : (d.atts.find? (isAtt o a2.nm)).isSome with
    | true =>
      have hR1 := attR_some ho hns.2 hns.1 hfd
      rw [hR] at hR1
      have HFD := mkHidT hfd
      clear hfd hR
      go_wp2_with fail
      go_region_held3 (fun W => W.cell? ⟨k, 1, none⟩ = some (.slice ae d.ents.length ce) ∧ W.cell? ⟨k, 2, none⟩ = some (.slice aa d.atts.length ca) ∧ W.cell? ⟨w6.heap.size, 1, none⟩ = some (.string a2.nm)) (go_keep) (first | (go_at_call 68; refine (hok _ (by rfl)).mono ?_; rintro e wk ⟨rfl, rfl⟩) | (go_at_call 20; refine (hatt _ (by rfl)).mono ?_; rintro e wz ⟨rfl, hgz⟩; have hbz := rdcells (w := wz) (by unfold RdBox; rw [hgz.block k hkl (by simp)]; exact hbx); have hez := acell (W := wz) (a := a2) (by unfold ABox; rw [hgz.block w6.heap.size (Array.getElem?_eq_some_iff.1 A11.out.box).1 (by simp)]; exact A11.out.box); obtain ⟨_, r1, r2, _, _⟩ := hbz; obtain ⟨x0, x1, _⟩ := hez))
      have hgz' : wc.grownBy wz none := ⟨hgz.os, hgz.tape, hgz.output, hgz.size, hgz.block⟩
      have H12 := mkHidT (H11.out.keep hgz')
      have hokz := ok_st H12.out.st
      simp only [Option.isSome_some] at hokz
      clear hgz hgz'
      go_wp2_with (go_at_call 68; refine hokz.mono ?_; rintro e wk ⟨rfl, hwk⟩; obtain rfl := hwk.symm)
      go_ret
      refine ⟨rfl, ?_⟩
      show Rd B w0 _ k g s (some r) (addD d (.inr a2))
      rw [show addD d (.inr a2) = d from if_pos (by rw [HOF.out]; exact HFD.out)]
      exact H12.out
    | false =>
      have hR1 := attR_none ho hns.2 hfd
      rw [hR] at hR1
      have HFD := mkHidT hfd
      clear hfd hR
      rw [hR1] at hatt hfl
      simp only [zAtt] at hatt hfl
      go_wp2_with fail
      go_region_held3 (fun W => W.cell? ⟨k, 1, none⟩ = some (.slice ae d.ents.length ce) ∧ W.cell? ⟨k, 2, none⟩ = some (.slice aa d.atts.length ca) ∧ W.cell? ⟨w6.heap.size, 1, none⟩ = some (.string a2.nm)) (go_keep) (first | (go_at_call 68; refine (hok _ (by rfl)).mono ?_; rintro e wk ⟨rfl, rfl⟩) | (go_at_call 20; refine (hatt _ (by rfl)).mono ?_; rintro e wz ⟨rfl, hgz⟩; have hbz := rdcells (w := wz) (by unfold RdBox; rw [hgz.block k hkl (by simp)]; exact hbx); have hez := acell (W := wz) (a := a2) (by unfold ABox; rw [hgz.block w6.heap.size (Array.getElem?_eq_some_iff.1 A11.out.box).1 (by simp)]; exact A11.out.box); obtain ⟨_, r1, r2, _, _⟩ := hbz; obtain ⟨x0, x1, _⟩ := hez))
      have hgz' : wc.grownBy wz none := ⟨hgz.os, hgz.tape, hgz.output, hgz.size, hgz.block⟩
      have H12 := mkHidT (H11.out.keep hgz')
      have A12 := mkHidT (A11.out.grow H11.out hgz')
      have hbz2 : RdBox wz k g (.slice ae d.ents.length ce) (.slice aa d.atts.length ca) := by unfold RdBox; rw [hgz'.block k hkl (by simp)]; exact hbx
      have ho2z := own_grown HO2.out hgz'
      have hklz := H12.out.kl
      obtain ⟨_, q1, q2, qf1, qf2⟩ := rdcells hbz2
      obtain ⟨y0, y1, y2, y3, y4, _, _, _⟩ := acell A12.out.box
      have hElz : w6.heap.size < wz.heap.size := (Array.getElem?_eq_some_iff.1 A12.out.box).1
      have q2a : (wz.alloc (.cells #[.string a2.of, .string a2.nm, .bool a2.words, .bool a2.has, .string a2.val] 53)).cell? ⟨k, 2, none⟩ = some (.slice aa d.atts.length ca) := (World.cell?_of_block (a := ⟨k, 2, none⟩) (heap_alloc_old _ _ hklz)).trans q2
      clear hgz hgz' hatt hok hbx H11 A11
      obtain ⟨i0, hi0, hz0, hz1, hz2⟩ := info_parts infoA
      have HRD := mkHidT (fun (wa : World) (v' : Value) (hoa : wa.ownsRow B 53 5 v' (d.atts.length + 1) (tcells d.atts ++ [.string a2.of, .string a2.nm, .bool a2.words, .bool a2.has, .string a2.val])) (hga : ((wz.drewN 1).alloc (.cells #[.string a2.of, .string a2.nm, .bool a2.words, .bool a2.has, .string a2.val] 53)).grownBy wa (Value.slice aa d.atts.length ca).ownBlock) => H12.out.appA hbz2 1 (.cells #[.string a2.of, .string a2.nm, .bool a2.words, .bool a2.has, .string a2.val] 53) (e := a2) hoa hga)
      have HROW : Hid ((wz.drew.alloc (.cells #[.string a2.of, .string a2.nm, .bool a2.words, .bool a2.has, .string a2.val] 53)).ownsRow B 53 5 (.slice aa d.atts.length ca) d.atts.length (tcells d.atts)) := mkHidT (ho2z.drew.alloc _)
      have hBz := H12.out.sz
      clear hbz2 ho2z H12 A12
      go_wp2_with fail
      go_region_law (refine step_append_own rfl (.tmp 106) (.tmp 108) 37 rfl B 53 i0 (.agg #[.string ByteArray.empty, .string ByteArray.empty, .bool false, .bool false, .string ByteArray.empty]) 5 56 Tryz.underlying37 hi0 hz0 hz1 hz2 rfl (by decide) (.slice aa d.atts.length ca) d.atts.length (tcells d.atts) (by simp [Act.eval]) HROW.out ⟨wz.heap.size, 0, none⟩ 1 1 [.string a2.of, .string a2.nm, .bool a2.words, .bool a2.has, .string a2.val] (by simp [Act.eval]) rfl (cell_five_new wz.drew _ _ _ _ _ _ wz.heap.size rfl) (by intro u hu; simp at hu; rcases hu with rfl | rfl | rfl | rfl | rfl <;> rfl) (by unfold maxLen; omega) (by omega) (by simp; omega) ?_; intro v' wa hoa hga; obtain ⟨hwa, gg, cap, rfl, hrd⟩ := HRD.out wa v' hoa hga; obtain ⟨r0, r1, r2, rf1, rf2⟩ := rdcells hwa; replace hrd := mkHidT hrd; replace hwa := mkHidT hwa; clear hoa hga)
      all_goals
        have hokz := ok_stAt hrd.out.st
        simp only [Option.isSome_some] at hokz
        go_wp2_with (go_at_call 68; refine (hokz _ (by rfl)).mono ?_; rintro e wk ⟨rfl, rfl⟩)
        go_ret
        refine ⟨rfl, ?_⟩
        show Rd B w0 _ k g s (some r) (addD d (.inr a2))
        rw [show addD d (.inr a2) = ⟨d.ents, d.atts ++ [a2]⟩ from if_neg (by rw [HOF.out, HFD.out]; simp)]
        exact hrd.out
theorem def_any (o : ByteArray) (h : Rd B w0 w k g s σ d) (hs : s.size ≤ 1048576) (hd : d.atts.length ≤ 1000000) (ho : o.size ≤ 4000) :
    Calls Tryz.prog 130 #[.pointer (some ⟨k, 0, none⟩), .string o] w fun e w' => e = .returned (.bool (stepO s o σ).isSome) ∧ Rd B w0 w' k g s (stepS s o σ) (outA d (stepO s o σ)) := by
  cases σ with
  | none => exact def_stop o h hs (fun p hp => by cases hp)
  | some p =>
    by_cases hc : s.size ≤ whiteZ s p ∨ byteAt s (whiteZ s p) = 62
    · exact def_stop o h hs (fun q hq => by cases hq; exact hc)
    · exact def_go o p _ h hs hd ho rfl (by omega) (fun e => hc (.inr e))
end Go.Proofs.YteebdfcegndaoaaGreatDoor
