import Derived.Test.YtocnfoeaikiecaaGreatDoorMsX
set_option maxRecDepth 100000
set_option maxHeartbeats 16000000
set_option linter.unusedVariables false
namespace Go.Proofs.YtocnfoeaikiecaaGreatDoor
open Go.RowKit Strs2 Lists Plain9 Plain10 PlainR PlainN PlainW PlainX Ents Tryz
theorem infoSl : (prog.info? 31).map (fun i => (i.zero, i.size, i.bytes)) = some (some (.slice none 0 0), 1, 24) := by kernel_rfl
def ScOk (st : List Scp) : Prop := ∀ x ∈ st, x.2.length ≤ 60 ∧ ∀ d ∈ x.2, aZv d = true
theorem ScOk.len {st : List Scp} (h : ScOk st) (hl : st.length ≤ 30) : (aKu st).length ≤ 1801 := by
 have : ∀ (l : List Scp), (∀ x ∈ l, x.2.length ≤ 60) → ((l.map (·.2)).flatten).length ≤ 60 * l.length := fun l => by
  induction l with
  | nil => intro _; simp
  | cons x l ih =>
   intro hx
   have h1 := ih (fun y hy => hx y (List.mem_cons_of_mem _ hy))
   have h2 := hx x List.mem_cons_self
   simp only [List.map_cons, List.flatten_cons, List.length_append, List.length_cons]
   omega
 have := this st (fun x hx => (h x hx).1)
 unfold aKu
 rw [List.length_cons]
 omega
theorem cZf {st : List Scp} (h : ScOk st) (e : Ev) : bQq (aKu st) e = aZo (st.map (·.2)) e := by
 unfold aKu
 exact cJw _ (fun s hs d hd => by
  obtain ⟨x, hx, rfl⟩ := List.mem_map.1 hs
  exact (h x hx).2 d hd) e
theorem dZ2 (w : World) : Lp w (((((w.alloc (.cells #[.slice none 0 0, .int .i64 0, .int .i64 0] 27)).alloc (.cells #[.slice none 0 0, .int .i64 0, .int .i64 0] 27)).alloc (.cells #[.string xmlB, .string xmlS] 54)).alloc (.cells #[.slice (some ⟨w.heap.size + 1 + 1, 0, none⟩) 1 1] 31)).alloc (.cells #[] 30)) w.heap.size (w.heap.size + 1) [] [] [.slice (some ⟨w.heap.size + 1 + 1, 0, none⟩) 1 1] (.slice (some ⟨w.heap.size + 1 + 1 + 1, 0, none⟩) 1 1) (.slice (some ⟨w.heap.size + 1 + 1 + 1 + 1, 0, none⟩) 0 0) [] [] (.slice none 0 0) := by
 obtain ⟨W1, h1⟩ := nmE (w.alloc (.cells #[.slice none 0 0, .int .i64 0, .int .i64 0] 27))
 obtain ⟨W2, h2⟩ := nmE (W1.alloc (.cells #[.slice none 0 0, .int .i64 0, .int .i64 0] 27))
 obtain ⟨W3, h3⟩ := nmE (W2.alloc (.cells #[.string xmlB, .string xmlS] 54))
 obtain ⟨W4, h4⟩ := nmE (W3.alloc (.cells #[.slice (some ⟨w.heap.size + 1 + 1, 0, none⟩) 1 1] 31))
 have z1 : W1.heap.size = w.heap.size + 1 := by rw [← h1]; simp
 have z2 : W2.heap.size = w.heap.size + 1 + 1 := by rw [← h2]; simp [z1]
 have z3 : W3.heap.size = w.heap.size + 1 + 1 + 1 := by rw [← h3]; simp [z2]
 have z4 : W4.heap.size = w.heap.size + 1 + 1 + 1 + 1 := by rw [← h4]; simp [z3]
 rw [h1, h2, h3, h4, ← z4, ← z3]
 have b1 : Below w.heap.size w W1 := by rw [← h1]; exact bAl
 have b2 : Below W1.heap.size W1 W2 := by rw [← h2]; exact bAl
 have b3 : Below W2.heap.size W2 W3 := by rw [← h3]; exact bAl
 have b4 : Below W3.heap.size W3 W4 := by rw [← h4]; exact bAl
 have b5 : Below W4.heap.size W4 (W4.alloc (.cells #[] 30)) := bAl
 have k1 : W1.heap[w.heap.size]? = some (.cells #[.slice none 0 0, .int .i64 0, .int .i64 0] 27) := by rw [← h1]; exact heap_alloc_new _ _
 have k2 : W2.heap[w.heap.size + 1]? = some (.cells #[.slice none 0 0, .int .i64 0, .int .i64 0] 27) := by rw [← h2, ← z1]; exact heap_alloc_new _ _
 have o3 : W3.ownsRow w.heap.size 54 2 (.slice (some ⟨W2.heap.size, 0, none⟩) 1 1) 1 [.string xmlB, .string xmlS] := by rw [← h3]; exact World.ownsRow_lit (size := 2) W2 #[.string xmlB, .string xmlS] 1 (by omega) (by decide) rfl
 have o4 : W4.ownsRow w.heap.size 31 1 (.slice (some ⟨W3.heap.size, 0, none⟩) 1 1) 1 [.slice (some ⟨w.heap.size + 1 + 1, 0, none⟩) 1 1] := by rw [← h4]; exact World.ownsRow_lit (size := 1) W3 #[.slice (some ⟨w.heap.size + 1 + 1, 0, none⟩) 1 1] 1 (by omega) (by decide) rfl
 have b45 : Below W3.heap.size W3 (W4.alloc (.cells #[] 30)) := b4.trans (b5.mono b4.size)
 have b35 : Below W2.heap.size W2 (W4.alloc (.cells #[] 30)) := b3.trans (b45.mono b3.size)
 have b25 : Below W1.heap.size W1 (W4.alloc (.cells #[] 30)) := b2.trans (b35.mono b2.size)
 refine ⟨(b25.block _ (by omega)).trans k1, (b35.block _ (by omega)).trans k2, by omega, Nat.le_refl _, by omega, aQ4 o4 (fun k hk => b5.block _ (o4.lt k hk).2), rfl, ?_, ?_, aJc.nil _ _, (fun p hp => by cases hp), b1.trans (b25.mono b1.size)⟩
 · intro k hk
   have hk0 : k = 0 := by simp at hk; omega
   subst hk0
   have : (W4.alloc (.cells #[] 30)).ownsRow w.heap.size 54 2 (.slice (some ⟨W2.heap.size, 0, none⟩) 1 1) 1 [.string xmlB, .string xmlS] := aQ4 o3 (fun k hk => b45.block _ (o3.lt k hk).2)
   rw [z2] at this
   exact this
 · exact World.ownsRow_lit (size := 4) W4 #[] 0 (by omega) (by decide) rfl
theorem bWi {m : Nat} (h : m ≤ 1000) : wrap64 (m : Int) = (m : Int) := by unfold wrap64; omega
theorem bQx {m : Nat} (h : m ≤ 1000) : m ≤ maxLen := by unfold maxLen; omega
theorem bX7 {m b : Nat} (h : m ≤ 1000) (hb : b ≤ 1000) : m * b ≤ 140737488355328 := Nat.le_trans (Nat.mul_le_mul h hb) (by decide)
theorem dQz {m : Nat} (h : m ≤ 100000) : IntKind.i64.wrap (m : Int) = (m : Int) := aXt (by omega) (by omega)
theorem dX6 {sc : List (List BB)} {e : Ev} {n : Nd} (h : aZo sc e = .ok n) : n.decls.length ≤ e.attrs.length := by
 unfold aZo at h
 split at h
 · cases h
 · split at h
   · cases h
   · split at h
     · cases h
     · split at h
       · cases h
       · cases h
         exact List.length_filterMap_le _ _
theorem cQg {m : Nat} (h : m ≤ 1000) : IntKind.i64.wrap (m : Int) = (m : Int) := aXt (by omega) (by omega)
theorem bJ8 : ∀ (l : List Nm) (j : Nat) (hj : j < l.length) (r : Nat), r < 4 → (aQg l)[j * 4 + r]? = (nmC (l[j]'hj))[r]?
 | [], j, hj, _, _ => by simp at hj
 | x :: l, 0, _, r, hr => by
  have e : aQg (x :: l) = nmC x ++ aQg l := by simp [aQg]
  rw [e, Nat.zero_mul, Nat.zero_add, List.getElem?_append_left (by simp [nmC]; omega)]
  rfl
 | x :: l, j + 1, hj, r, hr => by
  have e : aQg (x :: l) = nmC x ++ aQg l := by simp [aQg]
  have ih := bJ8 l j (by simpa using hj) r hr
  rw [e, List.getElem?_append_right (by simp [nmC]; omega)]
  have : (j + 1) * 4 + r - (nmC x).length = j * 4 + r := by simp [nmC]; omega
  rw [this, ih]
  rfl
section
variable {w W wa : World} {rb ob : Nat} {st : List Scp} {ns : List Nm} {svs : List Value} {sv nv : Value} {nds : List Nd} {vs : List (Value × Value)} {dv : Value}
theorem Lp.scopeK (h : Lp w W rb ob st ns svs sv nv nds vs dv) (o : Obj) (hg : (W.alloc o).grownBy wa sv.ownBlock) : (∀ {b : Nat} {t : TypeId} {size : Nat} {v : Value} {m : Nat} {xs : List Value}, W.ownsRow b t size v m xs → t ≠ 31 → wa.ownsRow b t size v m xs) ∧ (∀ {k : Nat} {c : Array Value} {s : TypeId} {f : Nat × Nat}, W.heap[k]? = some (.cells c s f) → s ≠ 31 → wa.heap[k]? = W.heap[k]?) ∧ Below w.heap.size w wa := by
 have h1 := h.below ((Below.refl _ _).alloc (Nat.le_refl _) o)
 have hoff : ∀ {k : Nat} {c : Array Value} {s : TypeId} {f : Nat × Nat}, W.heap[k]? = some (.cells c s f) → s ≠ 31 → wa.heap[k]? = W.heap[k]? := fun hc hs => by
  have hlt := (gLt hc)
  rw [← heap_alloc_old W o hlt] at hc ⊢
  exact (aXe hg).block _ (gLt hc) (fun hm => by
   obtain ⟨cs, h2⟩ := aQ3 h1.sc (by rw [Option.mem_toList] at hm; exact hm)
   exact aQ5 hc h2 hs rfl)
 exact ⟨fun hr ht => aQ4 hr (fun k hkk => by
  obtain ⟨cs, hc⟩ := aQ3 hr hkk
  exact hoff hc ht), hoff, h1.bel.grown hg h1.bel.size (fun k hk => (h1.sc.lt k hk).1)⟩
theorem dXp {B n : Nat} {xs : List Value} (hr : W.ownsRow B 30 4 nv n xs) (o : Obj) (hg : (W.alloc o).grownBy wa nv.ownBlock) {k : Nat} {c : Array Value} {s : TypeId} {f : Nat × Nat} (hc : W.heap[k]? = some (.cells c s f)) (hs : s ≠ 30) : wa.heap[k]? = some (.cells c s f) := by
 have hlt := (gLt hc)
 have hc1 := hc
 rw [← heap_alloc_old W o hlt] at hc1
 refine ((aXe hg).block _ (gLt hc1) (fun hm => ?_)).trans hc1
 obtain ⟨cs, h2⟩ := aQ3 (hr.alloc o) (by rw [Option.mem_toList] at hm; exact hm)
 exact aQ5 hc1 h2 hs rfl
end
theorem dJ1 {B : Nat} {w W : World} {rb : Nat} (h : Below B w W) (hr : B ≤ rb) (a b c d e f g i : Value) : Below B w ((((((((W.setCell ⟨rb, 0, none⟩ a).setCell ⟨rb, 1, none⟩ b).setCell ⟨rb, 2, none⟩ c).setCell ⟨rb, 3, none⟩ d).setCell ⟨rb, 4, none⟩ e).setCell ⟨rb, 5, none⟩ f).setCell ⟨rb, 6, none⟩ g).setCell ⟨rb, 7, none⟩ i) :=
 (((((((h.setCell hr _).setCell hr _).setCell hr _).setCell hr _).setCell hr _).setCell hr _).setCell hr _).setCell hr _
theorem dJ9 {W : World} {k : Nat} {n : Nd} {dv av : Value} {t : TypeId} (hh : W.heap[k]? = some (.cells (aQb n dv av) t)) : (W.frozen? ⟨k, 0, none⟩ = false ∧ W.frozen? ⟨k, 1, none⟩ = false ∧ W.frozen? ⟨k, 2, none⟩ = false ∧ W.frozen? ⟨k, 3, none⟩ = false) ∧ W.frozen? ⟨k, 4, none⟩ = false ∧ W.frozen? ⟨k, 5, none⟩ = false ∧ W.frozen? ⟨k, 6, none⟩ = false ∧ W.frozen? ⟨k, 7, none⟩ = false := by simp [World.frozen?, hh]
theorem cWm {W : World} {k : Nat} {n n' : Nd} {dv av dv' av' : Value} {t : TypeId} (hh : W.heap[k]? = some (.cells (aQb n dv av) t)) : ((((((((W.setCell ⟨k, 0, none⟩ (.int .i64 n'.kind)).setCell ⟨k, 1, none⟩ (.string n'.name.pre)).setCell ⟨k, 2, none⟩ (.string n'.name.loc)).setCell ⟨k, 3, none⟩ (.string n'.name.spc)).setCell ⟨k, 4, none⟩ (.string n'.name.val)).setCell ⟨k, 5, none⟩ dv').setCell ⟨k, 6, none⟩ av').setCell ⟨k, 7, none⟩ (.string n'.text)).heap[k]? = some (.cells (aQb n' dv' av') t) := by
 rw [heap_setCell_same _ _ _ _ _ _ (heap_setCell_same _ _ _ _ _ _ (heap_setCell_same _ _ _ _ _ _ (heap_setCell_same _ _ _ _ _ _ (heap_setCell_same _ _ _ _ _ _ (heap_setCell_same _ _ _ _ _ _ (heap_setCell_same _ _ _ _ _ _ (heap_setCell_same _ _ _ _ _ _ hh)))))))]
 simp [aQb]
theorem bKw (w : World) (a : Option Addr) (c : Nat) (evs : List Ev) (h : EvIn w a evs) (hrow : aXr evs [] 0 = true) (h401 : evs.length ≤ 400) (hnm : ∀ e ∈ evs, e.name.size ≤ 1048576) (hna : ∀ e ∈ evs, ∀ a ∈ e.attrs, a.1.size ≤ 1048576) :
 Calls prog 20 #[.slice a evs.length c] w (cJs w (aW6 evs 0 [] [])) := by
 obtain ⟨R, hR⟩ := nmE (aW6 evs 0 [] [])
 rw [hR]
 have HR := aQ0 hR
 have HRW := aQ0 hrow
 have HI := aQ0 h
 have HNM := aQ0 hnm
 have HNA := aQ0 hna
 obtain ⟨i0, hi, hz0, hz1, hz2⟩ := info_parts infoSl
 obtain ⟨j0, hj, hy0, hy1, hy2⟩ := info_parts bJn
 obtain ⟨k0, hk0, hx0, hx1, hx2⟩ := info_parts cJ9
 clear hR h hrow hnm hna
 go_enter func20, ntmps20
 go_wp2_with fail
 have L0 := aQ0 (dZ2 w)
 go_loopw [4, 5, 6] (fun sv nv iv wr => ∃ (st : List Scp) (svs : List Value) (nds : List Nd) (vs : List (Value × Value)) (dv : Value) (op : List ByteArray) (el : Nat), nds.length ≤ evs.length ∧ iv = .int .i64 nds.length ∧ R = aW6 (evs.drop nds.length) nds.length st nds ∧ aXr (evs.drop nds.length) op el = true ∧ op.length ≤ 30 ∧ st.length = op.length ∧ ScOk st ∧ Lp w wr w.heap.size (w.heap.size + 1) st (st.map (·.1)) svs sv nv nds vs dv) (fun _ _ iv _ => evs.length - (intOf iv).toNat)
 case atStart => exact ⟨[], _, [], [], _, [], 0, Nat.zero_le _, rfl, HR.out.symm, HRW.out, by decide, rfl, (fun x hx => by cases hx), L0.out⟩
 case round =>
  obtain ⟨st, svs, nds, vs, dv, op, el, hk, rfl, hsp, hrg, hop, hso, hsk, hL⟩ := hrel
  have HL := aQ0 hL
  have HSK := aQ0 hsk
  obtain ⟨sa, sc, rfl, hsa⟩ := aQr hL.sc
  have hnmr := hL.nm
  rw [List.length_map] at hnmr
  obtain ⟨na, nc, rfl, hna'⟩ := aQr hnmr
  obtain ⟨da, dc, rfl, hda⟩ := aQr hL.nd.row
  clear hL hsk L0 hnmr
  by_cases hlt : nds.length < evs.length
  · obtain ⟨b, off, ha, hc⟩ := HI.out.below HL.out.bel
    obtain rfl := ha (by omega)
    obtain ⟨c0, c1, c2, bo, bc, c3, hEn⟩ := hc nds.length hlt
    have hnmE := HNM.out _ (List.getElem_mem hlt)
    have hnaE := HNA.out _ (List.getElem_mem hlt)
    have hdrop : evs.drop nds.length = (evs[nds.length]'hlt) :: evs.drop (nds.length + 1) := List.drop_eq_getElem_cons hlt
    rw [hdrop] at hsp hrg
    obtain ⟨E, hEe⟩ := nmE (evs[nds.length]'hlt)
    rw [hEe] at c0 c1 c2 c3 hEn hnmE hnaE hsp hrg
    obtain ⟨op', el', hrg', hop', hol', hat, hne⟩ := cW4 hrg hop
    obtain ⟨kd, hkd⟩ := nmE (E.kind)
    rw [hkd] at c0
    have HKD := aQ0 hkd
    have HSP := aQ0 hsp
    have HRG := aQ0 hrg'
    have HOL := aQ0 hol'
    have HOP := aQ0 hop'
    have HSO := aQ0 hso
    have HEN := aQ0 hEn
    have HAT := aQ0 hat
    have HNE := aQ0 hne
    clear hc ha hEe hsp hrg hrg' hol' hop' hdrop hkd hEn hat hne hso
    go_wp2_with fail
    go_cut [7] (fun s7 wc => s7 = .pointer (some ⟨wr.heap.size, 0, none⟩) ∧ Below wr.heap.size wr wc ∧ wc.heap[wr.heap.size]? = some (.cells (aQb ⟨kd, zNm, [], [], E.text⟩ (.slice none 0 0) (.slice none 0 0)) 34))
    case first =>
     have q0 := aQ2 (heap_alloc_old wr (.cells #[.int .i64 0, .string ⟨#[]⟩, .string ⟨#[]⟩, .string ⟨#[]⟩, .string ⟨#[]⟩, .slice none 0 0, .slice none 0 0, .string ⟨#[]⟩] 34) (aQk c0)) c0
     have q2 := aQ2 (heap_alloc_old wr (.cells #[.int .i64 0, .string ⟨#[]⟩, .string ⟨#[]⟩, .string ⟨#[]⟩, .string ⟨#[]⟩, .slice none 0 0, .slice none 0 0, .string ⟨#[]⟩] 34) (aQk c2)) c2
     go_region_law fail
     all_goals
      go_wp2_with fail
      go_meet
      exact ⟨rfl, (bAl).drew, heap_alloc_new _ _⟩
    case rest =>
     obtain ⟨rfl, hbc, hbx⟩ := hcut
     have BC := aQ0 hbc
     have LC := aQ0 (HL.out.below hbc)
     have BX := aQ0 hbx
     have e0 := aQ2 (hbc.block _ (aQk c0)) c0
     have e1 := aQ2 (hbc.block _ (aQk c1)) c1
     have e2 := aQ2 (hbc.block _ (aQk c2)) c2
     have e3 := aQ2 (hbc.block _ (aQk c3)) c3
     have HEC := aQ0 (HEN.out.grown (Ents.below_grown hbc))
     have hCC := aQ0 (fun k (hk : k ∈ vs.flatMap fun p => blk p.1 ++ blk p.2) => HL.out.nd.lt hk)
     have hnv : Hid (∀ k, Value.ownBlock (.slice na st.length nc) = some k → k < wr.heap.size) := aQ0 (fun k hk => (HL.out.nm.lt k hk).2)
     have hbl : b < wr.heap.size := aQk c1
     clear hbc hbx c0 c1 c2 c3 HEN
     by_cases k1 : kd = 1
     · subst k1
       have hat := HAT.out HKD.out
       have hsl := HL.out.scl
       obtain ⟨sg, rfl⟩ := hsa (by omega)
       have hstl : st.length < svs.length := by omega
       have hent := LC.out.ent st.length hstl
       rw [List.take_of_length_le (Nat.le_refl _)] at hent
       obtain ⟨ga, gc, hvv, hgg⟩ := aQr hent
       have hfl0 : 0 < (aKu st).length := by unfold aKu; simp
       obtain ⟨gr, rfl⟩ := hgg hfl0
       have hscell : wc.cell? ⟨sg, st.length, none⟩ = some (.slice (some ⟨gr, 0, none⟩) (aKu st).length gc) := by
        have := LC.out.sc.cellAt st.length (by omega)
        rw [this, List.getElem?_eq_getElem hstl, hvv]
       rw [hvv] at hent
       have hflb : (aKu st).length ≤ 1801 := HSK.out.len (by have h1 := HSO.out; omega)
       have hW11 : Below wc.heap.size wc (wc.alloc (.cells #[] 54)) := bAl
       have d0 := aQ2 (hW11.block _ (aQk e0)) e0
       have d1 := aQ2 (hW11.block _ (aQk e1)) e1
       have d2 := aQ2 (hW11.block _ (aQk e2)) e2
       have d3 := aQ2 (hW11.block _ (aQk e3)) e3
       have d4 := aQ2 (hW11.block _ (aQk hscell)) hscell
       have hst := bYi (wc.alloc (.cells #[] 54)).drew E bo bc ((HEC.out.grown (Ents.below_grown hW11)).grown (Ents.below_grown ((Below.refl _ _).drew))) hat hnmE hnaE ⟨gr, 0, none⟩ gc (aKu st) (by
        obtain ⟨x, y, hxy, hE⟩ := aWh hent
        rw [← (Value.slice.inj hxy).1] at hE
        exact (hE.grown (Ents.below_grown hW11)).grown (Ents.below_grown ((Below.refl _ _).drew))) (by omega) hfl0
       rw [HKD.out] at hst
       have hentS := fun a w => cJq func32 (by kernel_rfl) rfl a w
       have BX5 : Hid (∀ w5, Below (wc.alloc (.cells #[] 54)).drew.heap.size (wc.alloc (.cells #[] 54)).drew w5 → w5.heap[wr.heap.size]? = some (.cells (aQb ⟨1, zNm, [], [], E.text⟩ (.slice none 0 0) (.slice none 0 0)) 34) ∧ Below wr.heap.size wr w5) := aQ0 (fun w5 hb => by
        have hb2 : Below wc.heap.size wc w5 := (hW11.drew).trans (hb.mono (by simp))
        exact ⟨(hb2.block _ (gLt BX.out)).trans BX.out, BC.out.trans (hb2.mono BC.out.size)⟩)
       have hsz2 : wr.heap.size ≤ (wc.alloc (.cells #[] 54)).drew.heap.size := by have := BC.out.size; simp; omega
       have HSZ2 := aQ0 hsz2
       have HSTL := aQ0 hsl
       have hstb : st.length ≤ 30 := by have h1 := HSO.out; omega
       rw [hsl]
       have hr1 := cQg (m := st.length) (by omega)
       have hb1 : (st.length : Int) < (st.length : Int) + 1 := by omega
       clear hat hsl hent hscell hfl0 hW11 hsz2 hvv hgg hstl hsa hna' hda
       cases hX : aZo (st.map (·.2)) E with
       | error cd =>
        have hM : bQq (aKu st) E = .error cd := (cZf HSK.out E).trans hX
        have hnz : aVn st E = (st, .error cd) := by rw [bQw HKD.out, hX]
        obtain rfl : R = ⟨[], nds.length, cd⟩ := by rw [HSP.out]; exact cKu hnz
        have hcd : (cd != 0) = true := by simp [dJ7 hnz]
        clear hX hnz
        unfold cQc at hst
        rw [hM] at hst
        simp only at hst
        go_wp2_with fail
        go_cut [8, 9] (fun s8 s9 wd => s8 = .int .i64 cd ∧ (∃ x y z, s9 = .slice x y z) ∧ Below wr.heap.size wr wd ∧ ∃ (n : Nd) (dv av : Value), wd.heap[wr.heap.size]? = some (.cells (aQb n dv av) 34))
        case first =>
         go_region_law (refine bXb rfl 32 #[.tmp 44, .tmp 50] #[37, 31] rfl #[.agg #[.int .i64 1, .string E.name, .string E.text, .slice bo E.attrs.length bc], .slice (some ⟨gr, 0, none⟩) (aKu st).length gc] (by simp [Act.eval]) hentS hst ?_ (fun c w' hP => by (obtain ⟨_, _, _, _, _, _, h, _⟩ := hP; cases h)) (fun w' hP => by (obtain ⟨_, _, _, _, _, _, h, _⟩ := hP; cases h)); intro v5 w5 hP; obtain ⟨n5, dv5, av5, ra5, rn5, rc5, hv5, ⟨x1, x2, x3, rfl⟩, ⟨y1, y2, y3, rfl⟩, hb5⟩ := hP; cases hv5; obtain ⟨bx5, bl5⟩ := BX5.out _ hb5; have HX5 := aQ0 bx5; have BL5 := aQ0 bl5; obtain ⟨a0, a1, a2, a3, a4, a5, a6, a7⟩ := aZy bx5; obtain ⟨⟨f0, f1, f2, f3⟩, f4, f5, f6, f7⟩ := dJ9 bx5; clear hb5 bx5 bl5; unfold aQb)
         all_goals
          go_wp2_with fail
          go_meet
          refine ⟨rfl, ⟨_, _, _, rfl⟩, ?_, n5, _, _, cWm HX5.out⟩
          exact dJ1 BL5.out (Nat.le_refl _) _ _ _ _ _ _ _ _
        case rest =>
         obtain ⟨rfl, ⟨x, y, z, rfl⟩, hbd, n9, dv9, av9, hbx9⟩ := hcut
         clear hr1
         have LD := aQ0 (HL.out.below hbd)
         have HB9 := aQ0 hbx9
         have hscr := LD.out.sc
         rw [HSTL.out] at hscr
         have SCR := aQ0 hscr
         have honeA : ∀ u ∈ [Value.slice x y z], u.oneCell' = true := by intro u hu; simp at hu; subst hu; rfl
         have honeB : ∀ u ∈ [Value.string n9.name.pre, .string n9.name.loc, .string n9.name.spc, .string n9.name.val], u.oneCell' = true := by intro u hu; simp at hu; rcases hu with rfl | rfl | rfl | rfl <;> rfl
         have hb30 : st.length + 1 + 1 ≤ 1000 := by omega
         have hb31 : st.length + 1 ≤ 1000 := by omega
         have hb32 : nds.length ≤ 100000 := by omega
         have hmzA : ∀ o, w.heap.size ≤ (wc.alloc o).heap.size := fun o => Nat.le_trans LD.out.bel.size (by simp)
         have hmyA := bX7 (b := 24) hb30 (by decide)
         have hmyB := bX7 (b := 64) hb31 (by decide)
         have hmxA := bQx hb30
         have hmxB := bQx hb31
         have hwk := dQz hb32
         clear hb30 hb31 hb32
         clear hbd hbx9 hscr hst hentS d0 d1 d2 d3 d4 e0 e1 e2 e3
         go_wp2_with (first | (at_builtin; refine wpList_append_own _ rfl _ _ 80 rfl w.heap.size 31 i0 (.slice none 0 0) 1 24 underlying80 hi hz0 hz1 hz2 rfl (by decide) _ _ _ rfl (SCR.out.alloc _) ⟨_, 0, none⟩ 1 1 [.slice x y z] rfl rfl (cell_one_new _ _ _) honeA hmxA hmyA (hmzA _) ?_; intro v' wa hown' hgrow _; obtain ⟨xo, xc, rfl, _⟩ := aQr hown'; obtain ⟨hrw, hof, hbw⟩ := LD.out.scopeK _ hgrow; have hnmr := hrw LD.out.nm (by decide); rw [List.length_map] at hnmr; have NMA := aQ0 hnmr; have RSA := aQ0 ((hof LD.out.res (by decide)).trans LD.out.res); have BWA := aQ0 hbw; obtain ⟨a0, a1, a2, a3, a4, a5, a6, a7⟩ := aZy ((hof HB9.out (by decide)).trans HB9.out); have hmzB : ∀ o, w.heap.size ≤ (wa.alloc o).heap.size := (fun o => Nat.le_trans BWA.out.size (by simp)); clear hown' hgrow hrw hof hbw hnmr) | (at_builtin; refine wpList_append_own _ rfl _ _ 32 rfl w.heap.size 30 j0 (.agg #[.string ⟨#[]⟩, .string ⟨#[]⟩, .string ⟨#[]⟩, .string ⟨#[]⟩]) 4 64 underlying32 hj hy0 hy1 hy2 rfl (by decide) _ _ _ rfl (aYe NMA.out) ⟨_, 0, none⟩ 1 1 [.string n9.name.pre, .string n9.name.loc, .string n9.name.spc, .string n9.name.val] rfl rfl (aVr _ _ _) honeB hmxB hmyB (hmzB _) ?_; intro v'' wb hown2 hgrow2 _; obtain ⟨yo, yc, rfl, _⟩ := aQr hown2; have RSB := aQ0 (dXp NMA.out _ hgrow2 RSA.out (by decide)); have BWB := aQ0 ((BWA.out.alloc BWA.out.size _).grown hgrow2 (Nat.le_trans BWA.out.size (by simp)) (fun k hk => (NMA.out.lt k hk).1)); obtain ⟨r0, r1, r2, f0, f1, f2⟩ := aQz RSB.out; clear hown2 hgrow2))
         refine bodyPost_ret (v := .agg #[.slice none 0 0, .int .i64 nds.length, .int .i64 cd]) (by simp [results, results20, go_sem, r0, r1, r2]) rfl ⟨_, [], rfl, aJc.nil _ _, ?_⟩
         exact aQt (aQt (aQt BWB.out _ _) _ _) _ _
       | ok nd =>
        have hM : bQq (aKu st) E = .ok nd := (cZf HSK.out E).trans hX
        have hnz : aVn st E = (st ++ [(nd.name, nd.decls)], .ok nd) := by rw [bQw HKD.out, hX]
        have HR1 := aQ0 (HSP.out.trans (cKs hnz))
        have HSL := aQ0 (show (st ++ [(nd.name, nd.decls)]).length = op'.length by
         rw [List.length_append, HOL.out, if_pos HKD.out, ← HSO.out]; rfl)
        have HSK2 : Hid (ScOk (st ++ [(nd.name, nd.decls)])) := aQ0 (fun x hx => by
         rcases List.mem_append.1 hx with hx | hx
         · exact HSK.out x hx
         · rw [List.mem_singleton] at hx
           subst hx
           refine ⟨?_, cQq hX⟩
           have := HAT.out HKD.out
           exact Nat.le_trans (dX6 hX) this)
        clear hX hnz
        unfold cQc at hst
        rw [hM] at hst
        simp only at hst
        go_wp2_with fail
        go_cut [8, 9] (fun s8 s9 wd => s8 = .int .i64 0 ∧ ∃ (x : Option Addr) (y z : Nat) (dv av : Value), s9 = .slice x y z ∧ Below wr.heap.size wr wd ∧ wd.heap[wr.heap.size]? = some (.cells (aQb nd dv av) 34) ∧ wd.ownsRow wr.heap.size 54 2 dv nd.decls.length (aQc nd.decls) ∧ wd.ownsRow wr.heap.size 30 4 av nd.attrs.length (aQg nd.attrs) ∧ wd.ownsRow wr.heap.size 54 2 (.slice x y z) (aKu st ++ nd.decls).length (aQc (aKu st ++ nd.decls)))
        case first =>
         go_region_law (refine bXb rfl 32 #[.tmp 44, .tmp 50] #[37, 31] rfl #[.agg #[.int .i64 1, .string E.name, .string E.text, .slice bo E.attrs.length bc], .slice (some ⟨gr, 0, none⟩) (aKu st).length gc] (by simp [Act.eval]) hentS hst ?_ (fun c w' hP => by (obtain ⟨_, _, _, h, _⟩ := hP; cases h)) (fun w' hP => by (obtain ⟨_, _, _, h, _⟩ := hP; cases h)); intro v5 w5 hP; obtain ⟨dv5, av5, rv5, hv5, hd5, ha5, hr5, hb5⟩ := hP; cases hv5; obtain ⟨x1, x3, rfl, _⟩ := aQr hd5; obtain ⟨y1, y3, rfl, _⟩ := aQr ha5; obtain ⟨u1, u3, rfl, _⟩ := aQr hr5; obtain ⟨bx5, bl5⟩ := BX5.out _ hb5; have HX5 := aQ0 bx5; have BL5 := aQ0 bl5; have D5 := aQ0 (aXw hd5 HSZ2.out); have A5 := aQ0 (aXw ha5 HSZ2.out); have R5 := aQ0 (aXw hr5 HSZ2.out); obtain ⟨a0, a1, a2, a3, a4, a5, a6, a7⟩ := aZy bx5; obtain ⟨⟨f0, f1, f2, f3⟩, f4, f5, f6, f7⟩ := dJ9 bx5; clear hb5 bx5 bl5 hd5 ha5 hr5; unfold aQb)
         all_goals
          go_wp2_with fail
          go_meet
          refine ⟨rfl, _, _, _, _, _, rfl, ?_, cWm HX5.out, ?_, ?_, ?_⟩
          · exact dJ1 BL5.out (Nat.le_refl _) _ _ _ _ _ _ _ _
          · exact (cVg HX5.out _ _ _ _ _ _ _ _) D5.out (by decide)
          · exact (cVg HX5.out _ _ _ _ _ _ _ _) A5.out (by decide)
          · rw [← List.length_append]
            exact (cVg HX5.out _ _ _ _ _ _ _ _) R5.out (by decide)
        case rest =>
         obtain ⟨rfl, x, y, z, dv9, av9, rfl, hbd, hbx9, hd9, ha9, hr9⟩ := hcut
         clear hr1
         have LD := aQ0 (HL.out.below hbd)
         have HB9 := aQ0 hbx9
         have D9 := aQ0 hd9
         have A9 := aQ0 ha9
         have R9 := aQ0 (aXw hr9 HL.out.bel.size)
         obtain ⟨x1, x3, rfl, _⟩ := aQr hd9
         obtain ⟨y1, y3, rfl, _⟩ := aQr ha9
         have hscr := LD.out.sc
         rw [HSTL.out] at hscr
         have SCR := aQ0 hscr
         have honeA : ∀ u ∈ [Value.slice x y z], u.oneCell' = true := by intro u hu; simp at hu; subst hu; rfl
         have honeB : ∀ u ∈ [Value.string nd.name.pre, .string nd.name.loc, .string nd.name.spc, .string nd.name.val], u.oneCell' = true := by intro u hu; simp at hu; rcases hu with rfl | rfl | rfl | rfl <;> rfl
         have hone : ∀ u ∈ [Value.int .i64 nd.kind, .string nd.name.pre, .string nd.name.loc, .string nd.name.spc, .string nd.name.val, .slice x1 nd.decls.length x3, .slice y1 nd.attrs.length y3, .string nd.text], u.oneCell' = true := by intro u hu; simp at hu; rcases hu with rfl | rfl | rfl | rfl | rfl | rfl | rfl | rfl <;> rfl
         have hb30 : st.length + 1 + 1 ≤ 1000 := by omega
         have hb31 : st.length + 1 ≤ 1000 := by omega
         have hb32 : nds.length + 1 ≤ 1000 := by omega
         have hmzA : ∀ o, w.heap.size ≤ (wc.alloc o).heap.size := fun o => Nat.le_trans LD.out.bel.size (by simp)
         have ST1 := aQ0 (fun (wa : World) (v' : Value) (o : Obj) (ho : wa.ownsRow w.heap.size 31 1 v' (st.length + 1 + 1) (svs ++ [.slice x y z])) (hg : (wc.alloc o).grownBy wa (Value.ownBlock (.slice (some ⟨sg, 0, none⟩) (st.length + 1) sc))) => (show Lp w wa w.heap.size (w.heap.size + 1) (st ++ [(nd.name, nd.decls)]) (st.map (·.1)) (svs ++ [.slice x y z]) v' (.slice na st.length nc) nds vs (.slice da nds.length dc) ∧ wa.ownsRow wr.heap.size 54 2 (.slice x1 nd.decls.length x3) nd.decls.length (aQc nd.decls) ∧ wa.ownsRow wr.heap.size 30 4 (.slice y1 nd.attrs.length y3) nd.attrs.length (aQg nd.attrs) ∧ wa.heap[wr.heap.size]? = some (.cells (aQb nd (.slice x1 nd.decls.length x3) (.slice y1 nd.attrs.length y3)) 34) from by
          obtain ⟨l1, l2, l3⟩ := LD.out.scope o (x := .slice x y z) nd.name R9.out (by rw [HSTL.out]; exact ho) hg
          exact ⟨l1, l2 D9.out (by decide), l2 A9.out (by decide), (l3 HB9.out (by decide)).trans HB9.out⟩))
         have ST2 := aQ0 (fun (wa wb : World) (sv' v'' : Value) (o : Obj) (la : Lp w wa w.heap.size (w.heap.size + 1) (st ++ [(nd.name, nd.decls)]) (st.map (·.1)) (svs ++ [.slice x y z]) sv' (.slice na st.length nc) nds vs (.slice da nds.length dc)) (hd : wa.ownsRow wr.heap.size 54 2 (.slice x1 nd.decls.length x3) nd.decls.length (aQc nd.decls)) (ha : wa.ownsRow wr.heap.size 30 4 (.slice y1 nd.attrs.length y3) nd.attrs.length (aQg nd.attrs)) (hx : wa.heap[wr.heap.size]? = some (.cells (aQb nd (.slice x1 nd.decls.length x3) (.slice y1 nd.attrs.length y3)) 34)) (ho : wb.ownsRow w.heap.size 30 4 v'' (st.length + 1) (aQg (st.map (·.1)) ++ nmC nd.name)) (hg : (wa.alloc o).grownBy wb (Value.ownBlock (.slice na st.length nc))) (hat : v''.ownBlock = Value.ownBlock (.slice na st.length nc) ∨ v''.ownBlock = some (wa.alloc o).heap.size) => (show Lp w wb w.heap.size (w.heap.size + 1) (st ++ [(nd.name, nd.decls)]) (st.map (·.1) ++ [nd.name]) (svs ++ [.slice x y z]) sv' v'' nds vs (.slice da nds.length dc) ∧ wb.ownsRow wr.heap.size 54 2 (.slice x1 nd.decls.length x3) nd.decls.length (aQc nd.decls) ∧ wb.ownsRow wr.heap.size 30 4 (.slice y1 nd.attrs.length y3) nd.attrs.length (aQg nd.attrs) ∧ wb.heap[wr.heap.size]? = some (.cells (aQb nd (.slice x1 nd.decls.length x3) (.slice y1 nd.attrs.length y3)) 34) ∧ (∀ k, Value.ownBlock (.slice y1 nd.attrs.length y3) = some k → v''.ownBlock ≠ some k) from by
          obtain ⟨l1, l2, l3, l4⟩ := la.name o nd.name (by rw [List.length_map]; exact ho) hg hat
          have hlo : ∀ {t : TypeId} {sz : Nat} {v : Value} {n : Nat} {xs : List Value}, wa.ownsRow wr.heap.size t sz v n xs → ∀ k, v.ownBlock = some k → Value.ownBlock (.slice na st.length nc) ≠ some k := fun hr k hk he => by
           have h1 := hnv.out k he
           have h2 := (hr.lt k hk).1
           omega
          refine ⟨l1, l2 hd (hlo hd), l2 ha (hlo ha), (l3 hx (fun he => ?_)).trans hx, fun k hk => l4 k (ha.lt k hk).2 (hlo ha k hk)⟩
          have := hnv.out _ he
          omega))
         have hmyA := bX7 (b := 24) hb30 (by decide)
         have hmyB := bX7 (b := 64) hb31 (by decide)
         have hmy := bX7 (b := 136) hb32 (by decide)
         have hmxA := bQx hb30
         have hmxB := bQx hb31
         have hmx := bQx hb32
         clear hbd hbx9 hscr hst hentS d0 d1 d2 d3 d4 e0 e1 e2 e3 hd9 ha9 hr9 hb30 hb31 hb32
         go_wp2_with (first | (at_builtin; refine wpList_append_own _ rfl _ _ 80 rfl w.heap.size 31 i0 (.slice none 0 0) 1 24 underlying80 hi hz0 hz1 hz2 rfl (by decide) _ _ _ rfl (SCR.out.alloc _) ⟨_, 0, none⟩ 1 1 [.slice x y z] rfl rfl (cell_one_new _ _ _) honeA hmxA hmyA (hmzA _) ?_; intro v' wa hown' hgrow _; obtain ⟨xo, xc, rfl, _⟩ := aQr hown'; obtain ⟨la', da', aa', xa'⟩ := ST1.out wa _ _ hown' hgrow; have LA := aQ0 la'; have DA := aQ0 da'; have AA := aQ0 aa'; have XA := aQ0 xa'; have hnmr := la'.nm; rw [List.length_map] at hnmr; have NMA := aQ0 hnmr; obtain ⟨a0, a1, a2, a3, a4, a5, a6, a7⟩ := aZy xa'; have hmzB : ∀ o, w.heap.size ≤ (wa.alloc o).heap.size := (fun o => Nat.le_trans LA.out.bel.size (by simp)); clear hown' hgrow la' da' aa' xa' hnmr) | (at_builtin; refine wpList_append_own_at _ rfl _ _ 32 rfl w.heap.size 30 j0 (.agg #[.string ⟨#[]⟩, .string ⟨#[]⟩, .string ⟨#[]⟩, .string ⟨#[]⟩]) 4 64 underlying32 hj hy0 hy1 hy2 rfl (by decide) _ _ _ rfl (aYe NMA.out) ⟨_, 0, none⟩ 1 1 [.string nd.name.pre, .string nd.name.loc, .string nd.name.spc, .string nd.name.val] rfl rfl (aVr _ _ _) honeB hmxB hmyB (hmzB _) ?_; intro v'' wb hown2 hgrow2 _ hat2; obtain ⟨yo, yc, rfl, _⟩ := aQr hown2; obtain ⟨lb', db', ab', xb', sb'⟩ := ST2.out wa wb _ _ _ LA.out DA.out AA.out XA.out hown2 hgrow2 hat2; have LB := aQ0 lb'; have DB := aQ0 db'; have AB := aQ0 ab'; have XB := aQ0 xb'; have SB := aQ0 sb'; clear a0 a1 a2 a3 a4 a5 a6 a7; obtain ⟨a0, a1, a2, a3, a4, a5, a6, a7⟩ := aZy xb'; obtain ⟨q0, q1, q2, _, _, _⟩ := aQz lb'.out; have hmz : ∀ o, w.heap.size ≤ (wb.alloc o).heap.size := (fun o => Nat.le_trans LB.out.bel.size (by simp)); clear hown2 hgrow2 hat2 lb' db' ab' xb' sb') | (at_builtin; refine wpList_append_own _ rfl _ _ 25 rfl w.heap.size 34 k0 (.agg zNdC) 8 136 underlying25 hk0 hx0 hx1 hx2 rfl (by decide) _ _ _ rfl (LB.out.nd.row.alloc _) ⟨_, 0, none⟩ 1 1 [.int .i64 nd.kind, .string nd.name.pre, .string nd.name.loc, .string nd.name.spc, .string nd.name.val, .slice x1 nd.decls.length x3, .slice y1 nd.attrs.length y3, .string nd.text] rfl rfl (aVr _ _ _) hone hmx hmy (hmz _) ?_; intro v3 wn hown3 hgrow3 _; obtain ⟨zo, zc, rfl, _⟩ := aQr hown3; obtain ⟨LN', p0, p1⟩ := LB.out.node (n := nd) (nd := .slice x1 nd.decls.length x3) (na := .slice y1 nd.attrs.length y3) HL.out.bel.size hCC.out DB.out AB.out SB.out _ hown3 hgrow3; have LN := aQ0 LN'; clear hown3 hgrow3 LN'))
         go_roundw
         case rel => exact ⟨st ++ [(nd.name, nd.decls)], svs ++ [.slice x y z], nds ++ [nd], _, _, op', el', by rw [List.length_append]; simp; omega, by rw [List.length_append]; go_num, by rw [List.length_append]; exact HR1.out, by rw [List.length_append]; exact HRG.out, HOP.out, HSL.out, HSK2.out, by rw [List.map_append]; exact LN.out⟩
         case measure => simp [intOf]; omega
     · by_cases k2 : kd = 2
       · subst k2
         obtain ⟨m, hm⟩ : ∃ m, st.length = m + 1 := ⟨st.length - 1, by have h1 := HNE.out HKD.out; have h2 := HSO.out; omega⟩
         obtain ⟨ng, rfl⟩ := hna' (by omega)
         have hsl := HL.out.scl
         obtain ⟨sg, rfl⟩ := hsa (by omega)
         have hml : m < st.length := by omega
         have hmm : m < (st.map (·.1)).length := by rw [List.length_map]; omega
         obtain ⟨X, hX⟩ := nmE ((st[m]'hml).1)
         have hlast : (st.getD (st.length - 1) (zNm, [])).1 = X := by
          rw [List.getD_eq_getElem?_getD, List.getElem?_eq_getElem (by omega), ← hX]
          simp only [Option.getD_some, hm, Nat.add_sub_cancel]
         have hnr := LC.out.nm
         rw [List.length_map] at hnr
         have hcells : ∀ r v, r < 4 → (nmC X)[r]? = some v → wc.cell? ⟨ng, m * 4 + r, none⟩ = some v := by
          intro r v hr hv
          rw [hnr.cellAt (m * 4 + r) (by rw [hm]; omega)]
          have := bJ8 (st.map (·.1)) m hmm r hr
          rw [this, List.getElem_map, hX]
          exact hv
         have w0 := hcells 0 _ (by decide) rfl
         have w1 := hcells 1 _ (by decide) rfl
         have w2 := hcells 2 _ (by decide) rfl
         have w3 := hcells 3 _ (by decide) rfl
         rw [Nat.add_zero] at w0
         obtain ⟨n0, n1, n2, n3, n4, n5, n6, n7⟩ := aZy BX.out
         obtain ⟨g1, g2, g3, g4⟩ := dVi BX.out
         simp only [zNm] at n1 n2 n3 n4
         obtain ⟨WD, hWD⟩ := nmE ((((wc.setCell ⟨wr.heap.size, 1, none⟩ (.string X.pre)).setCell ⟨wr.heap.size, 2, none⟩ (.string X.loc)).setCell ⟨wr.heap.size, 3, none⟩ (.string X.spc)).setCell ⟨wr.heap.size, 4, none⟩ (.string X.val))
         have BD : Hid (Below wr.heap.size wr WD) := aQ0 (by rw [← hWD]; exact (((BC.out.setCell (Nat.le_refl _) _).setCell (Nat.le_refl _) _).setCell (Nat.le_refl _) _).setCell (Nat.le_refl _) _)
         have LD0 := HL.out.below BD.out
         have hbd : WD.heap[wr.heap.size]? = some (.cells (aQb ⟨2, X, [], [], E.text⟩ (.slice none 0 0) (.slice none 0 0)) 34) := by
          rw [← hWD, heap_setCell_same _ _ _ _ _ _ (heap_setCell_same _ _ _ _ _ _ (heap_setCell_same _ _ _ _ _ _ (heap_setCell_same _ _ _ _ _ _ BX.out)))]; rfl
         obtain ⟨z0, z1, z2, z3, z4, z5, z6, z7⟩ := aZy hbd
         simp only at z0 z1 z2 z3 z4 z7
         obtain ⟨q, hq⟩ : ∃ q, q = m + 1 := ⟨_, rfl⟩
         have hsl2 : svs.length = q + 1 := by rw [hsl, hm, hq]
         rw [hm, hsl2] at LD0
         have hncap := aWs hnr
         have hscap := HL.out.sc
         have hscap := aWs hscap
         rw [hm] at hncap
         rw [hsl2] at hscap
         have LP := (LD0.pop hsl2 (by rw [List.length_map]; exact hm) (by omega)).resolve_right (by omega)
         rw [show q - 1 = m by omega] at LP
         have LD := aQ0 LP
         have hnz : aVn st E = (st.take m, .ok ⟨2, X, [], [], E.text⟩) := by rw [cZu HKD.out, hlast, HKD.out, hm, Nat.add_sub_cancel]
         have HR1 := aQ0 (HSP.out.trans (cKs hnz))
         have HSL := aQ0 (show (st.take m).length = op'.length by
          rw [List.length_take, HOL.out, if_neg (by rw [HKD.out]; decide), if_pos HKD.out, ← HSO.out]; omega)
         have HSK2 : Hid (ScOk (st.take m)) := aQ0 (fun x hx => HSK.out x (List.mem_of_mem_take hx))
         obtain ⟨q0, q1, q2, _, _, _⟩ := aQz LD.out.out
         have hmb : m ≤ 100 := by have h1 := HSO.out; omega
         have hqb : q ≤ 101 := by omega
         have hone : ∀ u ∈ [Value.int .i64 2, .string X.pre, .string X.loc, .string X.spc, .string X.val, .slice none 0 0, .slice none 0 0, .string E.text], u.oneCell' = true := by intro u hu; simp at hu; rcases hu with rfl | rfl | rfl | rfl | rfl | rfl | rfl | rfl <;> rfl
         have hmx : nds.length + 1 ≤ maxLen := by unfold maxLen; omega
         have hmy : (nds.length + 1) * 136 ≤ 140737488355328 := by omega
         have hmz : ∀ o, w.heap.size ≤ (WD.alloc o).heap.size := by intro o; have := LD.out.bel.size; simp; omega
         have hb1 : (m : Int) < (m : Int) + 1 := by omega
         have hb2 : (q : Int) < (q : Int) + 1 := by omega
         have hcp : m ≤ nc := by omega
         have hcp2 : q ≤ sc := by omega
         have HQ := aQ0 hq
         have hmk : m ≤ 1000 := by omega
         have hqk : q ≤ 1000 := by omega
         have hr1 := cQg hmk
         have hr2 := cQg hqk
         have hm1 := bWi hmk
         have hm2 := bWi hqk
         clear hmk hqk
         have HM := aQ0 hm
         have HSL3 := aQ0 hsl2
         rw [hm, hsl2]
         clear hnz hlast hX hnr hcells hbd LD0 hsl hsl2 hm LP hncap hscap hml hmm hq hsa hna' hda
         go_wp2_with (at_builtin; refine wpList_append_own _ rfl _ _ 25 rfl w.heap.size 34 k0 (.agg zNdC) 8 136 underlying25 hk0 hx0 hx1 hx2 rfl (by decide) _ _ _ rfl (LD.out.nd.row.alloc _) ⟨_, 0, none⟩ 1 1 [.int .i64 2, .string X.pre, .string X.loc, .string X.spc, .string X.val, .slice none 0 0, .slice none 0 0, .string E.text] rfl rfl (aVr _ _ _) hone hmx hmy (hmz _) ?_; intro v' wa hown' hgrow _; obtain ⟨xo, xc, rfl, _⟩ := aQr hown'; obtain ⟨LN', p0, p1⟩ := LD.out.node (n := ⟨2, X, [], [], E.text⟩) (nd := .slice none 0 0) (na := .slice none 0 0) HL.out.bel.size hCC.out (World.ownsRow_nil _ _ _ _) (World.ownsRow_nil _ _ _ _) (fun k hk => by (simp [Value.ownBlock] at hk)) _ hown' hgrow; have LN := aQ0 LN'; clear hown' hgrow LN')
         go_roundw
         case rel => exact ⟨st.take m, svs.take q, nds ++ [⟨2, X, [], [], E.text⟩], _, _, op', el', by rw [List.length_append]; simp; omega, by rw [List.length_append]; go_num, by rw [List.length_append]; exact HR1.out, by rw [List.length_append]; exact HRG.out, HOP.out, HSL.out, HSK2.out, by rw [List.map_take]; exact LN.out⟩
         case measure => simp [intOf]; omega
       · by_cases k5 : kd = 5
         · subst k5
           have hfd := fun wx => cYh E.name 0 ⟨#[58]⟩ wx hnmE (by decide) (Nat.zero_le _)
           have hfc := dZ9 E.name
           obtain ⟨FZ, hFZ⟩ := nmE (bXn E.name 0 ⟨#[58]⟩)
           rw [hFZ] at hfc
           simp only [hFZ] at hfd
           obtain ⟨n0, n1, n2, n3, n4, n5, n6, n7⟩ := aZy BX.out
           obtain ⟨g1, g2, g3, g4⟩ := dVi BX.out
           simp only [zNm] at n1 n2 n3 n4
           obtain ⟨WD, hWD⟩ := nmE (wc.setCell ⟨wr.heap.size, 2, none⟩ (.string E.name))
           have BD : Hid (Below wr.heap.size wr WD) := aQ0 (by rw [← hWD]; exact BC.out.setCell (Nat.le_refl _) _)
           have LD := aQ0 (HL.out.below BD.out)
           have hbd : WD.heap[wr.heap.size]? = some (.cells (aQb ⟨5, ⟨⟨#[]⟩, E.name, ⟨#[]⟩, ⟨#[]⟩⟩, [], [], E.text⟩ (.slice none 0 0) (.slice none 0 0)) 34) := by rw [← hWD, heap_setCell_same _ _ _ _ _ _ BX.out]; rfl
           obtain ⟨z0, z1, z2, z3, z4, z5, z6, z7⟩ := aZy hbd
           simp only at z0 z1 z2 z3 z4 z7
           have hne2 : b ≠ wr.heap.size := by omega
           have d1 : WD.cell? ⟨b, off + nds.length * 4 + 1, none⟩ = some (.string E.name) := aQ2 (by rw [← hWD]; exact aQq _ hne2) e1
           obtain ⟨q0, q1, q2, _, _, _⟩ := aQz LD.out.out
           obtain ⟨r0, r1, r2, f0, f1, f2⟩ := aQz LD.out.res
           cases hcol : bXz E.name with
           | true =>
            have hnz : aVn st E = (st, .error 3) := by rw [cV6 HKD.out, if_pos hcol]
            obtain rfl : R = ⟨[], nds.length, 3⟩ := by rw [HSP.out]; exact cKu hnz
            have hge : (0 : Int) ≤ FZ := by rw [hcol] at hfc; exact of_decide_eq_true hfc
            have hwk : IntKind.i64.wrap (nds.length : Int) = nds.length := aXt (by omega) (by omega)
            clear hnz hfc hcol hFZ hbd
            go_wp2_with fail
            refine (hfd _).mono ?_
            rintro en w5 ⟨rfl, hw5⟩
            obtain rfl := hw5.symm
            go_wp2
            refine bodyPost_ret (v := .agg #[.slice none 0 0, .int .i64 nds.length, .int .i64 3]) (by simp [results, results20, go_sem, r0, r1, r2]) rfl ⟨_, [], rfl, aJc.nil _ _, ?_⟩
            exact aQt (aQt (aQt LD.out.bel _ _) _ _) _ _
           | false =>
            have hnz : aVn st E = (st, .ok ⟨5, ⟨⟨#[]⟩, E.name, ⟨#[]⟩, ⟨#[]⟩⟩, [], [], E.text⟩) := by rw [cV6 HKD.out, if_neg (by rw [hcol]; simp), HKD.out]; rfl
            have HR1 := aQ0 (HSP.out.trans (cKs hnz))
            have HSL := aQ0 (show st.length = op'.length by rw [HOL.out, if_neg (by rw [HKD.out]; decide), if_neg (by rw [HKD.out]; decide)]; exact HSO.out)
            have hge : ¬ (0 : Int) ≤ FZ := by rw [hcol] at hfc; exact of_decide_eq_false hfc
            have hone : ∀ u ∈ [Value.int .i64 5, .string ⟨#[]⟩, .string E.name, .string ⟨#[]⟩, .string ⟨#[]⟩, .slice none 0 0, .slice none 0 0, .string E.text], u.oneCell' = true := by intro u hu; simp at hu; rcases hu with rfl | rfl | rfl | rfl | rfl | rfl | rfl | rfl <;> rfl
            have hmx : nds.length + 1 ≤ maxLen := by unfold maxLen; omega
            have hmy : (nds.length + 1) * 136 ≤ 140737488355328 := by omega
            have hmz : ∀ o, w.heap.size ≤ (WD.alloc o).heap.size := by intro o; have := LD.out.bel.size; simp; omega
            clear hnz hfc hcol hFZ hbd
            go_wp2_with fail
            refine (hfd _).mono ?_
            rintro en w5 ⟨rfl, hw5⟩
            obtain rfl := hw5.symm
            go_wp2_with (at_builtin; refine wpList_append_own _ rfl _ _ 25 rfl w.heap.size 34 k0 (.agg zNdC) 8 136 underlying25 hk0 hx0 hx1 hx2 rfl (by decide) _ _ _ rfl (LD.out.nd.row.alloc _) ⟨_, 0, none⟩ 1 1 [.int .i64 5, .string ⟨#[]⟩, .string E.name, .string ⟨#[]⟩, .string ⟨#[]⟩, .slice none 0 0, .slice none 0 0, .string E.text] rfl rfl (aVr _ _ _) hone hmx hmy (hmz _) ?_; intro v' wa hown' hgrow _; obtain ⟨xo, xc, rfl, _⟩ := aQr hown'; obtain ⟨LN', p0, p1⟩ := LD.out.node (n := ⟨5, ⟨⟨#[]⟩, E.name, ⟨#[]⟩, ⟨#[]⟩⟩, [], [], E.text⟩) (nd := .slice none 0 0) (na := .slice none 0 0) HL.out.bel.size hCC.out (World.ownsRow_nil _ _ _ _) (World.ownsRow_nil _ _ _ _) (fun k hk => by (simp [Value.ownBlock] at hk)) _ hown' hgrow; have LN := aQ0 LN'; clear hown' hgrow LN')
            go_roundw
            case rel => exact ⟨st, svs, nds ++ [⟨5, ⟨⟨#[]⟩, E.name, ⟨#[]⟩, ⟨#[]⟩⟩, [], [], E.text⟩], _, _, op', el', by rw [List.length_append]; simp; omega, by rw [List.length_append]; go_num, by rw [List.length_append]; exact HR1.out, by rw [List.length_append]; exact HRG.out, HOP.out, HSL.out, HSK.out, LN.out⟩
            case measure => simp [intOf]; omega
         · have hnz : aVn st E = (st, .ok ⟨kd, zNm, [], [], E.text⟩) := by rw [bZf (by rw [HKD.out]; exact k1) (by rw [HKD.out]; exact k2) (by rw [HKD.out]; exact k5), HKD.out]
           have HR1 := aQ0 (HSP.out.trans (cKs hnz))
           have HSL := aQ0 (show st.length = op'.length by rw [HOL.out, if_neg (by rw [HKD.out]; exact k1), if_neg (by rw [HKD.out]; exact k2)]; exact HSO.out)
           obtain ⟨z0, z1, z2, z3, z4, z5, z6, z7⟩ := aZy BX.out
           simp only [zNm] at z0 z1 z2 z3 z4 z7
           obtain ⟨q0, q1, q2, _, _, _⟩ := aQz LC.out.out
           have hone : ∀ u ∈ [Value.int .i64 kd, .string ⟨#[]⟩, .string ⟨#[]⟩, .string ⟨#[]⟩, .string ⟨#[]⟩, .slice none 0 0, .slice none 0 0, .string E.text], u.oneCell' = true := by intro u hu; simp at hu; rcases hu with rfl | rfl | rfl | rfl <;> rfl
           have hmx : nds.length + 1 ≤ maxLen := by unfold maxLen; omega
           have hmy : (nds.length + 1) * 136 ≤ 140737488355328 := by omega
           have hmz : ∀ o, w.heap.size ≤ (wc.alloc o).heap.size := by intro o; have := LC.out.bel.size; simp; omega
           clear hnz
           go_wp2_with (at_builtin; refine wpList_append_own _ rfl _ _ 25 rfl w.heap.size 34 k0 (.agg zNdC) 8 136 underlying25 hk0 hx0 hx1 hx2 rfl (by decide) _ _ _ rfl (LC.out.nd.row.alloc _) ⟨_, 0, none⟩ 1 1 [.int .i64 kd, .string ⟨#[]⟩, .string ⟨#[]⟩, .string ⟨#[]⟩, .string ⟨#[]⟩, .slice none 0 0, .slice none 0 0, .string E.text] rfl rfl (aVr _ _ _) hone hmx hmy (hmz _) ?_; intro v' wa hown' hgrow _; obtain ⟨xo, xc, rfl, _⟩ := aQr hown'; obtain ⟨LN', p0, p1⟩ := LC.out.node (n := ⟨kd, zNm, [], [], E.text⟩) (nd := .slice none 0 0) (na := .slice none 0 0) HL.out.bel.size hCC.out (World.ownsRow_nil _ _ _ _) (World.ownsRow_nil _ _ _ _) (fun k hk => by (simp [Value.ownBlock] at hk)) _ hown' hgrow; have LN := aQ0 LN'; clear hown' hgrow LN')
           go_roundw
           case rel => exact ⟨st, svs, nds ++ [⟨kd, zNm, [], [], E.text⟩], _, _, op', el', by rw [List.length_append]; simp; omega, by rw [List.length_append]; go_num, by rw [List.length_append]; exact HR1.out, by rw [List.length_append]; exact HRG.out, HOP.out, HSL.out, HSK.out, LN.out⟩
           case measure => simp [intOf]; omega
  · have hend : evs.drop nds.length = [] := List.drop_eq_nil_of_le (by omega)
    rw [hend] at hsp
    obtain rfl : R = ⟨nds, 0, 0⟩ := hsp
    obtain ⟨q0, q1, q2, g0, g1, g2⟩ := aQz HL.out.res
    obtain ⟨p0, p1, p2, _, _, _⟩ := aQz HL.out.out
    clear hrg hend hso
    go_wp2
    refine bodyPost_ret (v := .agg #[.slice da nds.length dc, .int .i64 0, .int .i64 0]) (by simp [results, results20, go_sem, q0, q1, q2]) rfl ⟨_, vs, rfl, ?_, ?_⟩
    · refine HL.out.nd.keep (fun j cs t hc ht => ?_)
      have hne := aQ5 hc HL.out.res (by rcases ht with rfl | rfl | rfl <;> decide)
      simp only [aQq _ hne]
    · exact aQt (aQt (aQt HL.out.bel _ _) _ _) _ _
end Go.Proofs.YtocnfoeaikiecaaGreatDoor
