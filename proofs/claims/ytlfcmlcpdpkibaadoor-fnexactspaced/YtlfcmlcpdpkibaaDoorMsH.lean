/- The model's Spaced: events that go together (l05Spaced). -/
import Derived.Test.YtlfcmlcpdpkibaaDoorMsG
namespace Go.Proofs.YtlfcmlcpdpkibaaDoor
open Go.RowKit Plain1 Plain2 Strs Strs2 Lists Bytes Plain3 Plain5 Plain6 Plain9 Plain10 Plain11 Plain12 PlainS PlainR PlainN PlainW PlainX Ents
set_option linter.unusedVariables false

theorem infoSl : (Tryd.prog.info? 40).map (fun i => (i.zero, i.size, i.bytes)) = some (some (.slice none 0 0), 1, 24) := by kernel_rfl
/-- A scope may be. -/
def ScOk (st : List Scp) : Prop := ∀ x ∈ st, x.2.length ≤ 60 ∧ ∀ d ∈ x.2, declOk d = true
theorem ScOk.len {st : List Scp} (h : ScOk st) (hl : st.length ≤ 30) : (flatS st).length ≤ 1801 := by
  have : ∀ (l : List Scp), (∀ x ∈ l, x.2.length ≤ 60) → ((l.map (·.2)).flatten).length ≤ 60 * l.length := fun l => by
    induction l with
    | nil => intro _; simp
    | cons x l ih =>
      intro hx
      have h1 := ih (fun y hy => hx y (List.mem_cons_of_mem _ hy))
      have h2 := hx x List.mem_cons_self
      simp only [List.map_cons, List.flatten_cons, List.length_append, List.length_cons]
      omega
  have := this st (fun x hx => (h x hx).1)
  unfold flatS
  rw [List.length_cons]
  omega
theorem start_st {st : List Scp} (h : ScOk st) (e : Ev) : startM (flatS st) e = startZ (st.map (·.2)) e := by
  unfold flatS
  exact start_same _ (fun s hs d hd => by
    obtain ⟨x, hx, rfl⟩ := List.mem_map.1 hs
    exact (h x hx).2 d hd) e
theorem lp_start (w : World) : Lp w (((((w.alloc (.cells #[.slice none 0 0, .int .i64 0, .int .i64 0] 26)).alloc (.cells #[.slice none 0 0, .int .i64 0, .int .i64 0] 26)).alloc (.cells #[.string xmlB, .string xmlS] 62)).alloc (.cells #[.slice (some ⟨w.heap.size + 1 + 1, 0, none⟩) 1 1] 40)).alloc (.cells #[] 48)) w.heap.size (w.heap.size + 1) [] [] [.slice (some ⟨w.heap.size + 1 + 1, 0, none⟩) 1 1] (.slice (some ⟨w.heap.size + 1 + 1 + 1, 0, none⟩) 1 1) (.slice (some ⟨w.heap.size + 1 + 1 + 1 + 1, 0, none⟩) 0 0) [] [] (.slice none 0 0) := by
  obtain ⟨W1, h1⟩ : ∃ W1, w.alloc (.cells #[.slice none 0 0, .int .i64 0, .int .i64 0] 26) = W1 := ⟨_, rfl⟩
  obtain ⟨W2, h2⟩ : ∃ W2, W1.alloc (.cells #[.slice none 0 0, .int .i64 0, .int .i64 0] 26) = W2 := ⟨_, rfl⟩
  obtain ⟨W3, h3⟩ : ∃ W3, W2.alloc (.cells #[.string xmlB, .string xmlS] 62) = W3 := ⟨_, rfl⟩
  obtain ⟨W4, h4⟩ : ∃ W4, W3.alloc (.cells #[.slice (some ⟨w.heap.size + 1 + 1, 0, none⟩) 1 1] 40) = W4 := ⟨_, rfl⟩
  have z1 : W1.heap.size = w.heap.size + 1 := by rw [← h1]; simp
  have z2 : W2.heap.size = w.heap.size + 1 + 1 := by rw [← h2]; simp [z1]
  have z3 : W3.heap.size = w.heap.size + 1 + 1 + 1 := by rw [← h3]; simp [z2]
  have z4 : W4.heap.size = w.heap.size + 1 + 1 + 1 + 1 := by rw [← h4]; simp [z3]
  rw [h1, h2, h3, h4, ← z4, ← z3]
  have b1 : Below w.heap.size w W1 := by rw [← h1]; exact (Below.refl _ _).alloc (Nat.le_refl _) _
  have b2 : Below W1.heap.size W1 W2 := by rw [← h2]; exact (Below.refl _ _).alloc (Nat.le_refl _) _
  have b3 : Below W2.heap.size W2 W3 := by rw [← h3]; exact (Below.refl _ _).alloc (Nat.le_refl _) _
  have b4 : Below W3.heap.size W3 W4 := by rw [← h4]; exact (Below.refl _ _).alloc (Nat.le_refl _) _
  have b5 : Below W4.heap.size W4 (W4.alloc (.cells #[] 48)) := (Below.refl _ _).alloc (Nat.le_refl _) _
  have k1 : W1.heap[w.heap.size]? = some (.cells #[.slice none 0 0, .int .i64 0, .int .i64 0] 26) := by rw [← h1]; exact heap_alloc_new _ _
  have k2 : W2.heap[w.heap.size + 1]? = some (.cells #[.slice none 0 0, .int .i64 0, .int .i64 0] 26) := by rw [← h2, ← z1]; exact heap_alloc_new _ _
  have o3 : W3.ownsRow w.heap.size 62 2 (.slice (some ⟨W2.heap.size, 0, none⟩) 1 1) 1 [.string xmlB, .string xmlS] := by rw [← h3]; exact World.ownsRow_lit (size := 2) W2 #[.string xmlB, .string xmlS] 1 (by omega) (by decide) rfl
  have o4 : W4.ownsRow w.heap.size 40 1 (.slice (some ⟨W3.heap.size, 0, none⟩) 1 1) 1 [.slice (some ⟨w.heap.size + 1 + 1, 0, none⟩) 1 1] := by rw [← h4]; exact World.ownsRow_lit (size := 1) W3 #[.slice (some ⟨w.heap.size + 1 + 1, 0, none⟩) 1 1] 1 (by omega) (by decide) rfl
  have b45 : Below W3.heap.size W3 (W4.alloc (.cells #[] 48)) := b4.trans (b5.mono b4.size)
  have b35 : Below W2.heap.size W2 (W4.alloc (.cells #[] 48)) := b3.trans (b45.mono b3.size)
  have b25 : Below W1.heap.size W1 (W4.alloc (.cells #[] 48)) := b2.trans (b35.mono b2.size)
  refine ⟨(b25.block _ (by omega)).trans k1, (b35.block _ (by omega)).trans k2, by omega, Nat.le_refl _, by omega, own_keep o4 (fun k hk => b5.block _ (o4.lt k hk).2), rfl, ?_, ?_, NdsAt.nil _ _, (fun p hp => by cases hp), b1.trans (b25.mono b1.size)⟩
  · intro k hk
    have hk0 : k = 0 := by simp at hk; omega
    subst hk0
    have : (W4.alloc (.cells #[] 48)).ownsRow w.heap.size 62 2 (.slice (some ⟨W2.heap.size, 0, none⟩) 1 1) 1 [.string xmlB, .string xmlS] := own_keep o3 (fun k hk => b45.block _ (o3.lt k hk).2)
    rw [z2] at this
    exact this
  · exact World.ownsRow_lit (size := 4) W4 #[] 0 (by omega) (by decide) rfl
theorem w64_small {m : Nat} (h : m ≤ 1000) : wrap64 (m : Int) = (m : Int) := by unfold wrap64; omega
theorem mx_small {m : Nat} (h : m ≤ 1000) : m ≤ maxLen := by unfold maxLen; omega
theorem by_small {m b : Nat} (h : m ≤ 1000) (hb : b ≤ 1000) : m * b ≤ 140737488355328 := Nat.le_trans (Nat.mul_le_mul h hb) (by decide)
theorem wSm_nat2 {m : Nat} (h : m ≤ 100000) : IntKind.i64.wrap (m : Int) = (m : Int) := wrapSm (by omega) (by omega)
theorem start_dl {sc : List (List BB)} {e : Ev} {n : Nd} (h : startZ sc e = .ok n) : n.decls.length ≤ e.attrs.length := by
  unfold startZ at h
  split at h
  · cases h
  · split at h
    · cases h
    · split at h
      · cases h
      · split at h
        · cases h
        · cases h
          exact List.length_filterMap_le _ _
theorem wSm_nat {m : Nat} (h : m ≤ 1000) : IntKind.i64.wrap (m : Int) = (m : Int) := wrapSm (by omega) (by omega)
theorem nmCells_get : ∀ (l : List Nm) (j : Nat) (hj : j < l.length) (r : Nat), r < 4 → (nmCells l)[j * 4 + r]? = (nmC (l[j]'hj))[r]?
  | [], j, hj, _, _ => by simp at hj
  | x :: l, 0, _, r, hr => by
    have e : nmCells (x :: l) = nmC x ++ nmCells l := by simp [nmCells]
    rw [e, Nat.zero_mul, Nat.zero_add, List.getElem?_append_left (by simp [nmC]; omega)]
    rfl
  | x :: l, j + 1, hj, r, hr => by
    have e : nmCells (x :: l) = nmC x ++ nmCells l := by simp [nmCells]
    have ih := nmCells_get l j (by simpa using hj) r hr
    rw [e, List.getElem?_append_right (by simp [nmC]; omega)]
    have : (j + 1) * 4 + r - (nmC x).length = j * 4 + r := by simp [nmC]; omega
    rw [this, ih]
    rfl
section
variable {w W wa : World} {rb ob : Nat} {st : List Scp} {ns : List Nm} {svs : List Value} {sv nv : Value} {nds : List Nd} {vs : List (Value × Value)} {dv : Value}
theorem Lp.scopeK (h : Lp w W rb ob st ns svs sv nv nds vs dv) (o : Obj) (hg : (W.alloc o).grownBy wa sv.ownBlock) : (∀ {b : Nat} {t : TypeId} {size : Nat} {v : Value} {m : Nat} {xs : List Value}, W.ownsRow b t size v m xs → t ≠ 40 → wa.ownsRow b t size v m xs) ∧ (∀ {k : Nat} {c : Array Value} {s : TypeId} {f : Nat × Nat}, W.heap[k]? = some (.cells c s f) → s ≠ 40 → wa.heap[k]? = W.heap[k]?) ∧ Below w.heap.size w wa := by
  have h1 := h.below ((Below.refl _ _).alloc (Nat.le_refl _) o)
  have hoff : ∀ {k : Nat} {c : Array Value} {s : TypeId} {f : Nat × Nat}, W.heap[k]? = some (.cells c s f) → s ≠ 40 → wa.heap[k]? = W.heap[k]? := fun hc hs => by
    have hlt := (Array.getElem?_eq_some_iff.1 hc).1
    rw [← heap_alloc_old W o hlt] at hc ⊢
    exact (grown_kp hg).block _ (Array.getElem?_eq_some_iff.1 hc).1 (fun hm => by
      obtain ⟨cs, h2⟩ := own_type h1.sc (by rw [Option.mem_toList] at hm; exact hm)
      exact type_ne hc h2 hs rfl)
  exact ⟨fun hr ht => own_keep hr (fun k hkk => by
    obtain ⟨cs, hc⟩ := own_type hr hkk
    exact hoff hc ht), hoff, h1.bel.grown hg h1.bel.size (fun k hk => (h1.sc.lt k hk).1)⟩
theorem nm_grown {B n : Nat} {xs : List Value} (hr : W.ownsRow B 48 4 nv n xs) (o : Obj) (hg : (W.alloc o).grownBy wa nv.ownBlock) {k : Nat} {c : Array Value} {s : TypeId} {f : Nat × Nat} (hc : W.heap[k]? = some (.cells c s f)) (hs : s ≠ 48) : wa.heap[k]? = some (.cells c s f) := by
  have hlt := (Array.getElem?_eq_some_iff.1 hc).1
  have hc1 := hc
  rw [← heap_alloc_old W o hlt] at hc1
  refine ((grown_kp hg).block _ (Array.getElem?_eq_some_iff.1 hc1).1 (fun hm => ?_)).trans hc1
  obtain ⟨cs, h2⟩ := own_type (hr.alloc o) (by rw [Option.mem_toList] at hm; exact hm)
  exact type_ne hc1 h2 hs rfl
end
theorem set8bb {B : Nat} {w W : World} {rb : Nat} (h : Below B w W) (hr : B ≤ rb) (a b c d e f g i : Value) : Below B w ((((((((W.setCell ⟨rb, 0, none⟩ a).setCell ⟨rb, 1, none⟩ b).setCell ⟨rb, 2, none⟩ c).setCell ⟨rb, 3, none⟩ d).setCell ⟨rb, 4, none⟩ e).setCell ⟨rb, 5, none⟩ f).setCell ⟨rb, 6, none⟩ g).setCell ⟨rb, 7, none⟩ i) :=
  (((((((h.setCell hr _).setCell hr _).setCell hr _).setCell hr _).setCell hr _).setCell hr _).setCell hr _).setCell hr _
theorem mt_ret {w : World} {around : List BB} {e : Ev} {en : Ending} {w' : World} (h : MtSays w around e en w') : ∃ v, en = .returned v := by
  unfold MtSays at h
  split at h
  · obtain ⟨_, _, _, _, _, _, h, _⟩ := h; exact ⟨_, h⟩
  · obtain ⟨_, _, _, h, _⟩ := h; exact ⟨_, h⟩
theorem nd_all {W : World} {k : Nat} {n : Nd} {dv av : Value} {t : TypeId} (hh : W.heap[k]? = some (.cells (ndCells n dv av) t)) : (W.frozen? ⟨k, 0, none⟩ = false ∧ W.frozen? ⟨k, 1, none⟩ = false ∧ W.frozen? ⟨k, 2, none⟩ = false ∧ W.frozen? ⟨k, 3, none⟩ = false) ∧ W.frozen? ⟨k, 4, none⟩ = false ∧ W.frozen? ⟨k, 5, none⟩ = false ∧ W.frozen? ⟨k, 6, none⟩ = false ∧ W.frozen? ⟨k, 7, none⟩ = false := by simp [World.frozen?, hh]
theorem nd_set8 {W : World} {k : Nat} {n n' : Nd} {dv av dv' av' : Value} {t : TypeId} (hh : W.heap[k]? = some (.cells (ndCells n dv av) t)) : ((((((((W.setCell ⟨k, 0, none⟩ (.int .i64 n'.kind)).setCell ⟨k, 1, none⟩ (.string n'.name.pre)).setCell ⟨k, 2, none⟩ (.string n'.name.loc)).setCell ⟨k, 3, none⟩ (.string n'.name.spc)).setCell ⟨k, 4, none⟩ (.string n'.name.val)).setCell ⟨k, 5, none⟩ dv').setCell ⟨k, 6, none⟩ av').setCell ⟨k, 7, none⟩ (.string n'.text)).heap[k]? = some (.cells (ndCells n' dv' av') t) := by
  rw [heap_setCell_same _ _ _ _ _ _ (heap_setCell_same _ _ _ _ _ _ (heap_setCell_same _ _ _ _ _ _ (heap_setCell_same _ _ _ _ _ _ (heap_setCell_same _ _ _ _ _ _ (heap_setCell_same _ _ _ _ _ _ (heap_setCell_same _ _ _ _ _ _ (heap_setCell_same _ _ _ _ _ _ hh)))))))]
  simp [ndCells]
set_option maxRecDepth 100000 in
set_option maxHeartbeats 16000000 in
theorem l05Spaced_any (w : World) (a : Option Addr) (c : Nat) (evs : List Ev) (h : EvIn w a evs) (hrow : rowGo evs [] 0 = true) (h401 : evs.length ≤ 400) (hnm : ∀ e ∈ evs, e.name.size ≤ 1048576) (hna : ∀ e ∈ evs, ∀ a ∈ e.attrs, a.1.size ≤ 1048576) :
    Calls Tryd.prog 15 #[.slice a evs.length c] w (SpSays w (spcGo evs 0 [] [])) := by
  obtain ⟨R, hR⟩ : ∃ R, spcGo evs 0 [] [] = R := ⟨_, rfl⟩
  rw [hR]
  have HR := mkHidT hR
  have HRW := mkHidT hrow
  have HI := mkHidT h
  have HNM := mkHidT hnm
  have HNA := mkHidT hna
  obtain ⟨i0, hi, hz0, hz1, hz2⟩ := info_parts infoSl
  obtain ⟨j0, hj, hy0, hy1, hy2⟩ := info_parts infoNamed
  obtain ⟨k0, hk0, hx0, hx1, hx2⟩ := info_parts infoNode
  clear hR h hrow hnm hna
  go_enter Tryd.func15, Tryd.ntmps15
  go_wp2_with fail
  have L0 := mkHidT (lp_start w)
  go_loopw [4, 5, 6] (fun sv nv iv wr => ∃ (st : List Scp) (svs : List Value) (nds : List Nd) (vs : List (Value × Value)) (dv : Value) (op : List ByteArray) (el : Nat), nds.length ≤ evs.length ∧ iv = .int .i64 nds.length ∧ R = spcGo (evs.drop nds.length) nds.length st nds ∧ rowGo (evs.drop nds.length) op el = true ∧ op.length ≤ 30 ∧ st.length = op.length ∧ ScOk st ∧ Lp w wr w.heap.size (w.heap.size + 1) st (st.map (·.1)) svs sv nv nds vs dv) (fun _ _ iv _ => evs.length - (intOf iv).toNat)
  case atStart => exact ⟨[], _, [], [], _, [], 0, Nat.zero_le _, rfl, HR.out.symm, HRW.out, by decide, rfl, (fun x hx => by cases hx), L0.out⟩
  case round =>
    obtain ⟨st, svs, nds, vs, dv, op, el, hk, rfl, hsp, hrg, hop, hso, hsk, hL⟩ := hrel
    have HL := mkHidT hL
    have HSK := mkHidT hsk
    obtain ⟨sa, sc, rfl, hsa⟩ := row_sl hL.sc
    have hnmr := hL.nm
    rw [List.length_map] at hnmr
    obtain ⟨na, nc, rfl, hna'⟩ := row_sl hnmr
    obtain ⟨da, dc, rfl, hda⟩ := row_sl hL.nd.row
    clear hL hsk L0 hnmr
    by_cases hlt : nds.length < evs.length
    · obtain ⟨b, off, ha, hc⟩ := HI.out.below HL.out.bel
      obtain rfl := ha (by omega)
      obtain ⟨c0, c1, c2, bo, bc, c3, hEn⟩ := hc nds.length hlt
      have hnmE := HNM.out _ (List.getElem_mem hlt)
      have hnaE := HNA.out _ (List.getElem_mem hlt)
      have hdrop : evs.drop nds.length = (evs[nds.length]'hlt) :: evs.drop (nds.length + 1) := List.drop_eq_getElem_cons hlt
      rw [hdrop] at hsp hrg
      obtain ⟨E, hEe⟩ : ∃ E, evs[nds.length]'hlt = E := ⟨_, rfl⟩
      rw [hEe] at c0 c1 c2 c3 hEn hnmE hnaE hsp hrg
      obtain ⟨op', el', hrg', hop', hol', hat, hne⟩ := rg_next hrg hop
      obtain ⟨kd, hkd⟩ : ∃ kd, E.kind = kd := ⟨_, rfl⟩
      rw [hkd] at c0
      have HKD := mkHidT hkd
      have HSP := mkHidT hsp
      have HRG := mkHidT hrg'
      have HOL := mkHidT hol'
      have HOP := mkHidT hop'
      have HSO := mkHidT hso
      have HEN := mkHidT hEn
      have HAT := mkHidT hat
      have HNE := mkHidT hne
      clear hc ha hEe hsp hrg hrg' hol' hop' hdrop hkd hEn hat hne hso
      go_wp2_with fail
      go_cut [7] (fun s7 wc => s7 = .pointer (some ⟨wr.heap.size, 0, none⟩) ∧ Below wr.heap.size wr wc ∧ wc.heap[wr.heap.size]? = some (.cells (ndCells ⟨kd, zNm, [], [], E.text⟩ (.slice none 0 0) (.slice none 0 0)) 51))
      case first =>
        have q0 := cell_keepS (heap_alloc_old wr (.cells #[.int .i64 0, .string ⟨#[]⟩, .string ⟨#[]⟩, .string ⟨#[]⟩, .string ⟨#[]⟩, .slice none 0 0, .slice none 0 0, .string ⟨#[]⟩] 51) (block_lt c0)) c0
        have q2 := cell_keepS (heap_alloc_old wr (.cells #[.int .i64 0, .string ⟨#[]⟩, .string ⟨#[]⟩, .string ⟨#[]⟩, .string ⟨#[]⟩, .slice none 0 0, .slice none 0 0, .string ⟨#[]⟩] 51) (block_lt c2)) c2
        go_region_law fail
        all_goals
          go_wp2_with fail
          go_meet
          exact ⟨rfl, ((Below.refl _ _).alloc (Nat.le_refl _) _).drew, heap_alloc_new _ _⟩
      case rest =>
        obtain ⟨rfl, hbc, hbx⟩ := hcut
        have BC := mkHidT hbc
        have LC := mkHidT (HL.out.below hbc)
        have BX := mkHidT hbx
        have e0 := cell_keepS (hbc.block _ (block_lt c0)) c0
        have e1 := cell_keepS (hbc.block _ (block_lt c1)) c1
        have e2 := cell_keepS (hbc.block _ (block_lt c2)) c2
        have e3 := cell_keepS (hbc.block _ (block_lt c3)) c3
        have HEC := mkHidT (HEN.out.grown (Ents.below_grown hbc))
        have hCC := mkHidT (fun k (hk : k ∈ vs.flatMap fun p => blk p.1 ++ blk p.2) => HL.out.nd.lt hk)
        have hnv : Hid (∀ k, Value.ownBlock (.slice na st.length nc) = some k → k < wr.heap.size) := mkHidT (fun k hk => (HL.out.nm.lt k hk).2)
        have hbl : b < wr.heap.size := block_lt c1
        clear hbc hbx c0 c1 c2 c3 HEN
        by_cases k1 : kd = 1
        · subst k1
          have hat := HAT.out HKD.out
          have hsl := HL.out.scl
          obtain ⟨sg, rfl⟩ := hsa (by omega)
          have hstl : st.length < svs.length := by omega
          have hent := LC.out.ent st.length hstl
          rw [List.take_of_length_le (Nat.le_refl _)] at hent
          obtain ⟨ga, gc, hvv, hgg⟩ := row_sl hent
          have hfl0 : 0 < (flatS st).length := by unfold flatS; simp
          obtain ⟨gr, rfl⟩ := hgg hfl0
          have hscell : wc.cell? ⟨sg, st.length, none⟩ = some (.slice (some ⟨gr, 0, none⟩) (flatS st).length gc) := by
            have := LC.out.sc.cellAt st.length (by omega)
            rw [this, List.getElem?_eq_getElem hstl, hvv]
          rw [hvv] at hent
          have hflb : (flatS st).length ≤ 1801 := HSK.out.len (by have h1 := HSO.out; omega)
          have hW11 : Below wc.heap.size wc (wc.alloc (.cells #[] 62)) := (Below.refl _ _).alloc (Nat.le_refl _) _
          have d0 := cell_keepS (hW11.block _ (block_lt e0)) e0
          have d1 := cell_keepS (hW11.block _ (block_lt e1)) e1
          have d2 := cell_keepS (hW11.block _ (block_lt e2)) e2
          have d3 := cell_keepS (hW11.block _ (block_lt e3)) e3
          have d4 := cell_keepS (hW11.block _ (block_lt hscell)) hscell
          have hst := l05Start_any (wc.alloc (.cells #[] 62)).drew E bo bc ((HEC.out.grown (Ents.below_grown hW11)).grown (Ents.below_grown ((Below.refl _ _).drew))) hat hnmE hnaE ⟨gr, 0, none⟩ gc (flatS st) (by
            obtain ⟨x, y, hxy, hE⟩ := row_entsN hent
            rw [← (Value.slice.inj hxy).1] at hE
            exact (hE.grown (Ents.below_grown hW11)).grown (Ents.below_grown ((Below.refl _ _).drew))) (by omega) hfl0
          rw [HKD.out] at hst
          have hentS := fun a w => callS_in Tryd.func26 (by kernel_rfl) rfl a w
          have BX5 : Hid (∀ w5, Below (wc.alloc (.cells #[] 62)).drew.heap.size (wc.alloc (.cells #[] 62)).drew w5 → w5.heap[wr.heap.size]? = some (.cells (ndCells ⟨1, zNm, [], [], E.text⟩ (.slice none 0 0) (.slice none 0 0)) 51) ∧ Below wr.heap.size wr w5) := mkHidT (fun w5 hb => by
            have hb2 : Below wc.heap.size wc w5 := (hW11.drew).trans (hb.mono (by simp))
            exact ⟨(hb2.block _ (Array.getElem?_eq_some_iff.1 BX.out).1).trans BX.out, BC.out.trans (hb2.mono BC.out.size)⟩)
          have hsz2 : wr.heap.size ≤ (wc.alloc (.cells #[] 62)).drew.heap.size := by have := BC.out.size; simp; omega
          have HSZ2 := mkHidT hsz2
          have HSTL := mkHidT hsl
          have hstb : st.length ≤ 30 := by have h1 := HSO.out; omega
          rw [hsl]
          have hr1 := wSm_nat (m := st.length) (by omega)
          have hb1 : (st.length : Int) < (st.length : Int) + 1 := by omega
          clear hat hsl hent hscell hfl0 hW11 hsz2 hvv hgg hstl hsa hna' hda
          cases hX : startZ (st.map (·.2)) E with
          | error cd =>
            have hM : startM (flatS st) E = .error cd := (start_st HSK.out E).trans hX
            have hnz : nodeZ st E = (st, .error cd) := by rw [nz_start HKD.out, hX]
            obtain rfl : R = ⟨[], nds.length, cd⟩ := by rw [HSP.out]; exact sp_err hnz
            have hcd : (cd != 0) = true := by simp [nz_err hnz]
            clear hX hnz
            unfold MtSays at hst
            rw [hM] at hst
            simp only at hst
            go_wp2_with fail
            go_cut [8, 9] (fun s8 s9 wd => s8 = .int .i64 cd ∧ (∃ x y z, s9 = .slice x y z) ∧ Below wr.heap.size wr wd ∧ ∃ (n : Nd) (dv av : Value), wd.heap[wr.heap.size]? = some (.cells (ndCells n dv av) 51))
            case first =>
              go_region_law (refine step_callS rfl 26 #[.tmp 44, .tmp 50] #[42, 40] rfl #[.agg #[.int .i64 1, .string E.name, .string E.text, .slice bo E.attrs.length bc], .slice (some ⟨gr, 0, none⟩) (flatS st).length gc] (by simp [Act.eval]) hentS hst ?_ (fun c w' hP => by (obtain ⟨_, _, _, _, _, _, h, _⟩ := hP; cases h)) (fun w' hP => by (obtain ⟨_, _, _, _, _, _, h, _⟩ := hP; cases h)); intro v5 w5 hP; obtain ⟨n5, dv5, av5, ra5, rn5, rc5, hv5, ⟨x1, x2, x3, rfl⟩, ⟨y1, y2, y3, rfl⟩, hb5⟩ := hP; cases hv5; obtain ⟨bx5, bl5⟩ := BX5.out _ hb5; have HX5 := mkHidT bx5; have BL5 := mkHidT bl5; obtain ⟨a0, a1, a2, a3, a4, a5, a6, a7⟩ := nd_eight bx5; obtain ⟨⟨f0, f1, f2, f3⟩, f4, f5, f6, f7⟩ := nd_all bx5; clear hb5 bx5 bl5; unfold ndCells)
              all_goals
                go_wp2_with fail
                go_meet
                refine ⟨rfl, ⟨_, _, _, rfl⟩, ?_, n5, _, _, nd_set8 HX5.out⟩
                exact set8bb BL5.out (Nat.le_refl _) _ _ _ _ _ _ _ _
            case rest =>
              obtain ⟨rfl, ⟨x, y, z, rfl⟩, hbd, n9, dv9, av9, hbx9⟩ := hcut
              clear hr1
              have LD := mkHidT (HL.out.below hbd)
              have HB9 := mkHidT hbx9
              have hscr := LD.out.sc
              rw [HSTL.out] at hscr
              have SCR := mkHidT hscr
              have honeA : ∀ u ∈ [Value.slice x y z], u.oneCell' = true := by intro u hu; simp at hu; subst hu; rfl
              have honeB : ∀ u ∈ [Value.string n9.name.pre, .string n9.name.loc, .string n9.name.spc, .string n9.name.val], u.oneCell' = true := by intro u hu; simp at hu; rcases hu with rfl | rfl | rfl | rfl <;> rfl
              have hb30 : st.length + 1 + 1 ≤ 1000 := by omega
              have hb31 : st.length + 1 ≤ 1000 := by omega
              have hb32 : nds.length ≤ 100000 := by omega
              have hmzA : ∀ o, w.heap.size ≤ (wc.alloc o).heap.size := fun o => Nat.le_trans LD.out.bel.size (by simp)
              have hmyA := by_small (b := 24) hb30 (by decide)
              have hmyB := by_small (b := 64) hb31 (by decide)
              have hmxA := mx_small hb30
              have hmxB := mx_small hb31
              have hwk := wSm_nat2 hb32
              clear hb30 hb31 hb32
              clear hbd hbx9 hscr hst hentS d0 d1 d2 d3 d4 e0 e1 e2 e3
              go_wp2_with (first | (at_builtin; refine wpList_append_own _ rfl _ _ 63 rfl w.heap.size 40 i0 (.slice none 0 0) 1 24 Tryd.underlying63 hi hz0 hz1 hz2 rfl (by decide) _ _ _ rfl (SCR.out.alloc _) ⟨_, 0, none⟩ 1 1 [.slice x y z] rfl rfl (cell_one_new _ _ _) honeA hmxA hmyA (hmzA _) ?_; intro v' wa hown' hgrow _; obtain ⟨xo, xc, rfl, _⟩ := row_sl hown'; obtain ⟨hrw, hof, hbw⟩ := LD.out.scopeK _ hgrow; have hnmr := hrw LD.out.nm (by decide); rw [List.length_map] at hnmr; have NMA := mkHidT hnmr; have RSA := mkHidT ((hof LD.out.res (by decide)).trans LD.out.res); have BWA := mkHidT hbw; obtain ⟨a0, a1, a2, a3, a4, a5, a6, a7⟩ := nd_eight ((hof HB9.out (by decide)).trans HB9.out); have hmzB : ∀ o, w.heap.size ≤ (wa.alloc o).heap.size := (fun o => Nat.le_trans BWA.out.size (by simp)); clear hown' hgrow hrw hof hbw hnmr) | (at_builtin; refine wpList_append_own _ rfl _ _ 49 rfl w.heap.size 48 j0 (.agg #[.string ⟨#[]⟩, .string ⟨#[]⟩, .string ⟨#[]⟩, .string ⟨#[]⟩]) 4 64 Tryd.underlying49 hj hy0 hy1 hy2 rfl (by decide) _ _ _ rfl (own_new NMA.out) ⟨_, 0, none⟩ 1 1 [.string n9.name.pre, .string n9.name.loc, .string n9.name.spc, .string n9.name.val] rfl rfl (lit_new _ _ _) honeB hmxB hmyB (hmzB _) ?_; intro v'' wb hown2 hgrow2 _; obtain ⟨yo, yc, rfl, _⟩ := row_sl hown2; have RSB := mkHidT (nm_grown NMA.out _ hgrow2 RSA.out (by decide)); have BWB := mkHidT ((BWA.out.alloc BWA.out.size _).grown hgrow2 (Nat.le_trans BWA.out.size (by simp)) (fun k hk => (NMA.out.lt k hk).1)); obtain ⟨r0, r1, r2, f0, f1, f2⟩ := three_cells RSB.out; clear hown2 hgrow2))
              refine bodyPost_ret (v := .agg #[.slice none 0 0, .int .i64 nds.length, .int .i64 cd]) (by simp [results, Tryd.results15, go_sem, r0, r1, r2]) rfl ⟨_, [], rfl, NdsAt.nil _ _, ?_⟩
              exact below_new (below_new (below_new BWB.out _ _) _ _) _ _
          | ok nd =>
            have hM : startM (flatS st) E = .ok nd := (start_st HSK.out E).trans hX
            have hnz : nodeZ st E = (st ++ [(nd.name, nd.decls)], .ok nd) := by rw [nz_start HKD.out, hX]
            have HR1 := mkHidT (HSP.out.trans (sp_ok hnz))
            have HSL := mkHidT (show (st ++ [(nd.name, nd.decls)]).length = op'.length by
              rw [List.length_append, HOL.out, if_pos HKD.out, ← HSO.out]; rfl)
            have HSK2 : Hid (ScOk (st ++ [(nd.name, nd.decls)])) := mkHidT (fun x hx => by
              rcases List.mem_append.1 hx with hx | hx
              · exact HSK.out x hx
              · rw [List.mem_singleton] at hx
                subst hx
                refine ⟨?_, start_decls hX⟩
                have := HAT.out HKD.out
                exact Nat.le_trans (start_dl hX) this)
            clear hX hnz
            unfold MtSays at hst
            rw [hM] at hst
            simp only at hst
            go_wp2_with fail
            go_cut [8, 9] (fun s8 s9 wd => s8 = .int .i64 0 ∧ ∃ (x : Option Addr) (y z : Nat) (dv av : Value), s9 = .slice x y z ∧ Below wr.heap.size wr wd ∧ wd.heap[wr.heap.size]? = some (.cells (ndCells nd dv av) 51) ∧ wd.ownsRow wr.heap.size 62 2 dv nd.decls.length (acells nd.decls) ∧ wd.ownsRow wr.heap.size 48 4 av nd.attrs.length (nmCells nd.attrs) ∧ wd.ownsRow wr.heap.size 62 2 (.slice x y z) (flatS st ++ nd.decls).length (acells (flatS st ++ nd.decls)))
            case first =>
              go_region_law (refine step_callS rfl 26 #[.tmp 44, .tmp 50] #[42, 40] rfl #[.agg #[.int .i64 1, .string E.name, .string E.text, .slice bo E.attrs.length bc], .slice (some ⟨gr, 0, none⟩) (flatS st).length gc] (by simp [Act.eval]) hentS hst ?_ (fun c w' hP => by (obtain ⟨_, _, _, h, _⟩ := hP; cases h)) (fun w' hP => by (obtain ⟨_, _, _, h, _⟩ := hP; cases h)); intro v5 w5 hP; obtain ⟨dv5, av5, rv5, hv5, hd5, ha5, hr5, hb5⟩ := hP; cases hv5; obtain ⟨x1, x3, rfl, _⟩ := row_sl hd5; obtain ⟨y1, y3, rfl, _⟩ := row_sl ha5; obtain ⟨u1, u3, rfl, _⟩ := row_sl hr5; obtain ⟨bx5, bl5⟩ := BX5.out _ hb5; have HX5 := mkHidT bx5; have BL5 := mkHidT bl5; have D5 := mkHidT (own_baseS hd5 HSZ2.out); have A5 := mkHidT (own_baseS ha5 HSZ2.out); have R5 := mkHidT (own_baseS hr5 HSZ2.out); obtain ⟨a0, a1, a2, a3, a4, a5, a6, a7⟩ := nd_eight bx5; obtain ⟨⟨f0, f1, f2, f3⟩, f4, f5, f6, f7⟩ := nd_all bx5; clear hb5 bx5 bl5 hd5 ha5 hr5; unfold ndCells)
              all_goals
                go_wp2_with fail
                go_meet
                refine ⟨rfl, _, _, _, _, _, rfl, ?_, nd_set8 HX5.out, ?_, ?_, ?_⟩
                · exact set8bb BL5.out (Nat.le_refl _) _ _ _ _ _ _ _ _
                · exact (fin8b HX5.out _ _ _ _ _ _ _ _) D5.out (by decide)
                · exact (fin8b HX5.out _ _ _ _ _ _ _ _) A5.out (by decide)
                · rw [← List.length_append]
                  exact (fin8b HX5.out _ _ _ _ _ _ _ _) R5.out (by decide)
            case rest =>
              obtain ⟨rfl, x, y, z, dv9, av9, rfl, hbd, hbx9, hd9, ha9, hr9⟩ := hcut
              clear hr1
              have LD := mkHidT (HL.out.below hbd)
              have HB9 := mkHidT hbx9
              have D9 := mkHidT hd9
              have A9 := mkHidT ha9
              have R9 := mkHidT (own_baseS hr9 HL.out.bel.size)
              obtain ⟨x1, x3, rfl, _⟩ := row_sl hd9
              obtain ⟨y1, y3, rfl, _⟩ := row_sl ha9
              have hscr := LD.out.sc
              rw [HSTL.out] at hscr
              have SCR := mkHidT hscr
              have honeA : ∀ u ∈ [Value.slice x y z], u.oneCell' = true := by intro u hu; simp at hu; subst hu; rfl
              have honeB : ∀ u ∈ [Value.string nd.name.pre, .string nd.name.loc, .string nd.name.spc, .string nd.name.val], u.oneCell' = true := by intro u hu; simp at hu; rcases hu with rfl | rfl | rfl | rfl <;> rfl
              have hone : ∀ u ∈ [Value.int .i64 nd.kind, .string nd.name.pre, .string nd.name.loc, .string nd.name.spc, .string nd.name.val, .slice x1 nd.decls.length x3, .slice y1 nd.attrs.length y3, .string nd.text], u.oneCell' = true := by intro u hu; simp at hu; rcases hu with rfl | rfl | rfl | rfl | rfl | rfl | rfl | rfl <;> rfl
              have hb30 : st.length + 1 + 1 ≤ 1000 := by omega
              have hb31 : st.length + 1 ≤ 1000 := by omega
              have hb32 : nds.length + 1 ≤ 1000 := by omega
              have hmzA : ∀ o, w.heap.size ≤ (wc.alloc o).heap.size := fun o => Nat.le_trans LD.out.bel.size (by simp)
              have ST1 := mkHidT (fun (wa : World) (v' : Value) (o : Obj) (ho : wa.ownsRow w.heap.size 40 1 v' (st.length + 1 + 1) (svs ++ [.slice x y z])) (hg : (wc.alloc o).grownBy wa (Value.ownBlock (.slice (some ⟨sg, 0, none⟩) (st.length + 1) sc))) => (show Lp w wa w.heap.size (w.heap.size + 1) (st ++ [(nd.name, nd.decls)]) (st.map (·.1)) (svs ++ [.slice x y z]) v' (.slice na st.length nc) nds vs (.slice da nds.length dc) ∧ wa.ownsRow wr.heap.size 62 2 (.slice x1 nd.decls.length x3) nd.decls.length (acells nd.decls) ∧ wa.ownsRow wr.heap.size 48 4 (.slice y1 nd.attrs.length y3) nd.attrs.length (nmCells nd.attrs) ∧ wa.heap[wr.heap.size]? = some (.cells (ndCells nd (.slice x1 nd.decls.length x3) (.slice y1 nd.attrs.length y3)) 51) from by
                obtain ⟨l1, l2, l3⟩ := LD.out.scope o (x := .slice x y z) nd.name R9.out (by rw [HSTL.out]; exact ho) hg
                exact ⟨l1, l2 D9.out (by decide), l2 A9.out (by decide), (l3 HB9.out (by decide)).trans HB9.out⟩))
              have ST2 := mkHidT (fun (wa wb : World) (sv' v'' : Value) (o : Obj) (la : Lp w wa w.heap.size (w.heap.size + 1) (st ++ [(nd.name, nd.decls)]) (st.map (·.1)) (svs ++ [.slice x y z]) sv' (.slice na st.length nc) nds vs (.slice da nds.length dc)) (hd : wa.ownsRow wr.heap.size 62 2 (.slice x1 nd.decls.length x3) nd.decls.length (acells nd.decls)) (ha : wa.ownsRow wr.heap.size 48 4 (.slice y1 nd.attrs.length y3) nd.attrs.length (nmCells nd.attrs)) (hx : wa.heap[wr.heap.size]? = some (.cells (ndCells nd (.slice x1 nd.decls.length x3) (.slice y1 nd.attrs.length y3)) 51)) (ho : wb.ownsRow w.heap.size 48 4 v'' (st.length + 1) (nmCells (st.map (·.1)) ++ nmC nd.name)) (hg : (wa.alloc o).grownBy wb (Value.ownBlock (.slice na st.length nc))) (hat : v''.ownBlock = Value.ownBlock (.slice na st.length nc) ∨ v''.ownBlock = some (wa.alloc o).heap.size) => (show Lp w wb w.heap.size (w.heap.size + 1) (st ++ [(nd.name, nd.decls)]) (st.map (·.1) ++ [nd.name]) (svs ++ [.slice x y z]) sv' v'' nds vs (.slice da nds.length dc) ∧ wb.ownsRow wr.heap.size 62 2 (.slice x1 nd.decls.length x3) nd.decls.length (acells nd.decls) ∧ wb.ownsRow wr.heap.size 48 4 (.slice y1 nd.attrs.length y3) nd.attrs.length (nmCells nd.attrs) ∧ wb.heap[wr.heap.size]? = some (.cells (ndCells nd (.slice x1 nd.decls.length x3) (.slice y1 nd.attrs.length y3)) 51) ∧ (∀ k, Value.ownBlock (.slice y1 nd.attrs.length y3) = some k → v''.ownBlock ≠ some k) from by
                obtain ⟨l1, l2, l3, l4⟩ := la.name o nd.name (by rw [List.length_map]; exact ho) hg hat
                have hlo : ∀ {t : TypeId} {sz : Nat} {v : Value} {n : Nat} {xs : List Value}, wa.ownsRow wr.heap.size t sz v n xs → ∀ k, v.ownBlock = some k → Value.ownBlock (.slice na st.length nc) ≠ some k := fun hr k hk he => by
                  have h1 := hnv.out k he
                  have h2 := (hr.lt k hk).1
                  omega
                refine ⟨l1, l2 hd (hlo hd), l2 ha (hlo ha), (l3 hx (fun he => ?_)).trans hx, fun k hk => l4 k (ha.lt k hk).2 (hlo ha k hk)⟩
                have := hnv.out _ he
                omega))
              have hmyA := by_small (b := 24) hb30 (by decide)
              have hmyB := by_small (b := 64) hb31 (by decide)
              have hmy := by_small (b := 136) hb32 (by decide)
              have hmxA := mx_small hb30
              have hmxB := mx_small hb31
              have hmx := mx_small hb32
              clear hbd hbx9 hscr hst hentS d0 d1 d2 d3 d4 e0 e1 e2 e3 hd9 ha9 hr9 hb30 hb31 hb32
              go_wp2_with (first | (at_builtin; refine wpList_append_own _ rfl _ _ 63 rfl w.heap.size 40 i0 (.slice none 0 0) 1 24 Tryd.underlying63 hi hz0 hz1 hz2 rfl (by decide) _ _ _ rfl (SCR.out.alloc _) ⟨_, 0, none⟩ 1 1 [.slice x y z] rfl rfl (cell_one_new _ _ _) honeA hmxA hmyA (hmzA _) ?_; intro v' wa hown' hgrow _; obtain ⟨xo, xc, rfl, _⟩ := row_sl hown'; obtain ⟨la', da', aa', xa'⟩ := ST1.out wa _ _ hown' hgrow; have LA := mkHidT la'; have DA := mkHidT da'; have AA := mkHidT aa'; have XA := mkHidT xa'; have hnmr := la'.nm; rw [List.length_map] at hnmr; have NMA := mkHidT hnmr; obtain ⟨a0, a1, a2, a3, a4, a5, a6, a7⟩ := nd_eight xa'; have hmzB : ∀ o, w.heap.size ≤ (wa.alloc o).heap.size := (fun o => Nat.le_trans LA.out.bel.size (by simp)); clear hown' hgrow la' da' aa' xa' hnmr) | (at_builtin; refine wpList_append_own_at _ rfl _ _ 49 rfl w.heap.size 48 j0 (.agg #[.string ⟨#[]⟩, .string ⟨#[]⟩, .string ⟨#[]⟩, .string ⟨#[]⟩]) 4 64 Tryd.underlying49 hj hy0 hy1 hy2 rfl (by decide) _ _ _ rfl (own_new NMA.out) ⟨_, 0, none⟩ 1 1 [.string nd.name.pre, .string nd.name.loc, .string nd.name.spc, .string nd.name.val] rfl rfl (lit_new _ _ _) honeB hmxB hmyB (hmzB _) ?_; intro v'' wb hown2 hgrow2 _ hat2; obtain ⟨yo, yc, rfl, _⟩ := row_sl hown2; obtain ⟨lb', db', ab', xb', sb'⟩ := ST2.out wa wb _ _ _ LA.out DA.out AA.out XA.out hown2 hgrow2 hat2; have LB := mkHidT lb'; have DB := mkHidT db'; have AB := mkHidT ab'; have XB := mkHidT xb'; have SB := mkHidT sb'; clear a0 a1 a2 a3 a4 a5 a6 a7; obtain ⟨a0, a1, a2, a3, a4, a5, a6, a7⟩ := nd_eight xb'; obtain ⟨q0, q1, q2, _, _, _⟩ := three_cells lb'.out; have hmz : ∀ o, w.heap.size ≤ (wb.alloc o).heap.size := (fun o => Nat.le_trans LB.out.bel.size (by simp)); clear hown2 hgrow2 hat2 lb' db' ab' xb' sb') | (at_builtin; refine wpList_append_own _ rfl _ _ 24 rfl w.heap.size 51 k0 (.agg zNdC) 8 136 Tryd.underlying24 hk0 hx0 hx1 hx2 rfl (by decide) _ _ _ rfl (LB.out.nd.row.alloc _) ⟨_, 0, none⟩ 1 1 [.int .i64 nd.kind, .string nd.name.pre, .string nd.name.loc, .string nd.name.spc, .string nd.name.val, .slice x1 nd.decls.length x3, .slice y1 nd.attrs.length y3, .string nd.text] rfl rfl (lit_new _ _ _) hone hmx hmy (hmz _) ?_; intro v3 wn hown3 hgrow3 _; obtain ⟨zo, zc, rfl, _⟩ := row_sl hown3; obtain ⟨LN', p0, p1⟩ := LB.out.node (n := nd) (nd := .slice x1 nd.decls.length x3) (na := .slice y1 nd.attrs.length y3) HL.out.bel.size hCC.out DB.out AB.out SB.out _ hown3 hgrow3; have LN := mkHidT LN'; clear hown3 hgrow3 LN'))
              go_roundw
              case rel => exact ⟨st ++ [(nd.name, nd.decls)], svs ++ [.slice x y z], nds ++ [nd], _, _, op', el', by rw [List.length_append]; simp; omega, by rw [List.length_append]; go_num, by rw [List.length_append]; exact HR1.out, by rw [List.length_append]; exact HRG.out, HOP.out, HSL.out, HSK2.out, by rw [List.map_append]; exact LN.out⟩
              case measure => simp [intOf]; omega
        · by_cases k2 : kd = 2
          · subst k2
            obtain ⟨m, hm⟩ : ∃ m, st.length = m + 1 := ⟨st.length - 1, by have h1 := HNE.out HKD.out; have h2 := HSO.out; omega⟩
            obtain ⟨ng, rfl⟩ := hna' (by omega)
            have hsl := HL.out.scl
            obtain ⟨sg, rfl⟩ := hsa (by omega)
            have hml : m < st.length := by omega
            have hmm : m < (st.map (·.1)).length := by rw [List.length_map]; omega
            obtain ⟨X, hX⟩ : ∃ X, (st[m]'hml).1 = X := ⟨_, rfl⟩
            have hlast : (st.getD (st.length - 1) (zNm, [])).1 = X := by
              rw [List.getD_eq_getElem?_getD, List.getElem?_eq_getElem (by omega), ← hX]
              simp only [Option.getD_some, hm, Nat.add_sub_cancel]
            have hnr := LC.out.nm
            rw [List.length_map] at hnr
            have hcells : ∀ r v, r < 4 → (nmC X)[r]? = some v → wc.cell? ⟨ng, m * 4 + r, none⟩ = some v := by
              intro r v hr hv
              rw [hnr.cellAt (m * 4 + r) (by rw [hm]; omega)]
              have := nmCells_get (st.map (·.1)) m hmm r hr
              rw [this, List.getElem_map, hX]
              exact hv
            have w0 := hcells 0 _ (by decide) rfl
            have w1 := hcells 1 _ (by decide) rfl
            have w2 := hcells 2 _ (by decide) rfl
            have w3 := hcells 3 _ (by decide) rfl
            rw [Nat.add_zero] at w0
            obtain ⟨n0, n1, n2, n3, n4, n5, n6, n7⟩ := nd_eight BX.out
            obtain ⟨g1, g2, g3, g4⟩ := nd_fr BX.out
            simp only [zNm] at n1 n2 n3 n4
            obtain ⟨WD, hWD⟩ : ∃ WD, (((wc.setCell ⟨wr.heap.size, 1, none⟩ (.string X.pre)).setCell ⟨wr.heap.size, 2, none⟩ (.string X.loc)).setCell ⟨wr.heap.size, 3, none⟩ (.string X.spc)).setCell ⟨wr.heap.size, 4, none⟩ (.string X.val) = WD := ⟨_, rfl⟩
            have BD : Hid (Below wr.heap.size wr WD) := mkHidT (by rw [← hWD]; exact (((BC.out.setCell (Nat.le_refl _) _).setCell (Nat.le_refl _) _).setCell (Nat.le_refl _) _).setCell (Nat.le_refl _) _)
            have LD0 := HL.out.below BD.out
            have hbd : WD.heap[wr.heap.size]? = some (.cells (ndCells ⟨2, X, [], [], E.text⟩ (.slice none 0 0) (.slice none 0 0)) 51) := by
              rw [← hWD, heap_setCell_same _ _ _ _ _ _ (heap_setCell_same _ _ _ _ _ _ (heap_setCell_same _ _ _ _ _ _ (heap_setCell_same _ _ _ _ _ _ BX.out)))]; rfl
            obtain ⟨z0, z1, z2, z3, z4, z5, z6, z7⟩ := nd_eight hbd
            simp only at z0 z1 z2 z3 z4 z7
            obtain ⟨q, hq⟩ : ∃ q, q = m + 1 := ⟨_, rfl⟩
            have hsl2 : svs.length = q + 1 := by rw [hsl, hm, hq]
            rw [hm, hsl2] at LD0
            have hncap := own_cap hnr
            have hscap := HL.out.sc
            have hscap := own_cap hscap
            rw [hm] at hncap
            rw [hsl2] at hscap
            have LP := (LD0.pop hsl2 (by rw [List.length_map]; exact hm) (by omega)).resolve_right (by omega)
            rw [show q - 1 = m by omega] at LP
            have LD := mkHidT LP
            have hnz : nodeZ st E = (st.take m, .ok ⟨2, X, [], [], E.text⟩) := by rw [nz_end HKD.out, hlast, HKD.out, hm, Nat.add_sub_cancel]
            have HR1 := mkHidT (HSP.out.trans (sp_ok hnz))
            have HSL := mkHidT (show (st.take m).length = op'.length by
              rw [List.length_take, HOL.out, if_neg (by rw [HKD.out]; decide), if_pos HKD.out, ← HSO.out]; omega)
            have HSK2 : Hid (ScOk (st.take m)) := mkHidT (fun x hx => HSK.out x (List.mem_of_mem_take hx))
            obtain ⟨q0, q1, q2, _, _, _⟩ := three_cells LD.out.out
            have hmb : m ≤ 100 := by have h1 := HSO.out; omega
            have hqb : q ≤ 101 := by omega
            have hone : ∀ u ∈ [Value.int .i64 2, .string X.pre, .string X.loc, .string X.spc, .string X.val, .slice none 0 0, .slice none 0 0, .string E.text], u.oneCell' = true := by intro u hu; simp at hu; rcases hu with rfl | rfl | rfl | rfl | rfl | rfl | rfl | rfl <;> rfl
            have hmx : nds.length + 1 ≤ maxLen := by unfold maxLen; omega
            have hmy : (nds.length + 1) * 136 ≤ 140737488355328 := by omega
            have hmz : ∀ o, w.heap.size ≤ (WD.alloc o).heap.size := by intro o; have := LD.out.bel.size; simp; omega
            have hb1 : (m : Int) < (m : Int) + 1 := by omega
            have hb2 : (q : Int) < (q : Int) + 1 := by omega
            have hcp : m ≤ nc := by omega
            have hcp2 : q ≤ sc := by omega
            have HQ := mkHidT hq
            have hmk : m ≤ 1000 := by omega
            have hqk : q ≤ 1000 := by omega
            have hr1 := wSm_nat hmk
            have hr2 := wSm_nat hqk
            have hm1 := w64_small hmk
            have hm2 := w64_small hqk
            clear hmk hqk
            have HM := mkHidT hm
            have HSL3 := mkHidT hsl2
            rw [hm, hsl2]
            clear hnz hlast hX hnr hcells hbd LD0 hsl hsl2 hm LP hncap hscap hml hmm hq hsa hna' hda
            go_wp2_with (at_builtin; refine wpList_append_own _ rfl _ _ 24 rfl w.heap.size 51 k0 (.agg zNdC) 8 136 Tryd.underlying24 hk0 hx0 hx1 hx2 rfl (by decide) _ _ _ rfl (LD.out.nd.row.alloc _) ⟨_, 0, none⟩ 1 1 [.int .i64 2, .string X.pre, .string X.loc, .string X.spc, .string X.val, .slice none 0 0, .slice none 0 0, .string E.text] rfl rfl (lit_new _ _ _) hone hmx hmy (hmz _) ?_; intro v' wa hown' hgrow _; obtain ⟨xo, xc, rfl, _⟩ := row_sl hown'; obtain ⟨LN', p0, p1⟩ := LD.out.node (n := ⟨2, X, [], [], E.text⟩) (nd := .slice none 0 0) (na := .slice none 0 0) HL.out.bel.size hCC.out (World.ownsRow_nil _ _ _ _) (World.ownsRow_nil _ _ _ _) (fun k hk => by (simp [Value.ownBlock] at hk)) _ hown' hgrow; have LN := mkHidT LN'; clear hown' hgrow LN')
            go_roundw
            case rel => exact ⟨st.take m, svs.take q, nds ++ [⟨2, X, [], [], E.text⟩], _, _, op', el', by rw [List.length_append]; simp; omega, by rw [List.length_append]; go_num, by rw [List.length_append]; exact HR1.out, by rw [List.length_append]; exact HRG.out, HOP.out, HSL.out, HSK2.out, by rw [List.map_take]; exact LN.out⟩
            case measure => simp [intOf]; omega
          · by_cases k5 : kd = 5
            · subst k5
              have hfd := fun wx => find_anyS E.name 0 ⟨#[58]⟩ wx hnmE (by decide) (Nat.zero_le _)
              have hfc := find_col E.name
              obtain ⟨FZ, hFZ⟩ : ∃ FZ, findZ E.name 0 ⟨#[58]⟩ = FZ := ⟨_, rfl⟩
              rw [hFZ] at hfc
              simp only [hFZ] at hfd
              obtain ⟨n0, n1, n2, n3, n4, n5, n6, n7⟩ := nd_eight BX.out
              obtain ⟨g1, g2, g3, g4⟩ := nd_fr BX.out
              simp only [zNm] at n1 n2 n3 n4
              obtain ⟨WD, hWD⟩ : ∃ WD, wc.setCell ⟨wr.heap.size, 2, none⟩ (.string E.name) = WD := ⟨_, rfl⟩
              have BD : Hid (Below wr.heap.size wr WD) := mkHidT (by rw [← hWD]; exact BC.out.setCell (Nat.le_refl _) _)
              have LD := mkHidT (HL.out.below BD.out)
              have hbd : WD.heap[wr.heap.size]? = some (.cells (ndCells ⟨5, ⟨⟨#[]⟩, E.name, ⟨#[]⟩, ⟨#[]⟩⟩, [], [], E.text⟩ (.slice none 0 0) (.slice none 0 0)) 51) := by rw [← hWD, heap_setCell_same _ _ _ _ _ _ BX.out]; rfl
              obtain ⟨z0, z1, z2, z3, z4, z5, z6, z7⟩ := nd_eight hbd
              simp only at z0 z1 z2 z3 z4 z7
              have hne2 : b ≠ wr.heap.size := by omega
              have d1 : WD.cell? ⟨b, off + nds.length * 4 + 1, none⟩ = some (.string E.name) := cell_keepS (by rw [← hWD]; exact heap_setCell_ne _ hne2) e1
              obtain ⟨q0, q1, q2, _, _, _⟩ := three_cells LD.out.out
              obtain ⟨r0, r1, r2, f0, f1, f2⟩ := three_cells LD.out.res
              cases hcol : hasCol E.name with
              | true =>
                have hnz : nodeZ st E = (st, .error 3) := by rw [nz_pi HKD.out, if_pos hcol]
                obtain rfl : R = ⟨[], nds.length, 3⟩ := by rw [HSP.out]; exact sp_err hnz
                have hge : (0 : Int) ≤ FZ := by rw [hcol] at hfc; exact of_decide_eq_true hfc
                have hwk : IntKind.i64.wrap (nds.length : Int) = nds.length := wrapSm (by omega) (by omega)
                clear hnz hfc hcol hFZ hbd
                go_wp2_with fail
                refine (hfd _).mono ?_
                rintro en w5 ⟨rfl, hw5⟩
                obtain rfl := hw5.symm
                go_wp2
                refine bodyPost_ret (v := .agg #[.slice none 0 0, .int .i64 nds.length, .int .i64 3]) (by simp [results, Tryd.results15, go_sem, r0, r1, r2]) rfl ⟨_, [], rfl, NdsAt.nil _ _, ?_⟩
                exact below_new (below_new (below_new LD.out.bel _ _) _ _) _ _
              | false =>
                have hnz : nodeZ st E = (st, .ok ⟨5, ⟨⟨#[]⟩, E.name, ⟨#[]⟩, ⟨#[]⟩⟩, [], [], E.text⟩) := by rw [nz_pi HKD.out, if_neg (by rw [hcol]; simp), HKD.out]; rfl
                have HR1 := mkHidT (HSP.out.trans (sp_ok hnz))
                have HSL := mkHidT (show st.length = op'.length by rw [HOL.out, if_neg (by rw [HKD.out]; decide), if_neg (by rw [HKD.out]; decide)]; exact HSO.out)
                have hge : ¬ (0 : Int) ≤ FZ := by rw [hcol] at hfc; exact of_decide_eq_false hfc
                have hone : ∀ u ∈ [Value.int .i64 5, .string ⟨#[]⟩, .string E.name, .string ⟨#[]⟩, .string ⟨#[]⟩, .slice none 0 0, .slice none 0 0, .string E.text], u.oneCell' = true := by intro u hu; simp at hu; rcases hu with rfl | rfl | rfl | rfl | rfl | rfl | rfl | rfl <;> rfl
                have hmx : nds.length + 1 ≤ maxLen := by unfold maxLen; omega
                have hmy : (nds.length + 1) * 136 ≤ 140737488355328 := by omega
                have hmz : ∀ o, w.heap.size ≤ (WD.alloc o).heap.size := by intro o; have := LD.out.bel.size; simp; omega
                clear hnz hfc hcol hFZ hbd
                go_wp2_with fail
                refine (hfd _).mono ?_
                rintro en w5 ⟨rfl, hw5⟩
                obtain rfl := hw5.symm
                go_wp2_with (at_builtin; refine wpList_append_own _ rfl _ _ 24 rfl w.heap.size 51 k0 (.agg zNdC) 8 136 Tryd.underlying24 hk0 hx0 hx1 hx2 rfl (by decide) _ _ _ rfl (LD.out.nd.row.alloc _) ⟨_, 0, none⟩ 1 1 [.int .i64 5, .string ⟨#[]⟩, .string E.name, .string ⟨#[]⟩, .string ⟨#[]⟩, .slice none 0 0, .slice none 0 0, .string E.text] rfl rfl (lit_new _ _ _) hone hmx hmy (hmz _) ?_; intro v' wa hown' hgrow _; obtain ⟨xo, xc, rfl, _⟩ := row_sl hown'; obtain ⟨LN', p0, p1⟩ := LD.out.node (n := ⟨5, ⟨⟨#[]⟩, E.name, ⟨#[]⟩, ⟨#[]⟩⟩, [], [], E.text⟩) (nd := .slice none 0 0) (na := .slice none 0 0) HL.out.bel.size hCC.out (World.ownsRow_nil _ _ _ _) (World.ownsRow_nil _ _ _ _) (fun k hk => by (simp [Value.ownBlock] at hk)) _ hown' hgrow; have LN := mkHidT LN'; clear hown' hgrow LN')
                go_roundw
                case rel => exact ⟨st, svs, nds ++ [⟨5, ⟨⟨#[]⟩, E.name, ⟨#[]⟩, ⟨#[]⟩⟩, [], [], E.text⟩], _, _, op', el', by rw [List.length_append]; simp; omega, by rw [List.length_append]; go_num, by rw [List.length_append]; exact HR1.out, by rw [List.length_append]; exact HRG.out, HOP.out, HSL.out, HSK.out, LN.out⟩
                case measure => simp [intOf]; omega
            · have hnz : nodeZ st E = (st, .ok ⟨kd, zNm, [], [], E.text⟩) := by rw [nz_other (by rw [HKD.out]; exact k1) (by rw [HKD.out]; exact k2) (by rw [HKD.out]; exact k5), HKD.out]
              have HR1 := mkHidT (HSP.out.trans (sp_ok hnz))
              have HSL := mkHidT (show st.length = op'.length by rw [HOL.out, if_neg (by rw [HKD.out]; exact k1), if_neg (by rw [HKD.out]; exact k2)]; exact HSO.out)
              obtain ⟨z0, z1, z2, z3, z4, z5, z6, z7⟩ := nd_eight BX.out
              simp only [zNm] at z0 z1 z2 z3 z4 z7
              obtain ⟨q0, q1, q2, _, _, _⟩ := three_cells LC.out.out
              have hone : ∀ u ∈ [Value.int .i64 kd, .string ⟨#[]⟩, .string ⟨#[]⟩, .string ⟨#[]⟩, .string ⟨#[]⟩, .slice none 0 0, .slice none 0 0, .string E.text], u.oneCell' = true := by intro u hu; simp at hu; rcases hu with rfl | rfl | rfl | rfl <;> rfl
              have hmx : nds.length + 1 ≤ maxLen := by unfold maxLen; omega
              have hmy : (nds.length + 1) * 136 ≤ 140737488355328 := by omega
              have hmz : ∀ o, w.heap.size ≤ (wc.alloc o).heap.size := by intro o; have := LC.out.bel.size; simp; omega
              clear hnz
              go_wp2_with (at_builtin; refine wpList_append_own _ rfl _ _ 24 rfl w.heap.size 51 k0 (.agg zNdC) 8 136 Tryd.underlying24 hk0 hx0 hx1 hx2 rfl (by decide) _ _ _ rfl (LC.out.nd.row.alloc _) ⟨_, 0, none⟩ 1 1 [.int .i64 kd, .string ⟨#[]⟩, .string ⟨#[]⟩, .string ⟨#[]⟩, .string ⟨#[]⟩, .slice none 0 0, .slice none 0 0, .string E.text] rfl rfl (lit_new _ _ _) hone hmx hmy (hmz _) ?_; intro v' wa hown' hgrow _; obtain ⟨xo, xc, rfl, _⟩ := row_sl hown'; obtain ⟨LN', p0, p1⟩ := LC.out.node (n := ⟨kd, zNm, [], [], E.text⟩) (nd := .slice none 0 0) (na := .slice none 0 0) HL.out.bel.size hCC.out (World.ownsRow_nil _ _ _ _) (World.ownsRow_nil _ _ _ _) (fun k hk => by (simp [Value.ownBlock] at hk)) _ hown' hgrow; have LN := mkHidT LN'; clear hown' hgrow LN')
              go_roundw
              case rel => exact ⟨st, svs, nds ++ [⟨kd, zNm, [], [], E.text⟩], _, _, op', el', by rw [List.length_append]; simp; omega, by rw [List.length_append]; go_num, by rw [List.length_append]; exact HR1.out, by rw [List.length_append]; exact HRG.out, HOP.out, HSL.out, HSK.out, LN.out⟩
              case measure => simp [intOf]; omega
    · have hend : evs.drop nds.length = [] := List.drop_eq_nil_of_le (by omega)
      rw [hend] at hsp
      obtain rfl : R = ⟨nds, 0, 0⟩ := hsp
      obtain ⟨q0, q1, q2, g0, g1, g2⟩ := three_cells HL.out.res
      obtain ⟨p0, p1, p2, _, _, _⟩ := three_cells HL.out.out
      clear hrg hend hso
      go_wp2
      refine bodyPost_ret (v := .agg #[.slice da nds.length dc, .int .i64 0, .int .i64 0]) (by simp [results, Tryd.results15, go_sem, q0, q1, q2]) rfl ⟨_, vs, rfl, ?_, ?_⟩
      · refine HL.out.nd.keep (fun j cs t hc ht => ?_)
        have hne := type_ne hc HL.out.res (by rcases ht with rfl | rfl | rfl <;> decide)
        simp only [heap_setCell_ne _ hne]
      · exact below_new (below_new (below_new HL.out.bel _ _) _ _) _ _
end Go.Proofs.YtlfcmlcpdpkibaaDoor
