/- The model's Spaced: the search for a colon (l02Find), and the frame of l05Spaced. -/
import Derived.Test.YtlfcmlcpdpkibaaDoorMsE
import Derived.Test.YtlfcmlcpdpkibaaDoorPlainX
import Derived.Test.YtlfcmlcpdpkibaaDoorSpT
namespace Go.Proofs.YtlfcmlcpdpkibaaDoor
open Go.RowKit Plain1 Plain2 Strs Strs2 Lists Bytes Plain3 Plain5 Plain6 Plain9 Plain10 Plain11 Plain12 PlainS PlainR PlainN PlainW PlainX Ents
set_option linter.unusedVariables false

set_option maxHeartbeats 1000000 in
theorem find_anyS (s : ByteArray) (p : Nat) (what : ByteArray) (w : World) (hs : s.size ≤ 1048576) (hw : what.size ≤ 1048576) (hp : p ≤ s.size) :
    Calls Tryd.prog 27 #[.string s, .int .i64 p, .string what] w fun e w' => e = .returned (.int .i64 (findZ s p what)) ∧ w' = w := by
  obtain ⟨R, hR⟩ : ∃ R, findZ s p what = R := ⟨_, rfl⟩
  rw [hR]
  have HR : Hid (findGo s what (s.size + 1) p = R) := hR
  clear hR
  go_enter Tryd.func27, Tryd.ntmps27
  go_wp2
  go_loop [7] (fun i => ∃ (f k : Nat), k ≤ s.size + 1 ∧ i = .int .i64 k ∧ findGo s what f k = R ∧ s.size + 1 ≤ k + f) (fun i => s.size + 1 - (intOf i).toNat)
  case atStart => exact ⟨s.size + 1, p, by omega, rfl, HR.out, by omega⟩
  case round =>
    obtain ⟨f, k, hk, rfl, hf, hfu⟩ := hrel
    have HF : Hid (findGo s what f k = R) := hf
    clear hf
    by_cases hlt : k + what.size ≤ s.size
    · obtain ⟨f', rfl⟩ : ∃ f', f = f' + 1 := ⟨f - 1, by omega⟩
      cases hst : standsAt s k what with
      | true =>
        have hh := find_hit (f := f') hlt hst
        rw [HF.out] at hh
        have hst' : ((s.extract k (k + what.size)).toList == what.toList) = true := hst
        clear hst
        go_wp2
        go_ret
        exact ⟨rfl, rfl⟩
      | false =>
        have hh := find_miss (f := f') hlt hst
        rw [HF.out] at hh
        have HG : Hid (R = findGo s what f' (k + 1)) := hh
        have hst' : ((s.extract k (k + what.size)).toList == what.toList) = false := hst
        clear hst hh
        go_wp2
        go_round
        case rel => exact ⟨f', k + 1, by omega, by go_num, HG.out.symm, by omega⟩
        case measure => simp [intOf]; omega
    · have hh := find_end (f := f) hlt
      rw [HF.out] at hh
      go_wp2
      go_ret
      exact ⟨rfl, rfl⟩

theorem find_col (s : ByteArray) : decide (0 ≤ findZ s 0 ⟨#[58]⟩) = hasCol s := by
  unfold findZ hasCol
  rw [find_fz (by decide) _ _ (by omega)]
  show decide (0 ≤ fz s 0 [58]) = decide (fz s 0 [58] ≠ -1)
  apply decide_eq_decide.2
  unfold fz
  split
  · simp
  · rename_i h
    rcases Lib.index_spec (rest s 0) [58] with ⟨h1, _⟩ | ⟨i, h1, _⟩
    · exact absurd h1 h
    · constructor
      · intro _ ; omega
      · intro _ ; omega
def flatS (st : List Scp) : List BB := xmlD :: (st.map (·.2)).flatten
structure Lp (w W : World) (rb ob : Nat) (st : List Scp) (ns : List Nm) (svs : List Value) (sv nv : Value) (nds : List Nd) (vs : List (Value × Value)) (dv : Value) : Prop where
  res : W.heap[rb]? = some (.cells #[.slice none 0 0, .int .i64 0, .int .i64 0] 26)
  out : W.heap[ob]? = some (.cells #[dv, .int .i64 0, .int .i64 0] 26)
  ro : rb ≠ ob
  r0 : w.heap.size ≤ rb
  o0 : w.heap.size ≤ ob
  sc : W.ownsRow w.heap.size 40 1 sv svs.length svs
  scl : svs.length = st.length + 1
  ent : ∀ (k : Nat) (hk : k < svs.length), W.ownsRow w.heap.size 62 2 (svs[k]'hk) (flatS (st.take k)).length (acells (flatS (st.take k)))
  nm : W.ownsRow w.heap.size 48 4 nv ns.length (nmCells ns)
  nd : NdsAt W w.heap.size dv nds vs
  sep : ∀ p ∈ vs, ∀ k, p.2.ownBlock = some k → nv.ownBlock ≠ some k
  bel : Below w.heap.size w W
theorem NdsAt.keepx {W W' : World} {B : Nat} {v : Value} {nds : List Nd} {vs : List (Value × Value)} (h : NdsAt W B v nds vs) (hk : ∀ (k : Nat) (cs : Array Value) (t : TypeId), W.heap[k]? = some (.cells cs t (0, 0)) → (t = 51 ∨ t = 62 ∨ ∃ p ∈ vs, p.2.ownBlock = some k) → W'.heap[k]? = W.heap[k]?) : NdsAt W' B v nds vs := by
  refine ⟨h.len, own_keep h.row (fun k hkk => ?_), fun p hp => ⟨own_keep (h.rows p hp).1 (fun k hkk => ?_), own_keep (h.rows p hp).2 (fun k hkk => ?_)⟩, h.nodup⟩
  · obtain ⟨cs, hc⟩ := own_type h.row hkk
    exact hk _ _ _ hc (Or.inl rfl)
  · obtain ⟨cs, hc⟩ := own_type (h.rows p hp).1 hkk
    exact hk _ _ _ hc (Or.inr (Or.inl rfl))
  · obtain ⟨cs, hc⟩ := own_type (h.rows p hp).2 hkk
    exact hk _ _ _ hc (Or.inr (Or.inr ⟨p.2, (List.of_mem_zip hp).2, hkk⟩))
section
variable {w W W' wa : World} {rb ob : Nat} {st : List Scp} {ns : List Nm} {svs : List Value} {sv nv : Value} {nds : List Nd} {vs : List (Value × Value)} {dv : Value}
theorem Lp.below (h : Lp w W rb ob st ns svs sv nv nds vs dv) (hb : Below W.heap.size W W') : Lp w W' rb ob st ns svs sv nv nds vs dv :=
  ⟨(hb.block _ (Array.getElem?_eq_some_iff.1 h.res).1).trans h.res, (hb.block _ (Array.getElem?_eq_some_iff.1 h.out).1).trans h.out, h.ro, h.r0, h.o0, own_keep h.sc (fun k hk => hb.block _ (h.sc.lt k hk).2), h.scl, fun k hk => own_keep (h.ent k hk) (fun j hj => hb.block _ ((h.ent k hk).lt j hj).2), own_keep h.nm (fun k hk => hb.block _ (h.nm.lt k hk).2), h.nd.below hb, h.sep, h.bel.trans (hb.mono h.bel.size)⟩
theorem flat_snoc (st : List Scp) (x : Scp) : flatS (st ++ [x]) = flatS st ++ x.2 := by unfold flatS; simp
/-- One of the scopes' rows more. -/
theorem Lp.scope (h : Lp w W rb ob st ns svs sv nv nds vs dv) (o : Obj) {v' x : Value} {dl : List BB} (nm : Nm) (hx : W.ownsRow w.heap.size 62 2 x (flatS st ++ dl).length (acells (flatS st ++ dl)))
    (ho : wa.ownsRow w.heap.size 40 1 v' (svs.length + 1) (svs ++ [x])) (hg : (W.alloc o).grownBy wa sv.ownBlock) :
    Lp w wa rb ob (st ++ [(nm, dl)]) ns (svs ++ [x]) v' nv nds vs dv ∧ (∀ {b : Nat} {t : TypeId} {size : Nat} {v : Value} {m : Nat} {xs : List Value}, W.ownsRow b t size v m xs → t ≠ 40 → wa.ownsRow b t size v m xs) ∧ (∀ {k : Nat} {c : Array Value} {s : TypeId} {f : Nat × Nat}, W.heap[k]? = some (.cells c s f) → s ≠ 40 → wa.heap[k]? = W.heap[k]?) := by
  have h1 := h.below ((Below.refl _ _).alloc (Nat.le_refl _) o)
  have hoff : ∀ {k : Nat} {c : Array Value} {s : TypeId} {f : Nat × Nat}, W.heap[k]? = some (.cells c s f) → s ≠ 40 → wa.heap[k]? = W.heap[k]? := fun hc hs => by
    have hlt := (Array.getElem?_eq_some_iff.1 hc).1
    rw [← heap_alloc_old W o hlt] at hc ⊢
    exact (grown_kp hg).block _ (Array.getElem?_eq_some_iff.1 hc).1 (fun hm => by
      obtain ⟨cs, h2⟩ := own_type h1.sc (by rw [Option.mem_toList] at hm; exact hm)
      exact type_ne hc h2 hs rfl)
  have hrows : ∀ {b : Nat} {t : TypeId} {size : Nat} {v : Value} {m : Nat} {xs : List Value}, W.ownsRow b t size v m xs → t ≠ 40 → wa.ownsRow b t size v m xs := fun hr ht => own_keep hr (fun k hkk => by
    obtain ⟨cs, hc⟩ := own_type hr hkk
    exact hoff hc ht)
  refine ⟨⟨(hoff h.res (by decide)).trans h.res, (hoff h.out (by decide)).trans h.out, h.ro, h.r0, h.o0, ?_, by simp [h.scl], ?_, hrows h.nm (by decide), h.nd.keep (fun k cs t hc ht => hoff hc (by rcases ht with rfl | rfl | rfl <;> decide)), h.sep, h1.bel.grown hg h1.bel.size (fun k hk => (h1.sc.lt k hk).1)⟩, hrows, hoff⟩
  · rw [List.length_append]; exact ho
  · intro k hk
    have hscl := h.scl
    by_cases hks : k < svs.length
    · rw [List.getElem_append_left hks, List.take_append_of_le_length (by omega)]
      exact hrows (h.ent k hks) (by decide)
    · have hke : k = svs.length := by rw [List.length_append] at hk; simp at hk; omega
      subst hke
      rw [List.getElem_append_right (Nat.le_refl _)]
      simp only [Nat.sub_self, List.getElem_cons_zero]
      rw [List.take_of_length_le (by simp [hscl]), flat_snoc]
      exact hrows hx (by decide)
/-- A name more. -/
theorem Lp.name (h : Lp w W rb ob st ns svs sv nv nds vs dv) (o : Obj) (nm : Nm) {v' : Value} (ho : wa.ownsRow w.heap.size 48 4 v' (ns.length + 1) (nmCells ns ++ nmC nm)) (hg : (W.alloc o).grownBy wa nv.ownBlock) (hat : v'.ownBlock = nv.ownBlock ∨ v'.ownBlock = some (W.alloc o).heap.size) :
    Lp w wa rb ob st (ns ++ [nm]) svs sv v' nds vs dv ∧ (∀ {b : Nat} {t : TypeId} {size : Nat} {v : Value} {m : Nat} {xs : List Value}, W.ownsRow b t size v m xs → (∀ k, v.ownBlock = some k → nv.ownBlock ≠ some k) → wa.ownsRow b t size v m xs) ∧ (∀ {k : Nat} {c : Array Value} {s : TypeId} {f : Nat × Nat}, W.heap[k]? = some (.cells c s f) → nv.ownBlock ≠ some k → wa.heap[k]? = W.heap[k]?) ∧ (∀ k, k < W.heap.size → nv.ownBlock ≠ some k → v'.ownBlock ≠ some k) := by
  have h1 := h.below ((Below.refl _ _).alloc (Nat.le_refl _) o)
  have hoff : ∀ {k : Nat} {c : Array Value} {s : TypeId} {f : Nat × Nat}, W.heap[k]? = some (.cells c s f) → nv.ownBlock ≠ some k → wa.heap[k]? = W.heap[k]? := fun hc hs => by
    have hlt := (Array.getElem?_eq_some_iff.1 hc).1
    rw [← heap_alloc_old W o hlt] at hc ⊢
    exact (grown_kp hg).block _ (Array.getElem?_eq_some_iff.1 hc).1 (fun hm => by
      rw [Option.mem_toList] at hm
      exact hs hm)
  have hrows : ∀ {b : Nat} {t : TypeId} {size : Nat} {v : Value} {m : Nat} {xs : List Value}, W.ownsRow b t size v m xs → (∀ k, v.ownBlock = some k → nv.ownBlock ≠ some k) → wa.ownsRow b t size v m xs := fun hr ht => own_keep hr (fun k hkk => by
    obtain ⟨cs, hc⟩ := own_type hr hkk
    exact hoff hc (ht k hkk))
  have hty : ∀ {k : Nat} {c : Array Value} {s : TypeId} {f : Nat × Nat}, W.heap[k]? = some (.cells c s f) → s ≠ 48 → nv.ownBlock ≠ some k := fun hc hs he => by
    obtain ⟨cs, h2⟩ := own_type h.nm he
    exact type_ne hc h2 hs rfl
  have hrt : ∀ {b : Nat} {t : TypeId} {size : Nat} {v : Value} {m : Nat} {xs : List Value}, W.ownsRow b t size v m xs → t ≠ 48 → wa.ownsRow b t size v m xs := fun hr ht => hrows hr (fun k hk => by
    obtain ⟨cs, hc⟩ := own_type hr hk
    exact hty hc ht)
  have hnew : ∀ k, k < W.heap.size → nv.ownBlock ≠ some k → v'.ownBlock ≠ some k := fun k hk hne he => by
    rcases hat with e | e
    · rw [e] at he; exact hne he
    · rw [e] at he
      have : (W.alloc o).heap.size = k := by simpa using he
      simp at this; omega
  refine ⟨⟨(hoff h.res (hty h.res (by decide))).trans h.res, (hoff h.out (hty h.out (by decide))).trans h.out, h.ro, h.r0, h.o0, hrt h.sc (by decide), h.scl, fun k hk => hrt (h.ent k hk) (by decide), ?_, ?_, ?_, h1.bel.grown hg h1.bel.size (fun k hk => (h1.nm.lt k hk).1)⟩, hrows, hoff, hnew⟩
  · have : nmCells (ns ++ [nm]) = nmCells ns ++ nmC nm := by rw [nmCells_app]; simp [nmCells]
    rw [this, List.length_append]; exact ho
  · refine h.nd.keepx (fun k cs t hc ht => hoff hc ?_)
    rcases ht with rfl | rfl | ⟨p, hp, hpk⟩
    · exact hty hc (by decide)
    · exact hty hc (by decide)
    · exact h.sep p hp k hpk
  · intro p hp k hpk
    have hlt : k < W.heap.size := h.nd.lt (List.mem_flatMap.2 ⟨p, hp, List.mem_append_right _ (by unfold blk; rw [Option.mem_toList]; exact hpk)⟩)
    exact hnew k hlt (h.sep p hp k hpk)
/-- A node more. -/
theorem Lp.node {C : Nat} {n : Nd} {nd na v' : Value} (h : Lp w W rb ob st ns svs sv nv nds vs dv) (hBC : w.heap.size ≤ C) (hC : ∀ k ∈ vs.flatMap fun p => blk p.1 ++ blk p.2, k < C) (hd : W.ownsRow C 62 2 nd n.decls.length (acells n.decls)) (ha : W.ownsRow C 48 4 na n.attrs.length (nmCells n.attrs)) (hs : ∀ k, na.ownBlock = some k → nv.ownBlock ≠ some k) (o : Obj)
    (ho : wa.ownsRow w.heap.size 51 8 v' (nds.length + 1) (ndsCells (nds.zip vs) ++ (ndCells n nd na).toList)) (hg : (W.alloc o).grownBy wa dv.ownBlock) :
    Lp w (wa.setCell ⟨ob, 0, none⟩ v') rb ob st ns svs sv nv (nds ++ [n]) (vs ++ [(nd, na)]) v' ∧ wa.cell? ⟨ob, 0, none⟩ = some dv ∧ wa.frozen? ⟨ob, 0, none⟩ = false := by
  have h1 := h.below ((Below.refl _ _).alloc (Nat.le_refl _) o)
  have hN := h.nd.push hBC hC hd ha o ho hg
  have hoff : ∀ {k : Nat} {c : Array Value} {s : TypeId} {f : Nat × Nat}, W.heap[k]? = some (.cells c s f) → s ≠ 51 → wa.heap[k]? = W.heap[k]? := fun hc hs => by
    have hlt := (Array.getElem?_eq_some_iff.1 hc).1
    rw [← heap_alloc_old W o hlt] at hc ⊢
    exact (grown_kp hg).block _ (Array.getElem?_eq_some_iff.1 hc).1 (fun hm => by
      obtain ⟨cs, h2⟩ := own_type h1.nd.row (by rw [Option.mem_toList] at hm; exact hm)
      exact type_ne hc h2 hs rfl)
  have hout : wa.heap[ob]? = some (.cells #[dv, .int .i64 0, .int .i64 0] 26) := (hoff h.out (by decide)).trans h.out
  have hset : ∀ k, k ≠ ob → (wa.setCell ⟨ob, 0, none⟩ v').heap[k]? = wa.heap[k]? := fun k hk => Below.heap_setCell wa ⟨ob, 0, none⟩ v' k hk
  have hrows : ∀ {b : Nat} {t : TypeId} {size : Nat} {v : Value} {m : Nat} {xs : List Value}, W.ownsRow b t size v m xs → t ≠ 51 → t ≠ 26 → (wa.setCell ⟨ob, 0, none⟩ v').ownsRow b t size v m xs := fun hr ht ht2 => own_keep hr (fun k hkk => by
    obtain ⟨cs, hc⟩ := own_type hr hkk
    rw [hset k (type_ne hc h.out ht2), hoff hc ht])
  have hb : Below w.heap.size w wa := h1.bel.grown hg h1.bel.size (fun k hk => (h1.nd.row.lt k hk).1)
  obtain ⟨q0, _, _, g0, _, _⟩ := three_cells hout
  refine ⟨⟨?_, ?_, h.ro, h.r0, h.o0, hrows h.sc (by decide) (by decide), h.scl, fun k hk => hrows (h.ent k hk) (by decide) (by decide), hrows h.nm (by decide) (by decide), ?_, ?_, hb.setCell h.o0 _⟩, q0, g0⟩
  · rw [hset rb h.ro, hoff h.res (by decide), h.res]
  · rw [heap_setCell_same wa ob 0 _ _ _ hout]; rfl
  · exact hN.keep (fun k cs t hc ht => hset k (type_ne hc hout (by rcases ht with rfl | rfl | rfl <;> decide)))
  · intro p hp k hpk
    rcases List.mem_append.1 hp with hp | hp
    · exact h.sep p hp k hpk
    · rw [List.mem_singleton] at hp
      subst hp
      exact hs k hpk
/-- An element's end. -/
theorem Lp.pop {sg sn scap ng nn ncap : Nat} (h : Lp w W rb ob st ns svs (.slice (some ⟨sg, 0, none⟩) (sn + 1) scap) (.slice (some ⟨ng, 0, none⟩) (nn + 1) ncap) nds vs dv) (hsn : svs.length = sn + 1) (hnn : ns.length = nn + 1) (hst : st.length = sn) :
    Lp w W rb ob (st.take (sn - 1)) (ns.take nn) (svs.take sn) (.slice (some ⟨sg, 0, none⟩) sn scap) (.slice (some ⟨ng, 0, none⟩) nn ncap) nds vs dv ∨ sn = 0 := by
  by_cases h0 : sn = 0
  · exact Or.inr h0
  · left
    have h1 := h.sc
    have h2 := h.nm
    rw [hsn] at h1
    rw [hnn] at h2
    have c1 := own_cut (m := sn) h1 (by omega)
    have c2 := own_cut (m := nn) h2 (by omega)
    refine ⟨h.res, h.out, h.ro, h.r0, h.o0, ?_, ?_, ?_, ?_, h.nd, fun p hp k hk => ?_, h.bel⟩
    · rw [List.length_take, hsn, Nat.min_eq_left (by omega)]
      rw [Nat.mul_one] at c1; exact c1
    · rw [List.length_take, List.length_take]; omega
    · intro k hk
      have hk' : k < sn := by rw [List.length_take] at hk; omega
      rw [List.getElem_take, List.take_take, Nat.min_eq_left (by omega)]
      exact h.ent k (by omega)
    · rw [List.length_take, hnn, Nat.min_eq_left (by omega)]
      have : nmCells (ns.take nn) = (nmCells ns).take (nn * 4) := by
        clear h h1 h2 c1 c2 hnn
        induction nn generalizing ns with
        | zero => simp [nmCells]
        | succ m ih =>
          cases ns with
          | nil => simp [nmCells]
          | cons x l =>
            have e := ih (ns := l)
            rw [List.take_succ_cons]
            have e2 : ∀ (y : Nm) (l : List Nm), nmCells (y :: l) = nmC y ++ nmCells l := fun y l => by simp [nmCells]
            rw [e2, e2, e, show (m + 1) * 4 = (nmC x).length + m * 4 by simp [nmC]; omega, List.take_length_add_append]
      rw [this]
      exact c2
    · exact h.sep p hp k hk
end
end Go.Proofs.YtlfcmlcpdpkibaaDoor
