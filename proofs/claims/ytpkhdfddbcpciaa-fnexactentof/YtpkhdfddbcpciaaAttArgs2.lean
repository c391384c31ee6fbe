/- The laws' helpers over lists of attributes: a copy, are two alike? -/
import Derived.Test.YtpkhdfddbcpciaaAttArgs
namespace Go.Proofs.Ytpkhdfddbcpciaa
open Go.RowKit Lists Ents

theorem infoAtt : (Try.prog.info? 51).map (fun i => (i.zero, i.size, i.bytes)) = some (some (.agg #[.string ⟨#[]⟩, .string ⟨#[]⟩, .bool false, .bool false, .string ⟨#[]⟩]), 5, 56) := by kernel_rfl
theorem set5_self (xs : List Value) (i : Nat) (h : i + 4 < xs.length) (a b c d e : Value) (q : Nat) (hq : q < 5) :
    (((((xs.set i a).set (i + 1) b).set (i + 2) c).set (i + 3) d).set (i + 4) e)[i + q]? = [a, b, c, d, e][q]? := by
  match q, hq with
  | 0, _ => simp [List.getElem?_set]; omega
  | 1, _ => simp [List.getElem?_set]; omega
  | 2, _ => simp [List.getElem?_set]; omega
  | 3, _ => simp [List.getElem?_set]; omega
  | 4, _ => simp [List.getElem?_set]; omega
theorem set5_ne (xs : List Value) (i j : Nat) (h : j < i ∨ i + 4 < j) (a b c d e : Value) : (((((xs.set i a).set (i + 1) b).set (i + 2) c).set (i + 3) d).set (i + 4) e)[j]? = xs[j]? := by
  rw [List.getElem?_set_ne (by omega), List.getElem?_set_ne (by omega), List.getElem?_set_ne (by omega), List.getElem?_set_ne (by omega), List.getElem?_set_ne (by omega)]
theorem atts_of_row {w : World} {g n c : Nat} {e : TypeId} {B : Nat} {xs : List Value} {l : List At5} (h : w.ownsRow B e 5 (.slice (some ⟨g, 0, none⟩) n c) n xs) (hn : n = l.length)
    (hx : ∀ j (hj : j < l.length), xs[j * 5]? = some (.string (l[j]'hj).of) ∧ xs[j * 5 + 1]? = some (.string (l[j]'hj).nm) ∧ xs[j * 5 + 2]? = some (.bool (l[j]'hj).words) ∧ xs[j * 5 + 3]? = some (.bool (l[j]'hj).has) ∧ xs[j * 5 + 4]? = some (.string (l[j]'hj).val)) : AttsAt w (some ⟨g, 0, none⟩) l := by
  refine ⟨g, 0, fun _ => rfl, fun j hj => ?_⟩
  have h1 := h.cellAt (j * 5) (by omega)
  have h2 := h.cellAt (j * 5 + 1) (by omega)
  have h3 := h.cellAt (j * 5 + 2) (by omega)
  have h4 := h.cellAt (j * 5 + 3) (by omega)
  have h5 := h.cellAt (j * 5 + 4) (by omega)
  rw [Nat.zero_add]
  exact ⟨by rw [h1]; exact (hx j hj).1, by rw [h2]; exact (hx j hj).2.1, by rw [h3]; exact (hx j hj).2.2.1, by rw [h4]; exact (hx j hj).2.2.2.1, by rw [h5]; exact (hx j hj).2.2.2.2⟩

set_option maxHeartbeats 2000000 in
theorem toAttS_any (w : World) (a : Option Addr) (n c : Nat) (l : List At5) (hn : n = l.length) (hl : l.length ≤ 1048576) (h : AttsAt w a l) :
    Calls Try.prog 38 #[.slice a n c] w fun e w' => (∃ b c', e = .returned (.slice (some ⟨b, 0, none⟩) l.length c') ∧ w.heap.size ≤ b ∧ AttsAt w' (some ⟨b, 0, none⟩) l) ∧ w.grownBy w' none := by
  subst hn
  obtain ⟨cs, hmk, hcs⟩ := run_make_wide (P := Try.prog) 43 51 _ 5 56 Try.underlying43 infoAtt .i64 .i64 l.length (by omega) (by unfold maxLen; omega) w
  have HA := mkHidEa h
  have HO := mkHidEa (World.ownsRow_lit (base := w.heap.size) (e := 51) (size := 5) w cs l.length (Nat.le_refl _) (by unfold maxLen; omega) hcs)
  clear h
  go_enter Try.func38, Try.ntmps38
  go_wp2
  go_loopw [4] (fun i wr => ∃ (k : Nat) (xs : List Value), k ≤ l.length ∧ i = .int .i64 k ∧ wr.ownsRow w.heap.size 51 5 (.slice (some ⟨w.heap.size, 0, none⟩) l.length l.length) l.length xs ∧ w.grownBy wr none ∧ ∀ j (hj : j < l.length), j < k → xs[j * 5]? = some (.string (l[j]'hj).of) ∧ xs[j * 5 + 1]? = some (.string (l[j]'hj).nm) ∧ xs[j * 5 + 2]? = some (.bool (l[j]'hj).words) ∧ xs[j * 5 + 3]? = some (.bool (l[j]'hj).has) ∧ xs[j * 5 + 4]? = some (.string (l[j]'hj).val)) (fun i _ => l.length - (intOf i).toNat)
  case atStart => exact ⟨0, _, Nat.zero_le _, rfl, HO.out, gnA _ _, fun j _ hj => absurd hj (by omega)⟩
  case round =>
    obtain ⟨k, xs, hk, rfl, hown, hgr, hxs⟩ := hrel
    have HX := mkHidEa hxs
    have HG := mkHidEa hgr
    have HW := mkHidEa hown
    clear hxs hgr hown HO hmk
    by_cases hlt : k < l.length
    · obtain ⟨b, off, ha, hc⟩ := HA.out.grown HG.out
      obtain rfl := ha (by omega)
      obtain ⟨c1, c2, c3, c4, c5⟩ := hc k hlt
      obtain ⟨E, hE⟩ : ∃ E, l[k]'hlt = E := ⟨_, rfl⟩
      rw [hE] at c1 c2 c3 c4 c5
      have HE := mkHidEa hE
      have hcall := toAtt_any E.of E.nm E.val E.words E.has wr
      clear hc ha hE
      go_wp2_with fail
      refine hcall.mono ?_
      rintro e w' ⟨rfl, hg'⟩
      have HW' := mkHidEa (HW.out.kept hg' (.inr (by simp [Value.ownBlock])))
      have HG' := mkHidEa (gnT HG.out hg')
      clear hcall hg' c1 c2 c3 c4 c5 HW HG
      have hxl : xs.length = l.length * 5 := HW'.out.1
      have k1 := HW'.out.cellAt (k * 5) (by omega)
      have k2 := HW'.out.cellAt (k * 5 + 1) (by omega)
      have k3 := HW'.out.cellAt (k * 5 + 2) (by omega)
      have k4 := HW'.out.cellAt (k * 5 + 3) (by omega)
      have k5 := HW'.out.cellAt (k * 5 + 4) (by omega)
      rw [List.getElem?_eq_getElem (by omega)] at k1 k2 k3 k4 k5
      have f1 := HW'.out.frozenAt (k * 5)
      have f2 := HW'.out.frozenAt (k * 5 + 1)
      have f3 := HW'.out.frozenAt (k * 5 + 2)
      have f4 := HW'.out.frozenAt (k * 5 + 3)
      have f5 := HW'.out.frozenAt (k * 5 + 4)
      have hw2 := (((((HW'.out.stored (k * 5) (.string E.of)).1.stored (k * 5 + 1) (.string E.nm)).1.stored (k * 5 + 2) (.bool E.words)).1.stored (k * 5 + 3) (.bool E.has)).1.stored (k * 5 + 4) (.string E.val))
      have HW2 := mkHidEa hw2.1
      have HG2 : Hid (w.grownBy (((((w'.setCell ⟨w.heap.size, k * 5, none⟩ (.string E.of)).setCell ⟨w.heap.size, k * 5 + 1, none⟩ (.string E.nm)).setCell ⟨w.heap.size, k * 5 + 2, none⟩ (.bool E.words)).setCell ⟨w.heap.size, k * 5 + 3, none⟩ (.bool E.has)).setCell ⟨w.heap.size, k * 5 + 4, none⟩ (.string E.val)) none) := by
        refine mkHidEa ⟨HG'.out.os, HG'.out.tape, HG'.out.output, by have := HG'.out.size; simpa using this, fun i hi hr => ?_⟩
        rw [Below.heap_setCell _ ⟨w.heap.size, k * 5 + 4, none⟩ _ i (by simp only; omega), Below.heap_setCell _ ⟨w.heap.size, k * 5 + 3, none⟩ _ i (by simp only; omega), Below.heap_setCell _ ⟨w.heap.size, k * 5 + 2, none⟩ _ i (by simp only; omega), Below.heap_setCell _ ⟨w.heap.size, k * 5 + 1, none⟩ _ i (by simp only; omega), Below.heap_setCell _ ⟨w.heap.size, k * 5, none⟩ _ i (by simp only; omega)]
        exact HG'.out.block i hi hr
      clear hw2 HG'
      go_wp2
      go_roundw
      case rel =>
        refine ⟨k + 1, _, by omega, by go_num, HW2.out, HG2.out, fun j hj hjk => ?_⟩
        by_cases hjk' : j = k
        · subst hjk'
          rw [HE.out]
          have h5 := fun q hq => set5_self xs (j * 5) (by omega) (.string E.of) (.string E.nm) (.bool E.words) (.bool E.has) (.string E.val) q hq
          exact ⟨h5 0 (by omega), h5 1 (by omega), h5 2 (by omega), h5 3 (by omega), h5 4 (by omega)⟩
        · have := HX.out j hj (by omega)
          rw [set5_ne _ _ (j * 5) (by omega), set5_ne _ _ (j * 5 + 1) (by omega), set5_ne _ _ (j * 5 + 2) (by omega), set5_ne _ _ (j * 5 + 3) (by omega), set5_ne _ _ (j * 5 + 4) (by omega)]
          exact this
      case measure => simp [intOf]; omega
    · go_wp2
      go_ret
      exact ⟨⟨_, _, rfl, Nat.le_refl _, atts_of_row HW.out rfl fun j hj => HX.out j hj (by omega)⟩, HG.out⟩

set_option maxHeartbeats 2000000 in
theorem eqAttS_same (w : World) (a a' : Option Addr) (n c c' : Nat) (l : List At5) (hn : n = l.length) (hl : l.length ≤ 1048576) (h : AttsAt w a l) (h' : AttsAt w a' l) :
    Calls Try.prog 41 #[.slice a n c, .slice a' n c'] w fun e w' => e = .returned (.bool true) ∧ w.grownBy w' none := by
  subst hn
  have HA := mkHidEa h
  have HA' := mkHidEa h'
  clear h h'
  go_enter Try.func41, Try.ntmps41
  go_wp2
  go_loopw [5] (fun i wr => ∃ (k : Nat), k ≤ l.length ∧ i = .int .i64 k ∧ w.grownBy wr none) (fun i _ => l.length - (intOf i).toNat)
  case atStart => exact ⟨0, Nat.zero_le _, rfl, gnR _⟩
  case round =>
    obtain ⟨k, hk, rfl, hgr⟩ := hrel
    have HG := mkHidEa hgr
    clear hgr
    by_cases hlt : k < l.length
    · obtain ⟨b, off, ha, hc⟩ := HA.out.grown HG.out
      obtain rfl := ha (by omega)
      obtain ⟨c1, c2, c3, c4, c5⟩ := hc k hlt
      obtain ⟨b', off', ha', hc'⟩ := HA'.out.grown HG.out
      obtain rfl := ha' (by omega)
      obtain ⟨d1, d2, d3, d4, d5⟩ := hc' k hlt
      obtain ⟨E, hE⟩ : ∃ E, l[k]'hlt = E := ⟨_, rfl⟩
      rw [hE] at c1 c2 c3 c4 c5 d1 d2 d3 d4 d5
      clear hc ha hE hc' ha' HA HA'
      go_wp2_with fail
      go_region_held3 (fun W => W.cell? ⟨b, off + k * 5, none⟩ = some (.string E.of) ∧ W.cell? ⟨b, off + k * 5 + 1, none⟩ = some (.string E.nm) ∧ W.cell? ⟨b, off + k * 5 + 2, none⟩ = some (.bool E.words) ∧ W.cell? ⟨b, off + k * 5 + 3, none⟩ = some (.bool E.has) ∧ W.cell? ⟨b, off + k * 5 + 4, none⟩ = some (.string E.val) ∧ W.cell? ⟨b', off' + k * 5, none⟩ = some (.string E.of) ∧ W.cell? ⟨b', off' + k * 5 + 1, none⟩ = some (.string E.nm) ∧ W.cell? ⟨b', off' + k * 5 + 2, none⟩ = some (.bool E.words) ∧ W.cell? ⟨b', off' + k * 5 + 3, none⟩ = some (.bool E.has) ∧ W.cell? ⟨b', off' + k * 5 + 4, none⟩ = some (.string E.val)) (go_keep)
        (first | (go_at_call 27; refine (eqAtt_any _ _ _ _ _ _).mono ?_; rintro e w' ⟨rfl, hg'⟩; have hk' : ∀ k, k < wr.heap.size → w'.heap[k]? = wr.heap[k]? := (fun k hk => hg'.block k hk (by simp)); have e0 := cell_keep hk' c1; have e1 := cell_keep hk' c2; have e2 := cell_keep hk' c3; have e3 := cell_keep hk' c4; have e4 := cell_keep hk' c5; have e5 := cell_keep hk' d1; have e6 := cell_keep hk' d2; have e7 := cell_keep hk' d3; have e8 := cell_keep hk' d4; have e9 := cell_keep hk' d5))
      have HG' : Hid (w.grownBy w' none) := mkHidEa (gnT HG.out (gnT (gnD wr 1) hg'))
      clear hg' hk'
      go_wp2
      go_roundw
      case rel => exact ⟨k + 1, by omega, by go_num, HG'.out⟩
      case measure => simp [intOf]; omega
    · go_wp2
      go_ret
      exact ⟨rfl, HG.out⟩
end Go.Proofs.Ytpkhdfddbcpciaa
