/- The laws' marks on a row of names, from any number on; are they held? -/
/- Are the marks on a row of names held? -/
import Derived.Test.YtlfcmlcpdpkibaaDoorMkX
namespace Go.Proofs.YtlfcmlcpdpkibaaDoor
open Go.RowKit Lists Ents PlainR PlainN
set_option linter.unusedVariables false

/-- The marks on names from a number on. -/
def mkn (n k : Nat) : List Nm := (List.range n).map fun i => ⟨mt (k + i * 4), mt (k + i * 4 + 1), mt (k + i * 4 + 2), mt (k + i * 4 + 3)⟩
theorem mkn_len (n k : Nat) : (mkn n k).length = n := by simp [mkn]
theorem mkn_at (n k j : Nat) (h : j < (mkn n k).length) : (mkn n k)[j]'h = ⟨mt (k + j * 4), mt (k + j * 4 + 1), mt (k + j * 4 + 2), mt (k + j * 4 + 3)⟩ := by simp [mkn]
theorem nmCells_lenK (l : List Nm) : (nmCells l).length = l.length * 4 := by
  induction l with
  | nil => rfl
  | cons a l ih => simp [nmCells, nmC, ih]; omega
theorem mkn_cells {n k : Nat} {xs : List Value} (hl : xs.length = n * 4) (h : ∀ j, j < n → xs[j * 4]? = some (.string (mt (k + j * 4))) ∧ xs[j * 4 + 1]? = some (.string (mt (k + j * 4 + 1))) ∧ xs[j * 4 + 2]? = some (.string (mt (k + j * 4 + 2))) ∧ xs[j * 4 + 3]? = some (.string (mt (k + j * 4 + 3)))) : xs = nmCells (mkn n k) := by
  have hlen : (nmCells (mkn n k)).length = n * 4 := by rw [nmCells_lenK, mkn_len]
  apply List.ext_getElem?
  intro i
  by_cases hi : i < n * 4
  · have hj : i / 4 < (mkn n k).length := by rw [mkn_len]; omega
    have a := nmCells_at (mkn n k) (i / 4) hj
    rw [mkn_at] at a
    have b := h (i / 4) (by omega)
    obtain h4 | h4 | h4 | h4 : i % 4 = 0 ∨ i % 4 = 1 ∨ i % 4 = 2 ∨ i % 4 = 3 := by omega
    · have e : i = i / 4 * 4 := by omega
      rw [e, b.1, a.1]
    · have e : i = i / 4 * 4 + 1 := by omega
      rw [e, b.2.1, a.2.1]
    · have e : i = i / 4 * 4 + 2 := by omega
      rw [e, b.2.2.1, a.2.2.1]
    · have e : i = i / 4 * 4 + 3 := by omega
      rw [e, b.2.2.2, a.2.2.2]
  · rw [List.getElem?_eq_none (by omega), List.getElem?_eq_none (by omega)]

set_option maxRecDepth 100000 in
set_option maxHeartbeats 4000000 in
theorem markNamedS_any (B : Nat) (v : Value) (n : Nat) (ys : List Value) (w : World) (hown : w.ownsRow B 48 4 v n ys) (hn : n ≤ 1048576) (K : Nat) (hK0 : 1 ≤ K) (hK1 : K ≤ 562949953421312) :
    Calls Tryd.prog 33 #[v, .int .i64 (K : Int)] w fun e w' => e = .returned (.int .i64 ((K : Int) + (n : Int) * 4)) ∧ w'.ownsRow B 48 4 v n (nmCells (mkn n K)) ∧ w.grownBy w' v.ownBlock := by
  rcases hown.2 with ⟨rfl, rfl⟩ | ⟨g, cap, cur, rfl, hrest⟩
  · clear hown
    go_enter Tryd.func33, Tryd.ntmps33
    go_wp2
    go_loopw [1, 5] (fun kk i wr => kk = .int .i64 (K : Int) ∧ i = .int .i64 0 ∧ wr = w) (fun _ _ _ => 0)
    case atStart => exact ⟨rfl, rfl, rfl⟩
    case round =>
      obtain ⟨rfl, rfl, rfl⟩ := hrel
      go_wp2
      go_ret
      exact ⟨by simp, World.ownsRow_nil _ _ _ _, grR _ _⟩
  · clear hrest
    have hgl : g < w.heap.size := (hown.lt g rfl).2
    have HO0 := mkHidEa hown
    clear hown
    go_enter Tryd.func33, Tryd.ntmps33
    go_wp2
    go_loopw [1, 5] (fun kk i wr => ∃ (j : Nat) (xs : List Value), j ≤ n ∧ kk = .int .i64 ((K : Int) + (j : Int) * 4) ∧ i = .int .i64 j ∧ wr.ownsRow B 48 4 (.slice (some ⟨g, 0, none⟩) n cap) n xs ∧ (∀ t, t < j → xs[t * 4]? = some (.string (mt (K + t * 4))) ∧ xs[t * 4 + 1]? = some (.string (mt (K + t * 4 + 1))) ∧ xs[t * 4 + 2]? = some (.string (mt (K + t * 4 + 2))) ∧ xs[t * 4 + 3]? = some (.string (mt (K + t * 4 + 3)))) ∧ w.grownBy wr (some g)) (fun _ i _ => n - (intOf i).toNat)
    case atStart => exact ⟨0, ys, Nat.zero_le _, by simp, rfl, HO0.out, fun t ht => absurd ht (by omega), grR _ _⟩
    case round =>
      obtain ⟨j, xs, hj, rfl, rfl, ho, hx, hb⟩ := hrel
      have HX := mkHidEa hx
      have B0 := mkHidEa hb
      have O0 := mkHidEa ho
      have hxl : xs.length = n * 4 := ho.1
      clear hx hb ho
      by_cases hlt : j < n
      · have hw0 : wr = wr := rfl
        clear hw0
        have hm0 := markText_any (K + j * 4) wr (by omega) (by omega)
        rw [show ((K + j * 4 : Nat) : Int) = (K : Int) + (j : Int) * 4 by omega] at hm0
        have M0 := mkHidEa hm0
        clear hm0
        go_wp2_with fail
        refine M0.out.mono ?_
        rintro e w0 ⟨rfl, hg0⟩
        have ho0 := O0.out.kept hg0 (.inr (by simp [Value.ownBlock]))
        have k0 := ho0.cellAt (j * 4) (by omega)
        rw [List.getElem?_eq_getElem (by omega)] at k0
        have f0 := ho0.frozenAt (j * 4)
        have hs0 := ho0.stored (j * 4) (.string (mt (K + j * 4)))
        have O1 := mkHidEa hs0.1
        have B1 := mkHidEa (grT B0.out (grT (grN hg0) (gset5 (w := w0) (g := g) (j := j * 4) (.string (mt (K + j * 4))))))
        clear ho0 hs0 hg0 O0 B0 M0
        have hm1 := markText_any (K + j * 4 + 1) (w0.setCell ⟨g, j * 4, none⟩ (.string (mt (K + j * 4)))) (by omega) (by omega)
        rw [show ((K + j * 4 + 1 : Nat) : Int) = (K : Int) + (j : Int) * 4 + 1 by omega] at hm1
        have M1 := mkHidEa hm1
        clear hm1
        go_wp2_with fail
        refine M1.out.mono ?_
        rintro e w1 ⟨rfl, hg1⟩
        have ho1 := O1.out.kept hg1 (.inr (by simp [Value.ownBlock]))
        have k1 := ho1.cellAt (j * 4 + 1) (by omega)
        rw [List.getElem?_eq_getElem (by simp only [List.length_set]; omega)] at k1
        have f1 := ho1.frozenAt (j * 4 + 1)
        have hs1 := ho1.stored (j * 4 + 1) (.string (mt (K + j * 4 + 1)))
        have O2 := mkHidEa hs1.1
        have B2 := mkHidEa (grT B1.out (grT (grN hg1) (gset5 (w := w1) (g := g) (j := j * 4 + 1) (.string (mt (K + j * 4 + 1))))))
        clear ho1 hs1 hg1 O1 B1 M1 k0 f0
        have hm2 := markText_any (K + j * 4 + 2) (w1.setCell ⟨g, j * 4 + 1, none⟩ (.string (mt (K + j * 4 + 1)))) (by omega) (by omega)
        rw [show ((K + j * 4 + 2 : Nat) : Int) = (K : Int) + (j : Int) * 4 + 2 by omega] at hm2
        have M2 := mkHidEa hm2
        clear hm2
        go_wp2_with fail
        refine M2.out.mono ?_
        rintro e w2 ⟨rfl, hg2⟩
        have ho2 := O2.out.kept hg2 (.inr (by simp [Value.ownBlock]))
        have k2 := ho2.cellAt (j * 4 + 2) (by omega)
        rw [List.getElem?_eq_getElem (by simp only [List.length_set]; omega)] at k2
        have f2 := ho2.frozenAt (j * 4 + 2)
        have hs2 := ho2.stored (j * 4 + 2) (.string (mt (K + j * 4 + 2)))
        have O3 := mkHidEa hs2.1
        have B3 := mkHidEa (grT B2.out (grT (grN hg2) (gset5 (w := w2) (g := g) (j := j * 4 + 2) (.string (mt (K + j * 4 + 2))))))
        clear ho2 hs2 hg2 O2 B2 M2 k1 f1
        have hm3 := markText_any (K + j * 4 + 3) (w2.setCell ⟨g, j * 4 + 2, none⟩ (.string (mt (K + j * 4 + 2)))) (by omega) (by omega)
        rw [show ((K + j * 4 + 3 : Nat) : Int) = (K : Int) + (j : Int) * 4 + 3 by omega] at hm3
        have M3 := mkHidEa hm3
        clear hm3
        go_wp2_with fail
        refine M3.out.mono ?_
        rintro e w3 ⟨rfl, hg3⟩
        have ho3 := O3.out.kept hg3 (.inr (by simp [Value.ownBlock]))
        have k3 := ho3.cellAt (j * 4 + 3) (by omega)
        rw [List.getElem?_eq_getElem (by simp only [List.length_set]; omega)] at k3
        have f3 := ho3.frozenAt (j * 4 + 3)
        have hs3 := ho3.stored (j * 4 + 3) (.string (mt (K + j * 4 + 3)))
        have O4 := mkHidEa hs3.1
        have B4 := mkHidEa (grT B3.out (grT (grN hg3) (gset5 (w := w3) (g := g) (j := j * 4 + 3) (.string (mt (K + j * 4 + 3))))))
        clear ho3 hs3 hg3 O3 B3 M3 k2 f2
        go_wp2
        go_roundw
        case rel =>
          refine ⟨j + 1, _, by omega, by go_num, by go_num, O4.out, fun t ht => ?_, B4.out⟩
          by_cases hjk : t = j
          · subst hjk
            refine ⟨?_, ?_, ?_, ?_⟩
            · rw [List.getElem?_set_ne (by omega), List.getElem?_set_ne (by omega), List.getElem?_set_ne (by omega), List.getElem?_set_self (by omega)]
            · rw [List.getElem?_set_ne (by omega), List.getElem?_set_ne (by omega), List.getElem?_set_self (by simp only [List.length_set]; omega)]
            · rw [List.getElem?_set_ne (by omega), List.getElem?_set_self (by simp only [List.length_set]; omega)]
            · rw [List.getElem?_set_self (by simp only [List.length_set]; omega)]
          · have := HX.out t (by omega)
            refine ⟨?_, ?_, ?_, ?_⟩
            · rw [List.getElem?_set_ne (by omega), List.getElem?_set_ne (by omega), List.getElem?_set_ne (by omega), List.getElem?_set_ne (by omega)]; exact this.1
            · rw [List.getElem?_set_ne (by omega), List.getElem?_set_ne (by omega), List.getElem?_set_ne (by omega), List.getElem?_set_ne (by omega)]; exact this.2.1
            · rw [List.getElem?_set_ne (by omega), List.getElem?_set_ne (by omega), List.getElem?_set_ne (by omega), List.getElem?_set_ne (by omega)]; exact this.2.2.1
            · rw [List.getElem?_set_ne (by omega), List.getElem?_set_ne (by omega), List.getElem?_set_ne (by omega), List.getElem?_set_ne (by omega)]; exact this.2.2.2
        case measure => simp [intOf]; omega
      · obtain rfl : j = n := by omega
        go_wp2
        go_ret
        have e := mkn_cells (k := K) O0.out.1 HX.out
        rw [← e]
        exact ⟨rfl, O0.out, B0.out⟩

end Go.Proofs.YtlfcmlcpdpkibaaDoor

namespace Go.Proofs.YtlfcmlcpdpkibaaDoor
open Go.RowKit Lists Ents PlainR PlainN
set_option linter.unusedVariables false

set_option maxRecDepth 100000 in
set_option maxHeartbeats 4000000 in
theorem heldNamedS_any (w : World) (a : Option Addr) (n c : Nat) (hn : n ≤ 1048576) (K : Nat) (hK0 : 1 ≤ K) (hK1 : K ≤ 562949953421312) (h : NmAt w a (mkn n K)) :
    Calls Tryd.prog 35 #[.slice a n c, .int .i64 (K : Int)] w fun e w' => e = .returned (.int .i64 ((K : Int) + (n : Int) * 4)) ∧ w.grownBy w' none := by
  have HA := mkHidEa h
  clear h
  go_enter Tryd.func35, Tryd.ntmps35
  go_wp2
  go_loopw [1, 5] (fun kk i wr => ∃ (k : Nat), k ≤ n ∧ kk = .int .i64 ((K : Int) + (k : Int) * 4) ∧ i = .int .i64 k ∧ w.grownBy wr none) (fun _ i _ => n - (intOf i).toNat)
  case atStart => exact ⟨0, Nat.zero_le _, by simp, rfl, grR _ _⟩
  case round =>
    obtain ⟨k, hk, rfl, rfl, hgr⟩ := hrel
    have G0 := mkHidEa hgr
    clear hgr
    by_cases hlt : k < n
    · obtain ⟨b, ha, hc⟩ := HA.out.grown G0.out
      rw [mkn_len] at ha
      obtain rfl := ha (by omega)
      have hcc := hc k (by rw [mkn_len]; exact hlt)
      rw [mkn_at] at hcc
      obtain ⟨c0, c1, c2, c3⟩ := hcc
      simp only at c0 c1 c2 c3
      have hm0 := fun W => markText_any (K + k * 4) W (by omega) (by omega)
      simp only [show ((K + k * 4 : Nat) : Int) = (K : Int) + (k : Int) * 4 by omega] at hm0
      obtain ⟨T0, hT0⟩ : ∃ T, mt (K + k * 4) = T := ⟨_, rfl⟩
      rw [hT0] at c0
      simp only [hT0] at hm0
      have M0 := mkHidEa hm0
      have C0 := mkHidEa c0
      have hm1 := fun W => markText_any (K + k * 4 + 1) W (by omega) (by omega)
      simp only [show ((K + k * 4 + 1 : Nat) : Int) = (K : Int) + (k : Int) * 4 + 1 by omega] at hm1
      obtain ⟨T1, hT1⟩ : ∃ T, mt (K + k * 4 + 1) = T := ⟨_, rfl⟩
      rw [hT1] at c1
      simp only [hT1] at hm1
      have M1 := mkHidEa hm1
      have C1 := mkHidEa c1
      have hm2 := fun W => markText_any (K + k * 4 + 2) W (by omega) (by omega)
      simp only [show ((K + k * 4 + 2 : Nat) : Int) = (K : Int) + (k : Int) * 4 + 2 by omega] at hm2
      obtain ⟨T2, hT2⟩ : ∃ T, mt (K + k * 4 + 2) = T := ⟨_, rfl⟩
      rw [hT2] at c2
      simp only [hT2] at hm2
      have M2 := mkHidEa hm2
      have C2 := mkHidEa c2
      have hm3 := fun W => markText_any (K + k * 4 + 3) W (by omega) (by omega)
      simp only [show ((K + k * 4 + 3 : Nat) : Int) = (K : Int) + (k : Int) * 4 + 3 by omega] at hm3
      obtain ⟨T3, hT3⟩ : ∃ T, mt (K + k * 4 + 3) = T := ⟨_, rfl⟩
      rw [hT3] at c3
      simp only [hT3] at hm3
      have M3 := mkHidEa hm3
      have C3 := mkHidEa c3
      clear hc ha HA hm0 hm1 hm2 hm3 c0 c1 c2 c3 hT0 hT1 hT2 hT3
      have c0 := C0.out
      go_wp2_with fail
      go_region_held3 (fun W => W.cell? ⟨b, k * 4, none⟩ = some (.string T0)) (go_keep)
        (first | (go_at_call 21; refine (M0.out _).mono ?_; rintro e w0 ⟨rfl, hg0⟩; have e0 := cell_keep (w := wr) (w' := w0) (fun k hk => hg0.block k hk (by simp)) c0))
      have G1 : Hid (w.grownBy w0 none) := mkHidEa (grT G0.out (grT (gnD wr 1) hg0))
      have D1 : Hid (w0.cell? ⟨b, k * 4 + 1, none⟩ = some (.string T1)) := mkHidEa (cell_keep (w := wr) (w' := w0) (fun k hk => hg0.block k hk (by simp)) C1.out)
      clear C1
      have C1 := D1
      clear D1
      have D2 : Hid (w0.cell? ⟨b, k * 4 + 2, none⟩ = some (.string T2)) := mkHidEa (cell_keep (w := wr) (w' := w0) (fun k hk => hg0.block k hk (by simp)) C2.out)
      clear C2
      have C2 := D2
      clear D2
      have D3 : Hid (w0.cell? ⟨b, k * 4 + 3, none⟩ = some (.string T3)) := mkHidEa (cell_keep (w := wr) (w' := w0) (fun k hk => hg0.block k hk (by simp)) C3.out)
      clear C3
      have C3 := D3
      clear D3
      clear hg0 c0 e0 G0 M0 C0
      have c1 := C1.out
      go_wp2_with fail
      go_region_held3 (fun W => W.cell? ⟨b, k * 4 + 1, none⟩ = some (.string T1)) (go_keep)
        (first | (go_at_call 21; refine (M1.out _).mono ?_; rintro e w1 ⟨rfl, hg1⟩; have e1 := cell_keep (w := w0) (w' := w1) (fun k hk => hg1.block k hk (by simp)) c1))
      have G2 : Hid (w.grownBy w1 none) := mkHidEa (grT G1.out (grT (gnD w0 1) hg1))
      have D2 : Hid (w1.cell? ⟨b, k * 4 + 2, none⟩ = some (.string T2)) := mkHidEa (cell_keep (w := w0) (w' := w1) (fun k hk => hg1.block k hk (by simp)) C2.out)
      clear C2
      have C2 := D2
      clear D2
      have D3 : Hid (w1.cell? ⟨b, k * 4 + 3, none⟩ = some (.string T3)) := mkHidEa (cell_keep (w := w0) (w' := w1) (fun k hk => hg1.block k hk (by simp)) C3.out)
      clear C3
      have C3 := D3
      clear D3
      clear hg1 c1 e1 G1 M1 C1
      have c2 := C2.out
      go_wp2_with fail
      go_region_held3 (fun W => W.cell? ⟨b, k * 4 + 2, none⟩ = some (.string T2)) (go_keep)
        (first | (go_at_call 21; refine (M2.out _).mono ?_; rintro e w2 ⟨rfl, hg2⟩; have e2 := cell_keep (w := w1) (w' := w2) (fun k hk => hg2.block k hk (by simp)) c2))
      have G3 : Hid (w.grownBy w2 none) := mkHidEa (grT G2.out (grT (gnD w1 1) hg2))
      have D3 : Hid (w2.cell? ⟨b, k * 4 + 3, none⟩ = some (.string T3)) := mkHidEa (cell_keep (w := w1) (w' := w2) (fun k hk => hg2.block k hk (by simp)) C3.out)
      clear C3
      have C3 := D3
      clear D3
      clear hg2 c2 e2 G2 M2 C2
      have c3 := C3.out
      go_wp2_with fail
      go_region_held3 (fun W => W.cell? ⟨b, k * 4 + 3, none⟩ = some (.string T3)) (go_keep)
        (first | (go_at_call 21; refine (M3.out _).mono ?_; rintro e w3 ⟨rfl, hg3⟩; have e3 := cell_keep (w := w2) (w' := w3) (fun k hk => hg3.block k hk (by simp)) c3))
      have G4 : Hid (w.grownBy w3 none) := mkHidEa (grT G3.out (grT (gnD w2 1) hg3))
      clear hg3 c3 e3 G3 M3 C3
      go_wp2
      go_roundw
      case rel => exact ⟨k + 1, by omega, by go_num, by go_num, G4.out⟩
      case measure => simp [intOf]; omega
    · obtain rfl : k = n := by omega
      go_wp2
      go_ret
      exact ⟨rfl, G0.out⟩

end Go.Proofs.YtlfcmlcpdpkibaaDoor
