/- The laws' helpers over a mark that is told: are two alike? -/
import Derived.Test.YtpkhdfddbcpciaaGreatDoorImJ
import Derived.Test.YtpkhdfddbcpciaaGreatDoorMdG
import Derived.Test.YtpkhdfddbcpciaaGreatDoorImA
import Derived.WalkKit
import Derived.WalkSmall
import Derived.Deep.OwnRows
import Derived.Deep.QuietTactic
import Derived.BigQuiet
import Derived.Deep.RegionHeld3
namespace Go.Proofs.YtpkhdfddbcpciaaGreatDoor
open Go.RowKit Plain1 Strs Strs2 Lists Plain3 Plain5 Plain6 Plain9 Plain10 Plain11 Plain12 Plain16 Ents

theorem gnR3 (w : World) (r : Option Nat) : w.grownBy w r := ⟨rfl, rfl, rfl, Nat.le_refl _, fun _ _ _ => rfl⟩
theorem acells_at : ∀ (l : List (ByteArray × ByteArray)) (j : Nat) (hj : j < l.length), (acells l)[j * 2]? = some (.string (l[j]'hj).1) ∧ (acells l)[j * 2 + 1]? = some (.string (l[j]'hj).2)
  | [], j, hj => by simp at hj
  | a :: l, 0, _ => by simp [acells]
  | a :: l, j + 1, hj => by
    have h := acells_at l j (by simpa using hj)
    have e : acells (a :: l) = .string a.1 :: .string a.2 :: acells l := rfl
    rw [e, show (j + 1) * 2 = j * 2 + 1 + 1 by omega]
    simpa using h
/-- What a list of attributes holds that somebody owns. -/
theorem row_ents {W : World} {B : Nat} {t : TypeId} {v : Value} {l : List (ByteArray × ByteArray)} (h : W.ownsRow B t 2 v l.length (acells l)) : ∃ ao ac, v = .slice ao l.length ac ∧ EntsAt W ao l := by
  rcases h.2 with ⟨h0, hn⟩ | ⟨g, cap, cur, hv, _⟩
  · exact ⟨none, 0, by rw [h0, hn], 0, 0, fun h => by omega, fun i hi => by omega⟩
  · subst hv
    refine ⟨_, _, rfl, g, 0, fun _ => rfl, fun j hj => ?_⟩
    have h1 := h.cellAt (j * 2) (by omega)
    have h2 := h.cellAt (j * 2 + 1) (by omega)
    rw [Nat.zero_add]
    exact ⟨by rw [h1]; exact (acells_at l j hj).1, by rw [h2]; exact (acells_at l j hj).2⟩

theorem eqAttr_any (n t : ByteArray) (w : World) :
    Calls Tryz.prog 68 #[.agg #[.string n, .string t], .agg #[.string n, .string t]] w fun e w' => e = .returned (.bool true) ∧ w.grownBy w' none := by
  go_enter Tryz.func68, Tryz.ntmps68
  go_wp2
  go_ret
  exact ⟨rfl, im_gtrans (gnA3 _ _) (gnA3 _ _)⟩

set_option maxRecDepth 100000 in
set_option maxHeartbeats 2000000 in
theorem eqAttrS_same (w : World) (a a' : Option Addr) (n c c' : Nat) (l : List (ByteArray × ByteArray)) (hn : n = l.length) (hl : l.length ≤ 1048576) (h : EntsAt w a l) (h' : EntsAt w a' l) :
    Calls Tryz.prog 36 #[.slice a n c, .slice a' n c'] w fun e w' => e = .returned (.bool true) ∧ w.grownBy w' none := by
  subst hn
  have HA := mkHidT h
  have HA' := mkHidT h'
  clear h h'
  go_enter Tryz.func36, Tryz.ntmps36
  go_wp2
  go_loopw [5] (fun i wr => ∃ (k : Nat), k ≤ l.length ∧ i = .int .i64 k ∧ w.grownBy wr none) (fun i _ => l.length - (intOf i).toNat)
  case atStart => exact ⟨0, Nat.zero_le _, rfl, gnR3 _ _⟩
  case round =>
    obtain ⟨k, hk, rfl, hgr⟩ := hrel
    have HG := mkHidT hgr
    clear hgr
    by_cases hlt : k < l.length
    · obtain ⟨b, off, ha, hc⟩ := HA.out.grown HG.out
      obtain rfl := ha (by omega)
      obtain ⟨c1, c2⟩ := hc k hlt
      obtain ⟨b', off', ha', hc'⟩ := HA'.out.grown HG.out
      obtain rfl := ha' (by omega)
      obtain ⟨d1, d2⟩ := hc' k hlt
      obtain ⟨E, hE⟩ : ∃ E, l[k]'hlt = E := ⟨_, rfl⟩
      rw [hE] at c1 c2 d1 d2
      clear hc ha hE hc' ha' HA HA'
      go_wp2_with fail
      go_region_held3 (fun W => W.cell? ⟨b, off + k * 2, none⟩ = some (.string E.1) ∧ W.cell? ⟨b, off + k * 2 + 1, none⟩ = some (.string E.2) ∧ W.cell? ⟨b', off' + k * 2, none⟩ = some (.string E.1) ∧ W.cell? ⟨b', off' + k * 2 + 1, none⟩ = some (.string E.2)) (go_keep)
        (first | (go_at_call 68; refine (eqAttr_any _ _ _).mono ?_; rintro e w' ⟨rfl, hg'⟩; have hk' : ∀ k, k < wr.heap.size → w'.heap[k]? = wr.heap[k]? := (fun k hk => hg'.block k hk (by simp)); have e1 := cell_keep hk' c1; have e2 := cell_keep hk' c2; have e3 := cell_keep hk' d1; have e4 := cell_keep hk' d2))
      have HG' : Hid (w.grownBy w' none) := mkHidT (im_gtrans HG.out (im_gtrans (im_gdrew wr 1 _) hg'))
      clear hg' hk'
      go_wp2
      go_roundw
      case rel => exact ⟨k + 1, by omega, by go_num, HG'.out⟩
      case measure => simp [intOf]; omega
    · go_wp2
      go_ret
      exact ⟨rfl, HG.out⟩

set_option maxRecDepth 100000 in
set_option maxHeartbeats 2000000 in
theorem eqToken_same (w : World) (kd : Int) (nm tx : ByteArray) (a a' : Option Addr) (n c c' : Nat) (l : List (ByteArray × ByteArray)) (hn : n = l.length) (hl : l.length ≤ 1048576) (h : EntsAt w a l) (h' : EntsAt w a' l) :
    Calls Tryz.prog 16 #[.agg #[.int .i64 kd, .string nm, .string tx, .slice a n c], .agg #[.int .i64 kd, .string nm, .string tx, .slice a' n c']] w fun e w' => e = .returned (.bool true) ∧ w.grownBy w' none := by
  subst hn
  have G1 := im_gtrans (gnA3 w (.cells #[.int .i64 kd, .string nm, .string tx, .slice a l.length c] 24)) (gnA3 _ (.cells #[.int .i64 kd, .string nm, .string tx, .slice a' l.length c'] 24))
  have he := eqAttrS_same _ a a' _ c c' l rfl hl (h.grown G1) (h'.grown G1)
  have HE := mkHidT he
  have HG := mkHidT G1
  clear h h' G1 he hl
  go_enter Tryz.func16, Tryz.ntmps16
  go_wp2_with fail
  refine HE.out.mono ?_
  rintro e w1 ⟨rfl, hg⟩
  have HG1 := mkHidT (im_gtrans HG.out hg)
  clear hg HE
  go_wp2
  go_ret
  exact ⟨rfl, HG1.out⟩

/-- Two answers that say the same. -/
def OutAt (W : World) (O : Out) (v : Value) : Prop := ∃ ao ac, v = .agg #[.int .i64 O.tk.kind, .string O.tk.name, .string O.tk.text, .slice ao O.tk.attrs.length ac, .int .i64 O.at1, .int .i64 O.code] ∧ EntsAt W ao O.tk.attrs
theorem OutAt.grown {W W' : World} {O : Out} {v : Value} (h : OutAt W O v) (hg : W.grownBy W' none) : OutAt W' O v := by
  obtain ⟨ao, ac, hv, he⟩ := h
  exact ⟨ao, ac, hv, he.grown hg⟩

set_option maxRecDepth 100000 in
set_option maxHeartbeats 2000000 in
theorem eqOut_same (w : World) (O : Out) (v v' : Value) (hl : O.tk.attrs.length ≤ 1048576) (h : OutAt w O v) (h' : OutAt w O v') :
    Calls Tryz.prog 6 #[v, v'] w fun e w' => e = .returned (.bool true) ∧ w.grownBy w' none := by
  obtain ⟨a, c, rfl, h⟩ := h
  obtain ⟨a', c', rfl, h'⟩ := h'
  have G1 := im_gtrans (gnA3 w (.cells #[.int .i64 O.tk.kind, .string O.tk.name, .string O.tk.text, .slice a O.tk.attrs.length c, .int .i64 O.at1, .int .i64 O.code] 26)) (gnA3 _ (.cells #[.int .i64 O.tk.kind, .string O.tk.name, .string O.tk.text, .slice a' O.tk.attrs.length c', .int .i64 O.at1, .int .i64 O.code] 26))
  have he := eqToken_same _ O.tk.kind O.tk.name O.tk.text a a' _ c c' O.tk.attrs rfl hl (h.grown G1) (h'.grown G1)
  have HG := mkHidT G1
  clear h h'
  obtain ⟨w2, hw2⟩ : ∃ w2, (w.alloc (.cells #[.int .i64 O.tk.kind, .string O.tk.name, .string O.tk.text, .slice a O.tk.attrs.length c, .int .i64 O.at1, .int .i64 O.code] 26)).alloc (.cells #[.int .i64 O.tk.kind, .string O.tk.name, .string O.tk.text, .slice a' O.tk.attrs.length c', .int .i64 O.at1, .int .i64 O.code] 26) = w2 := ⟨_, rfl⟩
  have z1 : w2.heap[w.heap.size]? = some (.cells #[.int .i64 O.tk.kind, .string O.tk.name, .string O.tk.text, .slice a O.tk.attrs.length c, .int .i64 O.at1, .int .i64 O.code] 26) := by
    rw [← hw2, heap_alloc_old _ _ (by simp)]; exact Below.heap_new _ _
  have z2 : w2.heap[w.heap.size + 1]? = some (.cells #[.int .i64 O.tk.kind, .string O.tk.name, .string O.tk.text, .slice a' O.tk.attrs.length c', .int .i64 O.at1, .int .i64 O.code] 26) := by
    rw [← hw2]
    have := Below.heap_new (w.alloc (.cells #[.int .i64 O.tk.kind, .string O.tk.name, .string O.tk.text, .slice a O.tk.attrs.length c, .int .i64 O.at1, .int .i64 O.code] 26)) (.cells #[.int .i64 O.tk.kind, .string O.tk.name, .string O.tk.text, .slice a' O.tk.attrs.length c', .int .i64 O.at1, .int .i64 O.code] 26)
    simpa using this
  have Z1 := mkHidT z1
  have Z2 := mkHidT z2
  have HW2 := mkHidT hw2
  rw [hw2] at he HG
  clear z1 z2 hw2 G1
  go_enter Tryz.func6, Tryz.ntmps6
  go_wp2_with fail
  rw [HW2.out]
  refine he.mono ?_
  rintro e w1 ⟨rfl, hg⟩
  have HG1 := mkHidT (im_gtrans HG.out hg)
  have z1 : w1.heap[w.heap.size]? = _ := (hg.block _ (Array.getElem?_eq_some_iff.1 Z1.out).1 (by simp)).trans Z1.out
  have z2 : w1.heap[w.heap.size + 1]? = _ := (hg.block _ (Array.getElem?_eq_some_iff.1 Z2.out).1 (by simp)).trans Z2.out
  obtain ⟨⟨c0, c1, c2, c3, c4, c5⟩, f0, f1, f2, f3, f4, f5⟩ := outcells z1
  obtain ⟨⟨d0, d1, d2, d3, d4, d5⟩, g0, g1, g2, g3, g4, g5⟩ := outcells z2
  clear hg he z1 z2
  go_wp2
  go_ret
  exact ⟨rfl, HG1.out⟩
end Go.Proofs.YtpkhdfddbcpciaaGreatDoor
