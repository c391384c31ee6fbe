/- The helpers of the laws of reading: lwAttrs, lwAt. -/
/- The law of defaults, walked. -/
import Derived.Test.YtmaoefokimjkbaaGreatDoorRd25
import Derived.WalkSmall
import Derived.Deep.QuietTactic
import Derived.BigQuiet
import Derived.Test.YtmaoefokimjkbaaGreatDoorPlainV
namespace Go.Proofs.YtmaoefokimjkbaaGreatDoor
open Go.RowKit Plain1 Strs Strs2 Lists Plain3 Plain5 Plain6 Plain9 Plain10 Plain11 Plain12 Plain16 Ents

/-- A slice of bytes that was handed in. -/
def FedL (W0 : World) (a : Option Addr) (n : Nat) (zs : List Int) : Prop := n = zs.length ∧ n ≤ 1048576 ∧ Ints .u8 W0 a zs ∧ ∀ i, i < zs.length → 0 ≤ zs.getD i 0 ∧ zs.getD i 0 ≤ 255
/-- What lwAt tells. -/
def lwV (zs : List Int) (k m : Nat) : Nat := if zs.length = 0 then 0 else (zs.getD (k % zs.length) 0 % (m : Int)).toNat
theorem lwV_lt (zs : List Int) (k m : Nat) (hm : 1 ≤ m) : lwV zs k m < m := by
  unfold lwV
  split
  · omega
  · have := Int.emod_lt_of_pos (zs.getD (k % zs.length) 0) (show (0 : Int) < m by omega)
    have := Int.emod_nonneg (zs.getD (k % zs.length) 0) (show (m : Int) ≠ 0 by omega)
    omega
theorem gnR4 (w : World) (r : Option Nat) : w.grownBy w r := ⟨rfl, rfl, rfl, Nat.le_refl _, fun _ _ _ => rfl⟩
theorem gnA4 (w : World) (o : Obj) : w.grownBy (w.alloc o) none := ⟨rfl, rfl, rfl, by simp, fun _ hk _ => heap_alloc_old w o hk⟩
theorem gnT4 {a b c : World} (h : a.grownBy b none) (k : b.grownBy c none) : a.grownBy c none :=
  ⟨k.os.trans h.os, k.tape.trans h.tape, k.output.trans h.output, Nat.le_trans h.size k.size, fun i hi hr => (k.block i (Nat.lt_of_lt_of_le hi h.size) hr).trans (h.block i hi hr)⟩
theorem acells_at4 : ∀ (l : List (ByteArray × ByteArray)) (j : Nat) (hj : j < l.length), (acells l)[j * 2]? = some (.string (l[j]'hj).1) ∧ (acells l)[j * 2 + 1]? = some (.string (l[j]'hj).2)
  | [], j, hj => by simp at hj
  | a :: l, 0, _ => by simp [acells]
  | a :: l, j + 1, hj => by
    have h := acells_at4 l j (by simpa using hj)
    have e : acells (a :: l) = .string a.1 :: .string a.2 :: acells l := rfl
    rw [e, show (j + 1) * 2 = j * 2 + 1 + 1 by omega]
    simpa using h
theorem row_ents4 {W : World} {B : Nat} {t : TypeId} {v : Value} {l : List (ByteArray × ByteArray)} (h : W.ownsRow B t 2 v l.length (acells l)) : ∃ ao ac, v = .slice ao l.length ac ∧ EntsAt W ao l := by
  rcases h.2 with ⟨h0, hn⟩ | ⟨g, cap, cur, hv, _⟩
  · exact ⟨none, 0, by rw [h0, hn], 0, 0, fun h => by omega, fun i hi => by omega⟩
  · subst hv
    refine ⟨_, _, rfl, g, 0, fun _ => rfl, fun j hj => ?_⟩
    have h1 := h.cellAt (j * 2) (by omega)
    have h2 := h.cellAt (j * 2 + 1) (by omega)
    rw [Nat.zero_add]
    exact ⟨by rw [h1]; exact (acells_at4 l j hj).1, by rw [h2]; exact (acells_at4 l j hj).2⟩

set_option maxRecDepth 100000 in
set_option maxHeartbeats 2000000 in
theorem lwAttrs_same (w : World) (a a' : Option Addr) (n c c' : Nat) (l : List (ByteArray × ByteArray)) (hn : n = l.length) (hl : l.length ≤ 1048576) (h : EntsAt w a l) (h' : EntsAt w a' l) :
    Calls Tryz.prog 10 #[.slice a n c, .slice a' n c'] w fun e w' => e = .returned (.bool true) ∧ w.grownBy w' none := by
  subst hn
  have HA := mkHidT h
  have HA' := mkHidT h'
  clear h h'
  go_enter Tryz.func10, Tryz.ntmps10
  go_wp2
  go_loopw [5] (fun i wr => ∃ (k : Nat), k ≤ l.length ∧ i = .int .i64 k ∧ w.grownBy wr none) (fun i _ => l.length - (intOf i).toNat)
  case atStart => exact ⟨0, Nat.zero_le _, rfl, gnR4 _ _⟩
  case round =>
    obtain ⟨k, hk, rfl, hgr⟩ := hrel
    have HG := mkHidT hgr
    clear hgr
    by_cases hlt : k < l.length
    · obtain ⟨b, off, ha, hc⟩ := HA.out.grown HG.out
      obtain rfl := ha (by omega)
      obtain ⟨c1, c2⟩ := hc k hlt
      obtain ⟨b', off', ha', hc'⟩ := HA'.out.grown HG.out
      obtain rfl := ha' (by omega)
      obtain ⟨d1, d2⟩ := hc' k hlt
      obtain ⟨E, hE⟩ : ∃ E, l[k]'hlt = E := ⟨_, rfl⟩
      rw [hE] at c1 c2 d1 d2
      clear hc ha hE hc' ha' HA HA'
      go_wp2_with fail
      go_quiet (fail)
      go_wp2
      go_roundw
      case rel => exact ⟨k + 1, by omega, by go_num, gnT4 HG.out (im_gdrew _ _ _)⟩
      case measure => simp [intOf]; omega
    · go_wp2
      go_ret
      exact ⟨rfl, HG.out⟩


set_option maxRecDepth 100000 in
set_option maxHeartbeats 1000000 in
theorem lwAt_any (w : World) (a : Option Addr) (n cap : Nat) (zs : List Int) (hS : FedL w a n zs) (k m : Nat) (hk : k ≤ 1000) (hm : 2 ≤ m) (hm2 : m ≤ 1000) :
    Calls Tryz.prog 6 #[.slice a n cap, .int .i64 (k : Int), .int .i64 (m : Int)] w fun e w' => e = .returned (.int .i64 (lwV zs k m : Int)) ∧ Below w.heap.size w w' := by
  obtain ⟨hn, hl, ⟨b, off, ha, hc⟩, hz⟩ := hS
  have hm1 : ¬ (m : Int) ≤ 1 := by omega
  by_cases h0 : n = 0
  · have e : lwV zs k m = 0 := by unfold lwV; rw [if_pos (by omega)]
    rw [e, h0]
    clear ha hc hz e hn h0 hl
    go_enter Tryz.func6, Tryz.ntmps6
    go_wp2
    go_ret
    exact ⟨rfl, Below.refl _ _⟩
  · rw [← hn] at ha hz hc
    obtain rfl := ha (by omega)
    have hkn : k % n < n := Nat.mod_lt _ (by omega)
    have c0 := hc (k % n) hkn
    obtain ⟨y, hy⟩ : ∃ y, zs.getD (k % n) 0 = y := ⟨_, rfl⟩
    have hb := hz (k % n) hkn
    have e : (lwV zs k m : Int) = y % (m : Int) := by
      unfold lwV
      rw [if_neg (by omega), ← hn, hy]
      exact Int.toNat_of_nonneg (Int.emod_nonneg y (by omega))
    rw [hy] at hb c0
    rw [e]
    have hn0 : ¬ (n : Int) = 0 := by omega
    have hmod : ((k : Int).tmod (n : Int)) = ((k % n : Nat) : Int) := by rw [Int.tmod_eq_emod_of_nonneg (by omega)]; rfl
    obtain ⟨q, hq⟩ : ∃ q, k % n = q := ⟨_, rfl⟩
    rw [hq] at hmod hkn c0
    have hym : y.tmod (m : Int) = y % (m : Int) := Int.tmod_eq_emod_of_nonneg hb.1
    have hyl := Int.emod_lt_of_pos y (show (0 : Int) < m by omega)
    have hyn := Int.emod_nonneg y (show (m : Int) ≠ 0 by omega)
    clear ha hc hz hy hn e hq
    go_enter Tryz.func6, Tryz.ntmps6
    go_wp2
    go_ret
    exact ⟨rfl, Below.refl _ _⟩
end Go.Proofs.YtmaoefokimjkbaaGreatDoor

namespace Go.Proofs.YtmaoefokimjkbaaGreatDoor.fnDefaults
open Go.RowKit Plain1 Strs Strs2 Lists Plain3 Plain5 Plain6 Plain9 Plain10 Plain11 Plain12 Plain16 Ents PlainR PlainV
set_option linter.unusedVariables false

theorem fed_below {w wx : World} {a : Option Addr} {n : Nat} {zs : List Int} (h : FedL w a n zs) (hb : Below w.heap.size w wx) : FedL wx a n zs := by
  obtain ⟨h1, h2, ⟨b, off, ha, hc⟩, h4⟩ := h
  exact ⟨h1, h2, ⟨b, off, ha, fun i hi => cell_keepF (hb.block _ (block_lt (hc i hi))) (hc i hi)⟩, h4⟩
theorem cells4 {w wx : World} {a b c d : Value} {t : TypeId} (hb : Below (w.alloc (.cells #[a, b, c, d] t)).heap.size (w.alloc (.cells #[a, b, c, d] t)) wx) : wx.cell? ⟨w.heap.size, 0, none⟩ = some a ∧ wx.cell? ⟨w.heap.size, 1, none⟩ = some b ∧ wx.cell? ⟨w.heap.size, 2, none⟩ = some c ∧ wx.cell? ⟨w.heap.size, 3, none⟩ = some d := by
  have h : wx.heap[w.heap.size]? = some (.cells #[a, b, c, d] t) := (hb.block _ (by simp)).trans (heap_alloc_new _ _)
  simp [World.cell?, h]
/-- Two events: the first one's attributes. -/
theorem ev_first {W : World} {B : Nat} {v : Value} {evs : List Ev} {l : List (ByteArray × ByteArray)} (h : EvsAt W B v evs) (h2 : evs.length = 2) (hl : headIs evs l = true) :
    ∃ g c ao ac, v = .slice (some ⟨g, 0, none⟩) 2 c ∧ W.cell? ⟨g, 3, none⟩ = some (.slice ao l.length ac) ∧ EntsAt W ao l := by
  obtain ⟨ws, hw, hr, ha⟩ := h
  match evs, ws, h2, hw with
  | [e0, e1], [v0, v1], _, _ =>
    simp only [headIs, decide_eq_true_eq] at hl
    have hrow := ha (e0, v0) (by simp)
    rw [hl] at hrow
    obtain ⟨ao, ac, hv0, hE⟩ := row_ents4 hrow
    have hv0 : v0 = .slice ao l.length ac := hv0
    rcases hr.2 with ⟨_, h0⟩ | ⟨g, cap, cur, hv, _⟩
    · cases h0
    · subst hv
      refine ⟨g, cap, ao, ac, rfl, ?_, hE⟩
      have h1 := hr.cellAt 3 (by simp)
      rw [h1, ← hv0]
      simp [evCells]
theorem out_cells {W : World} {k : Nat} {a b c : Value} {t : TypeId} (h : W.heap[k]? = some (.cells #[a, b, c] t)) : W.cell? ⟨k, 0, none⟩ = some a ∧ W.cell? ⟨k, 1, none⟩ = some b ∧ W.cell? ⟨k, 2, none⟩ = some c := by simp [World.cell?, h]
theorem two_ents {W : World} {k : Nat} {a b c d : ByteArray} {t : TypeId} (h : W.heap[k]? = some (.cells #[.string a, .string b, .string c, .string d] t)) : EntsAt W (some ⟨k, 0, none⟩) [(a, b), (c, d)] := by
  refine ⟨k, 0, fun _ => rfl, fun i hi => ?_⟩
  have : i = 0 ∨ i = 1 := by simp at hi; omega
  rcases this with rfl | rfl <;> simp [World.cell?, h]
theorem okD_parts {R : EOut} {l : List (ByteArray × ByteArray)} (h : okD R l = true) : R.code = 0 ∧ R.evs.length = 2 ∧ headIs R.evs l = true := by
  unfold okD at h
  simp only [Bool.and_eq_true, decide_eq_true_eq] at h
  exact h
theorem cat00 : (⟨#[60, 33, 68, 79, 67, 84, 89, 80, 69, 32, 114, 32, 91, 60, 33, 65, 84, 84, 76, 73, 83, 84, 32, 114, 32, 107, 32, 78, 77, 84, 79, 75, 69, 78, 83, 32, 39]⟩ ++ ⟨#[120]⟩ ++ ⟨#[39, 32, 109, 32, 67, 68, 65, 84, 65, 32, 39]⟩ ++ ⟨#[120]⟩ ++ ⟨#[39, 32, 110, 32, 73, 68, 32, 35, 73, 77, 80, 76, 73, 69, 68, 62, 60, 33, 65, 84, 84, 76, 73, 83, 84, 32, 114, 32, 107, 32, 67, 68, 65, 84, 65, 32, 39, 110, 111, 39, 62, 93, 62, 60, 114]⟩ ++ ⟨#[47, 62]⟩ : ByteArray) = docD false 0 := by decide +kernel
set_option maxRecDepth 100000 in
set_option maxHeartbeats 8000000 in
theorem walk00 (a : Option Addr) (n cap : Nat) (w : World) (m : Int) (zs : List Int) (hS : FedL w a n zs) (hctx : Ctx w m) (h0 : lwV zs 0 2 = 0) (h1 : lwV zs 1 4 = 0) :
    Calls Tryz.prog 4 #[.slice a n cap] w fun e w' => e = .returned (.bool true) ∧ Below w.heap.size w w' := by
  have hl : ¬ 1048576 < (n : Int) := by have := hS.2.1; omega
  have HS := mkHidT hS
  have HC := mkHidT hctx
  have hat0 := fun wx (hb : Below w.heap.size w wx) => lwAt_any wx a n cap zs (fed_below HS.out hb) 0 2 (by decide) (by decide) (by decide)
  have hat1 := fun wx (hb : Below w.heap.size w wx) => lwAt_any wx a n cap zs (fed_below HS.out hb) 1 4 (by decide) (by decide) (by decide)
  simp only [h0, h1] at hat0 hat1
  clear hS hctx h0 h1
  go_enter Tryz.func4, Tryz.ntmps4
  go_wp2_with fail
  refine (hat0 _ (Below.refl _ _)).mono ?_
  rintro e w1 ⟨rfl, hb1⟩
  have B1 := mkHidT hb1
  clear hb1
  go_wp2_with fail
  refine (hat1 _ (B1.out.alloc B1.out.size _)).mono ?_
  rintro e w2 ⟨rfl, hb2⟩
  have B2 := mkHidT ((B1.out.alloc B1.out.size _).trans (hb2.mono (B1.out.alloc B1.out.size _).size))
  obtain ⟨k0, k1, k2, k3⟩ := cells4 hb2
  clear hb2
  go_wp2_with fail
  refine (hat1 _ (B2.out.alloc B2.out.size _)).mono ?_
  rintro e w3 ⟨rfl, hb3⟩
  have B3 := mkHidT ((B2.out.alloc B2.out.size _).trans (hb3.mono (B2.out.alloc B2.out.size _).size))
  obtain ⟨q0, q1, q2, q3⟩ := cells4 hb3
  clear hb3
  have hrd := @implRead_any ⟨⟨0⟩⟩ (docD false 0) true w3 m ⟨HC.out.env.below B3.out, HC.out.et.below B3.out⟩
  go_wp2_with fail
  rw [cat00]
  refine hrd.mono ?_
  rintro e w4 ⟨v, rfl, hev, hb4⟩
  obtain ⟨hcd, hln, hat⟩ := okD_parts d_false0
  obtain ⟨R, hR⟩ : ∃ R, readZ (docD false 0) true = R := ⟨_, rfl⟩
  rw [hR] at hev hcd hln hat ⊢
  obtain ⟨g, c, ao, ac, rfl, c3, hE⟩ := ev_first hev hln hat
  have B4 := mkHidT (B3.out.trans (hb4.mono B3.out.size))
  have hE' : Hid (EntsAt w4 ao [(⟨#[107]⟩, ⟨#[120]⟩), (⟨#[109]⟩, ⟨#[120]⟩)]) := mkHidT hE
  have hgl := block_lt c3
  rw [show (attD false 0).length = 2 from rfl] at c3
  have hcb : (R.code != 0) = false := by simp [hcd]
  obtain ⟨W5, hW5⟩ : ∃ W5, w4.alloc (.cells #[.slice (some ⟨g, 0, none⟩) 2 c, .int .i64 R.at1, .int .i64 R.code] 28) = W5 := ⟨_, rfl⟩
  have hb5 : Below w4.heap.size w4 W5 := by rw [← hW5]; exact (Below.refl _ _).alloc (Nat.le_refl _) _
  have B5 := mkHidT (B4.out.trans (hb5.mono B4.out.size))
  have c3' : W5.cell? ⟨g, 3, none⟩ = some (.slice ao 2 ac) := cell_keepF (hb5.block _ hgl) c3
  have E5 : Hid (EntsAt W5 ao [(⟨#[107]⟩, ⟨#[120]⟩), (⟨#[109]⟩, ⟨#[120]⟩)]) := mkHidT (hE'.out.grown (Ents.below_grown hb5))
  have Z5 : W5.heap[w4.heap.size]? = some (.cells #[.slice (some ⟨g, 0, none⟩) 2 c, .int .i64 R.at1, .int .i64 R.code] 28) := by rw [← hW5]; exact heap_alloc_new _ _
  obtain ⟨x0, x1, x2⟩ := out_cells Z5
  have hl5 := (Array.getElem?_eq_some_iff.1 Z5).1
  have hgl5 := block_lt c3'
  obtain ⟨W6, hW6⟩ : ∃ W6, W5.alloc (.cells #[.string ⟨#[107]⟩, .string ⟨#[120]⟩, .string ⟨#[109]⟩, .string ⟨#[120]⟩] 33) = W6 := ⟨_, rfl⟩
  have hb6 : Below W5.heap.size W5 W6 := by rw [← hW6]; exact (Below.refl _ _).alloc (Nat.le_refl _) _
  have B6 := mkHidT (B5.out.trans (hb6.mono B5.out.size))
  have c3b : W6.cell? ⟨g, 3, none⟩ = some (.slice ao 2 ac) := cell_keepF (hb6.block _ hgl5) c3'
  have x0b : W6.cell? ⟨w4.heap.size, 0, none⟩ = some (.slice (some ⟨g, 0, none⟩) 2 c) := cell_keepF (hb6.block _ hl5) x0
  have E6 := mkHidT (E5.out.grown (Ents.below_grown hb6))
  have Z6 : Hid (W6.heap[W5.heap.size]? = some (.cells #[.string ⟨#[107]⟩, .string ⟨#[120]⟩, .string ⟨#[109]⟩, .string ⟨#[120]⟩] 33)) := mkHidT (by rw [← hW6]; exact heap_alloc_new _ _)
  have hlw := lwAttrs_same W6 ao _ 2 ac 2 [(⟨#[107]⟩, ⟨#[120]⟩), (⟨#[109]⟩, ⟨#[120]⟩)] rfl (by decide) E6.out (two_ents Z6.out)
  clear hb6
  clear hR hev hln hat hb4 hrd hat0 hat1 hE hcd hb5 Z5 hE' c3 hgl
  go_wp2_with fail
  refine hlw.mono ?_
  rintro e w8 ⟨rfl, hg8⟩
  go_wp2
  go_ret
  exact ⟨rfl, B6.out.grown hg8 B6.out.size (fun k hk => by cases hk)⟩
theorem cat01 : (⟨#[60, 33, 68, 79, 67, 84, 89, 80, 69, 32, 114, 32, 91, 60, 33, 65, 84, 84, 76, 73, 83, 84, 32, 114, 32, 107, 32, 78, 77, 84, 79, 75, 69, 78, 83, 32, 39]⟩ ++ ⟨#[32, 97, 32, 32, 98, 32]⟩ ++ ⟨#[39, 32, 109, 32, 67, 68, 65, 84, 65, 32, 39]⟩ ++ ⟨#[32, 97, 32, 32, 98, 32]⟩ ++ ⟨#[39, 32, 110, 32, 73, 68, 32, 35, 73, 77, 80, 76, 73, 69, 68, 62, 60, 33, 65, 84, 84, 76, 73, 83, 84, 32, 114, 32, 107, 32, 67, 68, 65, 84, 65, 32, 39, 110, 111, 39, 62, 93, 62, 60, 114]⟩ ++ ⟨#[47, 62]⟩ : ByteArray) = docD false 1 := by decide +kernel
set_option maxRecDepth 100000 in
set_option maxHeartbeats 8000000 in
theorem walk01 (a : Option Addr) (n cap : Nat) (w : World) (m : Int) (zs : List Int) (hS : FedL w a n zs) (hctx : Ctx w m) (h0 : lwV zs 0 2 = 0) (h1 : lwV zs 1 4 = 1) :
    Calls Tryz.prog 4 #[.slice a n cap] w fun e w' => e = .returned (.bool true) ∧ Below w.heap.size w w' := by
  have hl : ¬ 1048576 < (n : Int) := by have := hS.2.1; omega
  have HS := mkHidT hS
  have HC := mkHidT hctx
  have hat0 := fun wx (hb : Below w.heap.size w wx) => lwAt_any wx a n cap zs (fed_below HS.out hb) 0 2 (by decide) (by decide) (by decide)
  have hat1 := fun wx (hb : Below w.heap.size w wx) => lwAt_any wx a n cap zs (fed_below HS.out hb) 1 4 (by decide) (by decide) (by decide)
  simp only [h0, h1] at hat0 hat1
  clear hS hctx h0 h1
  go_enter Tryz.func4, Tryz.ntmps4
  go_wp2_with fail
  refine (hat0 _ (Below.refl _ _)).mono ?_
  rintro e w1 ⟨rfl, hb1⟩
  have B1 := mkHidT hb1
  clear hb1
  go_wp2_with fail
  refine (hat1 _ (B1.out.alloc B1.out.size _)).mono ?_
  rintro e w2 ⟨rfl, hb2⟩
  have B2 := mkHidT ((B1.out.alloc B1.out.size _).trans (hb2.mono (B1.out.alloc B1.out.size _).size))
  obtain ⟨k0, k1, k2, k3⟩ := cells4 hb2
  clear hb2
  go_wp2_with fail
  refine (hat1 _ (B2.out.alloc B2.out.size _)).mono ?_
  rintro e w3 ⟨rfl, hb3⟩
  have B3 := mkHidT ((B2.out.alloc B2.out.size _).trans (hb3.mono (B2.out.alloc B2.out.size _).size))
  obtain ⟨q0, q1, q2, q3⟩ := cells4 hb3
  clear hb3
  have hrd := @implRead_any ⟨⟨0⟩⟩ (docD false 1) true w3 m ⟨HC.out.env.below B3.out, HC.out.et.below B3.out⟩
  go_wp2_with fail
  rw [cat01]
  refine hrd.mono ?_
  rintro e w4 ⟨v, rfl, hev, hb4⟩
  obtain ⟨hcd, hln, hat⟩ := okD_parts d_false1
  obtain ⟨R, hR⟩ : ∃ R, readZ (docD false 1) true = R := ⟨_, rfl⟩
  rw [hR] at hev hcd hln hat ⊢
  obtain ⟨g, c, ao, ac, rfl, c3, hE⟩ := ev_first hev hln hat
  have B4 := mkHidT (B3.out.trans (hb4.mono B3.out.size))
  have hE' : Hid (EntsAt w4 ao [(⟨#[107]⟩, ⟨#[97, 32, 98]⟩), (⟨#[109]⟩, ⟨#[32, 97, 32, 32, 98, 32]⟩)]) := mkHidT hE
  have hgl := block_lt c3
  rw [show (attD false 1).length = 2 from rfl] at c3
  have hcb : (R.code != 0) = false := by simp [hcd]
  obtain ⟨W5, hW5⟩ : ∃ W5, w4.alloc (.cells #[.slice (some ⟨g, 0, none⟩) 2 c, .int .i64 R.at1, .int .i64 R.code] 28) = W5 := ⟨_, rfl⟩
  have hb5 : Below w4.heap.size w4 W5 := by rw [← hW5]; exact (Below.refl _ _).alloc (Nat.le_refl _) _
  have B5 := mkHidT (B4.out.trans (hb5.mono B4.out.size))
  have c3' : W5.cell? ⟨g, 3, none⟩ = some (.slice ao 2 ac) := cell_keepF (hb5.block _ hgl) c3
  have E5 : Hid (EntsAt W5 ao [(⟨#[107]⟩, ⟨#[97, 32, 98]⟩), (⟨#[109]⟩, ⟨#[32, 97, 32, 32, 98, 32]⟩)]) := mkHidT (hE'.out.grown (Ents.below_grown hb5))
  have Z5 : W5.heap[w4.heap.size]? = some (.cells #[.slice (some ⟨g, 0, none⟩) 2 c, .int .i64 R.at1, .int .i64 R.code] 28) := by rw [← hW5]; exact heap_alloc_new _ _
  obtain ⟨x0, x1, x2⟩ := out_cells Z5
  have hl5 := (Array.getElem?_eq_some_iff.1 Z5).1
  have hgl5 := block_lt c3'
  obtain ⟨W6, hW6⟩ : ∃ W6, W5.alloc (.cells #[.string ⟨#[107]⟩, .string ⟨#[97, 32, 98]⟩, .string ⟨#[109]⟩, .string ⟨#[32, 97, 32, 32, 98, 32]⟩] 33) = W6 := ⟨_, rfl⟩
  have hb6 : Below W5.heap.size W5 W6 := by rw [← hW6]; exact (Below.refl _ _).alloc (Nat.le_refl _) _
  have B6 := mkHidT (B5.out.trans (hb6.mono B5.out.size))
  have c3b : W6.cell? ⟨g, 3, none⟩ = some (.slice ao 2 ac) := cell_keepF (hb6.block _ hgl5) c3'
  have x0b : W6.cell? ⟨w4.heap.size, 0, none⟩ = some (.slice (some ⟨g, 0, none⟩) 2 c) := cell_keepF (hb6.block _ hl5) x0
  have E6 := mkHidT (E5.out.grown (Ents.below_grown hb6))
  have Z6 : Hid (W6.heap[W5.heap.size]? = some (.cells #[.string ⟨#[107]⟩, .string ⟨#[97, 32, 98]⟩, .string ⟨#[109]⟩, .string ⟨#[32, 97, 32, 32, 98, 32]⟩] 33)) := mkHidT (by rw [← hW6]; exact heap_alloc_new _ _)
  have hlw := lwAttrs_same W6 ao _ 2 ac 2 [(⟨#[107]⟩, ⟨#[97, 32, 98]⟩), (⟨#[109]⟩, ⟨#[32, 97, 32, 32, 98, 32]⟩)] rfl (by decide) E6.out (two_ents Z6.out)
  clear hb6
  clear hR hev hln hat hb4 hrd hat0 hat1 hE hcd hb5 Z5 hE' c3 hgl
  go_wp2_with fail
  refine hlw.mono ?_
  rintro e w8 ⟨rfl, hg8⟩
  go_wp2
  go_ret
  exact ⟨rfl, B6.out.grown hg8 B6.out.size (fun k hk => by cases hk)⟩
theorem cat02 : (⟨#[60, 33, 68, 79, 67, 84, 89, 80, 69, 32, 114, 32, 91, 60, 33, 65, 84, 84, 76, 73, 83, 84, 32, 114, 32, 107, 32, 78, 77, 84, 79, 75, 69, 78, 83, 32, 39]⟩ ++ ⟨#[]⟩ ++ ⟨#[39, 32, 109, 32, 67, 68, 65, 84, 65, 32, 39]⟩ ++ ⟨#[]⟩ ++ ⟨#[39, 32, 110, 32, 73, 68, 32, 35, 73, 77, 80, 76, 73, 69, 68, 62, 60, 33, 65, 84, 84, 76, 73, 83, 84, 32, 114, 32, 107, 32, 67, 68, 65, 84, 65, 32, 39, 110, 111, 39, 62, 93, 62, 60, 114]⟩ ++ ⟨#[47, 62]⟩ : ByteArray) = docD false 2 := by decide +kernel
set_option maxRecDepth 100000 in
set_option maxHeartbeats 8000000 in
theorem walk02 (a : Option Addr) (n cap : Nat) (w : World) (m : Int) (zs : List Int) (hS : FedL w a n zs) (hctx : Ctx w m) (h0 : lwV zs 0 2 = 0) (h1 : lwV zs 1 4 = 2) :
    Calls Tryz.prog 4 #[.slice a n cap] w fun e w' => e = .returned (.bool true) ∧ Below w.heap.size w w' := by
  have hl : ¬ 1048576 < (n : Int) := by have := hS.2.1; omega
  have HS := mkHidT hS
  have HC := mkHidT hctx
  have hat0 := fun wx (hb : Below w.heap.size w wx) => lwAt_any wx a n cap zs (fed_below HS.out hb) 0 2 (by decide) (by decide) (by decide)
  have hat1 := fun wx (hb : Below w.heap.size w wx) => lwAt_any wx a n cap zs (fed_below HS.out hb) 1 4 (by decide) (by decide) (by decide)
  simp only [h0, h1] at hat0 hat1
  clear hS hctx h0 h1
  go_enter Tryz.func4, Tryz.ntmps4
  go_wp2_with fail
  refine (hat0 _ (Below.refl _ _)).mono ?_
  rintro e w1 ⟨rfl, hb1⟩
  have B1 := mkHidT hb1
  clear hb1
  go_wp2_with fail
  refine (hat1 _ (B1.out.alloc B1.out.size _)).mono ?_
  rintro e w2 ⟨rfl, hb2⟩
  have B2 := mkHidT ((B1.out.alloc B1.out.size _).trans (hb2.mono (B1.out.alloc B1.out.size _).size))
  obtain ⟨k0, k1, k2, k3⟩ := cells4 hb2
  clear hb2
  go_wp2_with fail
  refine (hat1 _ (B2.out.alloc B2.out.size _)).mono ?_
  rintro e w3 ⟨rfl, hb3⟩
  have B3 := mkHidT ((B2.out.alloc B2.out.size _).trans (hb3.mono (B2.out.alloc B2.out.size _).size))
  obtain ⟨q0, q1, q2, q3⟩ := cells4 hb3
  clear hb3
  have hrd := @implRead_any ⟨⟨0⟩⟩ (docD false 2) true w3 m ⟨HC.out.env.below B3.out, HC.out.et.below B3.out⟩
  go_wp2_with fail
  rw [cat02]
  refine hrd.mono ?_
  rintro e w4 ⟨v, rfl, hev, hb4⟩
  obtain ⟨hcd, hln, hat⟩ := okD_parts d_false2
  obtain ⟨R, hR⟩ : ∃ R, readZ (docD false 2) true = R := ⟨_, rfl⟩
  rw [hR] at hev hcd hln hat ⊢
  obtain ⟨g, c, ao, ac, rfl, c3, hE⟩ := ev_first hev hln hat
  have B4 := mkHidT (B3.out.trans (hb4.mono B3.out.size))
  have hE' : Hid (EntsAt w4 ao [(⟨#[107]⟩, ⟨#[]⟩), (⟨#[109]⟩, ⟨#[]⟩)]) := mkHidT hE
  have hgl := block_lt c3
  rw [show (attD false 2).length = 2 from rfl] at c3
  have hcb : (R.code != 0) = false := by simp [hcd]
  obtain ⟨W5, hW5⟩ : ∃ W5, w4.alloc (.cells #[.slice (some ⟨g, 0, none⟩) 2 c, .int .i64 R.at1, .int .i64 R.code] 28) = W5 := ⟨_, rfl⟩
  have hb5 : Below w4.heap.size w4 W5 := by rw [← hW5]; exact (Below.refl _ _).alloc (Nat.le_refl _) _
  have B5 := mkHidT (B4.out.trans (hb5.mono B4.out.size))
  have c3' : W5.cell? ⟨g, 3, none⟩ = some (.slice ao 2 ac) := cell_keepF (hb5.block _ hgl) c3
  have E5 : Hid (EntsAt W5 ao [(⟨#[107]⟩, ⟨#[]⟩), (⟨#[109]⟩, ⟨#[]⟩)]) := mkHidT (hE'.out.grown (Ents.below_grown hb5))
  have Z5 : W5.heap[w4.heap.size]? = some (.cells #[.slice (some ⟨g, 0, none⟩) 2 c, .int .i64 R.at1, .int .i64 R.code] 28) := by rw [← hW5]; exact heap_alloc_new _ _
  obtain ⟨x0, x1, x2⟩ := out_cells Z5
  have hl5 := (Array.getElem?_eq_some_iff.1 Z5).1
  have hgl5 := block_lt c3'
  obtain ⟨W6, hW6⟩ : ∃ W6, W5.alloc (.cells #[.string ⟨#[107]⟩, .string ⟨#[]⟩, .string ⟨#[109]⟩, .string ⟨#[]⟩] 33) = W6 := ⟨_, rfl⟩
  have hb6 : Below W5.heap.size W5 W6 := by rw [← hW6]; exact (Below.refl _ _).alloc (Nat.le_refl _) _
  have B6 := mkHidT (B5.out.trans (hb6.mono B5.out.size))
  have c3b : W6.cell? ⟨g, 3, none⟩ = some (.slice ao 2 ac) := cell_keepF (hb6.block _ hgl5) c3'
  have x0b : W6.cell? ⟨w4.heap.size, 0, none⟩ = some (.slice (some ⟨g, 0, none⟩) 2 c) := cell_keepF (hb6.block _ hl5) x0
  have E6 := mkHidT (E5.out.grown (Ents.below_grown hb6))
  have Z6 : Hid (W6.heap[W5.heap.size]? = some (.cells #[.string ⟨#[107]⟩, .string ⟨#[]⟩, .string ⟨#[109]⟩, .string ⟨#[]⟩] 33)) := mkHidT (by rw [← hW6]; exact heap_alloc_new _ _)
  have hlw := lwAttrs_same W6 ao _ 2 ac 2 [(⟨#[107]⟩, ⟨#[]⟩), (⟨#[109]⟩, ⟨#[]⟩)] rfl (by decide) E6.out (two_ents Z6.out)
  clear hb6
  clear hR hev hln hat hb4 hrd hat0 hat1 hE hcd hb5 Z5 hE' c3 hgl
  go_wp2_with fail
  refine hlw.mono ?_
  rintro e w8 ⟨rfl, hg8⟩
  go_wp2
  go_ret
  exact ⟨rfl, B6.out.grown hg8 B6.out.size (fun k hk => by cases hk)⟩
theorem cat03 : (⟨#[60, 33, 68, 79, 67, 84, 89, 80, 69, 32, 114, 32, 91, 60, 33, 65, 84, 84, 76, 73, 83, 84, 32, 114, 32, 107, 32, 78, 77, 84, 79, 75, 69, 78, 83, 32, 39]⟩ ++ ⟨#[32]⟩ ++ ⟨#[39, 32, 109, 32, 67, 68, 65, 84, 65, 32, 39]⟩ ++ ⟨#[32]⟩ ++ ⟨#[39, 32, 110, 32, 73, 68, 32, 35, 73, 77, 80, 76, 73, 69, 68, 62, 60, 33, 65, 84, 84, 76, 73, 83, 84, 32, 114, 32, 107, 32, 67, 68, 65, 84, 65, 32, 39, 110, 111, 39, 62, 93, 62, 60, 114]⟩ ++ ⟨#[47, 62]⟩ : ByteArray) = docD false 3 := by decide +kernel
set_option maxRecDepth 100000 in
set_option maxHeartbeats 8000000 in
theorem walk03 (a : Option Addr) (n cap : Nat) (w : World) (m : Int) (zs : List Int) (hS : FedL w a n zs) (hctx : Ctx w m) (h0 : lwV zs 0 2 = 0) (h1 : lwV zs 1 4 = 3) :
    Calls Tryz.prog 4 #[.slice a n cap] w fun e w' => e = .returned (.bool true) ∧ Below w.heap.size w w' := by
  have hl : ¬ 1048576 < (n : Int) := by have := hS.2.1; omega
  have HS := mkHidT hS
  have HC := mkHidT hctx
  have hat0 := fun wx (hb : Below w.heap.size w wx) => lwAt_any wx a n cap zs (fed_below HS.out hb) 0 2 (by decide) (by decide) (by decide)
  have hat1 := fun wx (hb : Below w.heap.size w wx) => lwAt_any wx a n cap zs (fed_below HS.out hb) 1 4 (by decide) (by decide) (by decide)
  simp only [h0, h1] at hat0 hat1
  clear hS hctx h0 h1
  go_enter Tryz.func4, Tryz.ntmps4
  go_wp2_with fail
  refine (hat0 _ (Below.refl _ _)).mono ?_
  rintro e w1 ⟨rfl, hb1⟩
  have B1 := mkHidT hb1
  clear hb1
  go_wp2_with fail
  refine (hat1 _ (B1.out.alloc B1.out.size _)).mono ?_
  rintro e w2 ⟨rfl, hb2⟩
  have B2 := mkHidT ((B1.out.alloc B1.out.size _).trans (hb2.mono (B1.out.alloc B1.out.size _).size))
  obtain ⟨k0, k1, k2, k3⟩ := cells4 hb2
  clear hb2
  go_wp2_with fail
  refine (hat1 _ (B2.out.alloc B2.out.size _)).mono ?_
  rintro e w3 ⟨rfl, hb3⟩
  have B3 := mkHidT ((B2.out.alloc B2.out.size _).trans (hb3.mono (B2.out.alloc B2.out.size _).size))
  obtain ⟨q0, q1, q2, q3⟩ := cells4 hb3
  clear hb3
  have hrd := @implRead_any ⟨⟨0⟩⟩ (docD false 3) true w3 m ⟨HC.out.env.below B3.out, HC.out.et.below B3.out⟩
  go_wp2_with fail
  rw [cat03]
  refine hrd.mono ?_
  rintro e w4 ⟨v, rfl, hev, hb4⟩
  obtain ⟨hcd, hln, hat⟩ := okD_parts d_false3
  obtain ⟨R, hR⟩ : ∃ R, readZ (docD false 3) true = R := ⟨_, rfl⟩
  rw [hR] at hev hcd hln hat ⊢
  obtain ⟨g, c, ao, ac, rfl, c3, hE⟩ := ev_first hev hln hat
  have B4 := mkHidT (B3.out.trans (hb4.mono B3.out.size))
  have hE' : Hid (EntsAt w4 ao [(⟨#[107]⟩, ⟨#[]⟩), (⟨#[109]⟩, ⟨#[32]⟩)]) := mkHidT hE
  have hgl := block_lt c3
  rw [show (attD false 3).length = 2 from rfl] at c3
  have hcb : (R.code != 0) = false := by simp [hcd]
  obtain ⟨W5, hW5⟩ : ∃ W5, w4.alloc (.cells #[.slice (some ⟨g, 0, none⟩) 2 c, .int .i64 R.at1, .int .i64 R.code] 28) = W5 := ⟨_, rfl⟩
  have hb5 : Below w4.heap.size w4 W5 := by rw [← hW5]; exact (Below.refl _ _).alloc (Nat.le_refl _) _
  have B5 := mkHidT (B4.out.trans (hb5.mono B4.out.size))
  have c3' : W5.cell? ⟨g, 3, none⟩ = some (.slice ao 2 ac) := cell_keepF (hb5.block _ hgl) c3
  have E5 : Hid (EntsAt W5 ao [(⟨#[107]⟩, ⟨#[]⟩), (⟨#[109]⟩, ⟨#[32]⟩)]) := mkHidT (hE'.out.grown (Ents.below_grown hb5))
  have Z5 : W5.heap[w4.heap.size]? = some (.cells #[.slice (some ⟨g, 0, none⟩) 2 c, .int .i64 R.at1, .int .i64 R.code] 28) := by rw [← hW5]; exact heap_alloc_new _ _
  obtain ⟨x0, x1, x2⟩ := out_cells Z5
  have hl5 := (Array.getElem?_eq_some_iff.1 Z5).1
  have hgl5 := block_lt c3'
  obtain ⟨W6, hW6⟩ : ∃ W6, W5.alloc (.cells #[.string ⟨#[107]⟩, .string ⟨#[]⟩, .string ⟨#[109]⟩, .string ⟨#[32]⟩] 33) = W6 := ⟨_, rfl⟩
  have hb6 : Below W5.heap.size W5 W6 := by rw [← hW6]; exact (Below.refl _ _).alloc (Nat.le_refl _) _
  have B6 := mkHidT (B5.out.trans (hb6.mono B5.out.size))
  have c3b : W6.cell? ⟨g, 3, none⟩ = some (.slice ao 2 ac) := cell_keepF (hb6.block _ hgl5) c3'
  have x0b : W6.cell? ⟨w4.heap.size, 0, none⟩ = some (.slice (some ⟨g, 0, none⟩) 2 c) := cell_keepF (hb6.block _ hl5) x0
  have E6 := mkHidT (E5.out.grown (Ents.below_grown hb6))
  have Z6 : Hid (W6.heap[W5.heap.size]? = some (.cells #[.string ⟨#[107]⟩, .string ⟨#[]⟩, .string ⟨#[109]⟩, .string ⟨#[32]⟩] 33)) := mkHidT (by rw [← hW6]; exact heap_alloc_new _ _)
  have hlw := lwAttrs_same W6 ao _ 2 ac 2 [(⟨#[107]⟩, ⟨#[]⟩), (⟨#[109]⟩, ⟨#[32]⟩)] rfl (by decide) E6.out (two_ents Z6.out)
  clear hb6
  clear hR hev hln hat hb4 hrd hat0 hat1 hE hcd hb5 Z5 hE' c3 hgl
  go_wp2_with fail
  refine hlw.mono ?_
  rintro e w8 ⟨rfl, hg8⟩
  go_wp2
  go_ret
  exact ⟨rfl, B6.out.grown hg8 B6.out.size (fun k hk => by cases hk)⟩
theorem cat10 : (⟨#[60, 33, 68, 79, 67, 84, 89, 80, 69, 32, 114, 32, 91, 60, 33, 65, 84, 84, 76, 73, 83, 84, 32, 114, 32, 107, 32, 78, 77, 84, 79, 75, 69, 78, 83, 32, 39]⟩ ++ ⟨#[120]⟩ ++ ⟨#[39, 32, 109, 32, 67, 68, 65, 84, 65, 32, 39]⟩ ++ ⟨#[120]⟩ ++ ⟨#[39, 32, 110, 32, 73, 68, 32, 35, 73, 77, 80, 76, 73, 69, 68, 62, 60, 33, 65, 84, 84, 76, 73, 83, 84, 32, 114, 32, 107, 32, 67, 68, 65, 84, 65, 32, 39, 110, 111, 39, 62, 93, 62, 60, 114]⟩ ++ ⟨#[32, 109, 61, 39, 109, 105, 110, 101, 39, 32, 107, 61, 39, 32, 10, 49, 9, 50, 32, 39]⟩ ++ ⟨#[47, 62]⟩ : ByteArray) = docD true 0 := by decide +kernel
set_option maxRecDepth 100000 in
set_option maxHeartbeats 8000000 in
theorem walk10 (a : Option Addr) (n cap : Nat) (w : World) (m : Int) (zs : List Int) (hS : FedL w a n zs) (hctx : Ctx w m) (h0 : lwV zs 0 2 = 1) (h1 : lwV zs 1 4 = 0) :
    Calls Tryz.prog 4 #[.slice a n cap] w fun e w' => e = .returned (.bool true) ∧ Below w.heap.size w w' := by
  have hl : ¬ 1048576 < (n : Int) := by have := hS.2.1; omega
  have HS := mkHidT hS
  have HC := mkHidT hctx
  have hat0 := fun wx (hb : Below w.heap.size w wx) => lwAt_any wx a n cap zs (fed_below HS.out hb) 0 2 (by decide) (by decide) (by decide)
  have hat1 := fun wx (hb : Below w.heap.size w wx) => lwAt_any wx a n cap zs (fed_below HS.out hb) 1 4 (by decide) (by decide) (by decide)
  simp only [h0, h1] at hat0 hat1
  clear hS hctx h0 h1
  go_enter Tryz.func4, Tryz.ntmps4
  go_wp2_with fail
  refine (hat0 _ (Below.refl _ _)).mono ?_
  rintro e w1 ⟨rfl, hb1⟩
  have B1 := mkHidT hb1
  clear hb1
  go_wp2_with fail
  refine (hat1 _ (B1.out.alloc B1.out.size _)).mono ?_
  rintro e w2 ⟨rfl, hb2⟩
  have B2 := mkHidT ((B1.out.alloc B1.out.size _).trans (hb2.mono (B1.out.alloc B1.out.size _).size))
  obtain ⟨k0, k1, k2, k3⟩ := cells4 hb2
  clear hb2
  go_wp2_with fail
  refine (hat1 _ (B2.out.alloc B2.out.size _)).mono ?_
  rintro e w3 ⟨rfl, hb3⟩
  have B3 := mkHidT ((B2.out.alloc B2.out.size _).trans (hb3.mono (B2.out.alloc B2.out.size _).size))
  obtain ⟨q0, q1, q2, q3⟩ := cells4 hb3
  clear hb3
  have hrd := @implRead_any ⟨⟨0⟩⟩ (docD true 0) true w3 m ⟨HC.out.env.below B3.out, HC.out.et.below B3.out⟩
  go_wp2_with fail
  rw [cat10]
  refine hrd.mono ?_
  rintro e w4 ⟨v, rfl, hev, hb4⟩
  obtain ⟨hcd, hln, hat⟩ := okD_parts d_true0
  obtain ⟨R, hR⟩ : ∃ R, readZ (docD true 0) true = R := ⟨_, rfl⟩
  rw [hR] at hev hcd hln hat ⊢
  obtain ⟨g, c, ao, ac, rfl, c3, hE⟩ := ev_first hev hln hat
  have B4 := mkHidT (B3.out.trans (hb4.mono B3.out.size))
  have hE' : Hid (EntsAt w4 ao [(⟨#[109]⟩, ⟨#[109, 105, 110, 101]⟩), (⟨#[107]⟩, ⟨#[49, 32, 50]⟩)]) := mkHidT hE
  have hgl := block_lt c3
  rw [show (attD true 0).length = 2 from rfl] at c3
  have hcb : (R.code != 0) = false := by simp [hcd]
  obtain ⟨W5, hW5⟩ : ∃ W5, w4.alloc (.cells #[.slice (some ⟨g, 0, none⟩) 2 c, .int .i64 R.at1, .int .i64 R.code] 28) = W5 := ⟨_, rfl⟩
  have hb5 : Below w4.heap.size w4 W5 := by rw [← hW5]; exact (Below.refl _ _).alloc (Nat.le_refl _) _
  have B5 := mkHidT (B4.out.trans (hb5.mono B4.out.size))
  have c3' : W5.cell? ⟨g, 3, none⟩ = some (.slice ao 2 ac) := cell_keepF (hb5.block _ hgl) c3
  have E5 : Hid (EntsAt W5 ao [(⟨#[109]⟩, ⟨#[109, 105, 110, 101]⟩), (⟨#[107]⟩, ⟨#[49, 32, 50]⟩)]) := mkHidT (hE'.out.grown (Ents.below_grown hb5))
  have Z5 : W5.heap[w4.heap.size]? = some (.cells #[.slice (some ⟨g, 0, none⟩) 2 c, .int .i64 R.at1, .int .i64 R.code] 28) := by rw [← hW5]; exact heap_alloc_new _ _
  obtain ⟨x0, x1, x2⟩ := out_cells Z5
  have hl5 := (Array.getElem?_eq_some_iff.1 Z5).1
  have hgl5 := block_lt c3'
  obtain ⟨W6, hW6⟩ : ∃ W6, W5.alloc (.cells #[.string ⟨#[107]⟩, .string ⟨#[120]⟩, .string ⟨#[109]⟩, .string ⟨#[120]⟩] 33) = W6 := ⟨_, rfl⟩
  have hb6 : Below W5.heap.size W5 W6 := by rw [← hW6]; exact (Below.refl _ _).alloc (Nat.le_refl _) _
  have B6 := mkHidT (B5.out.trans (hb6.mono B5.out.size))
  have c3b : W6.cell? ⟨g, 3, none⟩ = some (.slice ao 2 ac) := cell_keepF (hb6.block _ hgl5) c3'
  have x0b : W6.cell? ⟨w4.heap.size, 0, none⟩ = some (.slice (some ⟨g, 0, none⟩) 2 c) := cell_keepF (hb6.block _ hl5) x0
  have E6 := mkHidT (E5.out.grown (Ents.below_grown hb6))
  have Z6 : Hid (W6.heap[W5.heap.size]? = some (.cells #[.string ⟨#[107]⟩, .string ⟨#[120]⟩, .string ⟨#[109]⟩, .string ⟨#[120]⟩] 33)) := mkHidT (by rw [← hW6]; exact heap_alloc_new _ _)
  obtain ⟨W7, hW7⟩ : ∃ W7, W6.alloc (.cells #[.string ⟨#[109]⟩, .string ⟨#[109, 105, 110, 101]⟩, .string ⟨#[107]⟩, .string ⟨#[49, 32, 50]⟩] 33) = W7 := ⟨_, rfl⟩
  have hb7 : Below W6.heap.size W6 W7 := by rw [← hW7]; exact (Below.refl _ _).alloc (Nat.le_refl _) _
  have B7 := mkHidT (B6.out.trans (hb7.mono B6.out.size))
  have c3c : W7.cell? ⟨g, 3, none⟩ = some (.slice ao 2 ac) := cell_keepF (hb7.block _ (block_lt c3b)) c3b
  have x0c : W7.cell? ⟨w4.heap.size, 0, none⟩ = some (.slice (some ⟨g, 0, none⟩) 2 c) := cell_keepF (hb7.block _ (block_lt x0b)) x0b
  have E7 := mkHidT (E6.out.grown (Ents.below_grown hb7))
  have Z7 : Hid (W7.heap[W6.heap.size]? = some (.cells #[.string ⟨#[109]⟩, .string ⟨#[109, 105, 110, 101]⟩, .string ⟨#[107]⟩, .string ⟨#[49, 32, 50]⟩] 33)) := mkHidT (by rw [← hW7]; exact heap_alloc_new _ _)
  have hlw := lwAttrs_same W7 ao _ 2 ac 2 [(⟨#[109]⟩, ⟨#[109, 105, 110, 101]⟩), (⟨#[107]⟩, ⟨#[49, 32, 50]⟩)] rfl (by decide) E7.out (two_ents Z7.out)
  clear hb7 Z6 E6
  clear hb6
  clear hR hev hln hat hb4 hrd hat0 hat1 hE hcd hb5 Z5 hE' c3 hgl
  go_wp2_with fail
  refine hlw.mono ?_
  rintro e w8 ⟨rfl, hg8⟩
  go_wp2
  go_ret
  exact ⟨rfl, B7.out.grown hg8 B7.out.size (fun k hk => by cases hk)⟩
theorem cat11 : (⟨#[60, 33, 68, 79, 67, 84, 89, 80, 69, 32, 114, 32, 91, 60, 33, 65, 84, 84, 76, 73, 83, 84, 32, 114, 32, 107, 32, 78, 77, 84, 79, 75, 69, 78, 83, 32, 39]⟩ ++ ⟨#[32, 97, 32, 32, 98, 32]⟩ ++ ⟨#[39, 32, 109, 32, 67, 68, 65, 84, 65, 32, 39]⟩ ++ ⟨#[32, 97, 32, 32, 98, 32]⟩ ++ ⟨#[39, 32, 110, 32, 73, 68, 32, 35, 73, 77, 80, 76, 73, 69, 68, 62, 60, 33, 65, 84, 84, 76, 73, 83, 84, 32, 114, 32, 107, 32, 67, 68, 65, 84, 65, 32, 39, 110, 111, 39, 62, 93, 62, 60, 114]⟩ ++ ⟨#[32, 109, 61, 39, 109, 105, 110, 101, 39, 32, 107, 61, 39, 32, 10, 49, 9, 50, 32, 39]⟩ ++ ⟨#[47, 62]⟩ : ByteArray) = docD true 1 := by decide +kernel
set_option maxRecDepth 100000 in
set_option maxHeartbeats 8000000 in
theorem walk11 (a : Option Addr) (n cap : Nat) (w : World) (m : Int) (zs : List Int) (hS : FedL w a n zs) (hctx : Ctx w m) (h0 : lwV zs 0 2 = 1) (h1 : lwV zs 1 4 = 1) :
    Calls Tryz.prog 4 #[.slice a n cap] w fun e w' => e = .returned (.bool true) ∧ Below w.heap.size w w' := by
  have hl : ¬ 1048576 < (n : Int) := by have := hS.2.1; omega
  have HS := mkHidT hS
  have HC := mkHidT hctx
  have hat0 := fun wx (hb : Below w.heap.size w wx) => lwAt_any wx a n cap zs (fed_below HS.out hb) 0 2 (by decide) (by decide) (by decide)
  have hat1 := fun wx (hb : Below w.heap.size w wx) => lwAt_any wx a n cap zs (fed_below HS.out hb) 1 4 (by decide) (by decide) (by decide)
  simp only [h0, h1] at hat0 hat1
  clear hS hctx h0 h1
  go_enter Tryz.func4, Tryz.ntmps4
  go_wp2_with fail
  refine (hat0 _ (Below.refl _ _)).mono ?_
  rintro e w1 ⟨rfl, hb1⟩
  have B1 := mkHidT hb1
  clear hb1
  go_wp2_with fail
  refine (hat1 _ (B1.out.alloc B1.out.size _)).mono ?_
  rintro e w2 ⟨rfl, hb2⟩
  have B2 := mkHidT ((B1.out.alloc B1.out.size _).trans (hb2.mono (B1.out.alloc B1.out.size _).size))
  obtain ⟨k0, k1, k2, k3⟩ := cells4 hb2
  clear hb2
  go_wp2_with fail
  refine (hat1 _ (B2.out.alloc B2.out.size _)).mono ?_
  rintro e w3 ⟨rfl, hb3⟩
  have B3 := mkHidT ((B2.out.alloc B2.out.size _).trans (hb3.mono (B2.out.alloc B2.out.size _).size))
  obtain ⟨q0, q1, q2, q3⟩ := cells4 hb3
  clear hb3
  have hrd := @implRead_any ⟨⟨0⟩⟩ (docD true 1) true w3 m ⟨HC.out.env.below B3.out, HC.out.et.below B3.out⟩
  go_wp2_with fail
  rw [cat11]
  refine hrd.mono ?_
  rintro e w4 ⟨v, rfl, hev, hb4⟩
  obtain ⟨hcd, hln, hat⟩ := okD_parts d_true1
  obtain ⟨R, hR⟩ : ∃ R, readZ (docD true 1) true = R := ⟨_, rfl⟩
  rw [hR] at hev hcd hln hat ⊢
  obtain ⟨g, c, ao, ac, rfl, c3, hE⟩ := ev_first hev hln hat
  have B4 := mkHidT (B3.out.trans (hb4.mono B3.out.size))
  have hE' : Hid (EntsAt w4 ao [(⟨#[109]⟩, ⟨#[109, 105, 110, 101]⟩), (⟨#[107]⟩, ⟨#[49, 32, 50]⟩)]) := mkHidT hE
  have hgl := block_lt c3
  rw [show (attD true 1).length = 2 from rfl] at c3
  have hcb : (R.code != 0) = false := by simp [hcd]
  obtain ⟨W5, hW5⟩ : ∃ W5, w4.alloc (.cells #[.slice (some ⟨g, 0, none⟩) 2 c, .int .i64 R.at1, .int .i64 R.code] 28) = W5 := ⟨_, rfl⟩
  have hb5 : Below w4.heap.size w4 W5 := by rw [← hW5]; exact (Below.refl _ _).alloc (Nat.le_refl _) _
  have B5 := mkHidT (B4.out.trans (hb5.mono B4.out.size))
  have c3' : W5.cell? ⟨g, 3, none⟩ = some (.slice ao 2 ac) := cell_keepF (hb5.block _ hgl) c3
  have E5 : Hid (EntsAt W5 ao [(⟨#[109]⟩, ⟨#[109, 105, 110, 101]⟩), (⟨#[107]⟩, ⟨#[49, 32, 50]⟩)]) := mkHidT (hE'.out.grown (Ents.below_grown hb5))
  have Z5 : W5.heap[w4.heap.size]? = some (.cells #[.slice (some ⟨g, 0, none⟩) 2 c, .int .i64 R.at1, .int .i64 R.code] 28) := by rw [← hW5]; exact heap_alloc_new _ _
  obtain ⟨x0, x1, x2⟩ := out_cells Z5
  have hl5 := (Array.getElem?_eq_some_iff.1 Z5).1
  have hgl5 := block_lt c3'
  obtain ⟨W6, hW6⟩ : ∃ W6, W5.alloc (.cells #[.string ⟨#[107]⟩, .string ⟨#[97, 32, 98]⟩, .string ⟨#[109]⟩, .string ⟨#[32, 97, 32, 32, 98, 32]⟩] 33) = W6 := ⟨_, rfl⟩
  have hb6 : Below W5.heap.size W5 W6 := by rw [← hW6]; exact (Below.refl _ _).alloc (Nat.le_refl _) _
  have B6 := mkHidT (B5.out.trans (hb6.mono B5.out.size))
  have c3b : W6.cell? ⟨g, 3, none⟩ = some (.slice ao 2 ac) := cell_keepF (hb6.block _ hgl5) c3'
  have x0b : W6.cell? ⟨w4.heap.size, 0, none⟩ = some (.slice (some ⟨g, 0, none⟩) 2 c) := cell_keepF (hb6.block _ hl5) x0
  have E6 := mkHidT (E5.out.grown (Ents.below_grown hb6))
  have Z6 : Hid (W6.heap[W5.heap.size]? = some (.cells #[.string ⟨#[107]⟩, .string ⟨#[97, 32, 98]⟩, .string ⟨#[109]⟩, .string ⟨#[32, 97, 32, 32, 98, 32]⟩] 33)) := mkHidT (by rw [← hW6]; exact heap_alloc_new _ _)
  obtain ⟨W7, hW7⟩ : ∃ W7, W6.alloc (.cells #[.string ⟨#[109]⟩, .string ⟨#[109, 105, 110, 101]⟩, .string ⟨#[107]⟩, .string ⟨#[49, 32, 50]⟩] 33) = W7 := ⟨_, rfl⟩
  have hb7 : Below W6.heap.size W6 W7 := by rw [← hW7]; exact (Below.refl _ _).alloc (Nat.le_refl _) _
  have B7 := mkHidT (B6.out.trans (hb7.mono B6.out.size))
  have c3c : W7.cell? ⟨g, 3, none⟩ = some (.slice ao 2 ac) := cell_keepF (hb7.block _ (block_lt c3b)) c3b
  have x0c : W7.cell? ⟨w4.heap.size, 0, none⟩ = some (.slice (some ⟨g, 0, none⟩) 2 c) := cell_keepF (hb7.block _ (block_lt x0b)) x0b
  have E7 := mkHidT (E6.out.grown (Ents.below_grown hb7))
  have Z7 : Hid (W7.heap[W6.heap.size]? = some (.cells #[.string ⟨#[109]⟩, .string ⟨#[109, 105, 110, 101]⟩, .string ⟨#[107]⟩, .string ⟨#[49, 32, 50]⟩] 33)) := mkHidT (by rw [← hW7]; exact heap_alloc_new _ _)
  have hlw := lwAttrs_same W7 ao _ 2 ac 2 [(⟨#[109]⟩, ⟨#[109, 105, 110, 101]⟩), (⟨#[107]⟩, ⟨#[49, 32, 50]⟩)] rfl (by decide) E7.out (two_ents Z7.out)
  clear hb7 Z6 E6
  clear hb6
  clear hR hev hln hat hb4 hrd hat0 hat1 hE hcd hb5 Z5 hE' c3 hgl
  go_wp2_with fail
  refine hlw.mono ?_
  rintro e w8 ⟨rfl, hg8⟩
  go_wp2
  go_ret
  exact ⟨rfl, B7.out.grown hg8 B7.out.size (fun k hk => by cases hk)⟩
theorem cat12 : (⟨#[60, 33, 68, 79, 67, 84, 89, 80, 69, 32, 114, 32, 91, 60, 33, 65, 84, 84, 76, 73, 83, 84, 32, 114, 32, 107, 32, 78, 77, 84, 79, 75, 69, 78, 83, 32, 39]⟩ ++ ⟨#[]⟩ ++ ⟨#[39, 32, 109, 32, 67, 68, 65, 84, 65, 32, 39]⟩ ++ ⟨#[]⟩ ++ ⟨#[39, 32, 110, 32, 73, 68, 32, 35, 73, 77, 80, 76, 73, 69, 68, 62, 60, 33, 65, 84, 84, 76, 73, 83, 84, 32, 114, 32, 107, 32, 67, 68, 65, 84, 65, 32, 39, 110, 111, 39, 62, 93, 62, 60, 114]⟩ ++ ⟨#[32, 109, 61, 39, 109, 105, 110, 101, 39, 32, 107, 61, 39, 32, 10, 49, 9, 50, 32, 39]⟩ ++ ⟨#[47, 62]⟩ : ByteArray) = docD true 2 := by decide +kernel
set_option maxRecDepth 100000 in
set_option maxHeartbeats 8000000 in
theorem walk12 (a : Option Addr) (n cap : Nat) (w : World) (m : Int) (zs : List Int) (hS : FedL w a n zs) (hctx : Ctx w m) (h0 : lwV zs 0 2 = 1) (h1 : lwV zs 1 4 = 2) :
    Calls Tryz.prog 4 #[.slice a n cap] w fun e w' => e = .returned (.bool true) ∧ Below w.heap.size w w' := by
  have hl : ¬ 1048576 < (n : Int) := by have := hS.2.1; omega
  have HS := mkHidT hS
  have HC := mkHidT hctx
  have hat0 := fun wx (hb : Below w.heap.size w wx) => lwAt_any wx a n cap zs (fed_below HS.out hb) 0 2 (by decide) (by decide) (by decide)
  have hat1 := fun wx (hb : Below w.heap.size w wx) => lwAt_any wx a n cap zs (fed_below HS.out hb) 1 4 (by decide) (by decide) (by decide)
  simp only [h0, h1] at hat0 hat1
  clear hS hctx h0 h1
  go_enter Tryz.func4, Tryz.ntmps4
  go_wp2_with fail
  refine (hat0 _ (Below.refl _ _)).mono ?_
  rintro e w1 ⟨rfl, hb1⟩
  have B1 := mkHidT hb1
  clear hb1
  go_wp2_with fail
  refine (hat1 _ (B1.out.alloc B1.out.size _)).mono ?_
  rintro e w2 ⟨rfl, hb2⟩
  have B2 := mkHidT ((B1.out.alloc B1.out.size _).trans (hb2.mono (B1.out.alloc B1.out.size _).size))
  obtain ⟨k0, k1, k2, k3⟩ := cells4 hb2
  clear hb2
  go_wp2_with fail
  refine (hat1 _ (B2.out.alloc B2.out.size _)).mono ?_
  rintro e w3 ⟨rfl, hb3⟩
  have B3 := mkHidT ((B2.out.alloc B2.out.size _).trans (hb3.mono (B2.out.alloc B2.out.size _).size))
  obtain ⟨q0, q1, q2, q3⟩ := cells4 hb3
  clear hb3
  have hrd := @implRead_any ⟨⟨0⟩⟩ (docD true 2) true w3 m ⟨HC.out.env.below B3.out, HC.out.et.below B3.out⟩
  go_wp2_with fail
  rw [cat12]
  refine hrd.mono ?_
  rintro e w4 ⟨v, rfl, hev, hb4⟩
  obtain ⟨hcd, hln, hat⟩ := okD_parts d_true2
  obtain ⟨R, hR⟩ : ∃ R, readZ (docD true 2) true = R := ⟨_, rfl⟩
  rw [hR] at hev hcd hln hat ⊢
  obtain ⟨g, c, ao, ac, rfl, c3, hE⟩ := ev_first hev hln hat
  have B4 := mkHidT (B3.out.trans (hb4.mono B3.out.size))
  have hE' : Hid (EntsAt w4 ao [(⟨#[109]⟩, ⟨#[109, 105, 110, 101]⟩), (⟨#[107]⟩, ⟨#[49, 32, 50]⟩)]) := mkHidT hE
  have hgl := block_lt c3
  rw [show (attD true 2).length = 2 from rfl] at c3
  have hcb : (R.code != 0) = false := by simp [hcd]
  obtain ⟨W5, hW5⟩ : ∃ W5, w4.alloc (.cells #[.slice (some ⟨g, 0, none⟩) 2 c, .int .i64 R.at1, .int .i64 R.code] 28) = W5 := ⟨_, rfl⟩
  have hb5 : Below w4.heap.size w4 W5 := by rw [← hW5]; exact (Below.refl _ _).alloc (Nat.le_refl _) _
  have B5 := mkHidT (B4.out.trans (hb5.mono B4.out.size))
  have c3' : W5.cell? ⟨g, 3, none⟩ = some (.slice ao 2 ac) := cell_keepF (hb5.block _ hgl) c3
  have E5 : Hid (EntsAt W5 ao [(⟨#[109]⟩, ⟨#[109, 105, 110, 101]⟩), (⟨#[107]⟩, ⟨#[49, 32, 50]⟩)]) := mkHidT (hE'.out.grown (Ents.below_grown hb5))
  have Z5 : W5.heap[w4.heap.size]? = some (.cells #[.slice (some ⟨g, 0, none⟩) 2 c, .int .i64 R.at1, .int .i64 R.code] 28) := by rw [← hW5]; exact heap_alloc_new _ _
  obtain ⟨x0, x1, x2⟩ := out_cells Z5
  have hl5 := (Array.getElem?_eq_some_iff.1 Z5).1
  have hgl5 := block_lt c3'
  obtain ⟨W6, hW6⟩ : ∃ W6, W5.alloc (.cells #[.string ⟨#[107]⟩, .string ⟨#[]⟩, .string ⟨#[109]⟩, .string ⟨#[]⟩] 33) = W6 := ⟨_, rfl⟩
  have hb6 : Below W5.heap.size W5 W6 := by rw [← hW6]; exact (Below.refl _ _).alloc (Nat.le_refl _) _
  have B6 := mkHidT (B5.out.trans (hb6.mono B5.out.size))
  have c3b : W6.cell? ⟨g, 3, none⟩ = some (.slice ao 2 ac) := cell_keepF (hb6.block _ hgl5) c3'
  have x0b : W6.cell? ⟨w4.heap.size, 0, none⟩ = some (.slice (some ⟨g, 0, none⟩) 2 c) := cell_keepF (hb6.block _ hl5) x0
  have E6 := mkHidT (E5.out.grown (Ents.below_grown hb6))
  have Z6 : Hid (W6.heap[W5.heap.size]? = some (.cells #[.string ⟨#[107]⟩, .string ⟨#[]⟩, .string ⟨#[109]⟩, .string ⟨#[]⟩] 33)) := mkHidT (by rw [← hW6]; exact heap_alloc_new _ _)
  obtain ⟨W7, hW7⟩ : ∃ W7, W6.alloc (.cells #[.string ⟨#[109]⟩, .string ⟨#[109, 105, 110, 101]⟩, .string ⟨#[107]⟩, .string ⟨#[49, 32, 50]⟩] 33) = W7 := ⟨_, rfl⟩
  have hb7 : Below W6.heap.size W6 W7 := by rw [← hW7]; exact (Below.refl _ _).alloc (Nat.le_refl _) _
  have B7 := mkHidT (B6.out.trans (hb7.mono B6.out.size))
  have c3c : W7.cell? ⟨g, 3, none⟩ = some (.slice ao 2 ac) := cell_keepF (hb7.block _ (block_lt c3b)) c3b
  have x0c : W7.cell? ⟨w4.heap.size, 0, none⟩ = some (.slice (some ⟨g, 0, none⟩) 2 c) := cell_keepF (hb7.block _ (block_lt x0b)) x0b
  have E7 := mkHidT (E6.out.grown (Ents.below_grown hb7))
  have Z7 : Hid (W7.heap[W6.heap.size]? = some (.cells #[.string ⟨#[109]⟩, .string ⟨#[109, 105, 110, 101]⟩, .string ⟨#[107]⟩, .string ⟨#[49, 32, 50]⟩] 33)) := mkHidT (by rw [← hW7]; exact heap_alloc_new _ _)
  have hlw := lwAttrs_same W7 ao _ 2 ac 2 [(⟨#[109]⟩, ⟨#[109, 105, 110, 101]⟩), (⟨#[107]⟩, ⟨#[49, 32, 50]⟩)] rfl (by decide) E7.out (two_ents Z7.out)
  clear hb7 Z6 E6
  clear hb6
  clear hR hev hln hat hb4 hrd hat0 hat1 hE hcd hb5 Z5 hE' c3 hgl
  go_wp2_with fail
  refine hlw.mono ?_
  rintro e w8 ⟨rfl, hg8⟩
  go_wp2
  go_ret
  exact ⟨rfl, B7.out.grown hg8 B7.out.size (fun k hk => by cases hk)⟩
theorem cat13 : (⟨#[60, 33, 68, 79, 67, 84, 89, 80, 69, 32, 114, 32, 91, 60, 33, 65, 84, 84, 76, 73, 83, 84, 32, 114, 32, 107, 32, 78, 77, 84, 79, 75, 69, 78, 83, 32, 39]⟩ ++ ⟨#[32]⟩ ++ ⟨#[39, 32, 109, 32, 67, 68, 65, 84, 65, 32, 39]⟩ ++ ⟨#[32]⟩ ++ ⟨#[39, 32, 110, 32, 73, 68, 32, 35, 73, 77, 80, 76, 73, 69, 68, 62, 60, 33, 65, 84, 84, 76, 73, 83, 84, 32, 114, 32, 107, 32, 67, 68, 65, 84, 65, 32, 39, 110, 111, 39, 62, 93, 62, 60, 114]⟩ ++ ⟨#[32, 109, 61, 39, 109, 105, 110, 101, 39, 32, 107, 61, 39, 32, 10, 49, 9, 50, 32, 39]⟩ ++ ⟨#[47, 62]⟩ : ByteArray) = docD true 3 := by decide +kernel
set_option maxRecDepth 100000 in
set_option maxHeartbeats 8000000 in
theorem walk13 (a : Option Addr) (n cap : Nat) (w : World) (m : Int) (zs : List Int) (hS : FedL w a n zs) (hctx : Ctx w m) (h0 : lwV zs 0 2 = 1) (h1 : lwV zs 1 4 = 3) :
    Calls Tryz.prog 4 #[.slice a n cap] w fun e w' => e = .returned (.bool true) ∧ Below w.heap.size w w' := by
  have hl : ¬ 1048576 < (n : Int) := by have := hS.2.1; omega
  have HS := mkHidT hS
  have HC := mkHidT hctx
  have hat0 := fun wx (hb : Below w.heap.size w wx) => lwAt_any wx a n cap zs (fed_below HS.out hb) 0 2 (by decide) (by decide) (by decide)
  have hat1 := fun wx (hb : Below w.heap.size w wx) => lwAt_any wx a n cap zs (fed_below HS.out hb) 1 4 (by decide) (by decide) (by decide)
  simp only [h0, h1] at hat0 hat1
  clear hS hctx h0 h1
  go_enter Tryz.func4, Tryz.ntmps4
  go_wp2_with fail
  refine (hat0 _ (Below.refl _ _)).mono ?_
  rintro e w1 ⟨rfl, hb1⟩
  have B1 := mkHidT hb1
  clear hb1
  go_wp2_with fail
  refine (hat1 _ (B1.out.alloc B1.out.size _)).mono ?_
  rintro e w2 ⟨rfl, hb2⟩
  have B2 := mkHidT ((B1.out.alloc B1.out.size _).trans (hb2.mono (B1.out.alloc B1.out.size _).size))
  obtain ⟨k0, k1, k2, k3⟩ := cells4 hb2
  clear hb2
  go_wp2_with fail
  refine (hat1 _ (B2.out.alloc B2.out.size _)).mono ?_
  rintro e w3 ⟨rfl, hb3⟩
  have B3 := mkHidT ((B2.out.alloc B2.out.size _).trans (hb3.mono (B2.out.alloc B2.out.size _).size))
  obtain ⟨q0, q1, q2, q3⟩ := cells4 hb3
  clear hb3
  have hrd := @implRead_any ⟨⟨0⟩⟩ (docD true 3) true w3 m ⟨HC.out.env.below B3.out, HC.out.et.below B3.out⟩
  go_wp2_with fail
  rw [cat13]
  refine hrd.mono ?_
  rintro e w4 ⟨v, rfl, hev, hb4⟩
  obtain ⟨hcd, hln, hat⟩ := okD_parts d_true3
  obtain ⟨R, hR⟩ : ∃ R, readZ (docD true 3) true = R := ⟨_, rfl⟩
  rw [hR] at hev hcd hln hat ⊢
  obtain ⟨g, c, ao, ac, rfl, c3, hE⟩ := ev_first hev hln hat
  have B4 := mkHidT (B3.out.trans (hb4.mono B3.out.size))
  have hE' : Hid (EntsAt w4 ao [(⟨#[109]⟩, ⟨#[109, 105, 110, 101]⟩), (⟨#[107]⟩, ⟨#[49, 32, 50]⟩)]) := mkHidT hE
  have hgl := block_lt c3
  rw [show (attD true 3).length = 2 from rfl] at c3
  have hcb : (R.code != 0) = false := by simp [hcd]
  obtain ⟨W5, hW5⟩ : ∃ W5, w4.alloc (.cells #[.slice (some ⟨g, 0, none⟩) 2 c, .int .i64 R.at1, .int .i64 R.code] 28) = W5 := ⟨_, rfl⟩
  have hb5 : Below w4.heap.size w4 W5 := by rw [← hW5]; exact (Below.refl _ _).alloc (Nat.le_refl _) _
  have B5 := mkHidT (B4.out.trans (hb5.mono B4.out.size))
  have c3' : W5.cell? ⟨g, 3, none⟩ = some (.slice ao 2 ac) := cell_keepF (hb5.block _ hgl) c3
  have E5 : Hid (EntsAt W5 ao [(⟨#[109]⟩, ⟨#[109, 105, 110, 101]⟩), (⟨#[107]⟩, ⟨#[49, 32, 50]⟩)]) := mkHidT (hE'.out.grown (Ents.below_grown hb5))
  have Z5 : W5.heap[w4.heap.size]? = some (.cells #[.slice (some ⟨g, 0, none⟩) 2 c, .int .i64 R.at1, .int .i64 R.code] 28) := by rw [← hW5]; exact heap_alloc_new _ _
  obtain ⟨x0, x1, x2⟩ := out_cells Z5
  have hl5 := (Array.getElem?_eq_some_iff.1 Z5).1
  have hgl5 := block_lt c3'
  obtain ⟨W6, hW6⟩ : ∃ W6, W5.alloc (.cells #[.string ⟨#[107]⟩, .string ⟨#[]⟩, .string ⟨#[109]⟩, .string ⟨#[32]⟩] 33) = W6 := ⟨_, rfl⟩
  have hb6 : Below W5.heap.size W5 W6 := by rw [← hW6]; exact (Below.refl _ _).alloc (Nat.le_refl _) _
  have B6 := mkHidT (B5.out.trans (hb6.mono B5.out.size))
  have c3b : W6.cell? ⟨g, 3, none⟩ = some (.slice ao 2 ac) := cell_keepF (hb6.block _ hgl5) c3'
  have x0b : W6.cell? ⟨w4.heap.size, 0, none⟩ = some (.slice (some ⟨g, 0, none⟩) 2 c) := cell_keepF (hb6.block _ hl5) x0
  have E6 := mkHidT (E5.out.grown (Ents.below_grown hb6))
  have Z6 : Hid (W6.heap[W5.heap.size]? = some (.cells #[.string ⟨#[107]⟩, .string ⟨#[]⟩, .string ⟨#[109]⟩, .string ⟨#[32]⟩] 33)) := mkHidT (by rw [← hW6]; exact heap_alloc_new _ _)
  obtain ⟨W7, hW7⟩ : ∃ W7, W6.alloc (.cells #[.string ⟨#[109]⟩, .string ⟨#[109, 105, 110, 101]⟩, .string ⟨#[107]⟩, .string ⟨#[49, 32, 50]⟩] 33) = W7 := ⟨_, rfl⟩
  have hb7 : Below W6.heap.size W6 W7 := by rw [← hW7]; exact (Below.refl _ _).alloc (Nat.le_refl _) _
  have B7 := mkHidT (B6.out.trans (hb7.mono B6.out.size))
  have c3c : W7.cell? ⟨g, 3, none⟩ = some (.slice ao 2 ac) := cell_keepF (hb7.block _ (block_lt c3b)) c3b
  have x0c : W7.cell? ⟨w4.heap.size, 0, none⟩ = some (.slice (some ⟨g, 0, none⟩) 2 c) := cell_keepF (hb7.block _ (block_lt x0b)) x0b
  have E7 := mkHidT (E6.out.grown (Ents.below_grown hb7))
  have Z7 : Hid (W7.heap[W6.heap.size]? = some (.cells #[.string ⟨#[109]⟩, .string ⟨#[109, 105, 110, 101]⟩, .string ⟨#[107]⟩, .string ⟨#[49, 32, 50]⟩] 33)) := mkHidT (by rw [← hW7]; exact heap_alloc_new _ _)
  have hlw := lwAttrs_same W7 ao _ 2 ac 2 [(⟨#[109]⟩, ⟨#[109, 105, 110, 101]⟩), (⟨#[107]⟩, ⟨#[49, 32, 50]⟩)] rfl (by decide) E7.out (two_ents Z7.out)
  clear hb7 Z6 E6
  clear hb6
  clear hR hev hln hat hb4 hrd hat0 hat1 hE hcd hb5 Z5 hE' c3 hgl
  go_wp2_with fail
  refine hlw.mono ?_
  rintro e w8 ⟨rfl, hg8⟩
  go_wp2
  go_ret
  exact ⟨rfl, B7.out.grown hg8 B7.out.size (fun k hk => by cases hk)⟩
theorem long (a : Option Addr) (n cap : Nat) (w : World) (hn : 1048576 < n) :
    Calls Tryz.prog 4 #[.slice a n cap] w fun e w' => e = .returned (.bool true) ∧ Below w.heap.size w w' := by
  have hl : 1048576 < (n : Int) := by omega
  go_enter Tryz.func4, Tryz.ntmps4
  go_wp2
  go_ret
  exact ⟨rfl, Below.refl _ _⟩
theorem walk (a : Option Addr) (n cap : Nat) (w : World) (m : Int) (hF : n ≤ 1048576 → ∃ zs, FedL w a n zs) (hE : EnvH w m) (hT : EtCell w) :
    Calls Tryz.prog 4 #[.slice a n cap] w fun e w' => e = .returned (.bool true) ∧ Below w.heap.size w w' := by
  by_cases hn : 1048576 < n
  · exact long a n cap w hn
  obtain ⟨zs, hS⟩ := hF (by omega)
  have hc : Ctx w m := ⟨hE, hT⟩
  have a0 := lwV_lt zs 0 2 (by decide)
  have a1 := lwV_lt zs 1 4 (by decide)
  have b0 : lwV zs 0 2 = 0 ∨ lwV zs 0 2 = 1 := by omega
  have b1 : lwV zs 1 4 = 0 ∨ lwV zs 1 4 = 1 ∨ lwV zs 1 4 = 2 ∨ lwV zs 1 4 = 3 := by omega
  rcases b0 with b0 | b0 <;> rcases b1 with b1 | b1 | b1 | b1
  · exact walk00 a n cap w m zs hS hc b0 b1
  · exact walk01 a n cap w m zs hS hc b0 b1
  · exact walk02 a n cap w m zs hS hc b0 b1
  · exact walk03 a n cap w m zs hS hc b0 b1
  · exact walk10 a n cap w m zs hS hc b0 b1
  · exact walk11 a n cap w m zs hS hc b0 b1
  · exact walk12 a n cap w m zs hS hc b0 b1
  · exact walk13 a n cap w m zs hS hc b0 b1
end Go.Proofs.YtmaoefokimjkbaaGreatDoor.fnDefaults
