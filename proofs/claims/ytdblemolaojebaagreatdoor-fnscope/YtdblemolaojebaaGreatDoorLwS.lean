import Derived.Test.YtdblemolaojebaaGreatDoorRd25
import Derived.Test.YtdblemolaojebaaGreatDoorSpT
set_option maxRecDepth 100000
set_option maxHeartbeats 2000000
set_option linter.unusedVariables false
namespace Go.Proofs.YtdblemolaojebaaGreatDoor
open Go.RowKit Lists
def FedL (W0 : World) (a : Option Addr) (n : Nat) (zs : List Int) : Prop := n = zs.length ∧ n ≤ 1048576 ∧ Ints .u8 W0 a zs ∧ ∀ i, i < zs.length → 0 ≤ zs.getD i 0 ∧ zs.getD i 0 ≤ 255
def lwV (zs : List Int) (k m : Nat) : Nat := if zs.length = 0 then 0 else (zs.getD (k % zs.length) 0 % (m : Int)).toNat
theorem lwV_lt (zs : List Int) (k m : Nat) (hm : 1 ≤ m) : lwV zs k m < m := by
 unfold lwV
 split
 · omega
 · have := Int.emod_lt_of_pos (zs.getD (k % zs.length) 0) (show (0 : Int) < m by omega)
   have := Int.emod_nonneg (zs.getD (k % zs.length) 0) (show (m : Int) ≠ 0 by omega)
   omega
theorem bKt (w : World) (a : Option Addr) (n cap : Nat) (zs : List Int) (hS : FedL w a n zs) (k m : Nat) (hk : k ≤ 1000) (hm : 2 ≤ m) (hm2 : m ≤ 1000) :
 Calls Tryz.prog 4 #[.slice a n cap, .int .i64 (k : Int), .int .i64 (m : Int)] w fun e w' => e = .returned (.int .i64 (lwV zs k m : Int)) ∧ Below w.heap.size w w' := by
 obtain ⟨hn, hl, ⟨b, off, ha, hc⟩, hz⟩ := hS
 have hm1 : ¬ (m : Int) ≤ 1 := by omega
 by_cases h0 : n = 0
 · have e : lwV zs k m = 0 := by unfold lwV; rw [if_pos (by omega)]
   rw [e, h0]
   clear ha hc hz e hn h0 hl
   go_enter Tryz.func4, Tryz.ntmps4
   go_wp2
   go_ret
   exact ⟨rfl, Below.refl _ _⟩
 · rw [← hn] at ha hz hc
   obtain rfl := ha (by omega)
   have hkn : k % n < n := Nat.mod_lt _ (by omega)
   have c0 := hc (k % n) hkn
   obtain ⟨y, hy⟩ : ∃ y, zs.getD (k % n) 0 = y := ⟨_, rfl⟩
   have hb := hz (k % n) hkn
   have e : (lwV zs k m : Int) = y % (m : Int) := by
    unfold lwV
    rw [if_neg (by omega), ← hn, hy]
    exact Int.toNat_of_nonneg (Int.emod_nonneg y (by omega))
   rw [hy] at hb c0
   rw [e]
   have hn0 : ¬ (n : Int) = 0 := by omega
   have hmod : ((k : Int).tmod (n : Int)) = ((k % n : Nat) : Int) := by rw [Int.tmod_eq_emod_of_nonneg (by omega)]; rfl
   obtain ⟨q, hq⟩ : ∃ q, k % n = q := ⟨_, rfl⟩
   rw [hq] at hmod hkn c0
   have hym : y.tmod (m : Int) = y % (m : Int) := Int.tmod_eq_emod_of_nonneg hb.1
   have hyl := Int.emod_lt_of_pos y (show (0 : Int) < m by omega)
   have hyn := Int.emod_nonneg y (show (m : Int) ≠ 0 by omega)
   clear ha hc hz hy hn e hq
   go_enter Tryz.func4, Tryz.ntmps4
   go_wp2
   go_ret
   exact ⟨rfl, Below.refl _ _⟩
theorem lwAt_one (w : World) (a : Option Addr) (n cap : Nat) (k : Nat) :
 Calls Tryz.prog 4 #[.slice a n cap, .int .i64 (k : Int), .int .i64 1] w fun e w' => e = .returned (.int .i64 0) ∧ Below w.heap.size w w' := by
 go_enter Tryz.func4, Tryz.ntmps4
 go_wp2
 go_ret
 exact ⟨rfl, Below.refl _ _⟩
theorem conv_oneS (W : World) (c : Int) (n : Nat) (hn : n = W.heap.size) : (convert 22 9 (.slice (some ⟨n, 0, none⟩) 1 1)).run Tryz.prog (W.alloc (.cells #[.int .u8 c] 5)) = .ok (.string (strOfNums [c])) (W.alloc (.cells #[.int .u8 c] 5)) := by
 subst hn
 exact Bytes.bZb (B := 0) (xs := [c]) Tryz.underlying22 Tryz.underlying5 Tryz.underlying9 (World.ownsRow_lit (size := 1) W #[.int .u8 c] 1 (Nat.zero_le _) (by decide) rfl)
theorem dig_same (i : Nat) (hi : i < 7) : strOfNums [48 + (i : Int)] = PlainQ.digS i := by
 have : ∀ j : Nat, j < 7 → strOfNums [48 + (j : Int)] = PlainQ.digS j := by decide
 exact this i hi
end Go.Proofs.YtdblemolaojebaaGreatDoor
namespace Go.Proofs.YtdblemolaojebaaGreatDoor.fnScope
open Go.RowKit Strs2 Lists Plain9 Ents PlainR PlainN PlainQ
theorem bJj {w wx : World} {a : Option Addr} {n : Nat} {zs : List Int} (h : FedL w a n zs) (hb : Below w.heap.size w wx) : FedL wx a n zs := by
 obtain ⟨h1, h2, ⟨b, off, ha, hc⟩, h4⟩ := h
 exact ⟨h1, h2, ⟨b, off, ha, fun i hi => aZ4 (hb.block _ (aQf (hc i hi))) (hc i hi)⟩, h4⟩
theorem cells2 {w wx : World} {a b : Value} {t : TypeId} (hb : Below (w.alloc (.cells #[a, b] t)).heap.size (w.alloc (.cells #[a, b] t)) wx) : wx.cell? ⟨w.heap.size, 0, none⟩ = some a ∧ wx.cell? ⟨w.heap.size, 1, none⟩ = some b := by
 have h : wx.heap[w.heap.size]? = some (.cells #[a, b] t) := (hb.block _ (by simp)).trans (heap_alloc_new _ _)
 simp [World.cell?, h]
theorem long (a : Option Addr) (n cap : Nat) (w : World) (hn : 1048576 < n) :
 Calls Tryz.prog 3 #[.slice a n cap] w fun e w' => e = .returned (.bool true) ∧ Below w.heap.size w w' := by
 have hl : 1048576 < (n : Int) := by omega
 go_enter Tryz.func3, Tryz.ntmps3
 go_wp2
 go_ret
 exact ⟨rfl, Below.refl _ _⟩
theorem tS_step (p : Bool) (k i : Nat) : tS p k (i + 1) = (if i = 0 ∨ i = k then tS p k i ++ ⟨#[60]⟩ ++ preS p ++ ⟨#[97]⟩ ++ ⟨#[32]⟩ ++ declS p ++ ⟨#[61, 39, 117]⟩ ++ digS i ++ ⟨#[39]⟩ else tS p k i ++ ⟨#[60]⟩ ++ preS p ++ ⟨#[97]⟩) ++ ⟨#[62]⟩ := rfl
theorem bKg (p : Bool) : (preS p).size ≤ 10 := by cases p <;> decide
theorem decl_size (p : Bool) : (declS p).size ≤ 10 := by cases p <;> decide
theorem tS_size (p : Bool) (k : Nat) : ∀ i, (tS p k i).size ≤ 100 * i
 | 0 => Nat.le_refl _
 | i + 1 => by
  have h := tS_size p k i
  have h1 := bKg p
  have h2 := decl_size p
  have e : ∀ (a b : ByteArray), (a ++ b).size = a.size + b.size := fun a b => ByteArray.size_append
  have e1 : ∀ x : UInt8, (⟨#[x]⟩ : ByteArray).size = 1 := fun _ => rfl
  have e3 : (⟨#[61, 39, 117]⟩ : ByteArray).size = 3 := rfl
  have e4 : (digS i).size = 1 := rfl
  rw [tS_step, e, e1]
  split
  · rw [e, e, e, e, e, e, e, e, e1, e1, e1, e1, e3, e4]; omega
  · rw [e, e, e, e1, e1]; omega
theorem tail_size (p : Bool) : ∀ i, (tailS p i).size ≤ 100 * i
 | 0 => Nat.le_refl _
 | i + 1 => by
  have h := tail_size p i
  have h1 := bKg p
  have e : ∀ (a b : ByteArray), (a ++ b).size = a.size + b.size := fun a b => ByteArray.size_append
  have e1 : ∀ x : UInt8, (⟨#[x]⟩ : ByteArray).size = 1 := fun _ => rfl
  have e2 : ∀ x y : UInt8, (⟨#[x, y]⟩ : ByteArray).size = 2 := fun _ _ => rfl
  have e3 : (⟨#[122, 47, 62, 60, 47]⟩ : ByteArray).size = 5 := rfl
  unfold tailS
  rw [e, e, e, e, e, e1, e2, e3]; omega
def pS (p : Bool) : ByteArray := if p = true then ⟨#[112]⟩ else ⟨#[]⟩
theorem pS_emp (p : Bool) : (pS p).toList.isEmpty = !p := by cases p <;> decide +kernel
def qS (p : Bool) : Nat := if p = true then 1 else 0
theorem pS_cell {W : World} {b : Nat} (k0 : W.cell? ⟨b, 0, none⟩ = some (.string ⟨#[]⟩)) (k1 : W.cell? ⟨b, 1, none⟩ = some (.string ⟨#[112]⟩)) (p : Bool) : W.cell? ⟨b, qS p, none⟩ = some (.string (pS p)) := by
 cases p
 · exact k0
 · exact k1
theorem qS_lt (p : Bool) : qS p < 2 := by cases p <;> decide
theorem okS_parts {p : Bool} {d k : Nat} (h : okS p d k = true) : (bXy (docS p d k) true).code = 0 ∧ smallS (bXy (docS p d k) true).evs = true ∧ (aVr (bXy (docS p d k) true).evs).code = 0 ∧ (aVr (bXy (docS p d k) true).evs).nodes.length = 4 * d ∧ chkS k (aVr (bXy (docS p d k) true).evs).nodes 0 = true := by
 unfold okS at h
 simp only [Bool.and_eq_true, decide_eq_true_eq] at h
 exact h
theorem small_parts {evs : List Ev} (h : smallS evs = true) : evs.length ≤ 1048576 ∧ (∀ e ∈ evs, e.attrs.length ≤ 1048576) ∧ (∀ e ∈ evs, e.name.size ≤ 1048576) ∧ (∀ e ∈ evs, ∀ a ∈ e.attrs, a.1.size ≤ 1048576) := by
 unfold smallS at h
 simp only [Bool.and_eq_true, decide_eq_true_eq, List.all_eq_true] at h
 obtain ⟨h1, h2⟩ := h
 exact ⟨by omega, fun e he => by have := (h2 e he).1; omega, fun e he => by have := (h2 e he).2.1; omega, fun e he a ha => by have := (h2 e he).2.2 a ha; omega⟩
theorem envS_of {w : World} {m : Int} (h : EnvH w m) : EnvS w m := ⟨h.env.tabs.st, h.env.tabs.pt, h.env.mx⟩
theorem bVw : ∀ (l : List (Ev × Value)) (j : Nat) (hj : j < l.length), (aXx l)[j * 4]? = some (.int .i64 (l[j]'hj).1.kind) ∧ (aXx l)[j * 4 + 1]? = some (.string (l[j]'hj).1.name) ∧ (aXx l)[j * 4 + 2]? = some (.string (l[j]'hj).1.text) ∧ (aXx l)[j * 4 + 3]? = some (l[j]'hj).2
 | [], j, hj => by simp at hj
 | x :: l, 0, _ => by simp [aXx]
 | x :: l, j + 1, hj => by
  have h := bVw l j (by simpa using hj)
  have e : aXx (x :: l) = .int .i64 x.1.kind :: .string x.1.name :: .string x.1.text :: x.2 :: aXx l := rfl
  rw [e, show (j + 1) * 4 = j * 4 + 1 + 1 + 1 + 1 by omega]
  simpa using h
theorem evin_of {W : World} {B : Nat} {v : Value} {evs : List Ev} (h : aVp W B v evs) : ∃ ao ac, v = .slice ao evs.length ac ∧ EvIn W ao evs := by
 obtain ⟨vs, hl, hr, ha⟩ := h
 rcases hr.2 with ⟨h0, hn⟩ | ⟨g, cap, cur, hv, _⟩
 · exact ⟨none, 0, by rw [h0, hn], 0, 0, fun h => by omega, fun j hj => by omega⟩
 · subst hv
   refine ⟨_, _, rfl, g, 0, fun _ => rfl, fun j hj => ?_⟩
   have hzl : j < (evs.zip vs).length := by rw [List.length_zip]; omega
   obtain ⟨e0, e1, e2, e3⟩ := bVw (evs.zip vs) j hzl
   have hm := ha _ (List.getElem_mem hzl)
   rw [List.getElem_zip] at e0 e1 e2 e3 hm
   obtain ⟨ao, ac, hva, hE⟩ := bQf hm
   rw [Nat.zero_add]
   refine ⟨(hr.cellAt (j * 4) (by omega)).trans e0, (hr.cellAt (j * 4 + 1) (by omega)).trans e1, (hr.cellAt (j * 4 + 2) (by omega)).trans e2, ao, ac, ?_, hE⟩
   rw [hr.cellAt (j * 4 + 3) (by omega), e3]
   exact congrArg some hva
theorem bJ4 : ∀ (l : List (Nd × (Value × Value))) (j : Nat) (hj : j < l.length), (aZ0 l)[j * 8]? = some (.int .i64 (l[j]'hj).1.kind) ∧ (aZ0 l)[j * 8 + 1]? = some (.string (l[j]'hj).1.name.pre) ∧ (aZ0 l)[j * 8 + 2]? = some (.string (l[j]'hj).1.name.loc) ∧ (aZ0 l)[j * 8 + 3]? = some (.string (l[j]'hj).1.name.spc) ∧ (aZ0 l)[j * 8 + 4]? = some (.string (l[j]'hj).1.name.val) ∧ (aZ0 l)[j * 8 + 5]? = some (l[j]'hj).2.1 ∧ (aZ0 l)[j * 8 + 6]? = some (l[j]'hj).2.2 ∧ (aZ0 l)[j * 8 + 7]? = some (.string (l[j]'hj).1.text)
 | [], j, hj => by simp at hj
 | x :: l, 0, _ => by simp [aZ0, aQk]
 | x :: l, j + 1, hj => by
  have h := bJ4 l j (by simpa using hj)
  have e : aZ0 (x :: l) = .int .i64 x.1.kind :: .string x.1.name.pre :: .string x.1.name.loc :: .string x.1.name.spc :: .string x.1.name.val :: x.2.1 :: x.2.2 :: .string x.1.text :: aZ0 l := rfl
  rw [e, show (j + 1) * 8 = j * 8 + 1 + 1 + 1 + 1 + 1 + 1 + 1 + 1 by omega]
  simpa using h
theorem nds_cells {W : World} {B g c : Nat} {nds : List Nd} {vs : List (Value × Value)} (h : aK3 W B (.slice (some ⟨g, 0, none⟩) nds.length c) nds vs) {i : Nat} (hi : i < nds.length) (hv : i < vs.length) :
 W.cell? ⟨g, i * 8, none⟩ = some (.int .i64 (nds[i]'hi).kind) ∧ W.cell? ⟨g, i * 8 + 1, none⟩ = some (.string (nds[i]'hi).name.pre) ∧ W.cell? ⟨g, i * 8 + 2, none⟩ = some (.string (nds[i]'hi).name.loc) ∧ W.cell? ⟨g, i * 8 + 3, none⟩ = some (.string (nds[i]'hi).name.spc) ∧ W.cell? ⟨g, i * 8 + 4, none⟩ = some (.string (nds[i]'hi).name.val) ∧ W.cell? ⟨g, i * 8 + 5, none⟩ = some (vs[i]'hv).1 ∧ W.cell? ⟨g, i * 8 + 6, none⟩ = some (vs[i]'hv).2 ∧ W.cell? ⟨g, i * 8 + 7, none⟩ = some (.string (nds[i]'hi).text) := by
 have hzl : i < (nds.zip vs).length := by rw [List.length_zip]; omega
 obtain ⟨e0, e1, e2, e3, e4, e5, e6, e7⟩ := bJ4 (nds.zip vs) i hzl
 rw [List.getElem_zip] at e0 e1 e2 e3 e4 e5 e6 e7
 exact ⟨(h.row.cellAt _ (by omega)).trans e0, (h.row.cellAt _ (by omega)).trans e1, (h.row.cellAt _ (by omega)).trans e2, (h.row.cellAt _ (by omega)).trans e3, (h.row.cellAt _ (by omega)).trans e4, (h.row.cellAt _ (by omega)).trans e5, (h.row.cellAt _ (by omega)).trans e6, (h.row.cellAt _ (by omega)).trans e7⟩
theorem nds_forms {W : World} {B : Nat} {v : Value} {nds : List Nd} {vs : List (Value × Value)} (h : aK3 W B v nds vs) {i : Nat} (hi : i < nds.length) (hv : i < vs.length) : ∃ da dc dn aa an ac, (vs[i]'hv).1 = .slice da dn dc ∧ (vs[i]'hv).2 = .slice aa an ac := by
 have hzl : i < (nds.zip vs).length := by rw [List.length_zip]; omega
 have hm := h.rows _ (List.getElem_mem hzl)
 rw [List.getElem_zip] at hm
 obtain ⟨da, dc, e1, _⟩ := aJ6 hm.1
 obtain ⟨aa, ac, e2, _⟩ := aJ6 hm.2
 exact ⟨da, dc, _, aa, _, ac, e1, e2⟩
theorem chk_parts {k dp : Nat} {n : Nd} {l : List Nd} (h : chkS k (n :: l) dp = true) :
 (n.kind = 1 ∧ n.name.loc = ⟨#[97]⟩ ∧ n.name.spc = wantS k (decide (k ≤ dp)) ∧ chkS k l (dp + 1) = true) ∨ (n.kind = 1 ∧ 1 ≤ dp ∧ n.name.loc = ⟨#[122]⟩ ∧ n.name.spc = wantS k (decide (k + 1 ≤ dp)) ∧ chkS k l (dp + 1) = true) ∨
 (n.kind = 2 ∧ 1 ≤ dp ∧ n.name.loc = ⟨#[97]⟩ ∧ n.name.spc = wantS k (decide (k + 1 ≤ dp)) ∧ chkS k l (dp - 1) = true) ∨ (n.kind = 2 ∧ 2 ≤ dp ∧ n.name.loc = ⟨#[122]⟩ ∧ n.name.spc = wantS k (decide (k + 2 ≤ dp)) ∧ chkS k l (dp - 1) = true) := by
 unfold chkS at h
 split at h
 · rename_i h1
   simp only [Bool.and_eq_true, Bool.or_eq_true, decide_eq_true_eq] at h
   obtain ⟨h2 | h2, h3⟩ := h
   · exact Or.inl ⟨h1, h2.1, h2.2, h3⟩
   · exact Or.inr (Or.inl ⟨h1, h2.1.1, h2.1.2, h2.2, h3⟩)
 · split at h
   · rename_i h1
     simp only [Bool.and_eq_true, Bool.or_eq_true, decide_eq_true_eq] at h
     obtain ⟨⟨h0, h2 | h2⟩, h3⟩ := h
     · exact Or.inr (Or.inr (Or.inl ⟨h1, h0, h2.1, h2.2, h3⟩))
     · exact Or.inr (Or.inr (Or.inr ⟨h1, h2.1.1, h2.1.2, h2.2, h3⟩))
   · cases h
theorem walk1 (a : Option Addr) (n cap : Nat) (w : World) (m : Int) (zs : List Int) (hS : FedL w a n zs) (hctx : Ctx w m) (p : Bool) (h0 : lwV zs 0 2 = qS p) (d k : Nat) (h1 : lwV zs 1 6 = d) (h2 : lwV zs 2 (1 + d) = k) (hd : d < 6) (hk : k < 1 + d) :
 Calls Tryz.prog 3 #[.slice a n cap] w fun e w' => e = .returned (.bool true) ∧ Below w.heap.size w w' := by
 have hl : ¬ 1048576 < (n : Int) := by have := hS.2.1; omega
 have HS := aQ0 hS
 have HC := aQ0 hctx
 have hat0 := fun wx (hb : Below w.heap.size w wx) => bKt wx a n cap zs (bJj HS.out hb) 0 2 (by decide) (by decide) (by decide)
 have hat1 := fun wx (hb : Below w.heap.size w wx) => bKt wx a n cap zs (bJj HS.out hb) 1 6 (by decide) (by decide) (by decide)
 have hat2 : ∀ wx, Below w.heap.size w wx → Calls Tryz.prog 4 #[.slice a n cap, .int .i64 2, .int .i64 (1 + (d : Int))] wx fun e w' => e = .returned (.int .i64 (k : Int)) ∧ Below wx.heap.size wx w' := fun wx hb => by
  by_cases hd0 : d = 0
  · subst hd0
    obtain rfl : k = 0 := by omega
    exact lwAt_one wx a n cap 2
  · have := bKt wx a n cap zs (bJj HS.out hb) 2 (1 + d) (by decide) (by omega) (by omega)
    rw [h2] at this
    have e : ((1 + d : Nat) : Int) = 1 + (d : Int) := by omega
    rw [e] at this
    exact this
 simp only [h0, h1] at hat0 hat1
 have hq2 := qS_lt p
 obtain ⟨q, hq⟩ : ∃ q, qS p = q := ⟨_, rfl⟩
 have HQ := aQ0 hq
 rw [hq] at hq2
 simp only [hq] at hat0
 have hq3 : (q : Int) < 2 := by omega
 clear hS hctx h0 h1 h2 hq
 go_enter Tryz.func3, Tryz.ntmps3
 go_wp2_with fail
 refine (hat0 _ (bAl)).mono ?_
 rintro e w1 ⟨rfl, hb1⟩
 have B1 := aQ0 ((bAl).trans (hb1.mono (by simp)))
 obtain ⟨k0, k1⟩ := cells2 hb1
 have kq := pS_cell k0 k1 p
 rw [HQ.out] at kq
 clear hb1 k0 k1
 go_wp2_with fail
 refine (hat1 _ B1.out).mono ?_
 rintro e w2 ⟨rfl, hb2⟩
 have B2 := aQ0 (B1.out.trans (hb2.mono B1.out.size))
 have hwd : IntKind.i64.wrap (1 + (d : Int)) = 1 + (d : Int) := aZ2 (by omega) (by omega)
 clear hb2 kq
 go_wp2_with fail
 refine (hat2 _ B2.out).mono ?_
 rintro e w3 ⟨rfl, hb3⟩
 have B3 := aQ0 (B2.out.trans (hb3.mono B2.out.size))
 clear hb3 hat0 hat1 hat2
 go_upto_if 32 with fail
 go_cut [6, 7] (fun dv pv wc => dv = .string (declS p) ∧ pv = .string (preS p) ∧ wc = w3)
 case first =>
  rw [pS_emp]
  cases p
  all_goals
   go_wp2_with fail
   go_meet
   exact ⟨rfl, rfl, rfl⟩
 case rest =>
  obtain ⟨rfl, rfl, rfl⟩ := hcut
  go_wp2_with fail
  go_loopw [8, 9, 10] (fun tv lv iv wr => ∃ i : Nat, i ≤ 1 + d ∧ iv = .int .i64 i ∧ tv = .string (tS p k i) ∧ lv = .string (tailS p i) ∧ Below w.heap.size w wr) (fun _ _ iv _ => 1 + d - (intOf iv).toNat)
  case atStart => exact ⟨0, Nat.zero_le _, rfl, rfl, rfl, B3.out⟩
  case round =>
   obtain ⟨i, hi, rfl, rfl, rfl, hb⟩ := hrel
   have HB := aQ0 hb
   have hs0 := tS_size p k i
   have hs1 := tail_size p i
   have hs2 := bKg p
   have hs3 := decl_size p
   have hst : (tS p k i).size ≤ 600 := by omega
   have hsl : (tailS p i).size ≤ 600 := by omega
   clear hb B1 B2 B3 hs0 hs1
   by_cases hlt : i < 1 + d
   · by_cases hik : i = 0 ∨ i = k
     · have hlt' : (i : Int) < 1 + (d : Int) := by omega
       have HST := aQ0 ((tS_step p k i).trans (by rw [if_pos hik]))
       have hor : ((i : Int) == 0) = true ∨ ((i : Int) == 0) = false ∧ ((i : Int) == (k : Int)) = true := by
        rcases hik with h | h
        · exact Or.inl (by rw [h]; rfl)
        · by_cases h0 : i = 0
          · exact Or.inl (by rw [h0]; rfl)
          · exact Or.inr ⟨by rw [beq_eq_false_iff_ne]; omega, by rw [h]; simp⟩
       have h48 : IntKind.i64.wrap (48 + (i : Int)) = 48 + (i : Int) := aZ2 (by omega) (by omega)
       have h8 : IntKind.u8.wrap (48 + (i : Int)) = 48 + (i : Int) := by
        have : ∀ j : Nat, j < 7 → IntKind.u8.wrap (48 + (j : Int)) = 48 + (j : Int) := by decide
        exact this i (by omega)
       have hcv := fun W => conv_oneS W (48 + (i : Int)) _ rfl
       simp only [dig_same i (by omega)] at hcv
       have hsd : (digS i).size = 1 := rfl
       clear hik
       rcases hor with hi0 | ⟨hi0, hi1⟩
       all_goals
        go_wp2
        go_roundw
        case rel => exact ⟨i + 1, by omega, by go_num, by rw [HST.out], rfl, HB.out.alloc HB.out.size _⟩
        case measure => simp [intOf]; omega
     · have hi0 : ((i : Int) == 0) = false := by rw [beq_eq_false_iff_ne]; omega
       have hi1 : ((i : Int) == (k : Int)) = false := by rw [beq_eq_false_iff_ne]; omega
       have hlt' : (i : Int) < 1 + (d : Int) := by omega
       have HST := aQ0 ((tS_step p k i).trans (by rw [if_neg hik]))
       have HIK := aQ0 hik
       clear hik
       go_wp2
       go_roundw
       case rel => exact ⟨i + 1, by omega, by go_num, by rw [HST.out], rfl, HB.out⟩
       case measure => simp [intOf]; omega
   · obtain rfl : i = 1 + d := by omega
     have hge : ¬ (((1 + d : Nat) : Int) < 1 + (d : Int)) := by omega
     obtain ⟨hcd, hsml, hyc, hyl, hch⟩ := okS_parts (scope_ok p (d := 1 + d) (k := k) (by omega) hk)
     have hrd := @implRead_any ⟨⟨0⟩⟩ (docS p (1 + d) k) true wr m ⟨HC.out.env.below HB.out, HC.out.et.below HB.out⟩
     obtain ⟨R, hR⟩ : ∃ R, bXy (docS p (1 + d) k) true = R := ⟨_, rfl⟩
     rw [hR] at hrd hcd hsml hyc hyl hch
     rw [show docS p (1 + d) k = tS p k (1 + d) ++ tailS p (1 + d) from rfl] at hrd
     obtain ⟨Y, hY⟩ : ∃ Y, aVr R.evs = Y := ⟨_, rfl⟩
     rw [hY] at hyc hyl hch
     have HY := aQ0 hY
     have HSM := aQ0 hsml
     have HCH := aQ0 hch
     have HYL := aQ0 hyl
     have hcb : (R.code != 0) = false := by simp [hcd]
     have hyb : (Y.code != 0) = false := by simp [hyc]
     have hdc : ((1 + d : Nat) : Int) = 1 + (d : Int) := by omega
     clear hR hcd hsml hyc hyl hch hY
     go_wp2_with fail
     refine hrd.mono ?_
     rintro e w4 ⟨v, rfl, hev, hb4⟩
     have B4 := aQ0 (HB.out.trans (hb4.mono HB.out.size))
     obtain ⟨ao, ac, rfl, hin⟩ := evin_of hev
     obtain ⟨W5, hW5⟩ : ∃ W5, w4.alloc (.cells #[.slice ao R.evs.length ac, .int .i64 R.at1, .int .i64 R.code] 27) = W5 := ⟨_, rfl⟩
     have hb5 : Below w4.heap.size w4 W5 := by rw [← hW5]; exact bAl
     have B5 := aQ0 (B4.out.trans (hb5.mono B4.out.size))
     have Z5 : W5.heap[w4.heap.size]? = some (.cells #[.slice ao R.evs.length ac, .int .i64 R.at1, .int .i64 R.code] 27) := by rw [← hW5]; exact heap_alloc_new _ _
     have HZ5 := aQ0 Z5
     obtain ⟨x0, x1, x2, _, _, _⟩ := aXn Z5
     obtain ⟨s1, s2, s3, s4⟩ := small_parts HSM.out
     have hsp := bV5 W5 ao _ ac R.evs m rfl (hin.below hb5) (envS_of (HC.out.env.below B5.out)) s2 s3 s4 s1
     rw [HY.out] at hsp
     clear hrd hev hb4 hin hb5 Z5 s1 s2 s3 s4
     go_wp2_with fail
     refine hsp.mono ?_
     rintro e w6 ⟨v', vs, rfl, hN6, hb6⟩
     have B6 := aQ0 (B5.out.trans (hb6.mono B5.out.size))
     obtain ⟨na, nc, rfl, hna⟩ := aJ6 hN6.row
     obtain ⟨W7, hW7⟩ : ∃ W7, w6.alloc (.cells #[.slice na Y.nodes.length nc, .int .i64 Y.at1, .int .i64 Y.code] 31) = W7 := ⟨_, rfl⟩
     have hb7 : Below w6.heap.size w6 W7 := by rw [← hW7]; exact bAl
     have B7 := aQ0 (B6.out.trans (hb7.mono B6.out.size))
     have N7 := aQ0 (hN6.below hb7)
     have Z7 : Hid (W7.heap[w6.heap.size]? = some (.cells #[.slice na Y.nodes.length nc, .int .i64 Y.at1, .int .i64 Y.code] 31)) := aQ0 (by rw [← hW7]; exact heap_alloc_new _ _)
     have X7 : W7.heap[w4.heap.size]? = some (.cells #[.slice ao R.evs.length ac, .int .i64 R.at1, .int .i64 R.code] 27) := (hb7.block _ (Nat.lt_of_lt_of_le (gLt HZ5.out) hb6.size)).trans ((hb6.block _ (gLt HZ5.out)).trans HZ5.out)
     clear x0 x1 x2
     obtain ⟨x0, x1, x2, _, _, _⟩ := aXn X7
     obtain ⟨y0, y1, y2, _, _, _⟩ := aXn Z7.out
     have h4d : IntKind.i64.wrap (4 * (1 + (d : Int))) = 4 * (1 + (d : Int)) := aZ2 (by omega) (by omega)
     have hlen : (((Y.nodes.length : Int)) != 4 * (1 + (d : Int))) = false := by rw [HYL.out]; simp
     have hnl : Y.nodes.length ≤ 24 := by rw [HYL.out]; omega
     clear hsp hN6 hb6 hb7 X7
     go_wp2_with fail
     clear hst hsl hs2 hs3 x0 x1 x2 y0 y1 y2 hcb hyb hlen h4d hge hlt hi B4 B5 B6 HB HZ5 hwd hdc
     go_loopw [13, 14] (fun dv iv wr => ∃ (i dp : Nat), i ≤ Y.nodes.length ∧ iv = .int .i64 i ∧ dv = .int .i64 dp ∧ dp ≤ i ∧ chkS k (Y.nodes.drop i) dp = true ∧ Below W7.heap.size W7 wr) (fun _ iv _ => Y.nodes.length - (intOf iv).toNat)
     case atStart => exact ⟨0, 0, Nat.zero_le _, rfl, rfl, Nat.le_refl _, HCH.out, Below.refl _ _⟩
     case round =>
      obtain ⟨i, dp, hi, rfl, rfl, hdi, hck, hbr⟩ := hrel
      have HBR := aQ0 hbr
      obtain ⟨y0, _, _, _, _, _⟩ := aXn ((hbr.block _ (gLt Z7.out)).trans Z7.out)
      by_cases hlt : i < Y.nodes.length
      · obtain ⟨g, rfl⟩ := hna (by omega)
        have hN := N7.out.below hbr
        have hvl : i < vs.length := by rw [hN.len]; exact hlt
        obtain ⟨c0, c1, c2, c3, c4, c5, c6, c7⟩ := nds_cells hN hlt hvl
        rw [List.drop_eq_getElem_cons hlt] at hck
        obtain ⟨E, hE⟩ : ∃ E, Y.nodes[i]'hlt = E := ⟨_, rfl⟩
        obtain ⟨dv', hdv⟩ : ∃ x, (vs[i]'hvl).1 = x := ⟨_, rfl⟩
        obtain ⟨av', hav⟩ : ∃ x, (vs[i]'hvl).2 = x := ⟨_, rfl⟩
        rw [hE] at c0 c1 c2 c3 c4 c7 hck
        rw [hdv] at c5
        rw [hav] at c6
        obtain ⟨da, dc, dn, aa, an, ac', hd1, hd2⟩ := nds_forms hN hlt hvl
        rw [hdv] at hd1
        rw [hav] at hd2
        subst hd1 hd2
        have hck' := chk_parts hck
        obtain ⟨kd, hkd⟩ : ∃ x, E.kind = x := ⟨_, rfl⟩
        obtain ⟨L, hL⟩ : ∃ x, E.name.loc = x := ⟨_, rfl⟩
        obtain ⟨S, hS'⟩ : ∃ x, E.name.spc = x := ⟨_, rfl⟩
        rw [hkd] at c0
        rw [hL] at c2
        rw [hS'] at c3
        rw [hkd, hL, hS'] at hck'
        have hla : (⟨#[97]⟩ : ByteArray).toList = [97] := by decide +kernel
        have hlz : (⟨#[122]⟩ : ByteArray).toList = [122] := by decide +kernel
        have hlu : (⟨#[117, 48]⟩ : ByteArray).toList = [117, 48] := by decide +kernel
        have hcv := fun W => conv_oneS W (48 + (k : Int)) _ rfl
        simp only [dig_same k (by omega)] at hcv
        have hsd : (digS k).size = 1 := rfl
        have h48 : IntKind.i64.wrap (48 + (k : Int)) = 48 + (k : Int) := aZ2 (by omega) (by omega)
        have h8 : IntKind.u8.wrap (48 + (k : Int)) = 48 + (k : Int) := by
         have : ∀ j : Nat, j < 7 → IntKind.u8.wrap (48 + (j : Int)) = 48 + (j : Int) := by decide
         exact this k (by omega)
        clear hkd hL hS' hE hdv hav hN hck hbr
        obtain ⟨W8, hW8⟩ : ∃ W8, wr.alloc (.cells #[.int .i64 kd, .string E.name.pre, .string L, .string S, .string E.name.val, .slice da dn dc, .slice aa an ac', .string E.text] 38) = W8 := ⟨_, rfl⟩
        have hb8 : Below wr.heap.size wr W8 := by rw [← hW8]; exact bAl
        have B8 := aQ0 (HBR.out.trans (hb8.mono HBR.out.size))
        have hz8 : W8.heap[wr.heap.size]? = some (.cells (aQk ⟨kd, ⟨E.name.pre, L, S, E.name.val⟩, [], [], E.text⟩ (.slice da dn dc) (.slice aa an ac')) 38) := by rw [← hW8]; exact heap_alloc_new _ _
        obtain ⟨z0, z1, z2, z3, z4, z5, z6, z7, z8⟩ := aXc hz8
        simp only at z0 z1 z2 z3 z4 z7
        obtain ⟨W9, hW9⟩ : ∃ W9, W8.alloc (.cells #[.int .u8 (48 + (k : Int))] 5) = W9 := ⟨_, rfl⟩
        have hb9 : Below W8.heap.size W8 W9 := by rw [← hW9]; exact bAl
        have B9 := aQ0 (B8.out.trans (hb9.mono B8.out.size))
        obtain ⟨v0, v1, v2, v3, v4, v5, v6, v7, v8⟩ := aXc ((hb9.block _ (gLt hz8)).trans hz8)
        simp only at v0 v2 v3
        have hcv9 := hcv W8
        rw [hW9] at hcv9
        clear hb8 hz8 z8 z1 z4 z5 z6 z7 hb9 v8 v1 v4 v5 v6 v7 hcv
        rcases hck' with ⟨rfl, hl1, hs1, hn1⟩ | ⟨rfl, hd1, hl1, hs1, hn1⟩ | ⟨rfl, hd1, hl1, hs1, hn1⟩ | ⟨rfl, hd1, hl1, hs1, hn1⟩
        · have HN1 := aQ0 hn1
          have ha1 : (L.toList == [97]) = true := by rw [hl1, hla]; rfl
          have hz1 : (L.toList == [122]) = false := by rw [hl1, hla]; rfl
          clear hl1 hn1
          by_cases hkd : k ≤ dp
          · have hs2 : S = ⟨#[117]⟩ ++ digS k := by rw [hs1, decide_eq_true hkd]; rfl
            clear hs1
            subst hs2
            have hk1 : (k : Int) ≤ (dp : Int) := by omega
            go_wp2
            go_roundw
            case rel => exact ⟨i + 1, dp + 1, by omega, by go_num, by go_num, by omega, HN1.out, B9.out⟩
            case measure => simp [intOf]; omega
          · have hs2 : S = ⟨#[117, 48]⟩ := by rw [hs1, decide_eq_false hkd]; rfl
            clear hs1
            subst hs2
            have hk1 : ¬ (k : Int) ≤ (dp : Int) := by omega
            go_wp2
            go_roundw
            case rel => exact ⟨i + 1, dp + 1, by omega, by go_num, by go_num, by omega, HN1.out, B8.out⟩
            case measure => simp [intOf]; omega
        · have HN1 := aQ0 hn1
          have ha1 : (L.toList == [97]) = false := by rw [hl1, hlz]; rfl
          have hz1 : (L.toList == [122]) = true := by rw [hl1, hlz]; rfl
          clear hl1 hn1
          by_cases hkd : k + 1 ≤ dp
          · have hs2 : S = ⟨#[117]⟩ ++ digS k := by rw [hs1, decide_eq_true hkd]; rfl
            clear hs1
            subst hs2
            have hk1 : (k : Int) ≤ (dp : Int) + 1 - 2 := by omega
            go_wp2
            go_roundw
            case rel => exact ⟨i + 1, dp + 1, by omega, by go_num, by go_num, by omega, HN1.out, B9.out⟩
            case measure => simp [intOf]; omega
          · have hs2 : S = ⟨#[117, 48]⟩ := by rw [hs1, decide_eq_false hkd]; rfl
            clear hs1
            subst hs2
            have hk1 : ¬ (k : Int) ≤ (dp : Int) + 1 - 2 := by omega
            go_wp2
            go_roundw
            case rel => exact ⟨i + 1, dp + 1, by omega, by go_num, by go_num, by omega, HN1.out, B8.out⟩
            case measure => simp [intOf]; omega
        · have HN1 := aQ0 hn1
          have ha1 : (L.toList == [97]) = true := by rw [hl1, hla]; rfl
          have hz1 : (L.toList == [122]) = false := by rw [hl1, hla]; rfl
          clear hl1 hn1
          by_cases hkd : k + 1 ≤ dp
          · have hs2 : S = ⟨#[117]⟩ ++ digS k := by rw [hs1, decide_eq_true hkd]; rfl
            clear hs1
            subst hs2
            have hk1 : (k : Int) ≤ (dp : Int) - 1 := by omega
            go_wp2
            go_roundw
            case rel => exact ⟨i + 1, dp - 1, by omega, by go_num, by congr 1; omega, by omega, HN1.out, B9.out⟩
            case measure => simp [intOf]; omega
          · have hs2 : S = ⟨#[117, 48]⟩ := by rw [hs1, decide_eq_false hkd]; rfl
            clear hs1
            subst hs2
            have hk1 : ¬ (k : Int) ≤ (dp : Int) - 1 := by omega
            go_wp2
            go_roundw
            case rel => exact ⟨i + 1, dp - 1, by omega, by go_num, by congr 1; omega, by omega, HN1.out, B8.out⟩
            case measure => simp [intOf]; omega
        · have HN1 := aQ0 hn1
          have ha1 : (L.toList == [97]) = false := by rw [hl1, hlz]; rfl
          have hz1 : (L.toList == [122]) = true := by rw [hl1, hlz]; rfl
          clear hl1 hn1
          by_cases hkd : k + 2 ≤ dp
          · have hs2 : S = ⟨#[117]⟩ ++ digS k := by rw [hs1, decide_eq_true hkd]; rfl
            clear hs1
            subst hs2
            have hk1 : (k : Int) ≤ (dp : Int) - 2 := by omega
            go_wp2
            go_roundw
            case rel => exact ⟨i + 1, dp - 1, by omega, by go_num, by congr 1; omega, by omega, HN1.out, B9.out⟩
            case measure => simp [intOf]; omega
          · have hs2 : S = ⟨#[117, 48]⟩ := by rw [hs1, decide_eq_false hkd]; rfl
            clear hs1
            subst hs2
            have hk1 : ¬ (k : Int) ≤ (dp : Int) - 2 := by omega
            go_wp2
            go_roundw
            case rel => exact ⟨i + 1, dp - 1, by omega, by go_num, by congr 1; omega, by omega, HN1.out, B8.out⟩
            case measure => simp [intOf]; omega
      · obtain rfl : i = Y.nodes.length := by omega
        rw [List.drop_of_length_le (Nat.le_refl _)] at hck
        obtain rfl : dp = 0 := by simpa [chkS] using hck
        clear hck hbr
        go_wp2
        go_ret
        exact ⟨rfl, B7.out.trans (HBR.out.mono B7.out.size)⟩
end Go.Proofs.YtdblemolaojebaaGreatDoor.fnScope
