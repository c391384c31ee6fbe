import Derived.Test.YtmaoefokimjkbaaGreatDoorRd25
import Derived.WalkSmall
import Derived.Deep.QuietTactic
import Derived.BigQuiet
import Derived.Test.YtmaoefokimjkbaaGreatDoorPlX
set_option linter.unusedVariables false
namespace Go.Proofs.YtmaoefokimjkbaaGreatDoor
open Go.RowKit Lists Ents
def FedL (W0 : World) (a : Option Addr) (n : Nat) (zs : List Int) : Prop := n = zs.length ∧ n ≤ 1048576 ∧ Ints .u8 W0 a zs ∧ ∀ i, i < zs.length → 0 ≤ zs.getD i 0 ∧ zs.getD i 0 ≤ 255
def lwV (zs : List Int) (k m : Nat) : Nat := if zs.length = 0 then 0 else (zs.getD (k % zs.length) 0 % (m : Int)).toNat
theorem lwV_lt (zs : List Int) (k m : Nat) (hm : 1 ≤ m) : lwV zs k m < m := by
 unfold lwV
 split
 · omega
 · have := Int.emod_lt_of_pos (zs.getD (k % zs.length) 0) (show (0 : Int) < m by omega)
   have := Int.emod_nonneg (zs.getD (k % zs.length) 0) (show (m : Int) ≠ 0 by omega)
   omega
theorem gnR4 (w : World) (r : Option Nat) : w.grownBy w r := ⟨rfl, rfl, rfl, Nat.le_refl _, fun _ _ _ => rfl⟩
theorem gnT4 {a b c : World} (h : a.grownBy b none) (k : b.grownBy c none) : a.grownBy c none :=
 ⟨k.os.trans h.os, k.tape.trans h.tape, k.output.trans h.output, Nat.le_trans h.size k.size, fun i hi hr => (k.block i (Nat.lt_of_lt_of_le hi h.size) hr).trans (h.block i hi hr)⟩
theorem acells_at4 : ∀ (l : List (ByteArray × ByteArray)) (j : Nat) (hj : j < l.length), (acells l)[j * 2]? = some (.string (l[j]'hj).1) ∧ (acells l)[j * 2 + 1]? = some (.string (l[j]'hj).2)
 | [], j, hj => by simp at hj
 | a :: l, 0, _ => by simp [acells]
 | a :: l, j + 1, hj => by
  have h := acells_at4 l j (by simpa using hj)
  have e : acells (a :: l) = .string a.1 :: .string a.2 :: acells l := rfl
  rw [e, show (j + 1) * 2 = j * 2 + 1 + 1 by omega]
  simpa using h
theorem row_ents4 {W : World} {B : Nat} {t : TypeId} {v : Value} {l : List (ByteArray × ByteArray)} (h : W.ownsRow B t 2 v l.length (acells l)) : ∃ ao ac, v = .slice ao l.length ac ∧ EntsAt W ao l := by
 rcases h.2 with ⟨h0, hn⟩ | ⟨g, cap, cur, hv, _⟩
 · exact ⟨none, 0, by rw [h0, hn], 0, 0, fun h => by omega, fun i hi => by omega⟩
 · subst hv
   refine ⟨_, _, rfl, g, 0, fun _ => rfl, fun j hj => ?_⟩
   have h1 := h.cellAt (j * 2) (by omega)
   have h2 := h.cellAt (j * 2 + 1) (by omega)
   rw [Nat.zero_add]
   exact ⟨by rw [h1]; exact (acells_at4 l j hj).1, by rw [h2]; exact (acells_at4 l j hj).2⟩
set_option maxRecDepth 100000 in
set_option maxHeartbeats 2000000 in
theorem lwAttrs_same (w : World) (a a' : Option Addr) (n c c' : Nat) (l : List (ByteArray × ByteArray)) (hn : n = l.length) (hl : l.length ≤ 1048576) (h : EntsAt w a l) (h' : EntsAt w a' l) :
 Calls Tryz.prog 10 #[.slice a n c, .slice a' n c'] w fun e w' => e = .returned (.bool true) ∧ w.grownBy w' none := by
 subst hn
 have HA := mkHidT h
 have HA' := mkHidT h'
 clear h h'
 go_enter Tryz.func10, Tryz.ntmps10
 go_wp2
 go_loopw [5] (fun i wr => ∃ (k : Nat), k ≤ l.length ∧ i = .int .i64 k ∧ w.grownBy wr none) (fun i _ => l.length - (intOf i).toNat)
 case atStart => exact ⟨0, Nat.zero_le _, rfl, gnR4 _ _⟩
 case round =>
  obtain ⟨k, hk, rfl, hgr⟩ := hrel
  have HG := mkHidT hgr
  clear hgr
  by_cases hlt : k < l.length
  · obtain ⟨b, off, ha, hc⟩ := HA.out.grown HG.out
    obtain rfl := ha (by omega)
    obtain ⟨c1, c2⟩ := hc k hlt
    obtain ⟨b', off', ha', hc'⟩ := HA'.out.grown HG.out
    obtain rfl := ha' (by omega)
    obtain ⟨d1, d2⟩ := hc' k hlt
    obtain ⟨E, hE⟩ : ∃ E, l[k]'hlt = E := ⟨_, rfl⟩
    rw [hE] at c1 c2 d1 d2
    clear hc ha hE hc' ha' HA HA'
    go_wp2_with fail
    go_quiet (fail)
    go_wp2
    go_roundw
    case rel => exact ⟨k + 1, by omega, by go_num, gnT4 HG.out (im_gdrew _ _ _)⟩
    case measure => simp [intOf]; omega
  · go_wp2
    go_ret
    exact ⟨rfl, HG.out⟩
set_option maxRecDepth 100000 in
set_option maxHeartbeats 1000000 in
theorem lwAt_any (w : World) (a : Option Addr) (n cap : Nat) (zs : List Int) (hS : FedL w a n zs) (k m : Nat) (hk : k ≤ 1000) (hm : 2 ≤ m) (hm2 : m ≤ 1000) :
 Calls Tryz.prog 6 #[.slice a n cap, .int .i64 (k : Int), .int .i64 (m : Int)] w fun e w' => e = .returned (.int .i64 (lwV zs k m : Int)) ∧ Below w.heap.size w w' := by
 obtain ⟨hn, hl, ⟨b, off, ha, hc⟩, hz⟩ := hS
 have hm1 : ¬ (m : Int) ≤ 1 := by omega
 by_cases h0 : n = 0
 · have e : lwV zs k m = 0 := by unfold lwV; rw [if_pos (by omega)]
   rw [e, h0]
   clear ha hc hz e hn h0 hl
   go_enter Tryz.func6, Tryz.ntmps6
   go_wp2
   go_ret
   exact ⟨rfl, Below.refl _ _⟩
 · rw [← hn] at ha hz hc
   obtain rfl := ha (by omega)
   have hkn : k % n < n := Nat.mod_lt _ (by omega)
   have c0 := hc (k % n) hkn
   obtain ⟨y, hy⟩ : ∃ y, zs.getD (k % n) 0 = y := ⟨_, rfl⟩
   have hb := hz (k % n) hkn
   have e : (lwV zs k m : Int) = y % (m : Int) := by
    unfold lwV
    rw [if_neg (by omega), ← hn, hy]
    exact Int.toNat_of_nonneg (Int.emod_nonneg y (by omega))
   rw [hy] at hb c0
   rw [e]
   have hn0 : ¬ (n : Int) = 0 := by omega
   have hmod : ((k : Int).tmod (n : Int)) = ((k % n : Nat) : Int) := by rw [Int.tmod_eq_emod_of_nonneg (by omega)]; rfl
   obtain ⟨q, hq⟩ : ∃ q, k % n = q := ⟨_, rfl⟩
   rw [hq] at hmod hkn c0
   have hym : y.tmod (m : Int) = y % (m : Int) := Int.tmod_eq_emod_of_nonneg hb.1
   have hyl := Int.emod_lt_of_pos y (show (0 : Int) < m by omega)
   have hyn := Int.emod_nonneg y (show (m : Int) ≠ 0 by omega)
   clear ha hc hz hy hn e hq
   go_enter Tryz.func6, Tryz.ntmps6
   go_wp2
   go_ret
   exact ⟨rfl, Below.refl _ _⟩
open Go.RowKit Lists Ents PlainR PlainY
def EvAt (W : World) (a : Option Addr) (evs : List Ev) : Prop :=
 ∃ b : Nat, (0 < evs.length → a = some ⟨b, 0, none⟩) ∧ ∀ (j : Nat) (hj : j < evs.length), W.cell? ⟨b, j * 4, none⟩ = some (.int .i64 (evs[j]'hj).kind) ∧ W.cell? ⟨b, j * 4 + 1, none⟩ = some (.string (evs[j]'hj).name) ∧ W.cell? ⟨b, j * 4 + 2, none⟩ = some (.string (evs[j]'hj).text) ∧ ∃ ao ac, W.cell? ⟨b, j * 4 + 3, none⟩ = some (.slice ao (evs[j]'hj).attrs.length ac) ∧ EntsAt W ao (evs[j]'hj).attrs
theorem evc_at : ∀ (l : List (Ev × Value)) (j : Nat) (hj : j < l.length), (evCells l)[j * 4]? = some (.int .i64 (l[j]'hj).1.kind) ∧ (evCells l)[j * 4 + 1]? = some (.string (l[j]'hj).1.name) ∧ (evCells l)[j * 4 + 2]? = some (.string (l[j]'hj).1.text) ∧ (evCells l)[j * 4 + 3]? = some (l[j]'hj).2
 | [], j, hj => by simp at hj
 | x :: l, 0, _ => by simp [evCells]
 | x :: l, j + 1, hj => by
  have h := evc_at l j (by simpa using hj)
  have e : evCells (x :: l) = .int .i64 x.1.kind :: .string x.1.name :: .string x.1.text :: x.2 :: evCells l := rfl
  rw [e, show (j + 1) * 4 = j * 4 + 1 + 1 + 1 + 1 by omega]
  simpa using h
theorem evs_cells {W : World} {B : Nat} {v : Value} {evs : List Ev} (h : EvsAt W B v evs) : ∃ ao ac, v = .slice ao evs.length ac ∧ EvAt W ao evs := by
 obtain ⟨vs, hl, hr, ha⟩ := h
 rcases hr.2 with ⟨h0, hn⟩ | ⟨g, cap, cur, hv, _⟩
 · exact ⟨none, 0, by rw [h0, hn], 0, fun h => by omega, fun j hj => by omega⟩
 · subst hv
   refine ⟨_, _, rfl, g, fun _ => rfl, fun j hj => ?_⟩
   have hz : j < (evs.zip vs).length := by rw [List.length_zip, hl]; omega
   have ht := evc_at (evs.zip vs) j hz
   rw [List.getElem_zip] at ht
   have hjv : j < vs.length := by omega
   have hrow := ha (evs[j], vs[j]) (by
    have := List.getElem_mem hz
    rw [List.getElem_zip] at this
    exact this)
   obtain ⟨ao, ac, hv, hE⟩ := row_ents4 hrow
   have hv' : vs[j] = .slice ao evs[j].attrs.length ac := hv
   have c0 := hr.cellAt (j * 4) (by omega)
   have c1 := hr.cellAt (j * 4 + 1) (by omega)
   have c2 := hr.cellAt (j * 4 + 2) (by omega)
   have c3 := hr.cellAt (j * 4 + 3) (by omega)
   refine ⟨by rw [c0]; exact ht.1, by rw [c1]; exact ht.2.1, by rw [c2]; exact ht.2.2.1, ao, ac, ?_, hE⟩
   rw [c3, ht.2.2.2, hv']
theorem EvAt.grown {w wr : World} {a : Option Addr} {evs : List Ev} (h : EvAt w a evs) (hg : w.grownBy wr none) : EvAt wr a evs := by
 obtain ⟨b, hb, hc⟩ := h
 refine ⟨b, hb, fun j hj => ?_⟩
 obtain ⟨c0, c1, c2, ao, ac, c3, hE⟩ := hc j hj
 have hk := hg.block _ (block_lt c0) (fun h => by cases h)
 exact ⟨cell_keepF hk c0, cell_keepF hk c1, cell_keepF hk c2, ao, ac, cell_keepF hk c3, hE.grown hg⟩
theorem EvAt.drew {w : World} {a : Option Addr} {evs : List Ev} (h : EvAt w a evs) (n : Nat) : EvAt (w.drewN n) a evs := h.grown (im_gdrew _ _ _)
set_option maxRecDepth 100000 in
set_option maxHeartbeats 2000000 in
theorem lwAttrs_drew (w : World) (a a' : Option Addr) (n c c' : Nat) (l : List (ByteArray × ByteArray)) (hn : n = l.length) (hl : l.length ≤ 1048576) (h : EntsAt w a l) (h' : EntsAt w a' l) :
 Calls Tryz.prog 10 #[.slice a n c, .slice a' n c'] w fun e w' => e = .returned (.bool true) ∧ ∃ m, w' = w.drewN m := by
 subst hn
 have HA := mkHidT h
 have HA' := mkHidT h'
 clear h h'
 go_enter Tryz.func10, Tryz.ntmps10
 go_wp2
 go_loopw [5] (fun i wr => ∃ (k m : Nat), k ≤ l.length ∧ i = .int .i64 k ∧ wr = w.drewN m) (fun i _ => l.length - (intOf i).toNat)
 case atStart => exact ⟨0, 0, Nat.zero_le _, rfl, rfl⟩
 case round =>
  obtain ⟨k, m, hk, rfl, hgr⟩ := hrel
  by_cases hlt : k < l.length
  · have G := im_gdrew w m none
    rw [← hgr] at G
    obtain ⟨b, off, ha, hc⟩ := HA.out.grown G
    obtain rfl := ha (by omega)
    obtain ⟨c1, c2⟩ := hc k hlt
    obtain ⟨b', off', ha', hc'⟩ := HA'.out.grown G
    obtain rfl := ha' (by omega)
    obtain ⟨d1, d2⟩ := hc' k hlt
    obtain ⟨E, hE⟩ : ∃ E, l[k]'hlt = E := ⟨_, rfl⟩
    rw [hE] at c1 c2 d1 d2
    have HG := mkHidT hgr
    clear hc ha hE hc' ha' HA HA' G hgr
    go_wp2_with fail
    go_quiet (fail)
    go_wp2
    go_roundw
    case rel => exact ⟨k + 1, m + _, by omega, by go_num, by rw [HG.out, World.drewN_drewN]⟩
    case measure => simp [intOf]; omega
  · go_wp2
    go_ret
    exact ⟨rfl, m, rfl⟩
set_option maxRecDepth 100000 in
set_option maxHeartbeats 2000000 in
theorem lwEvents_same (w : World) (a a' : Option Addr) (n c c' : Nat) (l : List Ev) (hn : n = l.length) (hl : l.length ≤ 1048576) (hla : ∀ e ∈ l, e.attrs.length ≤ 1048576) (h : EvAt w a l) (h' : EvAt w a' l) :
 Calls Tryz.prog 9 #[.slice a n c, .slice a' n c'] w fun e w' => e = .returned (.bool true) ∧ w.grownBy w' none := by
 subst hn
 have HA := mkHidT h
 have HA' := mkHidT h'
 have HL := mkHidT hla
 clear h h' hla
 go_enter Tryz.func9, Tryz.ntmps9
 go_wp2
 go_loopw [5] (fun i wr => ∃ (k : Nat), k ≤ l.length ∧ i = .int .i64 k ∧ w.grownBy wr none) (fun i _ => l.length - (intOf i).toNat)
 case atStart => exact ⟨0, Nat.zero_le _, rfl, gnR4 _ _⟩
 case round =>
  obtain ⟨k, hk, rfl, hgr⟩ := hrel
  have HG := mkHidT hgr
  clear hgr
  by_cases hlt : k < l.length
  · obtain ⟨b, ha, hc⟩ := HA.out.grown HG.out
    obtain rfl := ha (by omega)
    obtain ⟨c0, c1, c2, ao, ac, c3, hE⟩ := hc k hlt
    obtain ⟨b', ha', hc'⟩ := HA'.out.grown HG.out
    obtain rfl := ha' (by omega)
    obtain ⟨d0, d1, d2, ao', ac', d3, hE'⟩ := hc' k hlt
    have hlt2 := HL.out _ (List.getElem_mem hlt)
    obtain ⟨E, hEe⟩ : ∃ E, l[k]'hlt = E := ⟨_, rfl⟩
    rw [hEe] at c0 c1 c2 c3 d0 d1 d2 d3 hE hE' hlt2
    obtain ⟨na, hna⟩ : ∃ na, E.attrs.length = na := ⟨_, rfl⟩
    have HE := fun n => lwAttrs_drew (wr.drewN n) ao ao' na ac ac' E.attrs hna.symm hlt2 (hE.grown (im_gdrew _ _ _)) (hE'.grown (im_gdrew _ _ _))
    rw [hna] at c3 d3
    clear hc ha hEe hc' ha' HA HA' hE hE' hlt2 hna HL
    go_wp2_with fail
    go_quiet ((go_at_call 10; exact Calls.quiet_of (HE _)))
    go_wp2
    go_roundw
    case rel => exact ⟨k + 1, by omega, by go_num, gnT4 HG.out (im_gdrew _ _ _)⟩
    case measure => simp [intOf]; omega
  · go_wp2
    go_ret
    exact ⟨rfl, HG.out⟩
set_option maxRecDepth 100000 in
set_option maxHeartbeats 2000000 in
theorem lwPiece_any (w : World) (k : Nat) (hk : k < 9) :
 Calls Tryz.prog 7 #[.int .i64 (k : Int)] w fun e w' => e = .returned (.string ⟨(pc false k).toArray⟩) ∧ Below w.heap.size w w' := by
 have hcase : k = 0 ∨ k = 1 ∨ k = 2 ∨ k = 3 ∨ k = 4 ∨ k = 5 ∨ k = 6 ∨ k = 7 ∨ k = 8 := by omega
 rcases hcase with rfl | rfl | rfl | rfl | rfl | rfl | rfl | rfl | rfl
 all_goals
  go_enter Tryz.func7, Tryz.ntmps7
  go_wp2
  go_ret
  exact ⟨rfl, (Below.refl _ _).alloc (Nat.le_refl _) _⟩
end Go.Proofs.YtmaoefokimjkbaaGreatDoor
namespace Go.Proofs.YtmaoefokimjkbaaGreatDoor.fnEntity
open Go.RowKit Lists Ents PlainR PlainY PlainZ PlainZ2 PlainZ3 PlainZ4 PlainZ5
theorem fed_below {w wx : World} {a : Option Addr} {n : Nat} {zs : List Int} (h : FedL w a n zs) (hb : Below w.heap.size w wx) : FedL wx a n zs := by
 obtain ⟨h1, h2, ⟨b, off, ha, hc⟩, h4⟩ := h
 exact ⟨h1, h2, ⟨b, off, ha, fun i hi => cell_keepF (hb.block _ (block_lt (hc i hi))) (hc i hi)⟩, h4⟩
theorem cells4 {w wx : World} {a b c d : Value} {t : TypeId} (hb : Below (w.alloc (.cells #[a, b, c, d] t)).heap.size (w.alloc (.cells #[a, b, c, d] t)) wx) : wx.cell? ⟨w.heap.size, 0, none⟩ = some a ∧ wx.cell? ⟨w.heap.size, 1, none⟩ = some b ∧ wx.cell? ⟨w.heap.size, 2, none⟩ = some c ∧ wx.cell? ⟨w.heap.size, 3, none⟩ = some d := by
 have h : wx.heap[w.heap.size]? = some (.cells #[a, b, c, d] t) := (hb.block _ (by simp)).trans (heap_alloc_new _ _)
 simp [World.cell?, h]
theorem out_cells {W : World} {k : Nat} {a b c : Value} {t : TypeId} (h : W.heap[k]? = some (.cells #[a, b, c] t)) : W.cell? ⟨k, 0, none⟩ = some a ∧ W.cell? ⟨k, 1, none⟩ = some b ∧ W.cell? ⟨k, 2, none⟩ = some c := by simp [World.cell?, h]
def pcs (zs : List Int) (o : Nat) : Nat → List Nat
 | 0 => []
 | n + 1 => pcs zs o n ++ [lwV zs (o + n) 9]
theorem pcs_lt (zs : List Int) (o : Nat) : ∀ n, ∀ k ∈ pcs zs o n, k < 9
 | 0, k, h => by cases h
 | n + 1, k, h => by
  rcases List.mem_append.1 h with h | h
  · exact pcs_lt zs o n k h
  · rw [List.mem_singleton] at h
    rw [h]; exact lwV_lt _ _ _ (by decide)
theorem pcs_len (zs : List Int) (o : Nat) : ∀ n, (pcs zs o n).length = n
 | 0 => rfl
 | n + 1 => by rw [pcs, List.length_append, pcs_len zs o n]; rfl
theorem flat_app (x : Bool) : ∀ (l m : List Nat), flat x (l ++ m) = flat x l ++ flat x m
 | [], m => rfl
 | k :: l, m => by rw [List.cons_append, flat, flat_app x l m, flat, List.append_assoc]
theorem ba_app (l m : List UInt8) : (⟨l.toArray⟩ ++ ⟨m.toArray⟩ : ByteArray) = ⟨(l ++ m).toArray⟩ := by
 apply Plain25.ba_ext
 rw [ByteArray.data_append, Array.toList_append]
def pcB (zs : List Int) (o n : Nat) : ByteArray := ⟨(flat false (pcs zs o n)).toArray⟩
theorem pcB_on (zs : List Int) (o n : Nat) : pcB zs o n ++ ⟨(pc false (lwV zs (o + n) 9)).toArray⟩ = pcB zs o (n + 1) := by
 unfold pcB
 rw [ba_app, pcs, flat_app]
 simp [flat]
theorem pcB_size (zs : List Int) (o n : Nat) : (pcB zs o n).size ≤ 15 * n := by
 unfold pcB
 rw [ba_size]
 have := (flat_ok false (pcs zs o n) (pcs_lt _ _ _)).2
 rw [pcs_len] at this
 exact this
theorem cat_small (zs : List Int) (o k : Nat) (hk : k < 4 := by omega) : ¬ 9223372036854775807 < (pcB zs o k).size + (⟨(pc false (lwV zs (o + k) 9)).toArray⟩ : ByteArray).size := by
 have h1 := pcB_size zs o k
 have h2 := pc_ok (lwV_lt zs (o + k) 9 (by decide))
 unfold pcOk at h2
 simp only [Bool.and_eq_true, decide_eq_true_eq] at h2
 have h3 : (⟨(pc false (lwV zs (o + k) 9)).toArray⟩ : ByteArray).size = (pc false (lwV zs (o + k) 9)).length := ba_size _
 omega
theorem sml_tell {c : Nat} {st : Rs} {e : Ev} (h : st.evs.length ≤ c ∧ ∀ x ∈ st.evs, x.attrs.length ≤ 1) (he : e.attrs.length ≤ 1) : (tellZ st e).evs.length ≤ c + 2 ∧ ∀ x ∈ (tellZ st e).evs, x.attrs.length ≤ 1 := by
 unfold tellZ
 simp only
 split
 · refine ⟨by rw [List.length_append]; simp; omega, fun x hx => ?_⟩
   rcases List.mem_append.1 hx with hx | hx
   · exact h.2 x hx
   · rw [List.mem_singleton] at hx; rw [hx]; exact he
 · refine ⟨by rw [List.length_append, List.length_append]; simp; omega, fun x hx => ?_⟩
   rcases List.mem_append.1 hx with hx | hx
   · rcases List.mem_append.1 hx with hx | hx
     · exact h.2 x hx
     · rw [List.mem_singleton] at hx; rw [hx]; simp
   · rw [List.mem_singleton] at hx; rw [hx]; exact he
theorem sml_eff {c k : Nat} {st : Rs} (h : st.evs.length ≤ c ∧ ∀ x ∈ st.evs, x.attrs.length ≤ 1) : (eff k st).evs.length ≤ c + 4 ∧ ∀ x ∈ (eff k st).evs, x.attrs.length ≤ 1 := by
 have up : ∀ {d : Nat} {st : Rs}, d ≤ c + 4 → (st.evs.length ≤ d ∧ ∀ x ∈ st.evs, x.attrs.length ≤ 1) → (st.evs.length ≤ c + 4 ∧ ∀ x ∈ st.evs, x.attrs.length ≤ 1) := fun hd hh => ⟨by omega, hh.2⟩
 unfold eff
 split
 · exact up (d := c) (by omega) h
 split
 · exact sml_tell (c := c + 2) (sml_tell h (by simp)) (by simp)
 split
 · exact up (d := c) (by omega) h
 split
 · exact sml_tell (c := c + 2) (sml_tell h (by simp)) (by simp)
 split
 · exact up (d := c) (by omega) h
 split
 · exact up (d := c) (by omega) h
 split
 · exact up (by omega) (sml_tell h (by simp))
 split
 · exact up (by omega) (sml_tell h (by simp))
 · exact up (d := c) (by omega) h
theorem sml_effs : ∀ (l : List Nat) {c : Nat} {st : Rs}, (st.evs.length ≤ c ∧ ∀ x ∈ st.evs, x.attrs.length ≤ 1) → (effs l st).evs.length ≤ c + 4 * l.length ∧ ∀ x ∈ (effs l st).evs, x.attrs.length ≤ 1
 | [], c, st, h => h
 | k :: l, c, st, h => by
  have := sml_effs l (sml_eff (k := k) h)
  exact ⟨by rw [List.length_cons]; have := this.1; show (effs l (eff k st)).evs.length ≤ _; omega, this.2⟩
def wdB (c : Nat) : List UInt8 := if c = 0 then [118] else if c = 1 then [97, 32, 98] else if c = 2 then [38, 108, 116, 59, 120] else [38, 35, 51, 56, 59, 108, 116, 59]
def gvB (c : Nat) : List UInt8 := if c = 0 then [118] else if c = 1 then [97, 32, 98] else if c = 2 then [38, 108, 116, 59, 120] else [38, 108, 116, 59]
theorem wd_any (c : Nat) : ∃ w' val, Wd (wdB c) w' (gvB c) val := by
 unfold wdB gvB
 by_cases h0 : c = 0
 · rw [if_pos h0, if_pos h0]; exact ⟨_, _, wd0⟩
 rw [if_neg h0, if_neg h0]
 by_cases h1 : c = 1
 · rw [if_pos h1, if_pos h1]; exact ⟨_, _, wd1⟩
 rw [if_neg h1, if_neg h1]
 by_cases h2 : c = 2
 · rw [if_pos h2, if_pos h2]; exact ⟨_, _, wd2⟩
 rw [if_neg h2, if_neg h2]; exact ⟨_, _, wd3⟩
theorem cat_head (la lb : List Nat) (w : List UInt8) : (⟨#[60, 33, 68, 79, 67, 84, 89, 80, 69, 32, 114, 32, 91, 60, 33, 69, 78, 84, 73, 84, 89, 32, 101, 32, 34]⟩ ++ ⟨(flat false la).toArray⟩ ++ ⟨#[38, 102, 59, 34, 62, 60, 33, 69, 78, 84, 73, 84, 89, 32, 102, 32, 34]⟩ ++ ⟨(flat false lb).toArray⟩ ++ ⟨#[34, 62, 60, 33, 69, 78, 84, 73, 84, 89, 32, 119, 32, 34]⟩ ++ ⟨w.toArray⟩ ++ ⟨#[34, 62, 60, 33, 69, 78, 84, 73, 84, 89, 32, 108, 32, 34, 120, 38, 109, 59, 34, 62, 60, 33, 69, 78, 84, 73, 84, 89, 32, 109, 32, 34, 38, 108, 59, 34, 62, 93, 62]⟩ : ByteArray) = ⟨(dtL ++ (headL la lb w ++ [93, 62])).toArray⟩ := by
 apply Plain25.ba_ext
 simp only [ByteArray.data_append, Array.toList_append]
 unfold headL df dfL dtL Plain23.entL
 simp only [List.append_assoc, List.cons_append, List.nil_append]
theorem cat_x (la lb : List Nat) (w : List UInt8) : (⟨(dtL ++ (headL la lb w ++ [93, 62])).toArray⟩ ++ ⟨#[60, 114, 32, 107, 61, 39, 49, 38, 119, 59, 50, 39, 62, 120, 38, 101, 59, 121, 38, 102, 59, 60, 47, 114, 62]⟩ : ByteArray) = ⟨(docX la lb w).toArray⟩ := by
 apply Plain25.ba_ext
 simp only [ByteArray.data_append, Array.toList_append]
 unfold docX
 simp only [List.append_assoc]
 rfl
theorem cat_z (la lb : List Nat) (w : List UInt8) : (⟨(dtL ++ (headL la lb w ++ [93, 62])).toArray⟩ ++ ⟨#[60, 114, 62, 38, 108, 59, 60, 47, 114, 62]⟩ : ByteArray) = ⟨(docZ la lb w).toArray⟩ := by
 apply Plain25.ba_ext
 simp only [ByteArray.data_append, Array.toList_append]
 unfold docZ
 simp only [List.append_assoc]
 rfl
theorem cat_y (la lb : List Nat) (g : List UInt8) : (⟨#[60, 114, 32, 107, 61, 39, 49]⟩ ++ ⟨g.toArray⟩ ++ ⟨#[50, 39, 62, 120]⟩ ++ ⟨(flat false la).toArray⟩ ++ ⟨(flat false lb).toArray⟩ ++ ⟨#[121]⟩ ++ ⟨(flat false lb).toArray⟩ ++ ⟨#[60, 47, 114, 62]⟩ : ByteArray) = ⟨(docY la lb g).toArray⟩ := by
 apply Plain25.ba_ext
 simp only [ByteArray.data_append, Array.toList_append]
 unfold docY mY
 simp only [List.append_assoc, List.cons_append, List.nil_append]
 rfl
theorem three (zs : List Int) (N c : Nat) (hN : N < 4) : (readZ ⟨(docX (pcs zs 1 N) (pcs zs 5 N) (wdB c)).toArray⟩ true).code = 0 ∧ (readZ ⟨(docY (pcs zs 1 N) (pcs zs 5 N) (gvB c)).toArray⟩ true).code = 0 ∧ (readZ ⟨(docZ (pcs zs 1 N) (pcs zs 5 N) (wdB c)).toArray⟩ true).code = 9 ∧
 (readZ ⟨(docX (pcs zs 1 N) (pcs zs 5 N) (wdB c)).toArray⟩ true).evs = (readZ ⟨(docY (pcs zs 1 N) (pcs zs 5 N) (gvB c)).toArray⟩ true).evs ∧ (readZ ⟨(docY (pcs zs 1 N) (pcs zs 5 N) (gvB c)).toArray⟩ true).evs.length ≤ 1048576 ∧ ∀ e ∈ (readZ ⟨(docY (pcs zs 1 N) (pcs zs 5 N) (gvB c)).toArray⟩ true).evs, e.attrs.length ≤ 1048576 := by
 obtain ⟨w', val, hW⟩ := wd_any c
 have ha : HdArg (pcs zs 1 N) (pcs zs 5 N) (wdB c) w' := ⟨pcs_lt _ _ _, pcs_lt _ _ _, by rw [pcs_len]; omega, by rw [pcs_len]; omega, hW.ok⟩
 obtain ⟨S3, x1, x2, x3⟩ := read_x (s := ⟨(docX (pcs zs 1 N) (pcs zs 5 N) (wdB c)).toArray⟩) ha hW rfl
 obtain ⟨y1, y2⟩ := read_y (s := ⟨(docY (pcs zs 1 N) (pcs zs 5 N) (gvB c)).toArray⟩) ha hW rfl
 have z1 := read_z (s := ⟨(docZ (pcs zs 1 N) (pcs zs 5 N) (wdB c)).toArray⟩) ha rfl
 have hb : (endR (chain (pcs zs 1 N) (pcs zs 5 N) ⟨⟨[], []⟩, [⟨1, rN, ⟨#[]⟩, [(kN, val)]⟩], [], 0, 1, [], 0⟩) rN).evs.length ≤ _ ∧ _ := sml_tell (sml_effs (pcs zs 5 N) (st := addT (effs (pcs zs 5 N) (effs (pcs zs 1 N) (addT ⟨⟨[], []⟩, [⟨1, rN, ⟨#[]⟩, [(kN, val)]⟩], [], 0, 1, [], 0⟩ [120]))) [121]) (sml_effs (pcs zs 5 N) (sml_effs (pcs zs 1 N) (c := 1) (st := addT ⟨⟨[], []⟩, [⟨1, rN, ⟨#[]⟩, [(kN, val)]⟩], [], 0, 1, [], 0⟩ [120]) ⟨Nat.le_refl _, fun x hx => by
  have hx : x ∈ [(⟨1, rN, ⟨#[]⟩, [(kN, val)]⟩ : Ev)] := hx
  rw [List.mem_singleton] at hx; rw [hx]; exact Nat.le_refl _⟩))) (by simp)
 rw [pcs_len, pcs_len] at hb
 refine ⟨x1, y1, z1, ?_, ?_, ?_⟩
 · rw [x3, y2]
   exact (al_tell x2 _).1
 · rw [y2]; have := hb.1; omega
 · rw [y2]; intro e he; have := hb.2 e he; omega
def hB (zs : List Int) (k c : Nat) : ByteArray := ⟨(dtL ++ (headL (pcs zs 1 k) (pcs zs 5 k) (wdB c) ++ [93, 62])).toArray⟩
def xB (zs : List Int) (k c : Nat) : ByteArray := ⟨(docX (pcs zs 1 k) (pcs zs 5 k) (wdB c)).toArray⟩
def yB (zs : List Int) (k c : Nat) : ByteArray := ⟨(docY (pcs zs 1 k) (pcs zs 5 k) (gvB c)).toArray⟩
def zB (zs : List Int) (k c : Nat) : ByteArray := ⟨(docZ (pcs zs 1 k) (pcs zs 5 k) (wdB c)).toArray⟩
theorem catH (zs : List Int) (k c : Nat) : (⟨#[60, 33, 68, 79, 67, 84, 89, 80, 69, 32, 114, 32, 91, 60, 33, 69, 78, 84, 73, 84, 89, 32, 101, 32, 34]⟩ ++ pcB zs 1 k ++ ⟨#[38, 102, 59, 34, 62, 60, 33, 69, 78, 84, 73, 84, 89, 32, 102, 32, 34]⟩ ++ pcB zs 5 k ++ ⟨#[34, 62, 60, 33, 69, 78, 84, 73, 84, 89, 32, 119, 32, 34]⟩ ++ ⟨(wdB c).toArray⟩ ++ ⟨#[34, 62, 60, 33, 69, 78, 84, 73, 84, 89, 32, 108, 32, 34, 120, 38, 109, 59, 34, 62, 60, 33, 69, 78, 84, 73, 84, 89, 32, 109, 32, 34, 38, 108, 59, 34, 62, 93, 62]⟩ : ByteArray) = hB zs k c := cat_head _ _ _
theorem catX (zs : List Int) (k c : Nat) : (hB zs k c ++ ⟨#[60, 114, 32, 107, 61, 39, 49, 38, 119, 59, 50, 39, 62, 120, 38, 101, 59, 121, 38, 102, 59, 60, 47, 114, 62]⟩ : ByteArray) = xB zs k c := cat_x _ _ _
theorem catZ (zs : List Int) (k c : Nat) : (hB zs k c ++ ⟨#[60, 114, 62, 38, 108, 59, 60, 47, 114, 62]⟩ : ByteArray) = zB zs k c := cat_z _ _ _
theorem catY (zs : List Int) (k c : Nat) : (⟨#[60, 114, 32, 107, 61, 39, 49]⟩ ++ ⟨(gvB c).toArray⟩ ++ ⟨#[50, 39, 62, 120]⟩ ++ pcB zs 1 k ++ pcB zs 5 k ++ ⟨#[121]⟩ ++ pcB zs 5 k ++ ⟨#[60, 47, 114, 62]⟩ : ByteArray) = yB zs k c := cat_y _ _ _
theorem hB_size (zs : List Int) {k : Nat} (c : Nat) (hk : k < 4) : (hB zs k c).size ≤ 300 := by
 obtain ⟨w', val, hW⟩ := wd_any c
 have ha : HdArg (pcs zs 1 k) (pcs zs 5 k) (wdB c) w' := ⟨pcs_lt _ _ _, pcs_lt _ _ _, by rw [pcs_len]; omega, by rw [pcs_len]; omega, hW.ok⟩
 have := (head_bytes ha).2
 unfold hB
 rw [ba_size, List.length_append, List.length_append]
 have e : dtL.length = 13 := rfl
 simp only [List.length_cons, List.length_nil]
 omega
structure Told (X Y Z : EOut) : Prop where
 x : X.code = 0
 y : Y.code = 0
 z : Z.code = 9
 evs : X.evs = Y.evs
 len : Y.evs.length ≤ 1048576
 att : ∀ e ∈ Y.evs, e.attrs.length ≤ 1048576
theorem told (zs : List Int) (k c : Nat) (hk : k < 4) : Told (readZ (xB zs k c) true) (readZ (yB zs k c) true) (readZ (zB zs k c) true) := by
 obtain ⟨a, b, c', d, e, f⟩ := three zs k c hk
 exact ⟨a, b, c', d, e, f⟩
theorem word_cell {w wx : World} {t : TypeId} {c : Nat} (hc : c < 4) (hb : Below (w.alloc (.cells #[.string ⟨#[118]⟩, .string ⟨#[97, 32, 98]⟩, .string ⟨#[38, 108, 116, 59, 120]⟩, .string ⟨#[38, 35, 51, 56, 59, 108, 116, 59]⟩] t)).heap.size (w.alloc (.cells #[.string ⟨#[118]⟩, .string ⟨#[97, 32, 98]⟩, .string ⟨#[38, 108, 116, 59, 120]⟩, .string ⟨#[38, 35, 51, 56, 59, 108, 116, 59]⟩] t)) wx) : wx.cell? ⟨w.heap.size, c, none⟩ = some (.string ⟨(wdB c).toArray⟩) := by
 obtain ⟨k0, k1, k2, k3⟩ := cells4 hb
 have hcase : c = 0 ∨ c = 1 ∨ c = 2 ∨ c = 3 := by omega
 rcases hcase with rfl | rfl | rfl | rfl
 · exact k0
 · exact k1
 · exact k2
 · exact k3
theorem given_cell {w wx : World} {t : TypeId} {c : Nat} (hc : c < 4) (hb : Below (w.alloc (.cells #[.string ⟨#[118]⟩, .string ⟨#[97, 32, 98]⟩, .string ⟨#[38, 108, 116, 59, 120]⟩, .string ⟨#[38, 108, 116, 59]⟩] t)).heap.size (w.alloc (.cells #[.string ⟨#[118]⟩, .string ⟨#[97, 32, 98]⟩, .string ⟨#[38, 108, 116, 59, 120]⟩, .string ⟨#[38, 108, 116, 59]⟩] t)) wx) : wx.cell? ⟨w.heap.size, c, none⟩ = some (.string ⟨(gvB c).toArray⟩) := by
 obtain ⟨k0, k1, k2, k3⟩ := cells4 hb
 have hcase : c = 0 ∨ c = 1 ∨ c = 2 ∨ c = 3 := by omega
 rcases hcase with rfl | rfl | rfl | rfl
 · exact k0
 · exact k1
 · exact k2
 · exact k3
set_option maxRecDepth 100000 in
set_option maxHeartbeats 8000000 in
theorem walkA (a : Option Addr) (n cap : Nat) (w : World) (m : Int) (zs : List Int) (hS : FedL w a n zs) (hctx : Ctx w m) :
 Calls Tryz.prog 3 #[.slice a n cap] w fun e w' => e = .returned (.bool true) ∧ Below w.heap.size w w' := by
 have hl : ¬ 1048576 < (n : Int) := by have := hS.2.1; omega
 have HS := mkHidT hS
 have HC := mkHidT hctx
 have hat := fun wx (hb : Below w.heap.size w wx) (k q : Nat) (hk : k ≤ 1000) (hq : 2 ≤ q) (hq2 : q ≤ 1000) => lwAt_any wx a n cap zs (fed_below HS.out hb) k q hk hq hq2
 have hN := lwV_lt zs 0 4 (by decide)
 obtain ⟨N, hNe⟩ : ∃ N, lwV zs 0 4 = N := ⟨_, rfl⟩
 rw [hNe] at hN
 clear hS hctx
 go_enter Tryz.func3, Tryz.ntmps3
 go_wp2_with fail
 go_loopw [3, 4, 5] (fun av bv iv wr => ∃ (k : Nat), k ≤ N ∧ av = .string (pcB zs 1 k) ∧ bv = .string (pcB zs 5 k) ∧ iv = .int .i64 k ∧ Below w.heap.size w wr) (fun _ _ iv _ => N - (intOf iv).toNat)
 case atStart => exact ⟨0, Nat.zero_le _, rfl, rfl, rfl, Below.refl _ _⟩
 case round =>
  obtain ⟨k, hk, rfl, rfl, rfl, hb⟩ := hrel
  have HB := mkHidT hb
  clear hb
  have h0 := hat _ HB.out 0 4 (by decide) (by decide) (by decide)
  rw [hNe] at h0
  by_cases hlt : k < N
  · go_wp2_with fail
    refine h0.mono ?_
    rintro e w1 ⟨rfl, hb1⟩
    have B1 := mkHidT (HB.out.trans (hb1.mono HB.out.size))
    clear hb1 h0
    have h1 := hat _ B1.out (1 + k) 9 (by omega) (by decide) (by decide)
    have c1 : ((1 + k : Nat) : Int) = 1 + (k : Int) := by omega
    rw [c1] at h1
    go_wp2_with fail
    refine h1.mono ?_
    rintro e w2 ⟨rfl, hb2⟩
    have B2 := mkHidT (B1.out.trans (hb2.mono B1.out.size))
    clear hb2 h1
    have h2 := lwPiece_any w2 (lwV zs (1 + k) 9) (lwV_lt _ _ _ (by decide))
    have hc1 : ¬ 9223372036854775807 < (pcB zs 1 k).size + (⟨(pc false (lwV zs (1 + k) 9)).toArray⟩ : ByteArray).size := cat_small _ _ _
    have hc2 : ¬ 9223372036854775807 < (pcB zs 5 k).size + (⟨(pc false (lwV zs (5 + k) 9)).toArray⟩ : ByteArray).size := cat_small _ _ _
    go_wp2_with fail
    refine h2.mono ?_
    rintro e w3 ⟨rfl, hb3⟩
    have B3 := mkHidT (B2.out.trans (hb3.mono B2.out.size))
    clear hb3 h2
    have h3 := hat _ B3.out (5 + k) 9 (by omega) (by decide) (by decide)
    have c5 : ((5 + k : Nat) : Int) = 5 + (k : Int) := by omega
    rw [c5] at h3
    go_wp2_with fail
    rw [pcB_on]
    refine h3.mono ?_
    rintro e w4 ⟨rfl, hb4⟩
    have B4 := mkHidT (B3.out.trans (hb4.mono B3.out.size))
    clear hb4 h3
    have h4 := lwPiece_any w4 (lwV zs (5 + k) 9) (lwV_lt _ _ _ (by decide))
    go_wp2_with fail
    refine h4.mono ?_
    rintro e w5 ⟨rfl, hb5⟩
    have B5 := mkHidT (B4.out.trans (hb5.mono B4.out.size))
    clear hb5 h4
    go_wp2
    go_roundw
    case rel => exact ⟨k + 1, by omega, rfl, by rw [pcB_on], by go_num, B5.out⟩
    case measure => simp [intOf]; omega
  · have hkN : k = N := by omega
    subst hkN
    go_wp2_with fail
    refine h0.mono ?_
    rintro e w1 ⟨rfl, hb1⟩
    have B1 := mkHidT (HB.out.trans (hb1.mono HB.out.size))
    clear hb1 h0
    have hc4 := lwV_lt zs 10 4 (by decide)
    obtain ⟨c, hce⟩ : ∃ c, lwV zs 10 4 = c := ⟨_, rfl⟩
    have h10 := fun wx hb => hat wx hb 10 4 (by decide) (by decide) (by decide)
    rw [hce] at hc4
    simp only [hce] at h10
    clear hat hNe hce
    go_wp2_with fail
    refine (h10 _ (B1.out.alloc B1.out.size _)).mono ?_
    rintro e w2 ⟨rfl, hb2⟩
    have B2 := mkHidT ((B1.out.alloc B1.out.size _).trans (hb2.mono (B1.out.alloc B1.out.size _).size))
    have kw := word_cell hc4 hb2
    clear hb2
    go_wp2_with fail
    refine (h10 _ (B2.out.alloc B2.out.size _)).mono ?_
    rintro e w3 ⟨rfl, hb3⟩
    have B3 := mkHidT ((B2.out.alloc B2.out.size _).trans (hb3.mono (B2.out.alloc B2.out.size _).size))
    have kg := given_cell hc4 hb3
    clear hb3 h10
    have sA := pcB_size zs 1 k
    have sB := pcB_size zs 5 k
    have sW : (wdB c).length ≤ 10 := by unfold wdB; split; decide; split; decide; split <;> decide
    have sG : (gvB c).length ≤ 10 := by unfold gvB; split; decide; split; decide; split <;> decide
    have q0 : ¬ 9223372036854775807 < 25 + (pcB zs 1 k).size := by omega
    have q1 : ¬ 9223372036854775807 < 25 + (pcB zs 1 k).size + 17 := by omega
    have q2 : ¬ 9223372036854775807 < 25 + (pcB zs 1 k).size + 17 + (pcB zs 5 k).size := by omega
    have q3 : ¬ 9223372036854775807 < 25 + (pcB zs 1 k).size + 17 + (pcB zs 5 k).size + 14 := by omega
    have q4 : ¬ 9223372036854775807 < 25 + (pcB zs 1 k).size + 17 + (pcB zs 5 k).size + 14 + (wdB c).length := by omega
    have q5 : ¬ 9223372036854775807 < 25 + (pcB zs 1 k).size + 17 + (pcB zs 5 k).size + 14 + (wdB c).length + 39 := by omega
    have q6 : ¬ 9223372036854775807 < 25 + (pcB zs 1 k).size + 17 + (pcB zs 5 k).size + 14 + (wdB c).length + 39 + 25 := by omega
    have q7 : ¬ 9223372036854775807 < 25 + (pcB zs 1 k).size + 17 + (pcB zs 5 k).size + 14 + (wdB c).length + 39 + 10 := by omega
    have q8 : ¬ 9223372036854775807 < 7 + (gvB c).length := by omega
    have q9 : ¬ 9223372036854775807 < 7 + (gvB c).length + 4 := by omega
    have q10 : ¬ 9223372036854775807 < 7 + (gvB c).length + 4 + (pcB zs 1 k).size := by omega
    have q11 : ¬ 9223372036854775807 < 7 + (gvB c).length + 4 + (pcB zs 1 k).size + (pcB zs 5 k).size := by omega
    have q12 : ¬ 9223372036854775807 < 7 + (gvB c).length + 4 + (pcB zs 1 k).size + (pcB zs 5 k).size + 1 := by omega
    have q13 : ¬ 9223372036854775807 < 7 + (gvB c).length + 4 + (pcB zs 1 k).size + (pcB zs 5 k).size + 1 + (pcB zs 5 k).size := by omega
    have q14 : ¬ 9223372036854775807 < 7 + (gvB c).length + 4 + (pcB zs 1 k).size + (pcB zs 5 k).size + 1 + (pcB zs 5 k).size + 4 := by omega
    clear sA sB sW sG
    have qh := hB_size zs c hN
    have qz : ¬ 9223372036854775807 < (hB zs k c).size + 10 := by omega
    have hT := mkHidT (told zs k c hN)
    clear qh
    have hrx := @implRead_any ⟨⟨0⟩⟩ (xB zs k c) true w3 m ⟨HC.out.env.below B3.out, HC.out.et.below B3.out⟩
    go_wp2_with fail
    rw [catH, catX]
    refine hrx.mono ?_
    rintro e w4 ⟨v, rfl, hev, hb4⟩
    obtain ⟨X, hX⟩ : ∃ R, readZ (xB zs k c) true = R := ⟨_, rfl⟩
    rw [hX] at hev hT ⊢
    obtain ⟨ao, ac, rfl, hE⟩ := evs_cells hev
    have B4 := mkHidT (B3.out.trans (hb4.mono B3.out.size))
    have E4 := mkHidT hE
    clear hev hE hb4 hrx hX
    obtain ⟨W5, hW5⟩ : ∃ W5, w4.alloc (.cells #[.slice ao X.evs.length ac, .int .i64 X.at1, .int .i64 X.code] 28) = W5 := ⟨_, rfl⟩
    have hb5 : Below w4.heap.size w4 W5 := by rw [← hW5]; exact (Below.refl _ _).alloc (Nat.le_refl _) _
    have B5 := mkHidT (B4.out.trans (hb5.mono B4.out.size))
    have E5 := mkHidT (E4.out.grown (Ents.below_grown hb5))
    have Z5 := mkHidT (show W5.heap[w4.heap.size]? = some (.cells #[.slice ao X.evs.length ac, .int .i64 X.at1, .int .i64 X.code] 28) by rw [← hW5]; exact heap_alloc_new _ _)
    clear hb5
    have hry := @implRead_any ⟨⟨0⟩⟩ (yB zs k c) true W5 m ⟨HC.out.env.below B5.out, HC.out.et.below B5.out⟩
    go_wp2_with fail
    rw [catY]
    refine hry.mono ?_
    rintro e w6 ⟨v, rfl, hev, hb6⟩
    obtain ⟨Y, hY⟩ : ∃ R, readZ (yB zs k c) true = R := ⟨_, rfl⟩
    rw [hY] at hev hT ⊢
    obtain ⟨bo, bc, rfl, hE⟩ := evs_cells hev
    have B6 := mkHidT (B5.out.trans (hb6.mono B5.out.size))
    have E6 := mkHidT (E5.out.grown (Ents.below_grown hb6))
    have Z6 := mkHidT ((hb6.block _ (Array.getElem?_eq_some_iff.1 Z5.out).1).trans Z5.out)
    have F6 := mkHidT hE
    clear hev hE hb6 hry hY E5 Z5
    obtain ⟨W7, hW7⟩ : ∃ W7, w6.alloc (.cells #[.slice bo Y.evs.length bc, .int .i64 Y.at1, .int .i64 Y.code] 28) = W7 := ⟨_, rfl⟩
    have hb7 : Below w6.heap.size w6 W7 := by rw [← hW7]; exact (Below.refl _ _).alloc (Nat.le_refl _) _
    have B7 := mkHidT (B6.out.trans (hb7.mono B6.out.size))
    have E7 := mkHidT (E6.out.grown (Ents.below_grown hb7))
    have F7 := mkHidT (F6.out.grown (Ents.below_grown hb7))
    have Z7 := mkHidT ((hb7.block _ (Array.getElem?_eq_some_iff.1 Z6.out).1).trans Z6.out)
    have Y7 := mkHidT (show W7.heap[w6.heap.size]? = some (.cells #[.slice bo Y.evs.length bc, .int .i64 Y.at1, .int .i64 Y.code] 28) by rw [← hW7]; exact heap_alloc_new _ _)
    clear hb7 E6 F6 Z6
    have hrz := @implRead_any ⟨⟨0⟩⟩ (zB zs k c) true W7 m ⟨HC.out.env.below B7.out, HC.out.et.below B7.out⟩
    go_wp2_with fail
    rw [catZ]
    refine hrz.mono ?_
    rintro e w8 ⟨v, rfl, hev, hb8⟩
    obtain ⟨Z, hZ⟩ : ∃ R, readZ (zB zs k c) true = R := ⟨_, rfl⟩
    rw [hZ] at hev hT ⊢
    obtain ⟨co, cc, rfl, hE⟩ := evs_cells hev
    have B8 := mkHidT (B7.out.trans (hb8.mono B7.out.size))
    have E8 := mkHidT (E7.out.grown (Ents.below_grown hb8))
    have F8 := mkHidT (F7.out.grown (Ents.below_grown hb8))
    have Z8 := mkHidT ((hb8.block _ (Array.getElem?_eq_some_iff.1 Z7.out).1).trans Z7.out)
    have Y8 := mkHidT ((hb8.block _ (Array.getElem?_eq_some_iff.1 Y7.out).1).trans Y7.out)
    clear hev hE hb8 hrz hZ E7 F7 Z7 Y7
    obtain ⟨W9, hW9⟩ : ∃ W9, w8.alloc (.cells #[.slice co Z.evs.length cc, .int .i64 Z.at1, .int .i64 Z.code] 28) = W9 := ⟨_, rfl⟩
    have hb9 : Below w8.heap.size w8 W9 := by rw [← hW9]; exact (Below.refl _ _).alloc (Nat.le_refl _) _
    have B9 := mkHidT (B8.out.trans (hb9.mono B8.out.size))
    have E9 := mkHidT (E8.out.grown (Ents.below_grown hb9))
    have F9 := mkHidT (F8.out.grown (Ents.below_grown hb9))
    have T9 := hT.out
    obtain ⟨x0, x1, x2⟩ := out_cells ((hb9.block _ (Array.getElem?_eq_some_iff.1 Z8.out).1).trans Z8.out)
    obtain ⟨y0, y1, y2⟩ := out_cells ((hb9.block _ (Array.getElem?_eq_some_iff.1 Y8.out).1).trans Y8.out)
    obtain ⟨z0, z1, z2⟩ := out_cells (show W9.heap[w8.heap.size]? = some (.cells #[.slice co Z.evs.length cc, .int .i64 Z.at1, .int .i64 Z.code] 28) by rw [← hW9]; exact heap_alloc_new _ _)
    rw [T9.x] at x2
    rw [T9.y] at y2
    rw [T9.z] at z2
    have E9' := E9.out
    rw [T9.evs] at x0 E9'
    obtain ⟨L, hL⟩ : ∃ L, Y.evs.length = L := ⟨_, rfl⟩
    have hlw := lwEvents_same W9 ao bo L ac bc Y.evs hL.symm T9.len T9.att E9' F9.out
    rw [hL] at x0 y0
    have hlx : X.evs.length = L := by rw [T9.evs]; exact hL
    have HL := mkHidT hL
    have HX := mkHidT hlx
    clear x1 y1 z0 z1 hb9 E8 F8 Z8 Y8 E9 E9' F9 T9 hT hL hlx
    go_wp2_with fail
    refine hlw.mono ?_
    rintro e w10 ⟨rfl, hg⟩
    have z2' := cell_keepF (hg.block _ (block_lt z2) (fun h => by cases h)) z2
    have B10 := mkHidT (B9.out.grown hg B9.out.size (fun k hk => by cases hk))
    clear hg hlw z2 x0 x2 y0 y2
    go_wp2
    go_ret
    exact ⟨rfl, B10.out⟩
theorem long (a : Option Addr) (n cap : Nat) (w : World) (hn : 1048576 < n) :
 Calls Tryz.prog 3 #[.slice a n cap] w fun e w' => e = .returned (.bool true) ∧ Below w.heap.size w w' := by
 have hl : 1048576 < (n : Int) := by omega
 go_enter Tryz.func3, Tryz.ntmps3
 go_wp2
 go_ret
 exact ⟨rfl, Below.refl _ _⟩
theorem walk (a : Option Addr) (n cap : Nat) (w : World) (m : Int) (hF : n ≤ 1048576 → ∃ zs, FedL w a n zs) (hE : EnvH w m) (hT : EtCell w) :
 Calls Tryz.prog 3 #[.slice a n cap] w fun e w' => e = .returned (.bool true) ∧ Below w.heap.size w w' := by
 by_cases hn : 1048576 < n
 · exact long a n cap w hn
 obtain ⟨zs, hS⟩ := hF (by omega)
 exact walkA a n cap w m zs hS ⟨hE, hT⟩
end Go.Proofs.YtmaoefokimjkbaaGreatDoor.fnEntity
