/- The contracts of the model's drawing from bytes: the struct that is drawn from, and n, a number below another one. What is drawn is not told, but that it lies where it must. -/
import Derived.Test.YtpkhdfddbcpciaaDoorProg
import Derived.Test.YtpkhdfddbcpciaaDoorPlain1
import Derived.Test.YtpkhdfddbcpciaaDoorLists
import Derived.WalkKit
import Derived.WalkSmall
import Derived.OpenShut
import Derived.RegionTactic
import Derived.BigRegion
import Derived.Deep.QuietTactic
import Derived.BigQuiet
namespace Go.Proofs.YtpkhdfddbcpciaaDoor
open Go.RowKit Plain1 Lists

/-- The box of what is drawn from lies in block g, and reads the bytes that came in. -/
structure Dr (W0 w : World) (g : Nat) (a : Option Addr) (n cap : Nat) : Prop where
  box : ∃ p m z : Int, 0 ≤ p ∧ p ≤ n ∧ (Lit.int .u64 m).wf = true ∧ w.heap[g]? = some (.cells #[.slice a n cap, .int .i64 p, .int .u64 m, .int .i64 z] 65)
  below : Below W0.heap.size W0 w
  there : W0.heap.size ≤ g

theorem block4 {w : World} {g : Nat} {a b c d : Value} {t : TypeId} (h : w.heap[g]? = some (.cells #[a, b, c, d] t)) :
    w.cell? ⟨g, 0, none⟩ = some a ∧ w.cell? ⟨g, 1, none⟩ = some b ∧ w.cell? ⟨g, 2, none⟩ = some c ∧ w.cell? ⟨g, 3, none⟩ = some d ∧ w.frozen? ⟨g, 0, none⟩ = false ∧ w.frozen? ⟨g, 1, none⟩ = false ∧ w.frozen? ⟨g, 2, none⟩ = false ∧ w.frozen? ⟨g, 3, none⟩ = false := by
  simp [World.cell?, World.frozen?, h]

theorem setCell_over (w : World) (blk off : Nat) (v v' : Value) : (w.setCell ⟨blk, off, none⟩ v).setCell ⟨blk, off, none⟩ v' = w.setCell ⟨blk, off, none⟩ v' := by
  unfold World.setCell
  simp only
  congr 1
  apply Array.ext
  · simp
  · intro i h1 h2
    simp only [Array.getElem_modify]
    split
    · cases w.heap[i]'(by simpa using h2) <;> simp
    · rfl

theorem draw_r {x most : Int} (h : 1 < most) (h2 : most ≤ 9223372036854775807) : 0 ≤ wrap64 ((IntKind.u64.wrap x).tmod most) ∧ wrap64 ((IntKind.u64.wrap x).tmod most) < most := by
  have hb := bounds_u64 (wf_wrap .u64 x)
  generalize IntKind.u64.wrap x = y at hb ⊢
  rw [Int.tmod_eq_emod_of_nonneg hb.1]
  have h0 := Int.emod_nonneg y (show most ≠ 0 by omega)
  have h1 := Int.emod_lt_of_pos y (show 0 < most by omega)
  have e : wrap64 (y % most) = y % most := by unfold wrap64; omega
  rw [e]
  exact ⟨h0, h1⟩

set_option maxHeartbeats 2000000 in
theorem n_end (w : World) (g : Nat) (a : Option Addr) (n cap : Nat) (most p m : Int) (hm : 1 < most) (hm2 : most ≤ 9223372036854775807)
    (hlt : ¬ p < (n : Int)) (wm : (Lit.int .u64 m).wf = true) (c0 : w.cell? ⟨g, 0, none⟩ = some (.slice a n cap)) (c1 : w.cell? ⟨g, 1, none⟩ = some (.int .i64 p)) (c2 : w.cell? ⟨g, 2, none⟩ = some (.int .u64 m)) (f2 : w.frozen? ⟨g, 2, none⟩ = false) :
    Calls Tryd.prog 36 #[.pointer (some ⟨g, 0, none⟩), .int .i64 most] w fun e w' => ∃ r m' k, e = .returned (.int .i64 r) ∧ 0 ≤ r ∧ r < most ∧ (Lit.int .u64 m').wf = true ∧ w' = (w.drewN k).setCell ⟨g, 2, none⟩ (.int .u64 m') := by
  have bm := bounds_u64 wm
  obtain ⟨bm0, bm1⟩ := bm
  clear wm
  have hss := fun (W : World) (v v' : Value) => setCell_over W g 2 v v'
  go_enter Tryd.func36, Tryd.ntmps36
  go_wp2_with fail
  go_quiet (fail)
  go_wp2_with fail
  go_region
  go_wp2_with fail
  generalize hX1 : bits BinOp.xor IntKind.u64 m (IntKind.u64.wrap (m * 8192)) = m1
  have b1 := bounds_u64 (hX1 ▸ wf_bits BinOp.xor IntKind.u64 m (IntKind.u64.wrap (m * 8192)))
  obtain ⟨b10, b11⟩ := b1
  clear hX1
  go_region
  go_wp2_with fail
  generalize hX2 : bits BinOp.xor IntKind.u64 m1 (m1 / 128) = m2
  have b2 := bounds_u64 (hX2 ▸ wf_bits BinOp.xor IntKind.u64 m1 (m1 / 128))
  obtain ⟨b20, b21⟩ := b2
  clear hX2
  go_region
  go_wp2_with fail
  generalize hX3 : bits BinOp.xor IntKind.u64 m2 (IntKind.u64.wrap (m2 * 131072)) = m3
  have w3 := hX3 ▸ wf_bits BinOp.xor IntKind.u64 m2 (IntKind.u64.wrap (m2 * 131072))
  have b3 := bounds_u64 w3
  obtain ⟨b30, b31⟩ := b3
  clear hX3
  go_ret
  refine ⟨_, m3, nq + 3, rfl, ?_, ?_, w3, ?_⟩
  · exact (draw_r hm hm2).1
  · exact (draw_r hm hm2).2
  · rfl

set_option maxHeartbeats 2000000 in
theorem n_byte (w : World) (g b off : Nat) (n cap k : Nat) (most m y : Int) (hl : n ≤ 1048576) (hm : 1 < most) (hm2 : most ≤ 9223372036854775807)
    (hlt : k < n) (wm : (Lit.int .u64 m).wf = true) (hy0 : 0 ≤ y) (hy1 : y ≤ 255) (c0 : w.cell? ⟨g, 0, none⟩ = some (.slice (some ⟨b, off, none⟩) n cap)) (c1 : w.cell? ⟨g, 1, none⟩ = some (.int .i64 (k : Int))) (c2 : w.cell? ⟨g, 2, none⟩ = some (.int .u64 m)) (f1 : w.frozen? ⟨g, 1, none⟩ = false) (f2 : w.frozen? ⟨g, 2, none⟩ = false)
    (cb : w.cell? ⟨b, off + k, none⟩ = some (.int .u8 y)) :
    Calls Tryd.prog 36 #[.pointer (some ⟨g, 0, none⟩), .int .i64 most] w fun e w' => ∃ r m' q, e = .returned (.int .i64 r) ∧ 0 ≤ r ∧ r < most ∧ (Lit.int .u64 m').wf = true ∧ w' = ((w.drewN q).setCell ⟨g, 1, none⟩ (.int .i64 ((k + 1 : Nat) : Int))).setCell ⟨g, 2, none⟩ (.int .u64 m') := by
  have bm := bounds_u64 wm
  obtain ⟨bm0, bm1⟩ := bm
  clear wm
  have hss := fun (W : World) (v v' : Value) => setCell_over W g 2 v v'
  have hki : (k : Int) < (n : Int) := by omega
  go_enter Tryd.func36, Tryd.ntmps36
  go_wp2_with fail
  go_quiet (fail)
  go_wp2_with fail
  go_quiet (fail)
  go_wp2_with fail
  rename_i nq1 _ _
  go_region
  go_wp2_with fail
  generalize hX1 : bits BinOp.xor IntKind.u64 m (IntKind.u64.wrap (m * 8192)) = m1
  have b1 := bounds_u64 (hX1 ▸ wf_bits BinOp.xor IntKind.u64 m (IntKind.u64.wrap (m * 8192)))
  obtain ⟨b10, b11⟩ := b1
  clear hX1
  go_region
  go_wp2_with fail
  generalize hX2 : bits BinOp.xor IntKind.u64 m1 (m1 / 128) = m2
  have b2 := bounds_u64 (hX2 ▸ wf_bits BinOp.xor IntKind.u64 m1 (m1 / 128))
  obtain ⟨b20, b21⟩ := b2
  clear hX2
  go_region
  go_wp2_with fail
  generalize hX3 : bits BinOp.xor IntKind.u64 m2 (IntKind.u64.wrap (m2 * 131072)) = m3
  have w3 := hX3 ▸ wf_bits BinOp.xor IntKind.u64 m2 (IntKind.u64.wrap (m2 * 131072))
  have b3 := bounds_u64 w3
  obtain ⟨b30, b31⟩ := b3
  clear hX3
  go_ret
  refine ⟨_, m3, nq1 + nq + 3, rfl, ?_, ?_, w3, ?_⟩
  · exact (draw_r hm hm2).1
  · exact (draw_r hm hm2).2
  · rfl

theorem set_block {w : World} {g : Nat} {c : Array Value} {t : TypeId} {fr : Nat × Nat} (h : w.heap[g]? = some (.cells c t fr)) (j : Nat) (u : Value) : (w.setCell ⟨g, j, none⟩ u).heap[g]? = some (.cells (c.setIfInBounds j u) t fr) := by
  have hlt : g < w.heap.size := (Array.getElem?_eq_some_iff.1 h).1
  have hv := (Array.getElem?_eq_some_iff.1 h).2
  unfold World.setCell
  rw [Array.getElem?_eq_getElem (by simpa using hlt)]
  simp [Array.getElem_modify, hv]
theorem grown_set {w : World} {g j : Nat} (u : Value) : w.grownBy (w.setCell ⟨g, j, none⟩ u) (some g) :=
  ⟨rfl, rfl, rfl, by simp, fun k _ hk => Below.heap_setCell w ⟨g, j, none⟩ u k (fun e => hk (by rw [e]))⟩
theorem grown_drewN (w : World) (k : Nat) (r : Option Nat) : w.grownBy (w.drewN k) r := ⟨rfl, rfl, rfl, Nat.le_refl _, fun _ _ _ => rfl⟩
theorem grown_trans' {a b c : World} {r : Option Nat} (h : a.grownBy b r) (k : b.grownBy c r) : a.grownBy c r :=
  ⟨k.os.trans h.os, k.tape.trans h.tape, k.output.trans h.output, Nat.le_trans h.size k.size, fun i hi hr => (k.block i (Nat.lt_of_lt_of_le hi h.size) hr).trans (h.block i hi hr)⟩
theorem below_grown {W0 w w' : World} {g : Nat} (h : Below W0.heap.size W0 w) (hg : W0.heap.size ≤ g) (k : w.grownBy w' (some g)) : Below W0.heap.size W0 w' :=
  h.grown k h.size (fun x hx => by cases hx; exact hg)

/-- n: a number below another one; 0, if that is at most 1. -/
theorem n_any {W0 w : World} {g : Nat} {a : Option Addr} {n cap : Nat} {zs : List Int} (hd : Dr W0 w g a n cap) (hn : n = zs.length) (hl : n ≤ 1048576) (hA : Ints .u8 W0 a zs) (hz : ∀ i, i < zs.length → 0 ≤ zs.getD i 0 ∧ zs.getD i 0 ≤ 255) (most : Int) (hm2 : most ≤ 9223372036854775807) :
    Calls Tryd.prog 36 #[.pointer (some ⟨g, 0, none⟩), .int .i64 most] w fun e w' => ∃ r, e = .returned (.int .i64 r) ∧ 0 ≤ r ∧ (1 < most → r < most) ∧ (most ≤ 1 → r = 0) ∧ Dr W0 w' g a n cap ∧ w.grownBy w' (some g) := by
  obtain ⟨⟨p, m, z, hp0, hp1, wm, hbox⟩, hbel, hthere⟩ := hd
  by_cases hm : most ≤ 1
  · go_enter Tryd.func36, Tryd.ntmps36
    go_wp2_with fail
    go_ret
    exact ⟨0, rfl, by omega, by omega, fun _ => rfl, ⟨⟨p, m, z, hp0, hp1, wm, hbox⟩, hbel, hthere⟩, grown_drewN w 0 _⟩
  obtain ⟨c0, c1, c2, c3, f0, f1, f2, f3⟩ := block4 hbox
  by_cases hlt : p < (n : Int)
  · obtain ⟨k, rfl⟩ : ∃ k : Nat, p = k := ⟨p.toNat, by omega⟩
    obtain ⟨b, off, ha, hc⟩ := hA
    have hkz : k < zs.length := by omega
    obtain rfl := ha (by omega)
    have cb := (hbel.cell (p := ⟨b, off + k, none⟩) (block_lt (hc k hkz))).trans (hc k hkz)
    have hzk := hz k hkz
    refine (n_byte w g b off n cap k most m (zs.getD k 0) hl (by omega) hm2 (by omega) wm hzk.1 hzk.2 c0 c1 c2 f1 f2 cb).mono ?_
    rintro e w' ⟨r, m', q, he, hr0, hr1, wm', rfl⟩
    have hg : w.grownBy (((w.drewN q).setCell ⟨g, 1, none⟩ (.int .i64 ((k + 1 : Nat) : Int))).setCell ⟨g, 2, none⟩ (.int .u64 m')) (some g) := grown_trans' (grown_trans' (grown_drewN w q _) (grown_set _)) (grown_set _)
    refine ⟨r, he, hr0, fun _ => hr1, fun h => absurd h hm, ⟨⟨((k + 1 : Nat) : Int), m', z, by omega, by omega, wm', ?_⟩, below_grown hbel hthere hg, hthere⟩, hg⟩
    have h1 := set_block (w := w.drewN q) hbox 1 (.int .i64 ((k + 1 : Nat) : Int))
    exact set_block h1 2 (.int .u64 m')
  · refine (n_end w g a n cap most p m (by omega) hm2 hlt wm c0 c1 c2 f2).mono ?_
    rintro e w' ⟨r, m', q, he, hr0, hr1, wm', rfl⟩
    have hg : w.grownBy ((w.drewN q).setCell ⟨g, 2, none⟩ (.int .u64 m')) (some g) := grown_trans' (grown_drewN w q _) (grown_set _)
    refine ⟨r, he, hr0, fun _ => hr1, fun h => absurd h hm, ⟨⟨p, m', z, hp0, hp1, wm', ?_⟩, below_grown hbel hthere hg, hthere⟩, hg⟩
    exact set_block (w := w.drewN q) hbox 2 (.int .u64 m')
end Go.Proofs.YtpkhdfddbcpciaaDoor
