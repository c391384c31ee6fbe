import Derived.Test.YtocnfoeaikiecaaGreatDoorProg
import Derived.Test.YtocnfoeaikiecaaGreatDoorPlA
import Derived.OpenShut
import Derived.BigQuiet
set_option maxHeartbeats 2000000
namespace Go.Proofs.YtocnfoeaikiecaaGreatDoor
open Go.RowKit Lists Tryz
structure Dr (W0 w : World) (g : Nat) (a : Option Addr) (n cap : Nat) : Prop where
 box : ∃ p m z : Int, 0 ≤ p ∧ p ≤ n ∧ (Lit.int .u64 m).wf = true ∧ (0 ≤ z ∧ z ≤ 12) ∧ w.heap[g]? = some (.cells #[.slice a n cap, .int .i64 p, .int .u64 m, .int .i64 z] 69)
 below : Below W0.heap.size W0 w
 there : W0.heap.size ≤ g
theorem bKf {w : World} {g : Nat} {a b c d : Value} {t : TypeId} (h : w.heap[g]? = some (.cells #[a, b, c, d] t)) :
 w.cell? ⟨g, 0, none⟩ = some a ∧ w.cell? ⟨g, 1, none⟩ = some b ∧ w.cell? ⟨g, 2, none⟩ = some c ∧ w.cell? ⟨g, 3, none⟩ = some d ∧ w.frozen? ⟨g, 0, none⟩ = false ∧ w.frozen? ⟨g, 1, none⟩ = false ∧ w.frozen? ⟨g, 2, none⟩ = false ∧ w.frozen? ⟨g, 3, none⟩ = false := by
 simp [World.cell?, World.frozen?, h]
theorem aKz (w : World) (blk off : Nat) (v v' : Value) : (w.setCell ⟨blk, off, none⟩ v).setCell ⟨blk, off, none⟩ v' = w.setCell ⟨blk, off, none⟩ v' := by
 unfold World.setCell
 simp only
 congr 1
 apply Array.ext
 · simp
 · intro i h1 h2
   simp only [Array.getElem_modify]
   split
   · cases w.heap[i]'(by simpa using h2) <;> simp
   · rfl
theorem cJn {x most : Int} (h : 1 < most) (h2 : most ≤ 9223372036854775807) : 0 ≤ wrap64 ((IntKind.u64.wrap x).tmod most) ∧ wrap64 ((IntKind.u64.wrap x).tmod most) < most := by
 have hb := bounds_u64 (wf_wrap .u64 x)
 generalize IntKind.u64.wrap x = y at hb ⊢
 rw [Int.tmod_eq_emod_of_nonneg hb.1]
 have h0 := Int.emod_nonneg y (show most ≠ 0 by omega)
 have h1 := Int.emod_lt_of_pos y (show 0 < most by omega)
 have e : wrap64 (y % most) = y % most := by unfold wrap64; omega
 rw [e]
 exact ⟨h0, h1⟩
theorem n_end (w : World) (g : Nat) (a : Option Addr) (n cap : Nat) (most p m : Int) (hm : 1 < most) (hm2 : most ≤ 9223372036854775807)
 (hlt : ¬ p < (n : Int)) (wm : (Lit.int .u64 m).wf = true) (c0 : w.cell? ⟨g, 0, none⟩ = some (.slice a n cap)) (c1 : w.cell? ⟨g, 1, none⟩ = some (.int .i64 p)) (c2 : w.cell? ⟨g, 2, none⟩ = some (.int .u64 m)) (f2 : w.frozen? ⟨g, 2, none⟩ = false) :
 Calls prog 15 #[.pointer (some ⟨g, 0, none⟩), .int .i64 most] w fun e w' => ∃ r m' k, e = .returned (.int .i64 r) ∧ 0 ≤ r ∧ r < most ∧ (Lit.int .u64 m').wf = true ∧ w' = (w.drewN k).setCell ⟨g, 2, none⟩ (.int .u64 m') := by
 have bm := bounds_u64 wm
 obtain ⟨bm0, bm1⟩ := bm
 clear wm
 have hss := fun (W : World) (v v' : Value) => aKz W g 2 v v'
 go_enter func15, ntmps15
 go_wp2_with fail
 go_quiet (fail)
 go_wp2_with fail
 go_region
 go_wp2_with fail
 generalize hX1 : bits BinOp.xor IntKind.u64 m (IntKind.u64.wrap (m * 8192)) = m1
 have b1 := bounds_u64 (hX1 ▸ wf_bits BinOp.xor IntKind.u64 m (IntKind.u64.wrap (m * 8192)))
 obtain ⟨b10, b11⟩ := b1
 clear hX1
 go_region
 go_wp2_with fail
 generalize hX2 : bits BinOp.xor IntKind.u64 m1 (m1 / 128) = m2
 have b2 := bounds_u64 (hX2 ▸ wf_bits BinOp.xor IntKind.u64 m1 (m1 / 128))
 obtain ⟨b20, b21⟩ := b2
 clear hX2
 go_region
 go_wp2_with fail
 generalize hX3 : bits BinOp.xor IntKind.u64 m2 (IntKind.u64.wrap (m2 * 131072)) = m3
 have w3 := hX3 ▸ wf_bits BinOp.xor IntKind.u64 m2 (IntKind.u64.wrap (m2 * 131072))
 have b3 := bounds_u64 w3
 obtain ⟨b30, b31⟩ := b3
 clear hX3
 go_ret
 refine ⟨_, m3, nq + 3, rfl, ?_, ?_, w3, ?_⟩
 · exact (cJn hm hm2).1
 · exact (cJn hm hm2).2
 · rfl
theorem n_byte (w : World) (g b off : Nat) (n cap k : Nat) (most m y : Int) (hl : n ≤ 1048576) (hm : 1 < most) (hm2 : most ≤ 9223372036854775807)
 (hlt : k < n) (wm : (Lit.int .u64 m).wf = true) (hy0 : 0 ≤ y) (hy1 : y ≤ 255) (c0 : w.cell? ⟨g, 0, none⟩ = some (.slice (some ⟨b, off, none⟩) n cap)) (c1 : w.cell? ⟨g, 1, none⟩ = some (.int .i64 (k : Int))) (c2 : w.cell? ⟨g, 2, none⟩ = some (.int .u64 m)) (f1 : w.frozen? ⟨g, 1, none⟩ = false) (f2 : w.frozen? ⟨g, 2, none⟩ = false)
 (cb : w.cell? ⟨b, off + k, none⟩ = some (.int .u8 y)) :
 Calls prog 15 #[.pointer (some ⟨g, 0, none⟩), .int .i64 most] w fun e w' => ∃ r m' q, e = .returned (.int .i64 r) ∧ 0 ≤ r ∧ r < most ∧ (Lit.int .u64 m').wf = true ∧ w' = ((w.drewN q).setCell ⟨g, 1, none⟩ (.int .i64 ((k + 1 : Nat) : Int))).setCell ⟨g, 2, none⟩ (.int .u64 m') := by
 have bm := bounds_u64 wm
 obtain ⟨bm0, bm1⟩ := bm
 clear wm
 have hss := fun (W : World) (v v' : Value) => aKz W g 2 v v'
 have hki : (k : Int) < (n : Int) := by omega
 go_enter func15, ntmps15
 go_wp2_with fail
 go_quiet (fail)
 go_wp2_with fail
 go_quiet (fail)
 go_wp2_with fail
 rename_i nq1 _ _
 go_region
 go_wp2_with fail
 generalize hX1 : bits BinOp.xor IntKind.u64 m (IntKind.u64.wrap (m * 8192)) = m1
 have b1 := bounds_u64 (hX1 ▸ wf_bits BinOp.xor IntKind.u64 m (IntKind.u64.wrap (m * 8192)))
 obtain ⟨b10, b11⟩ := b1
 clear hX1
 go_region
 go_wp2_with fail
 generalize hX2 : bits BinOp.xor IntKind.u64 m1 (m1 / 128) = m2
 have b2 := bounds_u64 (hX2 ▸ wf_bits BinOp.xor IntKind.u64 m1 (m1 / 128))
 obtain ⟨b20, b21⟩ := b2
 clear hX2
 go_region
 go_wp2_with fail
 generalize hX3 : bits BinOp.xor IntKind.u64 m2 (IntKind.u64.wrap (m2 * 131072)) = m3
 have w3 := hX3 ▸ wf_bits BinOp.xor IntKind.u64 m2 (IntKind.u64.wrap (m2 * 131072))
 have b3 := bounds_u64 w3
 obtain ⟨b30, b31⟩ := b3
 clear hX3
 go_ret
 refine ⟨_, m3, nq1 + nq + 3, rfl, ?_, ?_, w3, ?_⟩
 · exact (cJn hm hm2).1
 · exact (cJn hm hm2).2
 · rfl
theorem aKe {w : World} {g : Nat} {c : Array Value} {t : TypeId} {fr : Nat × Nat} (h : w.heap[g]? = some (.cells c t fr)) (j : Nat) (u : Value) : (w.setCell ⟨g, j, none⟩ u).heap[g]? = some (.cells (c.setIfInBounds j u) t fr) := by
 have hlt : g < w.heap.size := (gLt h)
 have hv := (Array.getElem?_eq_some_iff.1 h).2
 unfold World.setCell
 rw [Array.getElem?_eq_getElem (by simpa using hlt)]
 simp [Array.getElem_modify, hv]
theorem bJt {w : World} {g j : Nat} (u : Value) : w.grownBy (w.setCell ⟨g, j, none⟩ u) (some g) :=
 ⟨rfl, rfl, rfl, by simp, fun k _ hk => Below.heap_setCell w ⟨g, j, none⟩ u k (fun e => hk (by rw [e]))⟩
theorem aVh (w : World) (k : Nat) (r : Option Nat) : w.grownBy (w.drewN k) r := ⟨rfl, rfl, rfl, Nat.le_refl _, fun _ _ _ => rfl⟩
theorem aQ7 {a b c : World} {r : Option Nat} (h : a.grownBy b r) (k : b.grownBy c r) : a.grownBy c r :=
 ⟨k.os.trans h.os, k.tape.trans h.tape, k.output.trans h.output, Nat.le_trans h.size k.size, fun i hi hr => (k.block i (Nat.lt_of_lt_of_le hi h.size) hr).trans (h.block i hi hr)⟩
theorem below_grown {W0 w w' : World} {g : Nat} (h : Below W0.heap.size W0 w) (hg : W0.heap.size ≤ g) (k : w.grownBy w' (some g)) : Below W0.heap.size W0 w' :=
 h.grown k h.size (fun x hx => by cases hx; exact hg)
theorem n_any {W0 w : World} {g : Nat} {a : Option Addr} {n cap : Nat} {zs : List Int} (hd : Dr W0 w g a n cap) (hn : n = zs.length) (hl : n ≤ 1048576) (hA : Ints .u8 W0 a zs) (hz : ∀ i, i < zs.length → 0 ≤ zs.getD i 0 ∧ zs.getD i 0 ≤ 255) (most : Int) (hm2 : most ≤ 9223372036854775807) :
 Calls prog 15 #[.pointer (some ⟨g, 0, none⟩), .int .i64 most] w fun e w' => ∃ r, e = .returned (.int .i64 r) ∧ 0 ≤ r ∧ (1 < most → r < most) ∧ (most ≤ 1 → r = 0) ∧ Dr W0 w' g a n cap ∧ w.grownBy w' (some g) := by
 obtain ⟨⟨p, m, z, hp0, hp1, wm, hzz, hbox⟩, hbel, hthere⟩ := hd
 have HZZ : Hid (0 ≤ z ∧ z ≤ 12) := hzz
 clear hzz
 by_cases hm : most ≤ 1
 · go_enter func15, ntmps15
   go_wp2_with fail
   go_ret
   exact ⟨0, rfl, by omega, by omega, fun _ => rfl, ⟨⟨p, m, z, hp0, hp1, wm, HZZ.out, hbox⟩, hbel, hthere⟩, aVh w 0 _⟩
 obtain ⟨c0, c1, c2, c3, f0, f1, f2, f3⟩ := bKf hbox
 by_cases hlt : p < (n : Int)
 · obtain ⟨k, rfl⟩ : ∃ k : Nat, p = k := ⟨p.toNat, by omega⟩
   obtain ⟨b, off, ha, hc⟩ := hA
   have hkz : k < zs.length := by omega
   obtain rfl := ha (by omega)
   have cb := (hbel.cell (p := ⟨b, off + k, none⟩) (aQk (hc k hkz))).trans (hc k hkz)
   have hzk := hz k hkz
   refine (n_byte w g b off n cap k most m (zs.getD k 0) hl (by omega) hm2 (by omega) wm hzk.1 hzk.2 c0 c1 c2 f1 f2 cb).mono ?_
   rintro e w' ⟨r, m', q, he, hr0, hr1, wm', rfl⟩
   have hg : w.grownBy (((w.drewN q).setCell ⟨g, 1, none⟩ (.int .i64 ((k + 1 : Nat) : Int))).setCell ⟨g, 2, none⟩ (.int .u64 m')) (some g) := aQ7 (aQ7 (aVh w q _) (bJt _)) (bJt _)
   refine ⟨r, he, hr0, fun _ => hr1, fun h => absurd h hm, ⟨⟨((k + 1 : Nat) : Int), m', z, by omega, by omega, wm', HZZ.out, ?_⟩, below_grown hbel hthere hg, hthere⟩, hg⟩
   have h1 := aKe (w := w.drewN q) hbox 1 (.int .i64 ((k + 1 : Nat) : Int))
   exact aKe h1 2 (.int .u64 m')
 · refine (n_end w g a n cap most p m (by omega) hm2 hlt wm c0 c1 c2 f2).mono ?_
   rintro e w' ⟨r, m', q, he, hr0, hr1, wm', rfl⟩
   have hg : w.grownBy ((w.drewN q).setCell ⟨g, 2, none⟩ (.int .u64 m')) (some g) := aQ7 (aVh w q _) (bJt _)
   refine ⟨r, he, hr0, fun _ => hr1, fun h => absurd h hm, ⟨⟨p, m', z, hp0, hp1, wm', HZZ.out, ?_⟩, below_grown hbel hthere hg, hthere⟩, hg⟩
   exact aKe (w := w.drewN q) hbox 2 (.int .u64 m')
open Go.RowKit Lists
theorem aQd {p : Prop} (h : p) : Hid p := h
def Fed (W0 : World) (a : Option Addr) (n : Nat) : Prop := ∃ zs : List Int, n = zs.length ∧ n ≤ 1048576 ∧ Ints .u8 W0 a zs ∧ ∀ i, i < zs.length → 0 ≤ zs.getD i 0 ∧ zs.getD i 0 ≤ 255
theorem Dr.lt {W0 w : World} {g : Nat} {a : Option Addr} {n cap : Nat} (h : Dr W0 w g a n cap) : g < w.heap.size := by
 obtain ⟨_, _, _, _, _, _, _, hb⟩ := h.box
 exact (gLt hb)
theorem Dr.grown {W0 w w' : World} {g : Nat} {a : Option Addr} {n cap : Nat} {r : Option Nat} (h : Dr W0 w g a n cap) (hg : w.grownBy w' r) (hr : r ≠ some g) (hb : ∀ k, r = some k → W0.heap.size ≤ k) : Dr W0 w' g a n cap := by
 obtain ⟨⟨p, m, z, h1, h2, h3, h7, h4⟩, h5, h6⟩ := h
 exact ⟨⟨p, m, z, h1, h2, h3, h7, (hg.block g (gLt h4) (fun e => hr e.symm)).trans h4⟩, h5.grown hg h5.size hb, h6⟩
theorem Dr.on {W0 w w' : World} {g : Nat} {a : Option Addr} {n cap : Nat} (h : Dr W0 w g a n cap) (hb : Below w.heap.size w w') : Dr W0 w' g a n cap :=
 h.grown (r := none) ⟨hb.os, hb.tape, hb.output, hb.size, fun i hi _ => hb.block i hi⟩ (by simp) (by simp)
theorem Dr.alloc {W0 w : World} {g : Nat} {a : Option Addr} {n cap : Nat} (h : Dr W0 w g a n cap) (o : Obj) : Dr W0 (w.alloc o) g a n cap := h.on ((Below.refl _ _).alloc (Nat.le_refl _) o)
theorem Dr.mk' {W0 w : World} {a : Option Addr} {n cap : Nat} {m z : Int} (wm : (Lit.int .u64 m).wf = true) (hz : 0 ≤ z ∧ z ≤ 12) (h : w.heap[W0.heap.size]? = some (.cells #[.slice a n cap, .int .i64 0, .int .u64 m, .int .i64 z] 69)) (hb : Below W0.heap.size W0 w) : Dr W0 w W0.heap.size a n cap :=
 ⟨⟨0, m, z, by omega, by omega, wm, hz, h⟩, hb, Nat.le_refl _⟩
theorem aJh {W0 w : World} {g : Nat} {a : Option Addr} {n cap : Nat} (hS : Fed W0 a n) (hd : Dr W0 w g a n cap) (most : Int) (hm2 : most ≤ 9223372036854775807) :
 Calls prog 15 #[.pointer (some ⟨g, 0, none⟩), .int .i64 most] w fun e w' => ∃ r, e = .returned (.int .i64 r) ∧ 0 ≤ r ∧ (1 < most → r < most) ∧ (most ≤ 1 → r = 0) ∧ Dr W0 w' g a n cap ∧ w.grownBy w' (some g) := by
 obtain ⟨zs, h1, h2, h3, h4⟩ := hS
 exact n_any hd h1 h2 h3 h4 most hm2
theorem cWi {W0 w : World} {g : Nat} {a : Option Addr} {n cap : Nat} (hS : Fed W0 a n) (hd : Dr W0 w g a n cap) (most : Int) (hm2 : most ≤ 9223372036854775807) :
 Calls prog 14 #[.pointer (some ⟨g, 0, none⟩), .int .i64 most] w fun e w' => ∃ b, e = .returned (.bool b) ∧ Dr W0 w' g a n cap ∧ w.grownBy w' (some g) := by
 have hcall := aJh hS hd most hm2
 clear hd
 go_enter func14, ntmps14
 go_wp2_with fail
 refine hcall.mono ?_
 rintro e w1 ⟨r, rfl, h0, h1, h2, hd1, hg1⟩
 clear h1 h2
 go_wp2
 go_ret
 exact ⟨_, rfl, hd1, hg1⟩
theorem aQe {w w1 : World} {o : Obj} {r : Option Nat} (hg : (w.alloc o).grownBy w1 r) : w.grownBy w1 r := by
 have h1 : w.grownBy (w.alloc o) r := ⟨rfl, rfl, rfl, by simp, fun i hi _ => Below.heap_alloc w o i hi⟩
 exact aQ7 h1 hg
theorem bVw (a : Option Addr) (n cap : Nat) (w : World) (hS : Fed w a n) :
 Calls prog 11 #[.slice a n cap] w fun e w' => e = .returned (.pointer (some ⟨w.heap.size, 0, none⟩)) ∧ Dr w w' w.heap.size a n cap := by
 obtain ⟨zs, hn, hl, ⟨b, off, ha, hc⟩, hz⟩ := hS
 rw [← hn] at ha hc hz
 clear hn
 have hss := fun (W : World) (v v' : Value) => aKz W w.heap.size 2 v v'
 have hss3 := fun (W : World) (v v' : Value) => aKz W w.heap.size 3 v v'
 go_enter func11, ntmps11
 go_wp2_with fail
 go_loopw [4] (fun i wr => ∃ (k : Nat) (m : Int), k ≤ n ∧ i = .int .i64 k ∧ (Lit.int .u64 m).wf = true ∧ wr.heap[w.heap.size]? = some (.cells #[.slice a n cap, .int .i64 0, .int .u64 m, .int .i64 0] 69) ∧ Below w.heap.size w wr) (fun i _ => n - (intOf i).toNat)
 case atStart => exact ⟨0, _, Nat.zero_le _, rfl, by decide, heap_alloc_new w _, bAl⟩
 case round =>
  obtain ⟨k, m, hk, rfl, wm, hbox, hb⟩ := hrel
  obtain ⟨c0, c1, c2, c3, f0, f1, f2, f3⟩ := bKf hbox
  have HBX : Hid (wr.heap[w.heap.size]? = some (.cells #[.slice a n cap, .int .i64 0, .int .u64 m, .int .i64 0] 69)) := hbox
  have bm := bounds_u64 wm
  obtain ⟨bm0, bm1⟩ := bm
  clear hbox
  by_cases hlt : k < n ∧ k < 64
  · obtain ⟨hlt1, hlt2⟩ := hlt
    obtain rfl := ha (by omega)
    have cb := (hb.cell (p := ⟨b, off + k, none⟩) (aQk (hc k hlt1))).trans (hc k hlt1)
    have hzk := hz k hlt1
    obtain ⟨y, hy⟩ : ∃ y, y = zs.getD k 0 := ⟨_, rfl⟩
    rw [← hy] at cb hzk
    obtain ⟨hy0, hy1⟩ := hzk
    clear hc ha hz hy wm
    go_wp2_with fail
    go_region
    go_wp2_with fail
    go_roundw
    case rel => exact ⟨k + 1, _, by omega, by go_num, wf_wrap _ _, aKe (w := wr.drew) HBX.out 2 _, (hb.drew).setCell (Nat.le_refl _) _⟩
    case measure => simp [intOf]; omega
  · have hcase : ¬ k < n ∨ (k < n ∧ ¬ k < 64) := by omega
    clear hc ha hz hlt bm0 bm1
    rcases hcase with h1 | ⟨h1, h2⟩
    all_goals
     by_cases h12 : (12 : Int) < (n : Int) / 20
     all_goals
      go_wp2_with fail
      go_ret
      first | exact ⟨rfl, Dr.mk' wm ⟨by omega, by omega⟩ (aKe (aKe (w := wr) HBX.out 3 _) 3 _) ((hb.setCell (Nat.le_refl _) _).setCell (Nat.le_refl _) _)⟩ | exact ⟨rfl, Dr.mk' wm ⟨by omega, by omega⟩ (aKe (w := wr) HBX.out 3 _) (hb.setCell (Nat.le_refl _) _)⟩
open Go.RowKit Lists
def dQt (w : World) (b n S : Nat) : Prop := ∀ k, k < n → ∃ t : ByteArray, w.cell? ⟨b, k, none⟩ = some (.string t) ∧ t.size ≤ S
theorem dQt.grown {w w' : World} {b n S g : Nat} (h : dQt w b n S) (hg : w.grownBy w' (some g)) (hne : b ≠ g) : dQt w' b n S := fun k hk => by
 obtain ⟨t, h1, h2⟩ := h k hk
 exact ⟨t, (World.cell?_of_block (w := w) (hg.block b (aQk h1) (fun e => hne (by cases e; rfl)))).trans h1, h2⟩
def aXf (S : Nat) : Value → Bool
 | .string t => decide (t.data.size ≤ S)
 | _ => false
theorem aQy {w : World} {cs : Array Value} {t : TypeId} {S : Nat} (hall : cs.all (aXf S) = true) : dQt (w.alloc (.cells cs t)) w.heap.size cs.size S := by
 intro k hk
 have hc : (w.alloc (.cells cs t)).cell? ⟨w.heap.size, k, none⟩ = cs[k]? := by simp
 rw [hc, Array.getElem?_eq_getElem hk]
 rw [Array.all_eq_true] at hall
 have := hall k hk
 revert this
 cases cs[k] with
 | string x => intro h; exact ⟨x, rfl, of_decide_eq_true h⟩
 | _ => simp [aXf]
theorem aX7 {W0 w : World} {g : Nat} {a : Option Addr} {n cap : Nat} (hS : Fed W0 a n) (hd : Dr W0 w g a n cap) (b m c S : Nat) (hT : dQt w b m S) (hne : b ≠ g) (hm : 1 < m) (hm2 : m ≤ 1000) :
 Calls prog 16 #[.pointer (some ⟨g, 0, none⟩), .slice (some ⟨b, 0, none⟩) m c] w fun e w' => ∃ t : ByteArray, e = .returned (.string t) ∧ t.size ≤ S ∧ Dr W0 w' g a n cap ∧ w.grownBy w' (some g) := by
 have hcall := aJh hS hd (m : Int) (by omega)
 clear hd
 go_enter func16, ntmps16
 go_wp2_with fail
 refine hcall.mono ?_
 rintro e w1 ⟨r, rfl, h0, h1, -, hd1, hg1⟩
 have h1' := h1 (by omega)
 obtain ⟨k, rfl⟩ : ∃ k : Nat, r = k := ⟨r.toNat, by omega⟩
 obtain ⟨t, ht, hts⟩ := hT.grown hg1 hne k (by omega)
 clear hcall h1 hT
 go_wp2
 go_ret
 exact ⟨t, rfl, hts, hd1, hg1⟩
end Go.Proofs.YtocnfoeaikiecaaGreatDoor
