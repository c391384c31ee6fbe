/- The contracts of the model's drawing: one, l01Source. -/
import Derived.Test.YtpkhdfddbcpciaaDoorDrawN
namespace Go.Proofs.YtpkhdfddbcpciaaDoor
open Go.RowKit Plain1 Lists

theorem mkHidD {p : Prop} (h : p) : Hid p := h
/-- The bytes that came in and are drawn from. -/
def Fed (W0 : World) (a : Option Addr) (n : Nat) : Prop := ∃ zs : List Int, n = zs.length ∧ n ≤ 1048576 ∧ Ints .u8 W0 a zs ∧ ∀ i, i < zs.length → 0 ≤ zs.getD i 0 ∧ zs.getD i 0 ≤ 255

theorem Dr.lt {W0 w : World} {g : Nat} {a : Option Addr} {n cap : Nat} (h : Dr W0 w g a n cap) : g < w.heap.size := by
  obtain ⟨_, _, _, _, _, _, hb⟩ := h.box
  exact (Array.getElem?_eq_some_iff.1 hb).1
theorem Dr.grown {W0 w w' : World} {g : Nat} {a : Option Addr} {n cap : Nat} {r : Option Nat} (h : Dr W0 w g a n cap) (hg : w.grownBy w' r) (hr : r ≠ some g) (hb : ∀ k, r = some k → W0.heap.size ≤ k) : Dr W0 w' g a n cap := by
  obtain ⟨⟨p, m, z, h1, h2, h3, h4⟩, h5, h6⟩ := h
  exact ⟨⟨p, m, z, h1, h2, h3, (hg.block g (Array.getElem?_eq_some_iff.1 h4).1 (fun e => hr e.symm)).trans h4⟩, h5.grown hg h5.size hb, h6⟩
theorem Dr.on {W0 w w' : World} {g : Nat} {a : Option Addr} {n cap : Nat} (h : Dr W0 w g a n cap) (hb : Below w.heap.size w w') : Dr W0 w' g a n cap :=
  h.grown (r := none) ⟨hb.os, hb.tape, hb.output, hb.size, fun i hi _ => hb.block i hi⟩ (by simp) (by simp)
theorem Dr.alloc {W0 w : World} {g : Nat} {a : Option Addr} {n cap : Nat} (h : Dr W0 w g a n cap) (o : Obj) : Dr W0 (w.alloc o) g a n cap := h.on ((Below.refl _ _).alloc (Nat.le_refl _) o)

theorem Dr.mk' {W0 w : World} {a : Option Addr} {n cap : Nat} {m z : Int} (wm : (Lit.int .u64 m).wf = true) (h : w.heap[W0.heap.size]? = some (.cells #[.slice a n cap, .int .i64 0, .int .u64 m, .int .i64 z] 65)) (hb : Below W0.heap.size W0 w) : Dr W0 w W0.heap.size a n cap :=
  ⟨⟨0, m, z, by omega, by omega, wm, h⟩, hb, Nat.le_refl _⟩

theorem draw_any {W0 w : World} {g : Nat} {a : Option Addr} {n cap : Nat} (hS : Fed W0 a n) (hd : Dr W0 w g a n cap) (most : Int) (hm2 : most ≤ 9223372036854775807) :
    Calls Tryd.prog 36 #[.pointer (some ⟨g, 0, none⟩), .int .i64 most] w fun e w' => ∃ r, e = .returned (.int .i64 r) ∧ 0 ≤ r ∧ (1 < most → r < most) ∧ (most ≤ 1 → r = 0) ∧ Dr W0 w' g a n cap ∧ w.grownBy w' (some g) := by
  obtain ⟨zs, h1, h2, h3, h4⟩ := hS
  exact n_any hd h1 h2 h3 h4 most hm2

theorem one_any {W0 w : World} {g : Nat} {a : Option Addr} {n cap : Nat} (hS : Fed W0 a n) (hd : Dr W0 w g a n cap) (most : Int) (hm2 : most ≤ 9223372036854775807) :
    Calls Tryd.prog 48 #[.pointer (some ⟨g, 0, none⟩), .int .i64 most] w fun e w' => ∃ b, e = .returned (.bool b) ∧ Dr W0 w' g a n cap ∧ w.grownBy w' (some g) := by
  have hcall := draw_any hS hd most hm2
  clear hd
  go_enter Tryd.func48, Tryd.ntmps48
  go_wp2_with fail
  refine hcall.mono ?_
  rintro e w1 ⟨r, rfl, h0, h1, h2, hd1, hg1⟩
  clear h1 h2
  go_wp2
  go_ret
  exact ⟨_, rfl, hd1, hg1⟩

def isInt64 : Value → Bool
  | .int .i64 _ => true
  | _ => false
/-- A row of integers laid ahead of a draw: its cell behind it. -/
theorem lit_int {w w1 : World} {g k : Nat} {cs : Array Value} {t : TypeId} (hg : (w.alloc (.cells cs t)).grownBy w1 (some g)) (hgw : g < w.heap.size) (hk : k < cs.size) (hall : cs.all isInt64 = true) : ∃ x, w1.cell? ⟨w.heap.size, k, none⟩ = some (.int .i64 x) := by
  have e : w1.heap[w.heap.size]? = some (.cells cs t) := by
    rw [hg.block w.heap.size (by simp) (fun h => by simp at h; omega)]
    exact heap_alloc_new w _
  have hc : w1.cell? ⟨w.heap.size, k, none⟩ = cs[k]? := by simp [World.cell?, e]
  rw [hc, Array.getElem?_eq_getElem hk]
  rw [Array.all_eq_true] at hall
  have := hall k hk
  revert this
  cases cs[k] with
  | int kk x => cases kk <;> simp [isInt64]
  | _ => simp [isInt64]

theorem grown_of_alloc {w w1 : World} {o : Obj} {r : Option Nat} (hg : (w.alloc o).grownBy w1 r) : w.grownBy w1 r := by
  have h1 : w.grownBy (w.alloc o) r := ⟨rfl, rfl, rfl, by simp, fun i hi _ => Below.heap_alloc w o i hi⟩
  exact grown_trans' h1 hg

set_option maxHeartbeats 2000000 in
theorem source_any (a : Option Addr) (n cap : Nat) (w : World) (hS : Fed w a n) :
    Calls Tryd.prog 31 #[.slice a n cap] w fun e w' => e = .returned (.pointer (some ⟨w.heap.size, 0, none⟩)) ∧ Dr w w' w.heap.size a n cap := by
  obtain ⟨zs, hn, hl, ⟨b, off, ha, hc⟩, hz⟩ := hS
  rw [← hn] at ha hc hz
  clear hn
  have hss := fun (W : World) (v v' : Value) => setCell_over W w.heap.size 2 v v'
  have hss3 := fun (W : World) (v v' : Value) => setCell_over W w.heap.size 3 v v'
  go_enter Tryd.func31, Tryd.ntmps31
  go_wp2_with fail
  go_loopw [4] (fun i wr => ∃ (k : Nat) (m : Int), k ≤ n ∧ i = .int .i64 k ∧ (Lit.int .u64 m).wf = true ∧ wr.heap[w.heap.size]? = some (.cells #[.slice a n cap, .int .i64 0, .int .u64 m, .int .i64 0] 65) ∧ Below w.heap.size w wr) (fun i _ => n - (intOf i).toNat)
  case atStart => exact ⟨0, _, Nat.zero_le _, rfl, by decide, heap_alloc_new w _, (Below.refl _ _).alloc (Nat.le_refl _) _⟩
  case round =>
    obtain ⟨k, m, hk, rfl, wm, hbox, hb⟩ := hrel
    obtain ⟨c0, c1, c2, c3, f0, f1, f2, f3⟩ := block4 hbox
    have HBX : Hid (wr.heap[w.heap.size]? = some (.cells #[.slice a n cap, .int .i64 0, .int .u64 m, .int .i64 0] 65)) := hbox
    have bm := bounds_u64 wm
    obtain ⟨bm0, bm1⟩ := bm
    clear hbox
    by_cases hlt : k < n ∧ k < 64
    · obtain ⟨hlt1, hlt2⟩ := hlt
      obtain rfl := ha (by omega)
      have cb := (hb.cell (p := ⟨b, off + k, none⟩) (block_lt (hc k hlt1))).trans (hc k hlt1)
      have hzk := hz k hlt1
      obtain ⟨y, hy⟩ : ∃ y, y = zs.getD k 0 := ⟨_, rfl⟩
      rw [← hy] at cb hzk
      obtain ⟨hy0, hy1⟩ := hzk
      clear hc ha hz hy wm
      go_wp2_with fail
      go_region
      go_wp2_with fail
      go_roundw
      case rel => exact ⟨k + 1, _, by omega, by go_num, wf_wrap _ _, set_block (w := wr.drew) HBX.out 2 _, (hb.drew).setCell (Nat.le_refl _) _⟩
      case measure => simp [intOf]; omega
    · have hcase : ¬ k < n ∨ (k < n ∧ ¬ k < 64) := by omega
      clear hc ha hz hlt bm0 bm1
      rcases hcase with h1 | ⟨h1, h2⟩
      all_goals
        by_cases h12 : (12 : Int) < (n : Int) / 20
        all_goals
          go_wp2_with fail
          go_ret
          first | exact ⟨rfl, Dr.mk' wm (set_block (set_block (w := wr) HBX.out 3 _) 3 _) ((hb.setCell (Nat.le_refl _) _).setCell (Nat.le_refl _) _)⟩ | exact ⟨rfl, Dr.mk' wm (set_block (w := wr) HBX.out 3 _) (hb.setCell (Nat.le_refl _) _)⟩
end Go.Proofs.YtpkhdfddbcpciaaDoor
