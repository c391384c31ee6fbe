/- The code of a fault, as the program tells it by errors.As. -/
import Derived.Test.YtefahocflhlgiaaGreatDoorImE3
namespace Go.Proofs.YtefahocflhlgiaaGreatDoor
open Go.RowKit Go.Extern.Stop Go.Stop Go.Extern Plain1 Plain2 Strs Strs2 Lists Plain3 Plain5 Plain6 Plain9 Plain10 Plain11 Plain12 Plain13 Plain14

def EtCell (w : World) : Prop := w.cell? ⟨0, 0, none⟩ = some (.iface 169 (.agg #[.pointer (some ⟨14, 67, none⟩)]))
theorem EtCell.grow {w w' : World} (h : EtCell w) (hg : w.grownBy w' none) : EtCell w' :=
  cell_keepF (hg.block _ (block_lt h) (fun e => by cases e)) h

set_option maxRecDepth 100000 in
set_option maxHeartbeats 4000000 in
theorem faultCode_s (w : World) (closed : Bool) (hg : EtCell w) :
    Calls Tryz.prog 30 #[errV 1, .bool closed] w fun e w' => e = .returned (.int .i64 (flCode 1 closed)) ∧ w.grownBy w' none := by
  have HG := mkHidI1 hg
  clear hg
  rw [errV1]
  have h1 := as_hit_s (w.alloc (.cells #[] 102)) ⟨w.heap.size, 0, none⟩ (HG.out.grow (gnA3 _ _))
  cases closed with
  | false =>
    go_enter Tryz.func30, Tryz.ntmps30
    go_wp2_with fail
    refine h1.mono ?_
    rintro e w1 ⟨rfl, hg1⟩
    go_wp2
    go_ret
    exact ⟨rfl, im_gtrans (gnA3 _ _) hg1⟩
  | true =>
    have h2 := fun (w1 : World) (hg1 : (w.alloc (.cells #[] 102)).grownBy w1 none) => as_miss_s (w1.alloc (.cells #[.int .i64 0] 106)) ⟨w1.heap.size, 0, none⟩ (((HG.out.grow (gnA3 _ _)).grow hg1).grow (gnA3 w1 _))
    go_enter Tryz.func30, Tryz.ntmps30
    go_wp2_with fail
    refine h1.mono ?_
    rintro e w1 ⟨rfl, hg1⟩
    have h3 := h2 w1 hg1
    clear h1 h2
    go_wp2_with fail
    refine h3.mono ?_
    rintro e w2 ⟨rfl, hg2⟩
    go_wp2
    go_ret
    exact ⟨rfl, im_gtrans (im_gtrans (im_gtrans (gnA3 _ _) hg1) (gnA3 _ _)) hg2⟩

set_option maxRecDepth 100000 in
set_option maxHeartbeats 4000000 in
theorem faultCode_w (w : World) (closed : Bool) (c : Int) (hg : EtCell w) :
    Calls Tryz.prog 30 #[.iface 106 (.agg #[.int .i64 c]), .bool closed] w fun e w' => e = .returned (.int .i64 c) ∧ w.grownBy w' none := by
  have HG := mkHidI1 hg
  clear hg
  have h1 := as_miss_w (w.alloc (.cells #[] 102)) ⟨w.heap.size, 0, none⟩ c (HG.out.grow (gnA3 _ _))
  have h2 := fun (w1 : World) (hg1 : (w.alloc (.cells #[] 102)).grownBy w1 none) => as_hit_w (w1.alloc (.cells #[.int .i64 0] 106)) ⟨w1.heap.size, 0, none⟩ c (.int .i64 0) (by simp) (by simp) (((HG.out.grow (gnA3 _ _)).grow hg1).grow (gnA3 w1 _))
  go_enter Tryz.func30, Tryz.ntmps30
  go_wp2_with fail
  refine h1.mono ?_
  rintro e w1 ⟨rfl, hg1⟩
  have h3 := h2 w1 hg1
  clear h1 h2
  go_wp2_with fail
  refine h3.mono ?_
  rintro e w2 ⟨rfl, w3, hg3, hw⟩
  have hc : w2.cell? ⟨w1.heap.size, 0, none⟩ = some (.int .i64 c) := by
    have hb := hg3.block w1.heap.size (by simp) (by simp)
    rw [hw]
    have h0 : (w1.alloc (.cells #[.int .i64 0] 106)).heap[w1.heap.size]? = some (.cells #[.int .i64 0] 106) := Below.heap_new _ _
    have h4 := set5 (hb.trans h0) 0 (.int .i64 c)
    simp [World.cell?, h4]
  have hgg : w.grownBy w2 none := by
    have h5 : w1.grownBy w2 none := by
      rw [hw]
      exact gsetNew (im_gtrans (gnA3 _ _) hg3) (Nat.le_refl _) _
    exact im_gtrans (im_gtrans (gnA3 _ _) hg1) h5
  clear h3 hg3 hw
  go_wp2
  go_ret
  exact ⟨rfl, hgg⟩

theorem faultCode_any (w : World) (f : Nat) (closed : Bool) (hf : f ≠ 0) (h3 : f ≤ 3) (hg : EtCell w) :
    Calls Tryz.prog 30 #[errV f, .bool closed] w fun e w' => e = .returned (.int .i64 (flCode f closed)) ∧ w.grownBy w' none := by
  have : f = 1 ∨ f = 2 ∨ f = 3 := by omega
  rcases this with rfl | rfl | rfl
  · exact faultCode_s w closed hg
  · exact faultCode_w w closed 3 hg
  · exact faultCode_w w closed 6 hg
end Go.Proofs.YtefahocflhlgiaaGreatDoor
