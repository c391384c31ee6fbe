import Derived.Test.YtdblemolaojebaaGreatDoorPlR
import Derived.Test.YtdblemolaojebaaGreatDoorFreA
set_option maxRecDepth 100000
set_option maxHeartbeats 2000000
set_option linter.unusedVariables false
namespace Go.Proofs.YtdblemolaojebaaGreatDoor
open Plain7
def bJn (s : ByteArray) : List UInt8 := if 4000 < s.size then [] else bQa s.data.toList
open Go.RowKit Plain7 Lists
theorem size_mk (l : List UInt8) : (⟨l.toArray⟩ : ByteArray).size = l.length := by simp [ByteArray.size]
theorem bZo (s old new : ByteArray) (m : Int) (w : World) (hm : w.cell? ⟨1, 0, none⟩ = some (.int .i64 m)) (hs : s.size ≤ 4000) (h1 : 1 ≤ old.size) (hn : new.size ≤ 4) :
 Calls Tryz.prog 13 #[.string s, .string old, .string new] w fun e w' => e = .returned (.string ⟨(Lib.replaceAll s.data.toList old.data.toList new.data.toList).toArray⟩) ∧ Below w.heap.size w w' := by
 refine Tryz.strings_ReplaceAll s old new m w (by omega) hm h1 ?_
 have hc : Lib.countB s old ≤ s.size + 1 := by
  have := Lib.count_le s.data.toList old.data.toList
  have e : s.data.toList.length = s.size := by simp
  rw [e] at this
  exact this
 have h2 : Lib.countB s old * new.size ≤ (s.size + 1) * 4 := Nat.mul_le_mul hc hn
 omega
theorem implEnds_any (s : ByteArray) (m : Int) (w : World) (hm : w.cell? ⟨1, 0, none⟩ = some (.int .i64 m)) :
 Calls Tryz.prog 7 #[.string s] w fun e w' => e = .returned (.string ⟨(bJn s).toArray⟩) ∧ Below w.heap.size w w' := by
 by_cases hbig : 4000 < s.size
 · have e : bJn s = [] := by unfold bJn; rw [if_pos hbig]
   rw [e]
   clear hm
   go_enter Tryz.func7, Tryz.ntmps7
   go_wp2
   go_ret
   exact ⟨rfl, Below.refl _ _⟩
 have e : bJn s = bQa s.data.toList := by unfold bJn; rw [if_neg hbig]
 rw [e, ← bZ8 s.data.toList.length s.data.toList (Nat.le_refl _)]
 clear e
 have hz : 1 < w.heap.size := aQf hm
 have c1 := bZo s ⟨#[13, 10]⟩ ⟨#[10]⟩ m w hm (by omega) (by decide) (by decide)
 have hl : (Lib.replaceAll s.data.toList [13, 10] [10]).length ≤ s.size := by
  have := rep_len [10] s.data.toList.length [13, 10] s.data.toList (Nat.le_refl _) (by simp) rfl (by simp)
  have e : s.data.toList.length = s.size := by simp
  omega
 have e1 : (⟨#[13, 10]⟩ : ByteArray).data.toList = [13, 10] := rfl
 have e2 : (⟨#[10]⟩ : ByteArray).data.toList = [10] := rfl
 have e3 : (⟨#[13]⟩ : ByteArray).data.toList = [13] := rfl
 rw [e1, e2] at c1
 obtain ⟨L1, hL1⟩ : ∃ L, Lib.replaceAll s.data.toList [13, 10] [10] = L := ⟨_, rfl⟩
 rw [hL1] at c1 hl ⊢
 clear hL1
 have c2 := fun wx hx => bZo ⟨L1.toArray⟩ ⟨#[13]⟩ ⟨#[10]⟩ m wx hx (by rw [size_mk]; omega) (by decide) (by decide)
 rw [e2, e3] at c2
 clear e1 e2 e3
 have HM : Hid (w.cell? ⟨1, 0, none⟩ = some (.int .i64 m)) := hm
 clear hm
 go_enter Tryz.func7, Tryz.ntmps7
 go_wp2_with fail
 refine c1.mono ?_
 rintro e w1 ⟨rfl, hb1⟩
 clear c1
 have c3 := c2 w1 ((hb1.cell (p := ⟨1, 0, none⟩) hz).trans HM.out)
 clear c2
 go_wp2_with fail
 refine c3.mono ?_
 rintro e w2 ⟨rfl, hb2⟩
 clear c3
 go_wp2
 go_ret
 exact ⟨rfl, hb1.trans (hb2.mono hb1.size)⟩
open Go.RowKit
theorem bZq (rb ob : Nat) (c p : Int) (sa : Option Addr) (sn sc : Nat) (w : World) (h2 : w.cell? ⟨rb, 2, none⟩ = some (.slice sa sn sc)) (h4 : w.cell? ⟨rb, 4, none⟩ = some (.int .i64 p)) (hr : rb < w.heap.size) (ho : ob < w.heap.size) (f0 : w.frozen? ⟨ob, 0, none⟩ = false) (f1 : w.frozen? ⟨ob, 1, none⟩ = false) (f2 : w.frozen? ⟨ob, 2, none⟩ = false) (o0 : ∃ x, w.cell? ⟨ob, 0, none⟩ = some x) (o1 : ∃ x, w.cell? ⟨ob, 1, none⟩ = some x) (o2 : ∃ x, w.cell? ⟨ob, 2, none⟩ = some x) :
 CallsD Tryz.prog 9 #[.pointer (some ⟨rb, 0, none⟩), .pointer (some ⟨ob, 0, none⟩)] (.panicking [{ v := .iface 53 (.agg #[.int .i64 c]), recovered := false }]) w fun e u' w' =>
  e = .returned (.tuple #[]) ∧ u' = .panicking [{ v := .iface 53 (.agg #[.int .i64 c]), recovered := true }] ∧ w' = (((w.alloc (.cells #[.int .i64 c] 53)).setCell ⟨ob, 0, none⟩ (.slice sa sn sc)).setCell ⟨ob, 1, none⟩ (.int .i64 p)).setCell ⟨ob, 2, none⟩ (.int .i64 c) := by
 obtain ⟨x0, o0⟩ := o0
 obtain ⟨x1, o1⟩ := o1
 obtain ⟨x2, o2⟩ := o2
 have hta : ∀ w, (Instr.typeAssert (.iface 53 (.agg #[.int .i64 c])) 20 53 true).run Tryz.prog w = .ok (.tuple #[.agg #[.int .i64 c], .bool true]) w := fun w => by kernel_rfl
 refine callsD_of_wpS Tryz.func9 rfl fun c₀ cs hu => ?_
 apply wpS_seq
 apply wpS_region
 simp [wpOpsS, go_sem, recoverD, hu, Tryz.ntmps9, Exit.thenS, hta]
 apply wpS_seq
 apply wpS_region
 simp [wpOpsS, go_sem, Exit.thenS]
 refine wpS_cond (t := true) (by simp [Act.eval, Array.replicate]) ?_
 simp only [if_true]
 have k2 := (World.cell?_of_block (a := ⟨rb, 2, none⟩) (heap_alloc_old w (.cells #[.int .i64 c] 53) hr)).trans h2
 have k4 := (World.cell?_of_block (a := ⟨rb, 4, none⟩) (heap_alloc_old w (.cells #[.int .i64 c] 53) hr)).trans h4
 have m0 : (w.alloc (.cells #[.int .i64 c] 53)).cell? ⟨w.heap.size, 0, none⟩ = some (.int .i64 c) := by simp
 have q0 : (w.alloc (.cells #[.int .i64 c] 53)).frozen? ⟨ob, 0, none⟩ = false := by unfold World.frozen? at f0 ⊢; rw [heap_alloc_old w _ ho]; exact f0
 have q1 : (w.alloc (.cells #[.int .i64 c] 53)).frozen? ⟨ob, 1, none⟩ = false := by unfold World.frozen? at f1 ⊢; rw [heap_alloc_old w _ ho]; exact f1
 have q2 : (w.alloc (.cells #[.int .i64 c] 53)).frozen? ⟨ob, 2, none⟩ = false := by unfold World.frozen? at f2 ⊢; rw [heap_alloc_old w _ ho]; exact f2
 have p0 := (World.cell?_of_block (a := ⟨ob, 0, none⟩) (heap_alloc_old w (.cells #[.int .i64 c] 53) ho)).trans o0
 have p1 := (World.cell?_of_block (a := ⟨ob, 1, none⟩) (heap_alloc_old w (.cells #[.int .i64 c] 53) ho)).trans o1
 have p2 := (World.cell?_of_block (a := ⟨ob, 2, none⟩) (heap_alloc_old w (.cells #[.int .i64 c] 53) ho)).trans o2
 generalize w.heap.size = mb at *
 generalize w.alloc (.cells #[.int .i64 c] 53) = W1 at *
 clear h2 h4 f0 f1 f2 o0 o1 o2 hr ho hta
 refine wpS_of_wp ?_
 simp (config := { decide := false }) only [Array.replicate, List.replicate, Array.setIfInBounds, List.size_toArray, List.length_cons, List.length_nil, List.set_toArray, List.set]
 go_wp2
 simp [bodyPostS, results, Tryz.results9]
theorem bZp (rb ob : Nat) (w : World) :
 CallsD Tryz.prog 9 #[.pointer (some ⟨rb, 0, none⟩), .pointer (some ⟨ob, 0, none⟩)] .returning w fun e u' w' => e = .returned (.tuple #[]) ∧ u' = .returning ∧ w' = w.alloc (.cells #[.int .i64 0] 53) := by
 have hta : ∀ w, (Instr.typeAssert .nilIface 20 53 true).run Tryz.prog w = .ok (.tuple #[.agg #[.int .i64 0], .bool false]) w := fun w => by kernel_rfl
 refine callsD_of_wpS Tryz.func9 rfl fun c₀ cs hu => ?_
 apply wpS_seq
 apply wpS_region
 simp [wpOpsS, go_sem, recoverD, hu, Tryz.ntmps9, Exit.thenS, hta]
 apply wpS_seq
 apply wpS_region
 simp [wpOpsS, go_sem, Exit.thenS]
 refine wpS_cond (t := false) (by simp [Act.eval, Array.replicate]) ?_
 simp only [Bool.false_eq_true, if_false]
 refine wpS_of_wp (wp_skip ?_)
 cases c₀
 simp_all [bodyPostS, results, Tryz.results9]
end Go.Proofs.YtdblemolaojebaaGreatDoor
