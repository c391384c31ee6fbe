/- The law FnExactDeskWords: rows of texts, and the laws' helpers over them. -/
import Derived.Test.YtgjfdcncbblkgaaGreatDoorProg
import Derived.Test.YtgjfdcncbblkgaaGreatDoorBytes
import Derived.Test.YtgjfdcncbblkgaaGreatDoorStrs2
import Derived.Test.YtgjfdcncbblkgaaGreatDoorLists
import Derived.WalkKit
import Derived.WalkSpells
import Derived.WalkSmall
import Derived.Deep.RegionHeld3
namespace Go.Proofs.YtgjfdcncbblkgaaGreatDoor
open Go.RowKit Plain1 Lists Bytes Strs Strs2
set_option linter.unusedVariables false
set_option linter.unusedSimpArgs false

theorem mkHw {p : Prop} (h : p) : Hid p := h
theorem grR (w : World) (r : Option Nat) : w.grownBy w r := ⟨rfl, rfl, rfl, Nat.le_refl _, fun _ _ _ => rfl⟩
theorem grN {a b : World} {r : Option Nat} (h : a.grownBy b none) : a.grownBy b r := ⟨h.os, h.tape, h.output, h.size, fun i hi _ => h.block i hi (by simp)⟩
theorem grT {a b c : World} {r : Option Nat} (h : a.grownBy b r) (k : b.grownBy c r) : a.grownBy c r :=
  ⟨k.os.trans h.os, k.tape.trans h.tape, k.output.trans h.output, Nat.le_trans h.size k.size, fun i hi hr => (k.block i (Nat.lt_of_lt_of_le hi h.size) hr).trans (h.block i hi hr)⟩
theorem grA (w : World) (o : Obj) : w.grownBy (w.alloc o) none := ⟨rfl, rfl, rfl, by simp, fun _ hk _ => heap_alloc_old w o hk⟩
theorem grD (w : World) : w.grownBy w.drew none := ⟨rfl, rfl, rfl, Nat.le_refl _, fun _ _ _ => rfl⟩
theorem grS {w : World} {g j : Nat} (u : Value) : w.grownBy (w.setCell ⟨g, j, none⟩ u) (some g) :=
  ⟨rfl, rfl, rfl, by simp, fun k _ hk => Below.heap_setCell w ⟨g, j, none⟩ u k (by intro h; exact hk (by rw [h]))⟩
theorem grB {w w' : World} (h : w.grownBy w' none) : Below w.heap.size w w' := ⟨h.os, h.tape, h.output, h.size, fun i hi => h.block i hi (by simp)⟩
theorem cellK {w w' : World} {b o : Nat} {v : Value} (h : w'.heap[b]? = w.heap[b]?) (hc : w.cell? ⟨b, o, none⟩ = some v) : w'.cell? ⟨b, o, none⟩ = some v := by
  unfold World.cell? at *; simp only [h]; exact hc

/-- The cells of a row of texts. -/
def sc (l : List ByteArray) : List Value := l.map .string
theorem sc_len (l : List ByteArray) : (sc l).length = l.length := by simp [sc]
/-- A row of texts, read cell by cell. -/
def StAt (w : World) (g : Nat) (l : List ByteArray) : Prop := ∀ j (hj : j < l.length), w.cell? ⟨g, j, none⟩ = some (.string (l[j]'hj))
theorem StAt.keep {w w' : World} {g : Nat} {l : List ByteArray} (h : StAt w g l) (hk : w'.heap[g]? = w.heap[g]?) : StAt w' g l := fun j hj => cellK hk (h j hj)
theorem own_st {w : World} {B t g c : Nat} {l : List ByteArray} (h : w.ownsRow B t 1 (.slice (some ⟨g, 0, none⟩) l.length c) l.length (sc l)) : StAt w g l := fun j hj => by
  have k := h.cellAt j (by omega)
  simpa [sc, hj] using k

theorem conv_oneM (W : World) (c : Int) (n : Nat) (hn : n = W.heap.size) : (convert 35 9 (.slice (some ⟨n, 0, none⟩) 1 1)).run Tryz.prog (W.alloc (.cells #[.int .u8 c] 5)) = .ok (.string (strOfNums [c])) (W.alloc (.cells #[.int .u8 c] 5)) := by
  subst hn
  exact Bytes.conv_own (B := 0) (xs := [c]) Tryz.underlying35 Tryz.underlying5 Tryz.underlying9 (World.ownsRow_lit (size := 1) W #[.int .u8 c] 1 (Nat.zero_le _) (by decide) rfl)
def mtGo : Nat → Nat → ByteArray → ByteArray
  | 0, _, l => l
  | f + 1, k, l => if k = 0 then l else mtGo f (k / 10) (strOfNums [48 + (k : Int) % 10] ++ l)
def mt (k : Nat) : ByteArray := ⟨#[109]⟩ ++ mtGo k k ⟨#[]⟩
theorem one_size (c : Int) : (strOfNums [c]).size = 1 := rfl
set_option maxRecDepth 100000 in
set_option maxHeartbeats 2000000 in
theorem markText_any (k : Nat) (w : World) (h0 : 1 ≤ k) (h1 : k ≤ 1048576) :
    Calls Tryz.prog 10 #[.int .i64 (k : Int)] w fun e w' => e = .returned (.string (mt k)) ∧ w.grownBy w' none := by
  have hk0 : ¬ (k : Int) ≤ 0 := by omega
  have hcv := fun W c => conv_oneM W c _ rfl
  go_enter Tryz.func10, Tryz.ntmps10
  go_wp2
  go_loopw [0, 3] (fun i o wr => ∃ (f j : Nat) (out : ByteArray), j ≤ f ∧ out.size + j ≤ k ∧ i = .int .i64 j ∧ o = .string out ∧ mtGo f j out = mtGo k k ⟨#[]⟩ ∧ w.grownBy wr none) (fun i _ _ => (intOf i).toNat)
  case atStart => exact ⟨k, k, _, Nat.le_refl _, by simp [ByteArray.size], rfl, rfl, rfl, grR _ _⟩
  case round =>
    obtain ⟨f, j, out, hjf, hjk, rfl, rfl, hm, hg⟩ := hrel
    have HM := mkHw hm
    have HG := mkHw hg
    clear hm hg
    by_cases hj : j = 0
    · subst hj
      have hsz : ¬ 9223372036854775807 < 1 + out.size := by omega
      go_wp2
      go_ret
      refine ⟨?_, HG.out⟩
      have e : mtGo f 0 out = out := by cases f <;> simp [mtGo]
      unfold mt
      rw [← HM.out, e]
      rfl
    · have hj' : (j : Int) > 0 := by omega
      have hos := one_size (48 + (j : Int) % 10)
      have hsz : ¬ 9223372036854775807 < (strOfNums [48 + (j : Int) % 10]).size + out.size := by omega
      clear hos
      go_wp2
      go_roundw
      case rel =>
        obtain ⟨f', rfl⟩ : ∃ f', f = f' + 1 := ⟨f - 1, by omega⟩
        refine ⟨f', j / 10, _, by omega, ?_, by go_num, rfl, ?_, grT HG.out (grA _ _)⟩
        · rw [ByteArray.size_append, one_size]; omega
        · rw [← HM.out]
          conv => rhs; unfold mtGo
          rw [if_neg hj]
      case measure => simp [intOf]; omega

/-- The marks from 1 on. -/
def mkl (n : Nat) : List ByteArray := (List.range n).map fun i => mt (1 + i)
theorem mkl_len (n : Nat) : (mkl n).length = n := by simp [mkl]
theorem mkl_at (n j : Nat) (h : j < (mkl n).length) : (mkl n)[j]'h = mt (1 + j) := by simp [mkl]
theorem mkl_cells {n : Nat} {xs : List Value} (hl : xs.length = n) (h : ∀ j, j < n → xs[j]? = some (.string (mt (1 + j)))) : xs = sc (mkl n) := by
  apply List.ext_getElem?
  intro i
  by_cases hi : i < n
  · rw [h i hi]; simp [sc, mkl, hi]
  · rw [List.getElem?_eq_none (by omega), List.getElem?_eq_none (by rw [sc_len, mkl_len]; omega)]

set_option maxRecDepth 100000 in
set_option maxHeartbeats 4000000 in
theorem markStringS_any (B g n cap : Nat) (ys : List Value) (w : World) (hown : w.ownsRow B 9 1 (.slice (some ⟨g, 0, none⟩) n cap) n ys) (hn : n ≤ 1000) :
    Calls Tryz.prog 7 #[.slice (some ⟨g, 0, none⟩) n cap, .int .i64 1] w fun e w' => e = .returned (.int .i64 (1 + (n : Int))) ∧ w'.ownsRow B 9 1 (.slice (some ⟨g, 0, none⟩) n cap) n (sc (mkl n)) ∧ w.grownBy w' (some g) := by
  have HO0 := mkHw hown
  clear hown
  go_enter Tryz.func7, Tryz.ntmps7
  go_wp2
  go_loopw [1, 5] (fun kk i wr => ∃ (j : Nat) (xs : List Value), j ≤ n ∧ kk = .int .i64 (1 + (j : Int)) ∧ i = .int .i64 j ∧ wr.ownsRow B 9 1 (.slice (some ⟨g, 0, none⟩) n cap) n xs ∧ (∀ t, t < j → xs[t]? = some (.string (mt (1 + t)))) ∧ w.grownBy wr (some g)) (fun _ i _ => n - (intOf i).toNat)
  case atStart => exact ⟨0, ys, Nat.zero_le _, by simp, rfl, HO0.out, fun t ht => absurd ht (by omega), grR _ _⟩
  case round =>
    obtain ⟨j, xs, hj, rfl, rfl, ho, hx, hb⟩ := hrel
    have HX := mkHw hx
    have HB := mkHw hb
    have HO := mkHw ho
    clear hx hb ho
    by_cases hlt : j < n
    · have hxl : xs.length = n := by have := HO.out.1; omega
      have hm1 := markText_any (1 + j) wr (by omega) (by omega)
      rw [show ((1 + j : Nat) : Int) = 1 + (j : Int) by omega] at hm1
      go_wp2_with fail
      refine hm1.mono ?_
      rintro e w1 ⟨rfl, hg1⟩
      clear hm1
      have ho1 := HO.out.kept hg1 (.inr (by simp [Value.ownBlock]))
      have k1 := ho1.cellAt j (by omega)
      rw [List.getElem?_eq_getElem (by omega)] at k1
      have f1 := ho1.frozenAt j
      have hs1 := ho1.stored j (.string (mt (1 + j)))
      have HO1 := mkHw hs1.1
      have HB1 := mkHw (grT HB.out (grT (grN hg1) (grS (w := w1) (g := g) (j := j) (.string (mt (1 + j))))))
      clear ho1 hs1 hg1 HO HB
      go_wp2
      go_roundw
      case rel =>
        refine ⟨j + 1, _, by omega, by go_num, by go_num, HO1.out, fun t ht => ?_, HB1.out⟩
        by_cases hjk : t = j
        · subst hjk
          rw [List.getElem?_set_self (by omega)]
        · rw [List.getElem?_set_ne (by omega)]
          exact HX.out t (by omega)
      case measure => simp [intOf]; omega
    · obtain rfl : j = n := by omega
      go_wp2
      go_ret
      have e := mkl_cells (by have := HO.out.1; omega) HX.out
      rw [← e]
      exact ⟨rfl, HO.out, HB.out⟩

set_option maxRecDepth 100000 in
set_option maxHeartbeats 4000000 in
theorem heldStringS_any (w : World) (g n c : Nat) (hn : n ≤ 1000) (h : StAt w g (mkl n)) :
    Calls Tryz.prog 8 #[.slice (some ⟨g, 0, none⟩) n c, .int .i64 1] w fun e w' => e = .returned (.int .i64 (1 + (n : Int))) ∧ w.grownBy w' none := by
  have HA := mkHw h
  clear h
  go_enter Tryz.func8, Tryz.ntmps8
  go_wp2
  go_loopw [1, 5] (fun kk i wr => ∃ (k : Nat), k ≤ n ∧ kk = .int .i64 (1 + (k : Int)) ∧ i = .int .i64 k ∧ w.grownBy wr none) (fun _ i _ => n - (intOf i).toNat)
  case atStart => exact ⟨0, Nat.zero_le _, by simp, rfl, grR _ _⟩
  case round =>
    obtain ⟨k, hk, rfl, rfl, hgr⟩ := hrel
    have HG := mkHw hgr
    clear hgr
    by_cases hlt : k < n
    · have c0 := HA.out k (by rw [mkl_len]; exact hlt)
      rw [mkl_at] at c0
      have c1 := cellK (HG.out.block g (block_lt c0) (by simp)) c0
      have hm1 := fun W => markText_any (1 + k) W (by omega) (by omega)
      simp only [show ((1 + k : Nat) : Int) = 1 + (k : Int) by omega] at hm1
      have HM1 := mkHw hm1
      obtain ⟨M1, hM1⟩ : ∃ M1, mt (1 + k) = M1 := ⟨_, rfl⟩
      rw [hM1] at c1 HM1
      clear hm1 hM1 c0
      go_wp2_with fail
      go_region_held3 (fun W => W.cell? ⟨g, k, none⟩ = some (.string M1)) (go_keep)
        (first | (go_at_call 10; refine (HM1.out _).mono ?_; rintro e w' ⟨rfl, hg'⟩; have e1 := cellK (w := wr) (w' := w') (hg'.block g (block_lt c1) (by simp)) c1))
      have HG1 : Hid (w.grownBy w' none) := mkHw (grT HG.out (grT (grD wr) hg'))
      clear hg' c1 e1 HG HM1
      go_wp2
      go_roundw
      case rel => exact ⟨k + 1, by omega, by go_num, by go_num, HG1.out⟩
      case measure => simp [intOf]; omega
    · obtain rfl : k = n := by omega
      go_wp2
      go_ret
      exact ⟨rfl, HG.out⟩

set_option maxRecDepth 100000 in
set_option maxHeartbeats 4000000 in
theorem eqStringS_same (w : World) (g h c c' : Nat) (l : List ByteArray) (hl : l.length ≤ 1000) (ha : StAt w g l) (hb : StAt w h l) :
    Calls Tryz.prog 6 #[.slice (some ⟨g, 0, none⟩) l.length c, .slice (some ⟨h, 0, none⟩) l.length c'] w fun e w' => e = .returned (.bool true) ∧ w.grownBy w' none := by
  have HA := mkHw ha
  have HB := mkHw hb
  clear ha hb
  go_enter Tryz.func6, Tryz.ntmps6
  go_wp2
  go_loopw [5] (fun i wr => ∃ (k : Nat), k ≤ l.length ∧ i = .int .i64 k ∧ w.grownBy wr none) (fun i _ => l.length - (intOf i).toNat)
  case atStart => exact ⟨0, Nat.zero_le _, rfl, grR _ _⟩
  case round =>
    obtain ⟨k, hk, rfl, hgr⟩ := hrel
    by_cases hlt : k < l.length
    · have hlti : (k : Int) < (l.length : Int) := by omega
      have a0 := HA.out k hlt
      have b0 := HB.out k hlt
      have a1 := cellK (hgr.block g (block_lt a0) (by simp)) a0
      have b1 := cellK (hgr.block h (block_lt b0) (by simp)) b0
      have HG := mkHw hgr
      clear hgr a0 b0
      go_wp2_with fail
      go_region_held3 (fun W => W.cell? ⟨g, k, none⟩ = some (.string (l[k]'hlt)) ∧ W.cell? ⟨h, k, none⟩ = some (.string (l[k]'hlt))) (exact ⟨a1, b1⟩) (fail)
      have HG1 := mkHw (grT HG.out (grD wr))
      go_wp2
      go_roundw
      case rel => exact ⟨k + 1, by omega, by go_num, HG1.out⟩
      case measure => simp [intOf]; omega
    · have hlti : ¬ (k : Int) < (l.length : Int) := by omega
      have HG := mkHw hgr
      clear hgr
      go_wp2
      go_ret
      exact ⟨rfl, HG.out⟩
end Go.Proofs.YtgjfdcncbblkgaaGreatDoor
