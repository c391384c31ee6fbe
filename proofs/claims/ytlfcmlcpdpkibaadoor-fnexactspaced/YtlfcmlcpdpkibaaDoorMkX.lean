/- The laws' marks: the text of a number. -/
/- The laws' marks on a row of attributes, from any number on. -/
/- Are the marks on a row of attributes held? -/
/- The laws' helpers over names with their spaces: are two alike? -/
/- The laws' helpers over nodes: are two alike? -/
/- The laws' helpers over rows of nodes: are two alike? -/
/- The law's helper over two answers: are they alike? -/
import Derived.Test.YtlfcmlcpdpkibaaDoorEvA
import Derived.Test.YtlfcmlcpdpkibaaDoorPlA
import Derived.Test.YtlfcmlcpdpkibaaDoorSpR
namespace Go.Proofs.YtlfcmlcpdpkibaaDoor
open Go.RowKit Lists Ents PlainR PlainN Bytes Strs Strs2

theorem conv_oneM (W : World) (c : Int) (n : Nat) (hn : n = W.heap.size) : (convert 75 9 (.slice (some ⟨n, 0, none⟩) 1 1)).run Tryd.prog (W.alloc (.cells #[.int .u8 c] 5)) = .ok (.string (strOfNums [c])) (W.alloc (.cells #[.int .u8 c] 5)) := by
  subst hn
  exact Bytes.conv_own (B := 0) (xs := [c]) Tryd.underlying75 Tryd.underlying5 Tryd.underlying9 (World.ownsRow_lit (size := 1) W #[.int .u8 c] 1 (Nat.zero_le _) (by decide) rfl)
def mtGo : Nat → Nat → ByteArray → ByteArray
  | 0, _, l => l
  | f + 1, k, l => if k = 0 then l else mtGo f (k / 10) (strOfNums [48 + (k : Int) % 10] ++ l)
def mt (k : Nat) : ByteArray := ⟨#[109]⟩ ++ mtGo k k ⟨#[]⟩

theorem one_size (c : Int) : (strOfNums [c]).size = 1 := rfl
set_option maxRecDepth 100000 in
set_option maxHeartbeats 2000000 in
theorem markText_any (k : Nat) (w : World) (h0 : 1 ≤ k) (h1 : k ≤ 1125899906842624) :
    Calls Tryd.prog 21 #[.int .i64 (k : Int)] w fun e w' => e = .returned (.string (mt k)) ∧ w.grownBy w' none := by
  have hk0 : ¬ (k : Int) ≤ 0 := by omega
  have hcv := fun W c => conv_oneM W c _ rfl
  go_enter Tryd.func21, Tryd.ntmps21
  go_wp2
  go_loopw [0, 3] (fun i o wr => ∃ (f j : Nat) (out : ByteArray), j ≤ f ∧ out.size + j ≤ k ∧ i = .int .i64 j ∧ o = .string out ∧ mtGo f j out = mtGo k k ⟨#[]⟩ ∧ w.grownBy wr none) (fun i _ _ => (intOf i).toNat)
  case atStart => exact ⟨k, k, _, Nat.le_refl _, by simp [ByteArray.size], rfl, rfl, rfl, gnR _⟩
  case round =>
    obtain ⟨f, j, out, hjf, hjk, rfl, rfl, hm, hg⟩ := hrel
    have HM := mkHidEa hm
    have HG := mkHidEa hg
    clear hm hg
    by_cases hj : j = 0
    · subst hj
      have hsz : ¬ 9223372036854775807 < 1 + out.size := by omega
      go_wp2
      go_ret
      refine ⟨?_, HG.out⟩
      have e : mtGo f 0 out = out := by cases f <;> simp [mtGo]
      unfold mt
      rw [← HM.out, e]
      rfl
    · have hj' : (j : Int) > 0 := by omega
      have hos := one_size (48 + (j : Int) % 10)
      have hsz : ¬ 9223372036854775807 < (strOfNums [48 + (j : Int) % 10]).size + out.size := by omega
      clear hos
      go_wp2
      go_roundw
      case rel =>
        obtain ⟨f', rfl⟩ : ∃ f', f = f' + 1 := ⟨f - 1, by omega⟩
        refine ⟨f', j / 10, _, by omega, ?_, by go_num, rfl, ?_, gnT HG.out (gnA _ _)⟩
        · rw [ByteArray.size_append, one_size]; omega
        · rw [← HM.out]
          conv => rhs; unfold mtGo
          rw [if_neg hj]
      case measure => simp [intOf]; omega

end Go.Proofs.YtlfcmlcpdpkibaaDoor

namespace Go.Proofs.YtlfcmlcpdpkibaaDoor
open Go.RowKit Lists Ents PlainR PlainN

theorem grR (w : World) (r : Option Nat) : w.grownBy w r := ⟨rfl, rfl, rfl, Nat.le_refl _, fun _ _ _ => rfl⟩
theorem grN {a b : World} {r : Option Nat} (h : a.grownBy b none) : a.grownBy b r := ⟨h.os, h.tape, h.output, h.size, fun i hi _ => h.block i hi (by simp)⟩
theorem grT {a b c : World} {r : Option Nat} (h : a.grownBy b r) (k : b.grownBy c r) : a.grownBy c r :=
  ⟨k.os.trans h.os, k.tape.trans h.tape, k.output.trans h.output, Nat.le_trans h.size k.size, fun i hi hr => (k.block i (Nat.lt_of_lt_of_le hi h.size) hr).trans (h.block i hi hr)⟩
theorem acells_atM : ∀ (l : List (ByteArray × ByteArray)) (j : Nat) (hj : j < l.length), (acells l)[j * 2]? = some (.string (l[j]'hj).1) ∧ (acells l)[j * 2 + 1]? = some (.string (l[j]'hj).2)
  | [], j, hj => by simp at hj
  | a :: l, 0, _ => by simp [acells]
  | a :: l, j + 1, hj => by
    have h := acells_atM l j (by simpa using hj)
    have e : acells (a :: l) = .string a.1 :: .string a.2 :: acells l := rfl
    rw [e, show (j + 1) * 2 = j * 2 + 1 + 1 by omega]
    simpa using h
/-- The marks from a number on. -/
def mks (n k : Nat) : List (ByteArray × ByteArray) := (List.range n).map fun i => (mt (k + i * 2), mt (k + i * 2 + 1))
theorem mks_len (n k : Nat) : (mks n k).length = n := by simp [mks]
theorem mks_at (n k j : Nat) (h : j < (mks n k).length) : (mks n k)[j]'h = (mt (k + j * 2), mt (k + j * 2 + 1)) := by simp [mks]
theorem mks_cells {n k : Nat} {xs : List Value} (hl : xs.length = n * 2) (h : ∀ j, j < n → xs[j * 2]? = some (.string (mt (k + j * 2))) ∧ xs[j * 2 + 1]? = some (.string (mt (k + j * 2 + 1)))) : xs = acells (mks n k) := by
  have hlen : (acells (mks n k)).length = n * 2 := by
    have : ∀ l : List (ByteArray × ByteArray), (acells l).length = l.length * 2 := fun l => by
      induction l with
      | nil => rfl
      | cons a l ih => simp [acells] at ih ⊢; omega
    rw [this, mks_len]
  apply List.ext_getElem?
  intro i
  by_cases hi : i < n * 2
  · have hj : i / 2 < (mks n k).length := by rw [mks_len]; omega
    have a := acells_atM (mks n k) (i / 2) hj
    rw [mks_at] at a
    have b := h (i / 2) (by omega)
    rcases Nat.mod_two_eq_zero_or_one i with h2 | h2
    · have e : i = i / 2 * 2 := by omega
      rw [e, b.1, a.1]
    · have e : i = i / 2 * 2 + 1 := by omega
      rw [e, b.2, a.2]
  · rw [List.getElem?_eq_none (by omega), List.getElem?_eq_none (by omega)]

set_option maxRecDepth 100000 in
set_option maxHeartbeats 4000000 in
theorem markAttrS_any (B : Nat) (v : Value) (n : Nat) (ys : List Value) (w : World) (hown : w.ownsRow B 62 2 v n ys) (hn : n ≤ 1048576) (K : Nat) (hK0 : 1 ≤ K) (hK1 : K ≤ 562949953421312) :
    Calls Tryd.prog 22 #[v, .int .i64 (K : Int)] w fun e w' => e = .returned (.int .i64 ((K : Int) + (n : Int) * 2)) ∧ w'.ownsRow B 62 2 v n (acells (mks n K)) ∧ w.grownBy w' v.ownBlock := by
  rcases hown.2 with ⟨rfl, rfl⟩ | ⟨g, cap, cur, rfl, hrest⟩
  · clear hown
    go_enter Tryd.func22, Tryd.ntmps22
    go_wp2
    go_loopw [1, 5] (fun kk i wr => kk = .int .i64 (K : Int) ∧ i = .int .i64 0 ∧ wr = w) (fun _ _ _ => 0)
    case atStart => exact ⟨rfl, rfl, rfl⟩
    case round =>
      obtain ⟨rfl, rfl, rfl⟩ := hrel
      go_wp2
      go_ret
      exact ⟨by simp, World.ownsRow_nil _ _ _ _, grR _ _⟩
  · clear hrest
    have hgl : g < w.heap.size := (hown.lt g rfl).2
    have HO0 := mkHidEa hown
    clear hown
    go_enter Tryd.func22, Tryd.ntmps22
    go_wp2
    go_loopw [1, 5] (fun kk i wr => ∃ (j : Nat) (xs : List Value), j ≤ n ∧ kk = .int .i64 ((K : Int) + (j : Int) * 2) ∧ i = .int .i64 j ∧ wr.ownsRow B 62 2 (.slice (some ⟨g, 0, none⟩) n cap) n xs ∧ (∀ t, t < j → xs[t * 2]? = some (.string (mt (K + t * 2))) ∧ xs[t * 2 + 1]? = some (.string (mt (K + t * 2 + 1)))) ∧ w.grownBy wr (some g)) (fun _ i _ => n - (intOf i).toNat)
    case atStart => exact ⟨0, ys, Nat.zero_le _, by simp, rfl, HO0.out, fun t ht => absurd ht (by omega), grR _ _⟩
    case round =>
      obtain ⟨j, xs, hj, rfl, rfl, ho, hx, hb⟩ := hrel
      have HX := mkHidEa hx
      have HB := mkHidEa hb
      have HO := mkHidEa ho
      clear hx hb ho
      by_cases hlt : j < n
      · have hxl : xs.length = n * 2 := HO.out.1
        have hm1 := markText_any (K + j * 2) wr (by omega) (by omega)
        rw [show ((K + j * 2 : Nat) : Int) = (K : Int) + (j : Int) * 2 by omega] at hm1
        go_wp2_with fail
        refine hm1.mono ?_
        rintro e w1 ⟨rfl, hg1⟩
        clear hm1
        have ho1 := HO.out.kept hg1 (.inr (by simp [Value.ownBlock]))
        have k1 := ho1.cellAt (j * 2) (by omega)
        rw [List.getElem?_eq_getElem (by omega)] at k1
        have f1 := ho1.frozenAt (j * 2)
        have hs1 := ho1.stored (j * 2) (.string (mt (K + j * 2)))
        have HO1 := mkHidEa hs1.1
        have HB1 := mkHidEa (grT HB.out (grT (grN hg1) (gset5 (w := w1) (g := g) (j := j * 2) (.string (mt (K + j * 2))))))
        clear ho1 hs1 hg1 HO HB
        have hm2 := markText_any (K + j * 2 + 1) (w1.setCell ⟨g, j * 2, none⟩ (.string (mt (K + j * 2)))) (by omega) (by omega)
        rw [show ((K + j * 2 + 1 : Nat) : Int) = (K : Int) + (j : Int) * 2 + 1 by omega] at hm2
        have HM2 := mkHidEa hm2
        clear hm2
        go_wp2_with fail
        refine HM2.out.mono ?_
        rintro e w2 ⟨rfl, hg2⟩
        have ho2 := HO1.out.kept hg2 (.inr (by simp [Value.ownBlock]))
        have hxl2 : (xs.set (j * 2) (.string (mt (K + j * 2)))).length = n * 2 := by rw [List.length_set]; exact hxl
        have k2 := ho2.cellAt (j * 2 + 1) (by omega)
        rw [List.getElem?_eq_getElem (by omega)] at k2
        have f2 := ho2.frozenAt (j * 2 + 1)
        have hs2 := ho2.stored (j * 2 + 1) (.string (mt (K + j * 2 + 1)))
        have HO2 := mkHidEa hs2.1
        have HB2 := mkHidEa (grT HB1.out (grT (grN hg2) (gset5 (w := w2) (g := g) (j := j * 2 + 1) (.string (mt (K + j * 2 + 1))))))
        clear ho2 hs2 hg2 HO1 HB1 HM2 k1 f1
        go_wp2
        go_roundw
        case rel =>
          refine ⟨j + 1, _, by omega, by go_num, by go_num, HO2.out, fun t ht => ?_, HB2.out⟩
          by_cases hjk : t = j
          · subst hjk
            exact ⟨by rw [List.getElem?_set_ne (by omega), List.getElem?_set_self (by omega)], by rw [List.getElem?_set_self (by rw [List.length_set]; omega)]⟩
          · have := HX.out t (by omega)
            rw [List.getElem?_set_ne (by omega), List.getElem?_set_ne (by omega), List.getElem?_set_ne (by omega), List.getElem?_set_ne (by omega)]
            exact this
        case measure => simp [intOf]; omega
      · obtain rfl : j = n := by omega
        go_wp2
        go_ret
        have e := mks_cells (k := K) HO.out.1 HX.out
        rw [← e]
        exact ⟨rfl, HO.out, HB.out⟩

end Go.Proofs.YtlfcmlcpdpkibaaDoor

namespace Go.Proofs.YtlfcmlcpdpkibaaDoor
open Go.RowKit Lists Ents PlainR PlainN

set_option maxRecDepth 100000 in
set_option maxHeartbeats 4000000 in
theorem heldAttrS_any (w : World) (a : Option Addr) (n c : Nat) (hn : n ≤ 1048576) (K : Nat) (hK0 : 1 ≤ K) (hK1 : K ≤ 562949953421312) (h : EntsAt w a (mks n K)) :
    Calls Tryd.prog 34 #[.slice a n c, .int .i64 (K : Int)] w fun e w' => e = .returned (.int .i64 ((K : Int) + (n : Int) * 2)) ∧ w.grownBy w' none := by
  have HA := mkHidEa h
  clear h
  go_enter Tryd.func34, Tryd.ntmps34
  go_wp2
  go_loopw [1, 5] (fun kk i wr => ∃ (k : Nat), k ≤ n ∧ kk = .int .i64 ((K : Int) + (k : Int) * 2) ∧ i = .int .i64 k ∧ w.grownBy wr none) (fun _ i _ => n - (intOf i).toNat)
  case atStart => exact ⟨0, Nat.zero_le _, by simp, rfl, grR _ _⟩
  case round =>
    obtain ⟨k, hk, rfl, rfl, hgr⟩ := hrel
    have HG := mkHidEa hgr
    clear hgr
    by_cases hlt : k < n
    · obtain ⟨b, off, ha, hc⟩ := HA.out.grown HG.out
      rw [mks_len] at ha
      obtain rfl := ha (by omega)
      have hcc := hc k (by rw [mks_len]; exact hlt)
      rw [mks_at] at hcc
      obtain ⟨c1, c2⟩ := hcc
      have C2 := mkHidEa c2
      have hm1 := fun W => markText_any (K + k * 2) W (by omega) (by omega)
      simp only [show ((K + k * 2 : Nat) : Int) = (K : Int) + (k : Int) * 2 by omega] at hm1
      have hm2 := fun W => markText_any (K + k * 2 + 1) W (by omega) (by omega)
      simp only [show ((K + k * 2 + 1 : Nat) : Int) = (K : Int) + (k : Int) * 2 + 1 by omega] at hm2
      have HM1 := mkHidEa hm1
      have HM2 := mkHidEa hm2
      simp only at c1
      obtain ⟨M1, hM1⟩ : ∃ M1, mt (K + k * 2) = M1 := ⟨_, rfl⟩
      obtain ⟨M2, hM2⟩ : ∃ M2, mt (K + k * 2 + 1) = M2 := ⟨_, rfl⟩
      rw [hM1] at c1 HM1
      rw [hM2] at C2 HM2
      clear hc ha HA hm1 hm2 c2 hM1 hM2
      go_wp2_with fail
      go_region_held3 (fun W => W.cell? ⟨b, off + k * 2, none⟩ = some (.string M1)) (go_keep)
        (first | (go_at_call 21; refine (HM1.out _).mono ?_; rintro e w' ⟨rfl, hg'⟩; have e1 := cell_keep (w := wr) (w' := w') (fun k hk => hg'.block k hk (by simp)) c1))
      have HG1 : Hid (w.grownBy w' none) := mkHidEa (grT HG.out (grT (gnD wr 1) hg'))
      have c2 := cell_keep (w := wr) (w' := w') (fun k hk => hg'.block k hk (by simp)) C2.out
      clear hg' c1 e1 HG HM1 C2
      go_wp2_with fail
      go_region_held3 (fun W => W.cell? ⟨b, off + k * 2 + 1, none⟩ = some (.string M2)) (go_keep)
        (first | (go_at_call 21; refine (HM2.out _).mono ?_; rintro e w2 ⟨rfl, hg2⟩; have e2 := cell_keep (w := w') (w' := w2) (fun k hk => hg2.block k hk (by simp)) c2))
      have HG2 : Hid (w.grownBy w2 none) := mkHidEa (grT HG1.out (grT (gnD w' 1) hg2))
      clear hg2 c2 e2 HG1 HM2
      go_wp2
      go_roundw
      case rel => exact ⟨k + 1, by omega, by go_num, by go_num, HG2.out⟩
      case measure => simp [intOf]; omega
    · obtain rfl : k = n := by omega
      go_wp2
      go_ret
      exact ⟨rfl, HG.out⟩

end Go.Proofs.YtlfcmlcpdpkibaaDoor

namespace Go.Proofs.YtlfcmlcpdpkibaaDoor
open Go.RowKit Lists Ents PlainR PlainN
set_option linter.unusedVariables false

theorem NmAt.grown {w wr : World} {a : Option Addr} {l : List Nm} (h : NmAt w a l) (hg : w.grownBy wr none) : NmAt wr a l := h.below (Ents.grown_below hg)
set_option maxRecDepth 100000 in
theorem eqNamed_any (p l s v : ByteArray) (w : World) :
    Calls Tryd.prog 49 #[.agg #[.string p, .string l, .string s, .string v], .agg #[.string p, .string l, .string s, .string v]] w fun e w' => e = .returned (.bool true) ∧ w.grownBy w' none := by
  go_enter Tryd.func49, Tryd.ntmps49
  go_wp2
  go_ret
  exact ⟨rfl, gnT (gnA _ _) (gnA _ _)⟩

set_option maxRecDepth 100000 in
set_option maxHeartbeats 2000000 in
theorem eqNamedS_same (w : World) (a a' : Option Addr) (n c c' : Nat) (l : List Nm) (hn : n = l.length) (hl : l.length ≤ 1048576) (h : NmAt w a l) (h' : NmAt w a' l) :
    Calls Tryd.prog 50 #[.slice a n c, .slice a' n c'] w fun e w' => e = .returned (.bool true) ∧ w.grownBy w' none := by
  subst hn
  have HA := mkHidEa h
  have HA' := mkHidEa h'
  clear h h'
  go_enter Tryd.func50, Tryd.ntmps50
  go_wp2
  go_loopw [5] (fun i wr => ∃ (k : Nat), k ≤ l.length ∧ i = .int .i64 k ∧ w.grownBy wr none) (fun i _ => l.length - (intOf i).toNat)
  case atStart => exact ⟨0, Nat.zero_le _, rfl, gnR _⟩
  case round =>
    obtain ⟨k, hk, rfl, hgr⟩ := hrel
    have HG := mkHidEa hgr
    clear hgr
    by_cases hlt : k < l.length
    · obtain ⟨b, ha, hc⟩ := HA.out.grown HG.out
      obtain rfl := ha (by omega)
      obtain ⟨c1, c2, c3, c4⟩ := hc k hlt
      obtain ⟨b', ha', hc'⟩ := HA'.out.grown HG.out
      obtain rfl := ha' (by omega)
      obtain ⟨d1, d2, d3, d4⟩ := hc' k hlt
      obtain ⟨E, hE⟩ : ∃ E, l[k]'hlt = E := ⟨_, rfl⟩
      rw [hE] at c1 c2 c3 c4 d1 d2 d3 d4
      clear hc ha hE hc' ha' HA HA'
      go_wp2_with fail
      go_region_held3 (fun W => W.cell? ⟨b, k * 4, none⟩ = some (.string E.pre) ∧ W.cell? ⟨b, k * 4 + 1, none⟩ = some (.string E.loc) ∧ W.cell? ⟨b, k * 4 + 2, none⟩ = some (.string E.spc) ∧ W.cell? ⟨b, k * 4 + 3, none⟩ = some (.string E.val) ∧ W.cell? ⟨b', k * 4, none⟩ = some (.string E.pre) ∧ W.cell? ⟨b', k * 4 + 1, none⟩ = some (.string E.loc) ∧ W.cell? ⟨b', k * 4 + 2, none⟩ = some (.string E.spc) ∧ W.cell? ⟨b', k * 4 + 3, none⟩ = some (.string E.val)) (go_keep)
        (first | (go_at_call 49; refine (eqNamed_any _ _ _ _ _).mono ?_; rintro e w' ⟨rfl, hg'⟩; have hk' : ∀ k, k < wr.heap.size → w'.heap[k]? = wr.heap[k]? := (fun k hk => hg'.block k hk (by simp)); have e1 := cell_keep hk' c1; have e2 := cell_keep hk' c2; have e3 := cell_keep hk' c3; have e4 := cell_keep hk' c4; have m1 := cell_keep hk' d1; have m2 := cell_keep hk' d2; have m3 := cell_keep hk' d3; have m4 := cell_keep hk' d4))
      have HG' : Hid (w.grownBy w' none) := mkHidEa (gnT HG.out (gnT (gnD wr 1) hg'))
      clear hg' hk'
      go_wp2
      go_roundw
      case rel => exact ⟨k + 1, by omega, by go_num, HG'.out⟩
      case measure => simp [intOf]; omega
    · go_wp2
      go_ret
      exact ⟨rfl, HG.out⟩
end Go.Proofs.YtlfcmlcpdpkibaaDoor

namespace Go.Proofs.YtlfcmlcpdpkibaaDoor
open Go.RowKit Lists Ents PlainR PlainN
set_option linter.unusedVariables false

theorem eight_cellsK {W : World} {k : Nat} {a b c d e f g h : Value} {t : TypeId} (H : W.heap[k]? = some (.cells #[a, b, c, d, e, f, g, h] t)) : W.cell? ⟨k, 0, none⟩ = some a ∧ W.cell? ⟨k, 1, none⟩ = some b ∧ W.cell? ⟨k, 2, none⟩ = some c ∧ W.cell? ⟨k, 3, none⟩ = some d ∧ W.cell? ⟨k, 4, none⟩ = some e ∧ W.cell? ⟨k, 5, none⟩ = some f ∧ W.cell? ⟨k, 6, none⟩ = some g ∧ W.cell? ⟨k, 7, none⟩ = some h := by simp [World.cell?, H]
theorem heap_two (w : World) (a b : Obj) : ((w.alloc a).alloc b).heap[w.heap.size]? = some a ∧ ((w.alloc a).alloc b).heap[w.heap.size + 1]? = some b := by
  constructor
  · rw [heap_alloc_old _ _ (by simp)]; exact heap_alloc_new _ _
  · simp [World.alloc, Array.getElem_push, -World.alloc_eq]
set_option maxRecDepth 100000 in
set_option maxHeartbeats 1000000 in
theorem eqNode_same (w : World) (D : Nd) (a a' x x' : Option Addr) (c c' y y' : Nat) (hl : D.decls.length ≤ 1048576) (hl2 : D.attrs.length ≤ 1048576) (h : EntsAt w a D.decls) (h' : EntsAt w a' D.decls) (k : NmAt w x D.attrs) (k' : NmAt w x' D.attrs) :
    Calls Tryd.prog 31 #[.agg #[.int .i64 D.kind, .string D.name.pre, .string D.name.loc, .string D.name.spc, .string D.name.val, .slice a D.decls.length c, .slice x D.attrs.length y, .string D.text], .agg #[.int .i64 D.kind, .string D.name.pre, .string D.name.loc, .string D.name.spc, .string D.name.val, .slice a' D.decls.length c', .slice x' D.attrs.length y', .string D.text]] w fun e w' => e = .returned (.bool true) ∧ w.grownBy w' none := by
  have G1 := gnT (gnA w (.cells #[.int .i64 D.kind, .string D.name.pre, .string D.name.loc, .string D.name.spc, .string D.name.val, .slice a D.decls.length c, .slice x D.attrs.length y, .string D.text] 51)) (gnA _ (.cells #[.int .i64 D.kind, .string D.name.pre, .string D.name.loc, .string D.name.spc, .string D.name.val, .slice a' D.decls.length c', .slice x' D.attrs.length y', .string D.text] 51))
  have z := heap_two w (.cells #[.int .i64 D.kind, .string D.name.pre, .string D.name.loc, .string D.name.spc, .string D.name.val, .slice a D.decls.length c, .slice x D.attrs.length y, .string D.text] 51) (.cells #[.int .i64 D.kind, .string D.name.pre, .string D.name.loc, .string D.name.spc, .string D.name.val, .slice a' D.decls.length c', .slice x' D.attrs.length y', .string D.text] 51)
  have HL := mkHidEa hl
  have HL2 := mkHidEa hl2
  have HA := mkHidEa h
  have HA' := mkHidEa h'
  have HK := mkHidEa k
  have HK' := mkHidEa k'
  have HZ := mkHidEa z
  have HG := mkHidEa G1
  clear h h' k k' hl hl2 z G1
  go_enter Tryd.func31, Tryd.ntmps31
  go_wp2_with fail
  refine (eqNamed_any _ _ _ _ _).mono ?_
  rintro e w1 ⟨rfl, hg1⟩
  have z1 := (hg1.block _ (Array.getElem?_eq_some_iff.1 HZ.out.1).1 (by simp)).trans HZ.out.1
  have z2 := (hg1.block _ (Array.getElem?_eq_some_iff.1 HZ.out.2).1 (by simp)).trans HZ.out.2
  have HG1 := mkHidEa (gnT HG.out hg1)
  have Z1 := mkHidEa z1
  have Z2 := mkHidEa z2
  obtain ⟨u0, u1, u2, u3, u4, u5, u6, u7⟩ := eight_cellsK z1
  obtain ⟨v0, v1, v2, v3, v4, v5, v6, v7⟩ := eight_cellsK z2
  clear z1 z2 hg1 HZ HG
  go_wp2_with fail
  refine (eqAttrS_same w1 a a' _ c c' D.decls rfl HL.out (HA.out.grown HG1.out) (HA'.out.grown HG1.out)).mono ?_
  rintro e w2 ⟨rfl, hg2⟩
  clear u0 u1 u2 u3 u4 u5 u6 u7 v0 v1 v2 v3 v4 v5 v6 v7
  have z1 := (hg2.block _ (Array.getElem?_eq_some_iff.1 Z1.out).1 (by simp)).trans Z1.out
  have z2 := (hg2.block _ (Array.getElem?_eq_some_iff.1 Z2.out).1 (by simp)).trans Z2.out
  have HG2 := mkHidEa (gnT HG1.out hg2)
  clear Z1 Z2 HG1
  have Z1 := mkHidEa z1
  have Z2 := mkHidEa z2
  obtain ⟨u0, u1, u2, u3, u4, u5, u6, u7⟩ := eight_cellsK z1
  obtain ⟨v0, v1, v2, v3, v4, v5, v6, v7⟩ := eight_cellsK z2
  clear z1 z2 hg2
  go_wp2_with fail
  refine (eqNamedS_same w2 x x' _ y y' D.attrs rfl HL2.out (HK.out.grown HG2.out) (HK'.out.grown HG2.out)).mono ?_
  rintro e w3 ⟨rfl, hg3⟩
  clear u0 u1 u2 u3 u4 u5 u6 u7 v0 v1 v2 v3 v4 v5 v6 v7
  have z1 := (hg3.block _ (Array.getElem?_eq_some_iff.1 Z1.out).1 (by simp)).trans Z1.out
  have z2 := (hg3.block _ (Array.getElem?_eq_some_iff.1 Z2.out).1 (by simp)).trans Z2.out
  have HG3 := mkHidEa (gnT HG2.out hg3)
  obtain ⟨u0, u1, u2, u3, u4, u5, u6, u7⟩ := eight_cellsK z1
  obtain ⟨v0, v1, v2, v3, v4, v5, v6, v7⟩ := eight_cellsK z2
  clear z1 z2 hg3 Z1 Z2 HG2
  go_wp2
  go_ret
  exact ⟨rfl, HG3.out⟩
end Go.Proofs.YtlfcmlcpdpkibaaDoor

namespace Go.Proofs.YtlfcmlcpdpkibaaDoor
open Go.RowKit Lists Ents PlainR PlainN
set_option linter.unusedVariables false

/-- Nodes in memory, cell by cell. -/
def NdIn (W : World) (a : Option Addr) (l : List Nd) : Prop :=
  ∃ b : Nat, (0 < l.length → a = some ⟨b, 0, none⟩) ∧ ∀ (j : Nat) (hj : j < l.length), ∃ da dc xa xc, W.cell? ⟨b, j * 8, none⟩ = some (.int .i64 (l[j]'hj).kind) ∧ W.cell? ⟨b, j * 8 + 1, none⟩ = some (.string (l[j]'hj).name.pre) ∧ W.cell? ⟨b, j * 8 + 2, none⟩ = some (.string (l[j]'hj).name.loc) ∧ W.cell? ⟨b, j * 8 + 3, none⟩ = some (.string (l[j]'hj).name.spc) ∧ W.cell? ⟨b, j * 8 + 4, none⟩ = some (.string (l[j]'hj).name.val) ∧ W.cell? ⟨b, j * 8 + 5, none⟩ = some (.slice da (l[j]'hj).decls.length dc) ∧ W.cell? ⟨b, j * 8 + 6, none⟩ = some (.slice xa (l[j]'hj).attrs.length xc) ∧ W.cell? ⟨b, j * 8 + 7, none⟩ = some (.string (l[j]'hj).text) ∧ EntsAt W da (l[j]'hj).decls ∧ NmAt W xa (l[j]'hj).attrs
theorem NdIn.grown {w wr : World} {a : Option Addr} {l : List Nd} (h : NdIn w a l) (hg : w.grownBy wr none) : NdIn wr a l := by
  obtain ⟨b, hb, hc⟩ := h
  refine ⟨b, hb, fun j hj => ?_⟩
  obtain ⟨da, dc, xa, xc, c0, c1, c2, c3, c4, c5, c6, c7, hE, hN⟩ := hc j hj
  have hk := hg.block _ (block_lt c0) (by simp)
  exact ⟨da, dc, xa, xc, cell_keepS hk c0, cell_keepS hk c1, cell_keepS hk c2, cell_keepS hk c3, cell_keepS hk c4, cell_keepS hk c5, cell_keepS hk c6, cell_keepS hk c7, hE.grown hg, hN.grown hg⟩

set_option maxRecDepth 100000 in
set_option maxHeartbeats 2000000 in
theorem eqNodeS_same (w : World) (a a' : Option Addr) (n c c' : Nat) (l : List Nd) (hn : n = l.length) (hl : l.length ≤ 1048576) (hla : ∀ e ∈ l, e.decls.length ≤ 1048576 ∧ e.attrs.length ≤ 1048576) (h : NdIn w a l) (h' : NdIn w a' l) :
    Calls Tryd.prog 19 #[.slice a n c, .slice a' n c'] w fun e w' => e = .returned (.bool true) ∧ w.grownBy w' none := by
  subst hn
  have HA := mkHidEa h
  have HA' := mkHidEa h'
  have HLA := mkHidEa hla
  clear h h' hla
  go_enter Tryd.func19, Tryd.ntmps19
  go_wp2
  go_loopw [5] (fun i wr => ∃ (k : Nat), k ≤ l.length ∧ i = .int .i64 k ∧ w.grownBy wr none) (fun i _ => l.length - (intOf i).toNat)
  case atStart => exact ⟨0, Nat.zero_le _, rfl, gnR _⟩
  case round =>
    obtain ⟨k, hk, rfl, hgr⟩ := hrel
    have HG := mkHidEa hgr
    clear hgr
    by_cases hlt : k < l.length
    · obtain ⟨b, ha, hc⟩ := HA.out.grown HG.out
      obtain rfl := ha (by omega)
      obtain ⟨da, dc, xa, xc, c0, c1, c2, c3, c4, c5, c6, c7, hE1, hN1⟩ := hc k hlt
      obtain ⟨b', ha', hc'⟩ := HA'.out.grown HG.out
      obtain rfl := ha' (by omega)
      obtain ⟨da', dc', xa', xc', d0, d1, d2, d3, d4, d5, d6, d7, hE2, hN2⟩ := hc' k hlt
      have hzk := HLA.out _ (List.getElem_mem hlt)
      obtain ⟨E, hE⟩ : ∃ E, l[k]'hlt = E := ⟨_, rfl⟩
      rw [hE] at c0 c1 c2 c3 c4 c5 c6 c7 d0 d1 d2 d3 d4 d5 d6 d7 hzk hE1 hN1 hE2 hN2
      have HC := mkHidEa (eqNode_same (wr.drewN 1) E da da' xa xa' dc dc' xc xc' hzk.1 hzk.2 (hE1.grown (gnD wr 1)) (hE2.grown (gnD wr 1)) (hN1.grown (gnD wr 1)) (hN2.grown (gnD wr 1)))
      clear hc ha hE hc' ha' HA HA' hzk hE1 hE2 hN1 hN2
      go_wp2_with fail
      go_region_held3 (fun W => (W.cell? ⟨b, k * 8, none⟩ = some (.int .i64 E.kind) ∧ W.cell? ⟨b, k * 8 + 1, none⟩ = some (.string E.name.pre) ∧ W.cell? ⟨b, k * 8 + 2, none⟩ = some (.string E.name.loc) ∧ W.cell? ⟨b, k * 8 + 3, none⟩ = some (.string E.name.spc) ∧ W.cell? ⟨b, k * 8 + 4, none⟩ = some (.string E.name.val) ∧ W.cell? ⟨b, k * 8 + 5, none⟩ = some (.slice da E.decls.length dc) ∧ W.cell? ⟨b, k * 8 + 6, none⟩ = some (.slice xa E.attrs.length xc) ∧ W.cell? ⟨b, k * 8 + 7, none⟩ = some (.string E.text) ∧ W.cell? ⟨b', k * 8, none⟩ = some (.int .i64 E.kind) ∧ W.cell? ⟨b', k * 8 + 1, none⟩ = some (.string E.name.pre) ∧ W.cell? ⟨b', k * 8 + 2, none⟩ = some (.string E.name.loc) ∧ W.cell? ⟨b', k * 8 + 3, none⟩ = some (.string E.name.spc) ∧ W.cell? ⟨b', k * 8 + 4, none⟩ = some (.string E.name.val) ∧ W.cell? ⟨b', k * 8 + 5, none⟩ = some (.slice da' E.decls.length dc') ∧ W.cell? ⟨b', k * 8 + 6, none⟩ = some (.slice xa' E.attrs.length xc') ∧ W.cell? ⟨b', k * 8 + 7, none⟩ = some (.string E.text))) (go_keep)
        (first | (go_at_call 31; refine HC.out.mono ?_; rintro e w' ⟨rfl, hg'⟩; have hk' : ∀ k, k < wr.heap.size → w'.heap[k]? = wr.heap[k]? := (fun k hk => hg'.block k hk (by simp)); have e0 := cell_keep hk' c0; have e1 := cell_keep hk' c1; have e2 := cell_keep hk' c2; have e3 := cell_keep hk' c3; have e4 := cell_keep hk' c4; have e5 := cell_keep hk' c5; have e6 := cell_keep hk' c6; have e7 := cell_keep hk' c7; have m0 := cell_keep hk' d0; have m1 := cell_keep hk' d1; have m2 := cell_keep hk' d2; have m3 := cell_keep hk' d3; have m4 := cell_keep hk' d4; have m5 := cell_keep hk' d5; have m6 := cell_keep hk' d6; have m7 := cell_keep hk' d7))
      have HG' : Hid (w.grownBy w' none) := mkHidEa (gnT HG.out (gnT (gnD wr 1) hg'))
      clear hg' hk'
      go_wp2
      go_roundw
      case rel => exact ⟨k + 1, by omega, by go_num, HG'.out⟩
      case measure => simp [intOf]; omega
    · go_wp2
      go_ret
      exact ⟨rfl, HG.out⟩
end Go.Proofs.YtlfcmlcpdpkibaaDoor

namespace Go.Proofs.YtlfcmlcpdpkibaaDoor
open Go.RowKit Lists Ents PlainR PlainN
set_option linter.unusedVariables false

theorem three_cellsK {W : World} {k : Nat} {a b c : Value} {t : TypeId} (H : W.heap[k]? = some (.cells #[a, b, c] t)) : W.cell? ⟨k, 0, none⟩ = some a ∧ W.cell? ⟨k, 1, none⟩ = some b ∧ W.cell? ⟨k, 2, none⟩ = some c := by simp [World.cell?, H]
set_option maxRecDepth 100000 in
set_option maxHeartbeats 1000000 in
theorem eqNodesOut_same (w : World) (a a' : Option Addr) (n c c' : Nat) (l : List Nd) (p q : Int) (hn : n = l.length) (hl : l.length ≤ 1048576) (hla : ∀ e ∈ l, e.decls.length ≤ 1048576 ∧ e.attrs.length ≤ 1048576) (h : NdIn w a l) (h' : NdIn w a' l) :
    Calls Tryd.prog 8 #[.agg #[.slice a n c, .int .i64 p, .int .i64 q], .agg #[.slice a' n c', .int .i64 p, .int .i64 q]] w fun e w' => e = .returned (.bool true) ∧ w.grownBy w' none := by
  subst hn
  have G1 := gnT (gnA w (.cells #[.slice a l.length c, .int .i64 p, .int .i64 q] 26)) (gnA _ (.cells #[.slice a' l.length c', .int .i64 p, .int .i64 q] 26))
  have HZ := mkHidEa (heap_two w (.cells #[.slice a l.length c, .int .i64 p, .int .i64 q] 26) (.cells #[.slice a' l.length c', .int .i64 p, .int .i64 q] 26))
  have HE := mkHidEa (eqNodeS_same _ a a' _ c c' l rfl hl hla (h.grown G1) (h'.grown G1))
  have HG := mkHidEa G1
  clear h h' G1 hl hla
  go_enter Tryd.func8, Tryd.ntmps8
  go_wp2_with fail
  refine HE.out.mono ?_
  rintro e w1 ⟨rfl, hg1⟩
  have z1 := (hg1.block _ (Array.getElem?_eq_some_iff.1 HZ.out.1).1 (by simp)).trans HZ.out.1
  have z2 := (hg1.block _ (Array.getElem?_eq_some_iff.1 HZ.out.2).1 (by simp)).trans HZ.out.2
  have HG1 := mkHidEa (gnT HG.out hg1)
  obtain ⟨u0, u1, u2⟩ := three_cellsK z1
  obtain ⟨v0, v1, v2⟩ := three_cellsK z2
  clear z1 z2 hg1 HZ HG HE
  go_wp2
  go_ret
  exact ⟨rfl, HG1.out⟩
end Go.Proofs.YtlfcmlcpdpkibaaDoor
