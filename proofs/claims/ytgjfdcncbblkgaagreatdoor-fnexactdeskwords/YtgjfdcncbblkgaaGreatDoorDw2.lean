/- The law FnExactDeskWords: the words of a desk, of the model and of the program; the law's walk. -/
import Derived.Test.YtgjfdcncbblkgaaGreatDoorDw1
import Derived.Laws.EntriesVeiled
namespace Go.Proofs.YtgjfdcncbblkgaaGreatDoor
open Go.RowKit Plain1 Lists Bytes Strs Strs2
set_option linter.unusedVariables false
set_option linter.unusedSimpArgs false

def wordsL : List ByteArray := [⟨#[99, 97, 110, 111, 110]⟩, ⟨#[99, 108, 111, 115, 101]⟩, ⟨#[102, 101, 101, 100]⟩, ⟨#[110, 97, 109, 101, 115]⟩, ⟨#[115, 116, 101, 112]⟩]
theorem infoStrW : (Tryz.prog.info? 9).map (fun i => (i.zero, i.size, i.bytes)) = some (some (.string ⟨#[]⟩), 1, 16) := by kernel_rfl
theorem five {j : Nat} (hj : j < wordsL.length) : j = 0 ∨ j = 1 ∨ j = 2 ∨ j = 3 ∨ j = 4 := by simp [wordsL] at hj; omega

theorem cell_nw {w : World} {cs : Array Value} {t : TypeId} {j : Nat} {v : Value} (h : cs[j]? = some v) : (w.alloc (.cells cs t)).cell? ⟨w.heap.size, j, none⟩ = some v := by
  unfold World.cell?
  simp only [heap_alloc_new]
  exact h
set_option maxRecDepth 100000 in
theorem specWords_any (w : World) :
    Calls Tryz.prog 4 #[] w fun e w' => e = .returned (.slice (some ⟨w.heap.size, 0, none⟩) 5 5) ∧ StAt w' w.heap.size wordsL ∧ w.heap.size < w'.heap.size ∧ w.grownBy w' none := by
  go_enter Tryz.func4, Tryz.ntmps4
  go_wp2
  go_ret
  refine ⟨rfl, fun j hj => ?_, by simp, grA _ _⟩
  rcases five hj with rfl | rfl | rfl | rfl | rfl <;> exact cell_nw rfl

/-- The actions' row. -/
def ActAt (w : World) (g : Nat) : Prop := ∀ j (hj : j < wordsL.length), w.cell? ⟨g, j * 2, none⟩ = some (.string (wordsL[j]'hj)) ∧ w.cell? ⟨g, j * 2 + 1, none⟩ = some (.func (.func (11 + j)) #[] #[])
set_option maxRecDepth 100000 in
theorem actions_any (w : World) :
    Calls Tryz.prog 9 #[] w fun e w' => e = .returned (.slice (some ⟨w.heap.size, 0, none⟩) 5 5) ∧ ActAt w' w.heap.size ∧ w'.heap.size = w.heap.size + 1 ∧ w.grownBy w' none := by
  go_enter Tryz.func9, Tryz.ntmps9
  go_wp2
  go_ret
  refine ⟨rfl, fun j hj => ?_, by simp, grA _ _⟩
  rcases five hj with rfl | rfl | rfl | rfl | rfl <;> exact ⟨cell_nw rfl, cell_nw rfl⟩

set_option maxRecDepth 100000 in
set_option maxHeartbeats 4000000 in
theorem implWords_any (w : World) :
    Calls Tryz.prog 5 #[] w fun e w' => ∃ g c, e = .returned (.slice (some ⟨g, 0, none⟩) 5 c) ∧ w'.ownsRow (w.heap.size + 1) 9 1 (.slice (some ⟨g, 0, none⟩) 5 c) 5 (sc wordsL) ∧ Below w.heap.size w w' := by
  obtain ⟨i0, hi, hz0, hz1, hz2⟩ := info_parts infoStrW
  have hac := actions_any w
  go_enter Tryz.func5, Tryz.ntmps5
  go_wp2_with fail
  refine hac.mono ?_
  rintro e w1 ⟨rfl, hA, hs1, hg1⟩
  have HA := mkHw hA
  have G1 := mkHw hg1
  clear hac hA hg1
  go_wp2_with fail
  go_loopw [1, 6] (fun v i wr => ∃ (k : Nat), k ≤ 5 ∧ i = .int .i64 k ∧ wr.ownsRow (w.heap.size + 1) 9 1 v k (sc (wordsL.take k)) ∧ Below w1.heap.size w1 wr) (fun _ i _ => 5 - (intOf i).toNat)
  case atStart => exact ⟨0, Nat.zero_le _, rfl, World.ownsRow_nil _ _ _ _, Below.refl _ _⟩
  case round =>
    obtain ⟨k, hk, rfl, hown, hb⟩ := hrel
    have hsz := hb.size
    by_cases hlt : k < 5
    · have hlti : (k : Int) < 5 := by omega
      obtain ⟨x0, x1⟩ := HA.out k (by simp [wordsL]; omega)
      have y0 := cellK (hb.block _ (by rw [hs1]; omega)) x0
      have y1 := cellK (hb.block _ (by rw [hs1]; omega)) x1
      obtain ⟨X, hX⟩ : ∃ X, wordsL[k]'(by simp [wordsL]; omega) = X := ⟨_, rfl⟩
      rw [hX] at y0
      have HX := mkHw hX
      have HO := mkHw hown
      have HB := mkHw hb
      clear x0 x1 hX hown hb
      go_wp2_with (first | (at_builtin; refine wpList_append_own _ rfl _ _ 22 rfl (w.heap.size + 1) 9 i0 (.string ⟨#[]⟩) 1 16 Tryz.underlying22 hi hz0 hz1 hz2 rfl (by decide) _ _ _ rfl ((HO.out.alloc _).alloc _) ⟨_, 0, none⟩ 1 1 [.string X] rfl rfl ?c1 ?c2 ?c3 ?c4 ?c5 ?_))
      case c1 =>
        have h := cell_one_new (wr.alloc (.cells #[.string X, .func (.func (11 + k)) #[] #[]] 31)) (.string X) 9
        have e : (wr.alloc (.cells #[.string X, .func (.func (11 + k)) #[] #[]] 31)).heap.size = wr.heap.size + 1 := by simp
        rw [e] at h
        exact h
      case c2 => intro u hu; simp at hu; subst hu; rfl
      case c3 => unfold maxLen; omega
      case c4 => omega
      case c5 => simp; omega
      intro v' w2 hown' hgrow _
      have hb2 := mkHw (((HB.out.alloc hsz _).alloc (by simp; omega) _).grown hgrow (by simp; omega) (fun k hk => by have := (HO.out.lt k hk).1; omega))
      have e : sc (wordsL.take (k + 1)) = sc (wordsL.take k) ++ [.string X] := by
        unfold sc
        rw [List.take_succ_eq_append_getElem (by simp [wordsL]; omega), List.map_append, HX.out]
        rfl
      rw [← e] at hown'
      have HO' := mkHw hown'
      clear hgrow hown' HO HB HX e
      go_wp2
      go_roundw
      case rel => exact ⟨k + 1, by omega, by go_num, HO'.out, hb2.out⟩
      case measure => simp [intOf]; omega
    · obtain rfl : k = 5 := by omega
      have HB := mkHw (grB G1.out |>.trans (hb.mono (by omega)))
      rcases hown.2 with ⟨rfl, h0⟩ | ⟨g, cap, cur, rfl, hrest⟩
      · cases h0
      · have HO := mkHw hown
        clear hown hb hrest
        go_wp2
        go_ret
        exact ⟨g, cap, rfl, HO.out, HB.out⟩

theorem ind_len : wordsL.length = 5 := rfl
set_option maxRecDepth 100000 in
set_option maxHeartbeats 4000000 in
theorem walkW (w : World) :
    Calls Tryz.prog 3 #[] w fun e w' => e = .returned (.bool true) ∧ Below w.heap.size w w' := by
  have h1 := specWords_any w
  go_enter Tryz.func3, Tryz.ntmps3
  go_wp2_with fail
  refine h1.mono ?_
  rintro e w1 ⟨rfl, hs1, hl1, hg1⟩
  have S1 := mkHw hs1
  have B1 := mkHw (grB hg1)
  clear h1 hs1 hg1
  have h2 := implWords_any w1
  go_wp2_with fail
  refine h2.mono ?_
  rintro e w2 ⟨g, c, rfl, ho2, hb2⟩
  have hgl := ho2.lt g rfl
  have S2 := mkHw (S1.out.keep (hb2.block _ hl1))
  have B2 := mkHw (B1.out.trans (hb2.mono (by have := B1.out.size; omega)))
  have O2 := mkHw ho2
  have h3 := eqStringS_same w2 g w.heap.size c 5 wordsL (by decide) (own_st ho2) S2.out
  rw [ind_len] at h3
  have hsz2 := hb2.size
  clear h2 ho2 hb2 S1
  go_wp2_with fail
  refine h3.mono ?_
  rintro e w3 ⟨rfl, hg3⟩
  have O3 := mkHw (O2.out.kept hg3 (.inr (by simp [Value.ownBlock])))
  have S3 := mkHw (S2.out.keep (hg3.block _ (by omega) (by simp)))
  have B3 := mkHw (B2.out.trans ((grB hg3).mono (by have := B2.out.size; omega)))
  have hsz3 := hg3.size
  clear h3 hg3 O2 S2 B2
  have h4 := markStringS_any _ g 5 c _ w3 O3.out (by decide)
  go_wp2_with fail
  refine h4.mono ?_
  rintro e w4 ⟨rfl, ho4, hg4⟩
  have O4 := mkHw ho4
  have S4 := mkHw (S3.out.keep (hg4.block _ (by omega) (by intro h; injection h with h; omega)))
  have hsz4 := hg4.size
  have B4 := mkHw (show Below w.heap.size w w4 from ⟨hg4.os.trans B3.out.os, hg4.tape.trans B3.out.tape, hg4.output.trans B3.out.output, Nat.le_trans B3.out.size hg4.size, fun i hi => (hg4.block i (by have := B3.out.size; omega) (by intro h; injection h with h; omega)).trans (B3.out.block i hi)⟩)
  clear h4 ho4 hg4 O3 S3 B3
  have h5 := heldStringS_any w4 g 5 c (by decide) (by have h := own_st (l := mkl 5) (by rw [mkl_len]; exact O4.out); exact h)
  go_wp2_with fail
  refine h5.mono ?_
  rintro e w5 ⟨rfl, hg5⟩
  have O5 := mkHw (O4.out.kept hg5 (.inr (by simp [Value.ownBlock])))
  have S5 := mkHw (S4.out.keep (hg5.block _ (by omega) (by simp)))
  have B5 := mkHw (B4.out.trans ((grB hg5).mono (by have := B4.out.size; omega)))
  have hsz5 := hg5.size
  clear h5 hg5 O4 S4 B4
  have h6 := implWords_any w5
  go_wp2_with fail
  refine h6.mono ?_
  rintro e w6 ⟨g', c', rfl, ho6, hb6⟩
  have O6 := mkHw ((own_st (l := mkl 5) (by rw [mkl_len]; exact O5.out)).keep (hb6.block g (by omega)))
  have S6 := mkHw (S5.out.keep (hb6.block _ (by omega)))
  have h7 := eqStringS_same w6 g' w.heap.size c' 5 wordsL (by decide) (own_st ho6) S6.out
  rw [ind_len] at h7
  have B6 := mkHw (B5.out.trans (hb6.mono (by have := B5.out.size; omega)))
  have hsz6 := hb6.size
  clear h6 ho6 hb6 O5 S5 B5
  go_wp2_with fail
  refine h7.mono ?_
  rintro e w7 ⟨rfl, hg7⟩
  have O7 := O6.out.keep (hg7.block g (by omega) (by simp))
  have B7 := mkHw (B6.out.trans ((grB hg7).mono (by have := B6.out.size; omega)))
  have h8 := heldStringS_any w7 g 5 c (by decide) O7
  clear h7 hg7 O6 S6 B6 O7
  go_wp2_with fail
  refine h8.mono ?_
  rintro e w8 ⟨rfl, hg8⟩
  have B8 := mkHw (B7.out.trans ((grB hg8).mono (by have := B7.out.size; omega)))
  clear h8 hg8 B7
  go_wp2
  exact bodyPost_ret (v := .bool true) (by simp [results, Tryz.results3, go_sem]) rfl ⟨rfl, B8.out⟩
end Go.Proofs.YtgjfdcncbblkgaaGreatDoor
