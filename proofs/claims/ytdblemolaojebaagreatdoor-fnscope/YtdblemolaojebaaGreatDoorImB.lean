import Derived.Test.YtdblemolaojebaaGreatDoorCharsI
import Derived.Test.YtdblemolaojebaaGreatDoorImA
set_option maxHeartbeats 4000000
namespace Go.Proofs.YtdblemolaojebaaGreatDoor
open Go.RowKit Plain1 Plain2
theorem bW2 (n lo hi : Int) (w : World) :
 Calls Tryz.prog 142 #[.agg #[.int .i64 lo, .int .i64 hi], .int .i64 n] w fun e w' => e = .returned (.bool (decide (lo ≤ n ∧ n ≤ hi))) ∧ Below w.heap.size w w' := by
 go_enter Tryz.func142, Tryz.ntmps142
 go_wp2
 all_goals
  go_ret
  exact ⟨aVc (by rw [Bool.eq_iff_iff]; simp at *; omega), bAl⟩
theorem idxS0 (w : World) : (Instr.index 263 (.agg aQg) (.int .i64 0)).run Tryz.prog w = .ok (.agg #[.int .i64 (loOf aQl 0), .int .i64 (hiOf aQl 0)]) w := by kernel_rfl
theorem idxS1 (w : World) : (Instr.index 263 (.agg aQg) (.int .i64 1)).run Tryz.prog w = .ok (.agg #[.int .i64 (loOf aQl 1), .int .i64 (hiOf aQl 1)]) w := by kernel_rfl
theorem idxS2 (w : World) : (Instr.index 263 (.agg aQg) (.int .i64 2)).run Tryz.prog w = .ok (.agg #[.int .i64 (loOf aQl 2), .int .i64 (hiOf aQl 2)]) w := by kernel_rfl
theorem idxS3 (w : World) : (Instr.index 263 (.agg aQg) (.int .i64 3)).run Tryz.prog w = .ok (.agg #[.int .i64 (loOf aQl 3), .int .i64 (hiOf aQl 3)]) w := by kernel_rfl
theorem idxS4 (w : World) : (Instr.index 263 (.agg aQg) (.int .i64 4)).run Tryz.prog w = .ok (.agg #[.int .i64 (loOf aQl 4), .int .i64 (hiOf aQl 4)]) w := by kernel_rfl
theorem idxS5 (w : World) : (Instr.index 263 (.agg aQg) (.int .i64 5)).run Tryz.prog w = .ok (.agg #[.int .i64 (loOf aQl 5), .int .i64 (hiOf aQl 5)]) w := by kernel_rfl
theorem idxS6 (w : World) : (Instr.index 263 (.agg aQg) (.int .i64 6)).run Tryz.prog w = .ok (.agg #[.int .i64 (loOf aQl 6), .int .i64 (hiOf aQl 6)]) w := by kernel_rfl
theorem idxS7 (w : World) : (Instr.index 263 (.agg aQg) (.int .i64 7)).run Tryz.prog w = .ok (.agg #[.int .i64 (loOf aQl 7), .int .i64 (hiOf aQl 7)]) w := by kernel_rfl
theorem idxS8 (w : World) : (Instr.index 263 (.agg aQg) (.int .i64 8)).run Tryz.prog w = .ok (.agg #[.int .i64 (loOf aQl 8), .int .i64 (hiOf aQl 8)]) w := by kernel_rfl
theorem idxS9 (w : World) : (Instr.index 263 (.agg aQg) (.int .i64 9)).run Tryz.prog w = .ok (.agg #[.int .i64 (loOf aQl 9), .int .i64 (hiOf aQl 9)]) w := by kernel_rfl
theorem idxS10 (w : World) : (Instr.index 263 (.agg aQg) (.int .i64 10)).run Tryz.prog w = .ok (.agg #[.int .i64 (loOf aQl 10), .int .i64 (hiOf aQl 10)]) w := by kernel_rfl
theorem idxS11 (w : World) : (Instr.index 263 (.agg aQg) (.int .i64 11)).run Tryz.prog w = .ok (.agg #[.int .i64 (loOf aQl 11), .int .i64 (hiOf aQl 11)]) w := by kernel_rfl
theorem idxS12 (w : World) : (Instr.index 263 (.agg aQg) (.int .i64 12)).run Tryz.prog w = .ok (.agg #[.int .i64 (loOf aQl 12), .int .i64 (hiOf aQl 12)]) w := by kernel_rfl
theorem idxS13 (w : World) : (Instr.index 263 (.agg aQg) (.int .i64 13)).run Tryz.prog w = .ok (.agg #[.int .i64 (loOf aQl 13), .int .i64 (hiOf aQl 13)]) w := by kernel_rfl
theorem idxS14 (w : World) : (Instr.index 263 (.agg aQg) (.int .i64 14)).run Tryz.prog w = .ok (.agg #[.int .i64 (loOf aQl 14), .int .i64 (hiOf aQl 14)]) w := by kernel_rfl
theorem idxS15 (w : World) : (Instr.index 263 (.agg aQg) (.int .i64 15)).run Tryz.prog w = .ok (.agg #[.int .i64 (loOf aQl 15), .int .i64 (hiOf aQl 15)]) w := by kernel_rfl
theorem idxStart (k : Nat) (hk : k < 16) (w : World) : (Instr.index 263 (.agg aQg) (.int .i64 (k : Int))).run Tryz.prog w = .ok (.agg #[.int .i64 (loOf aQl k), .int .i64 (hiOf aQl k)]) w := by
 have h : k = 0 ∨ k = 1 ∨ k = 2 ∨ k = 3 ∨ k = 4 ∨ k = 5 ∨ k = 6 ∨ k = 7 ∨ k = 8 ∨ k = 9 ∨ k = 10 ∨ k = 11 ∨ k = 12 ∨ k = 13 ∨ k = 14 ∨ k = 15 := by omega
 rcases h with rfl | rfl | rfl | rfl | rfl | rfl | rfl | rfl | rfl | rfl | rfl | rfl | rfl | rfl | rfl | rfl
 · exact idxS0 w
 · exact idxS1 w
 · exact idxS2 w
 · exact idxS3 w
 · exact idxS4 w
 · exact idxS5 w
 · exact idxS6 w
 · exact idxS7 w
 · exact idxS8 w
 · exact idxS9 w
 · exact idxS10 w
 · exact idxS11 w
 · exact idxS12 w
 · exact idxS13 w
 · exact idxS14 w
 · exact idxS15 w
theorem aVz (n : Int) (w : World) (t : TypeId) (fr : Nat × Nat) (hg : w.heap[7]? = some (.cells aQg t fr)) :
 Calls Tryz.prog 133 #[.int .i64 n] w fun e w' => e = .returned (.bool (aW2 n)) ∧ Below w.heap.size w w' := by
 go_enter Tryz.func133, Tryz.ntmps133
 go_wp2_with (refine wpList_load_row rfl 263 _ rfl 7 rfl t _ fr _ hg Tryz.underlying263 rfl (by kernel_rfl) ?_)
 go_loopw [6] (fun i wr => ∃ k : Nat, k ≤ 16 ∧ i = .int .i64 k ∧ inTo aQl k n = false ∧ Below w.heap.size w wr) (fun i _ => 16 - (intOf i).toNat)
 case atStart => exact ⟨0, Nat.zero_le _, rfl, inTo_zero _ _, Below.refl _ _⟩
 case round =>
  obtain ⟨k, hk, rfl, hno, hb⟩ := hrel
  by_cases hlt : k < 16
  · have hidx := idxStart k hlt
    have hsz := hb.size
    have hsn := inTo_succ aQl k n (by simpa [aQl] using hlt)
    rw [hno, Bool.false_or] at hsn
    have HS : Hid (inTo aQl (k + 1) n = decide (loOf aQl k ≤ n ∧ n ≤ hiOf aQl k)) := hsn
    have HN : Hid (inTo aQl k n = false) := hno
    clear hsn hno
    by_cases hin : loOf aQl k ≤ n ∧ n ≤ hiOf aQl k
    · have hd : decide (loOf aQl k ≤ n ∧ n ≤ hiOf aQl k) = true := decide_eq_true hin
      clear hin
      go_wp2_with (go_at_call 142; refine (bW2 _ _ _ _).mono ?_; rintro e w' ⟨rfl, hb'⟩)
      go_ret
      exact ⟨aVc (inTo_mono (l := aQl) (k := k + 1) (by rw [HS.out]; exact hd)).symm, hb.trans ((bAl).trans (hb'.mono (by simp)) |>.mono hsz)⟩
    · have hd : decide (loOf aQl k ≤ n ∧ n ≤ hiOf aQl k) = false := decide_eq_false hin
      clear hin
      go_wp2_with (go_at_call 142; refine (bW2 _ _ _ _).mono ?_; rintro e w' ⟨rfl, hb'⟩)
      go_roundw
      case rel => exact ⟨k + 1, by omega, by go_num, by rw [HS.out]; exact hd, hb.trans ((bAl).trans (hb'.mono (by simp)) |>.mono hsz)⟩
      case measure => simp [intOf]; omega
  · have : k = 16 := by omega
    subst this
    go_wp2_with fail
    go_ret
    exact ⟨aVc (by unfold aW2; rw [hno]), hb⟩
open Go.RowKit Plain1 Plain2
theorem idxP0 (w : World) : (Instr.index 264 (.agg aXr) (.int .i64 0)).run Tryz.prog w = .ok (.agg #[.int .i64 (loOf aZb 0), .int .i64 (hiOf aZb 0)]) w := by kernel_rfl
theorem idxP1 (w : World) : (Instr.index 264 (.agg aXr) (.int .i64 1)).run Tryz.prog w = .ok (.agg #[.int .i64 (loOf aZb 1), .int .i64 (hiOf aZb 1)]) w := by kernel_rfl
theorem idxP2 (w : World) : (Instr.index 264 (.agg aXr) (.int .i64 2)).run Tryz.prog w = .ok (.agg #[.int .i64 (loOf aZb 2), .int .i64 (hiOf aZb 2)]) w := by kernel_rfl
theorem idxP3 (w : World) : (Instr.index 264 (.agg aXr) (.int .i64 3)).run Tryz.prog w = .ok (.agg #[.int .i64 (loOf aZb 3), .int .i64 (hiOf aZb 3)]) w := by kernel_rfl
theorem idxP4 (w : World) : (Instr.index 264 (.agg aXr) (.int .i64 4)).run Tryz.prog w = .ok (.agg #[.int .i64 (loOf aZb 4), .int .i64 (hiOf aZb 4)]) w := by kernel_rfl
theorem idxPart (k : Nat) (hk : k < 5) (w : World) : (Instr.index 264 (.agg aXr) (.int .i64 (k : Int))).run Tryz.prog w = .ok (.agg #[.int .i64 (loOf aZb k), .int .i64 (hiOf aZb k)]) w := by
 have h : k = 0 ∨ k = 1 ∨ k = 2 ∨ k = 3 ∨ k = 4 := by omega
 rcases h with rfl | rfl | rfl | rfl | rfl
 · exact idxP0 w
 · exact idxP1 w
 · exact idxP2 w
 · exact idxP3 w
 · exact idxP4 w
theorem bXq (n : Int) (w : World) (t : TypeId) (fr : Nat × Nat) (hg : w.heap[8]? = some (.cells aXr t fr)) (ts : TypeId) (frs : Nat × Nat) (hgs : w.heap[7]? = some (.cells aQg ts frs)) :
 Calls Tryz.prog 134 #[.int .i64 n] w fun e w' => e = .returned (.bool (aWj n)) ∧ Below w.heap.size w w' := by
 have hz : 7 < w.heap.size := (gLt hgs)
 have HG : Hid (w.heap[7]? = some (.cells aQg ts frs)) := hgs
 clear hgs
 go_enter Tryz.func134, Tryz.ntmps134
 go_wp2_with (refine wpList_load_row rfl 264 _ rfl 8 rfl t _ fr _ hg Tryz.underlying264 rfl (by kernel_rfl) ?_)
 clear hg
 go_loopw [6] (fun i wr => ∃ k : Nat, k ≤ 5 ∧ i = .int .i64 k ∧ inTo aZb k n = false ∧ Below w.heap.size w wr) (fun i _ => 5 - (intOf i).toNat)
 case atStart => exact ⟨0, Nat.zero_le _, rfl, inTo_zero _ _, Below.refl _ _⟩
 case round =>
  obtain ⟨k, hk, rfl, hno, hb⟩ := hrel
  by_cases hlt : k < 5
  · have hidx := idxPart k hlt
    have hsz := hb.size
    have hsn := inTo_succ aZb k n (by simpa [aZb] using hlt)
    rw [hno, Bool.false_or] at hsn
    have HS : Hid (inTo aZb (k + 1) n = decide (loOf aZb k ≤ n ∧ n ≤ hiOf aZb k)) := hsn
    clear hsn hno
    by_cases hin : loOf aZb k ≤ n ∧ n ≤ hiOf aZb k
    · have hd : decide (loOf aZb k ≤ n ∧ n ≤ hiOf aZb k) = true := decide_eq_true hin
      clear hin
      go_wp2_with (go_at_call 142; refine (bW2 _ _ _ _).mono ?_; rintro e w' ⟨rfl, hb'⟩)
      go_ret
      refine ⟨aVc ?_, hb.trans ((bAl).trans (hb'.mono (by simp)) |>.mono hsz)⟩
      have := inTo_mono (l := aZb) (k := k + 1) (n := n) (by rw [HS.out]; exact hd)
      unfold aWj
      rw [show inTo aZb 5 n = true from this]
      rfl
    · have hd : decide (loOf aZb k ≤ n ∧ n ≤ hiOf aZb k) = false := decide_eq_false hin
      clear hin
      go_wp2_with (go_at_call 142; refine (bW2 _ _ _ _).mono ?_; rintro e w' ⟨rfl, hb'⟩)
      go_roundw
      case rel => exact ⟨k + 1, by omega, by go_num, by rw [HS.out]; exact hd, hb.trans ((bAl).trans (hb'.mono (by simp)) |>.mono hsz)⟩
      case measure => simp [intOf]; omega
  · have : k = 5 := by omega
    subst this
    have hg1 : wr.heap[7]? = some (.cells aQg ts frs) := (hb.block _ hz).trans HG.out
    have HG1 : Hid (wr.heap[7]? = some (.cells aQg ts frs)) := hg1
    clear hg1
    go_wp2_with (go_at_call 133; refine (aVz _ _ ts frs HG1.out).mono ?_; rintro e w' ⟨rfl, hb'⟩)
    go_ret
    exact ⟨aVc (by unfold aWj; rw [hno]; rfl), hb.trans (hb'.mono hb.size)⟩
open Go.RowKit Plain1 Strs Plain3 Plain4
theorem info64r : (Tryz.prog.info? 2).map (fun i => (i.zero, i.size, i.bytes)) = some (some (.int .i64 0), 1, 8) := by kernel_rfl
theorem broken_any (rest : ByteArray) (r : Int) (w : World) :
 Calls Tryz.prog 14 #[.string rest, .int .i32 r] w fun e w' => e = .returned (.bool (decide (r = 65533) && !Lib.hasPrefix rest.data.toList [239, 191, 189])) ∧ w' = w := by
 obtain ⟨b, hb⟩ : ∃ b, Lib.hasPrefix rest.data.toList [239, 191, 189] = b := ⟨_, rfl⟩
 have hcall := Tryz.strings_HasPrefix rest ⟨#[239, 191, 189]⟩ w
 rw [show (⟨#[239, 191, 189]⟩ : ByteArray).data.toList = [239, 191, 189] from rfl, hb] at hcall
 rw [hb]
 clear hb
 by_cases hr : r = 65533
 · subst hr
   go_enter Tryz.func14, Tryz.ntmps14
   go_wp2_with (go_at_call 28; refine hcall.mono ?_; rintro e w' ⟨rfl, rfl⟩)
   go_ret
   exact ⟨aVc (by simp), rfl⟩
 · have hr' : (r == 65533) = false := by simpa using hr
   go_enter Tryz.func14, Tryz.ntmps14
   go_wp2
   go_ret
   exact ⟨aVc (by simp [hr]), rfl⟩
theorem u8_eq (x : UInt8) (k : Nat) (hk : k < 256) : (x.toNat : Int) = k ↔ UInt8.ofNat k = x := by
 constructor
 · intro h
   apply UInt8.toNat.inj
   rw [UInt8.toNat_ofNat_of_lt' (by simpa using hk)]
   omega
 · intro h
   rw [← h, UInt8.toNat_ofNat_of_lt' (by simpa using hk)]
theorem prefix_list (m : List UInt8) : [(239 : UInt8), 191, 189].isPrefixOf m = true ↔ (3 ≤ m.length ∧ ((m.getD 0 0).toNat : Int) = 239 ∧ ((m.getD 1 0).toNat : Int) = 191 ∧ ((m.getD 2 0).toNat : Int) = 189) := by
 match m with
 | [] => simp
 | [x] => simp [List.isPrefixOf]
 | [x, y] => simp [List.isPrefixOf]
 | x :: y :: z :: t =>
  have e0 := u8_eq x 239 (by omega)
  have e1 := u8_eq y 191 (by omega)
  have e2 := u8_eq z 189 (by omega)
  simp only [List.isPrefixOf, List.getD_cons_zero, List.getD_cons_succ, List.length_cons, Bool.and_eq_true, beq_iff_eq]
  constructor
  · rintro ⟨h0, h1, h2, _⟩
    exact ⟨by omega, e0.2 h0, e1.2 h1, e2.2 h2⟩
  · rintro ⟨_, h0, h1, h2⟩
    exact ⟨e0.1 h0, e1.1 h1, e2.1 h2, trivial⟩
theorem bZt (s : ByteArray) (pos : Nat) : Lib.hasPrefix (s.extract pos s.size).data.toList [239, 191, 189] = true ↔ fffd s pos := by
 have e : (s.extract pos s.size).data.toList = s.data.toList.drop pos := by
  simp [ByteArray.data_extract, Array.toList_extract, List.extract, List.take_of_length_le]
 rw [e]
 unfold Lib.hasPrefix fffd aQ2
 have hs : s.size = s.data.toList.length := by simp
 rw [hs]
 generalize s.data.toList = l
 rw [prefix_list]
 have g : ∀ k, (l.drop pos).getD k 0 = l.getD (pos + k) 0 := by
  intro k; simp [List.getD, List.getElem?_drop]
 rw [g 0, g 1, g 2, List.length_drop]
 constructor
 · rintro ⟨a, b⟩; exact ⟨by omega, b⟩
 · rintro ⟨a, b⟩; exact ⟨by omega, b⟩
theorem test_good {s : ByteArray} {pos c n : Nat} (hp : pos < s.size) (hd : Utf8.decode s pos = (c, n)) (h : (aQo s pos).2 ≠ 0) :
 (decide ((c : Int) = 65533) && !Lib.hasPrefix (s.extract pos s.size).data.toList [239, 191, 189]) = false ∧ aZq (c : Int) = true ∧ aQo s pos = ((c : Int), n) := by
 rcases bVl hp with ⟨_, e1, e2, e3⟩ | ⟨e, _⟩
 · rw [hd] at e1 e2 e3
   refine ⟨?_, e3, Prod.ext e1.symm e2.symm⟩
   by_cases hc : (c : Int) = 65533
   · rw [(bZt s pos).2 (fffd_of_rune h (e1.symm.trans hc))]; simp
   · simp [hc]
 · rw [e] at h; exact absurd rfl h
theorem test_bad {s : ByteArray} {pos c n : Nat} (hp : pos < s.size) (hd : Utf8.decode s pos = (c, n)) (h : (aQo s pos).2 = 0) :
 (decide ((c : Int) = 65533) && !Lib.hasPrefix (s.extract pos s.size).data.toList [239, 191, 189]) = true ∨ ((decide ((c : Int) = 65533) && !Lib.hasPrefix (s.extract pos s.size).data.toList [239, 191, 189]) = false ∧ aZq (c : Int) = false) := by
 rcases bVl hp with ⟨e, _⟩ | ⟨_, e | e⟩
 · exact absurd h e
 · left
   rw [hd] at e
   have hc : c = 65533 := congrArg Prod.fst e
   have hnp : Lib.hasPrefix (s.extract pos s.size).data.toList [239, 191, 189] = false := by
    cases hh : Lib.hasPrefix (s.extract pos s.size).data.toList [239, 191, 189] with
    | false => rfl
    | true => have := rune_fffd ((bZt s pos).1 hh); rw [this] at h; cases h
   rw [hnp, hc]; rfl
 · right
   rw [hd] at e
   refine ⟨?_, e⟩
   have hc : ¬ ((c : Int) = 65533) := by
    intro hc
    simp only at e
    rw [hc] at e
    cases e
   simp [hc]
open Go.RowKit Plain1 Plain2 Lists Plain3 Plain5 Plain6 Plain11 Plain14
structure Tabs (w : World) : Prop where
 st : ∃ t fr, w.heap[7]? = some (.cells aQg t fr)
 pt : ∃ t fr, w.heap[8]? = some (.cells aXr t fr)
theorem Tabs.keep {w w' : World} (h : Tabs w) (hk : ∀ k, k < w.heap.size → w'.heap[k]? = w.heap[k]?) : Tabs w' := by
 obtain ⟨⟨t, fr, h1⟩, ⟨t', fr', h2⟩⟩ := h
 exact ⟨⟨t, fr, (hk _ (gLt h1)).trans h1⟩, ⟨t', fr', (hk _ (gLt h2)).trans h2⟩⟩
theorem Tabs.below {w w' : World} (h : Tabs w) (hb : Below w.heap.size w w') : Tabs w' := h.keep hb.block
theorem start_call {w : World} (h : Tabs w) (n : Int) : Calls Tryz.prog 133 #[.int .i64 n] w fun e w' => e = .returned (.bool (aW2 n)) ∧ Below w.heap.size w w' := by
 obtain ⟨t, fr, h1⟩ := h.st
 exact aVz n w t fr h1
theorem part_call {w : World} (h : Tabs w) (n : Int) : Calls Tryz.prog 134 #[.int .i64 n] w fun e w' => e = .returned (.bool (aWj n)) ∧ Below w.heap.size w w' := by
 obtain ⟨t, fr, h1⟩ := h.st
 obtain ⟨t', fr', h2⟩ := h.pt
 exact bXq n w t' fr' h2 t fr h1
theorem bVs (w : World) (s : ByteArray) : (w.iter s 0).heap[w.heap.size]? = some (.stringIter s 0) ∧ Below w.heap.size w (w.iter s 0) ∧ w.heap.size + 1 ≤ (w.iter s 0).heap.size := by
 refine ⟨World.iter_heap w s 0, ?_, ?_⟩
 · unfold World.iter; exact bAl
 · unfold World.iter; simp
theorem nameSize_any (s : ByteArray) (p : Nat) (w : World) (hp : p ≤ s.size) (hv : VB s p) (hT : Tabs w) :
 Calls Tryz.prog 125 #[.string (s.extract p s.size)] w fun e w' => e = .returned (.int .i64 (aXw s p)) ∧ Below w.heap.size w w' := by
 obtain ⟨X, hX⟩ : ∃ X, s.extract p s.size = X := ⟨_, rfl⟩
 have hXs : X.size = s.size - p := by rw [← hX]; exact aWx s p
 have HX := aQ1 hX
 obtain ⟨R, hR⟩ : ∃ R, aXw s p = R := ⟨_, rfl⟩
 rw [hX, hR]
 have HR := aQ1 hR
 have HV := aQ1 hv
 have HT := aQ1 hT
 clear hX hR hv hT
 go_enter Tryz.func125, Tryz.ntmps125
 go_wp2
 go_loopw [] (fun wr => ∃ (f i : Nat), i ≤ X.size ∧ wr.heap[w.heap.size]? = some (.stringIter X i) ∧ VB s (p + i) ∧ aZc s p f i = R ∧ s.size < p + i + f ∧ Below w.heap.size w wr ∧ w.heap.size + 1 ≤ wr.heap.size) (fun wr => X.size - wr.iterPos w.heap.size)
 case atStart =>
  obtain ⟨h1, h2, h3⟩ := bVs w X
  exact ⟨s.size + 1, 0, Nat.zero_le _, h1, HV.out, HR.out, by omega, h2, h3⟩
 case round =>
  obtain ⟨f, i, hi, hit, hvb, hgo, hf, hb, hsz⟩ := hrel
  have HGO := aQ1 hgo
  have HVB := aQ1 hvb
  clear hgo hvb
  by_cases hlt : i < X.size
  · obtain ⟨f', rfl⟩ : ∃ f', f = f' + 1 := ⟨f - 1, by omega⟩
    obtain ⟨c, n, hd⟩ : ∃ c n, Utf8.decode X i = (c, n) := ⟨_, _, rfl⟩
    have hps : p + i < s.size := by omega
    obtain ⟨hr0, hvb2⟩ := aW1 HVB.out hps
    have hrx : aQo X i = aQo s (p + i) := by rw [← HX.out]; exact rune_ext hps
    have hrX : (aQo X i).2 ≠ 0 := by rw [hrx]; exact hr0
    obtain ⟨_, hch, hrz⟩ := test_good hlt hd hrX
    rw [hrz] at hrx
    rw [← hrx] at hr0 hvb2
    simp only at hr0 hvb2
    have hle := decode_le X i
    have hnx : ∀ ty, (Instr.next (.pointer (some ⟨w.heap.size, 0, none⟩)) true ty).run Tryz.prog wr = _ := fun ty => Lib.run_next_any_at wr w.heap.size X i ty hit hlt
    rw [hd] at hnx hle
    simp only at hnx hle
    obtain ⟨W2, hW2⟩ : ∃ W2, wr.iterAt w.heap.size X (i + n) = W2 := ⟨_, rfl⟩
    have hit2 := Lib.iterAt_heap wr w.heap.size X i (i + n) hit
    have hb2 := Lib.below_iterAt hb (k := w.heap.size) (by omega) X (i + n)
    have hsz2 := Lib.iterAt_size wr w.heap.size X (i + n)
    rw [hW2] at hnx hit2 hb2 hsz2
    rw [← hsz2] at hsz
    have hrl := bXa (s := X) (pos := i) hrX
    rw [hrz] at hrl
    simp only at hrl
    have HIT := aQ1 hit
    have HI := aQ1 hit2
    have HRX := aQ1 hrx
    have HV2 := aQ1 hvb2
    have HB2 := aQ1 hb2
    have HT2 := aQ1 (HT.out.below hb2)
    have hcb := (aJi (c : Int)).1 hch
    have hc0 : (0 : Int) ≤ (c : Int) := by omega
    have hc1 : (c : Int) ≤ 1114111 := by omega
    clear hW2 hsz2 hit hb hd hrX hrz hch hrx hvb2 hit2 hb2 hcb
    by_cases hi0 : i = 0
    · have HI0 := aQ1 hi0
      have hst := start_call HT2.out (c : Int)
      cases hsb : aW2 (c : Int) with
      | false =>
       have hR2 : R = i := by rw [← HGO.out]; exact bJ5 hps HRX.out.symm (.inl ⟨hi0, hsb⟩)
       subst hR2
       rw [hsb] at hst
       go_wp2_with fail
       refine hst.mono ?_
       rintro e w3 ⟨rfl, hb3⟩
       have HB3 := aQ1 (HB2.out.trans (hb3.mono (by omega)))
       clear hst hb3
       go_wp2
       go_ret
       exact ⟨by show Ending.returned (.int .i64 0) = _; rw [HI0.out]; rfl, HB3.out⟩
      | true =>
       rw [hsb] at hst
       go_wp2_with fail
       refine hst.mono ?_
       rintro e w3 ⟨rfl, hb3⟩
       have HB3 := aQ1 (HB2.out.trans (hb3.mono (by omega)))
       have H3 : Hid (w3.heap[w.heap.size]? = some (.stringIter X (i + n))) := aQ1 ((hb3.block _ (by omega)).trans HI.out)
       have hsz3 : w.heap.size + 1 ≤ w3.heap.size := by have := hb3.size; omega
       have hpt := part_call (HT2.out.below hb3) (c : Int)
       have HSB := aQ1 hsb
       clear hst hb3 hsb
       cases hpb : aWj (c : Int) with
       | false =>
        have hR2 : R = i := by rw [← HGO.out]; exact bJ5 hps HRX.out.symm (.inr hpb)
        subst hR2
        rw [hpb] at hpt
        go_wp2_with fail
        refine hpt.mono ?_
        rintro e w4 ⟨rfl, hb4⟩
        have HB4 := aQ1 (HB3.out.trans (hb4.mono (by omega)))
        clear hpt hb4
        go_wp2
        go_ret
        exact ⟨by show Ending.returned (.int .i64 0) = _; rw [HI0.out]; rfl, HB4.out⟩
       | true =>
        have hgo2 : aZc s p f' (i + n) = R := by rw [← HGO.out]; exact (name_on hps HRX.out.symm hr0 (fun _ => HSB.out) hpb).symm
        have HG2 := aQ1 hgo2
        rw [hpb] at hpt
        clear hgo2
        go_wp2_with fail
        refine hpt.mono ?_
        rintro e w4 ⟨rfl, hb4⟩
        have HB4 := aQ1 (HB3.out.trans (hb4.mono (by omega)))
        have H4 : Hid (w4.heap[w.heap.size]? = some (.stringIter X (i + n))) := aQ1 ((hb4.block _ (by omega)).trans H3.out)
        have hsz4 : w.heap.size + 1 ≤ w4.heap.size := by have := hb4.size; omega
        clear hpt hb4 hnx
        go_wp2
        go_roundw
        case rel => exact ⟨f', i + n, by omega, H4.out, by rw [← Nat.add_assoc]; exact HV2.out, HG2.out, by omega, HB4.out, hsz4⟩
        case measure => rw [iterPos_of H4.out, iterPos_of HIT.out]; omega
    · have hpt := part_call HT2.out (c : Int)
      cases hpb : aWj (c : Int) with
      | false =>
       have hR2 : R = i := by rw [← HGO.out]; exact bJ5 hps HRX.out.symm (.inr hpb)
       subst hR2
       rw [hpb] at hpt
       go_wp2_with fail
       refine hpt.mono ?_
       rintro e w4 ⟨rfl, hb4⟩
       have HB4 := aQ1 (HB2.out.trans (hb4.mono (by omega)))
       clear hpt hb4
       go_wp2
       go_ret
       exact ⟨rfl, HB4.out⟩
      | true =>
       have hgo2 : aZc s p f' (i + n) = R := by rw [← HGO.out]; exact (name_on hps HRX.out.symm hr0 (fun h => absurd h hi0) hpb).symm
       have HG2 := aQ1 hgo2
       rw [hpb] at hpt
       clear hgo2
       go_wp2_with fail
       refine hpt.mono ?_
       rintro e w4 ⟨rfl, hb4⟩
       have HB4 := aQ1 (HB2.out.trans (hb4.mono (by omega)))
       have H4 : Hid (w4.heap[w.heap.size]? = some (.stringIter X (i + n))) := aQ1 ((hb4.block _ (by omega)).trans HI.out)
       have hsz4 : w.heap.size + 1 ≤ w4.heap.size := by have := hb4.size; omega
       clear hpt hb4 hnx
       go_wp2
       go_roundw
       case rel => exact ⟨f', i + n, by omega, H4.out, by rw [← Nat.add_assoc]; exact HV2.out, HG2.out, by omega, HB4.out, hsz4⟩
       case measure => rw [iterPos_of H4.out, iterPos_of HIT.out]; omega
  · have hnx : ∀ ty, (Instr.next (.pointer (some ⟨w.heap.size, 0, none⟩)) true ty).run Tryz.prog wr = _ := fun ty => Lib.run_next_end_at wr w.heap.size X i ty hit hlt
    have hR2 : R = X.size := by
     rw [← HGO.out, aZn (by omega)]; omega
    subst hR2
    clear hit
    go_wp2
    go_ret
    exact ⟨by show Ending.returned (.int .i64 ((s.size - p : Nat) : Int)) = _; rw [hXs], hb⟩
open Go.RowKit Strs2 Plain6 Plain9 Plain10 Plain11 Plain13 Plain14
def bXv [Inhabited Hold] (w : World) (g : Nat) (s : ByteArray) (f : Nat) (t : ByteArray) (q : Nat) (e : Ending) (w' : World) : Prop :=
 ∃ t' q', e = .returned (.tuple #[.string t', errV f]) ∧ aQi w' g s q' ∧ q' ≤ s.size ∧ (f = 0 → t' = t ∧ q' = q) ∧ w.grownBy w' (some g)
theorem aKr [Inhabited Hold] {w : World} {g : Nat} {s sg : ByteArray} {p : Nat} {m : Int} (h : aQi w g s p) (hm : w.cell? ⟨1, 0, none⟩ = some (.int .i64 m)) (hs : s.size ≤ 1048576) (hp : p ≤ s.size) :
 Calls Tryz.prog 62 #[.pointer (some ⟨g, 0, none⟩), .string sg] w fun e w' => bXv w g s (upF s p sg.data.toList) (upT s p sg.data.toList) (upP s p sg.data.toList) e w' := by
 obtain ⟨c0, c1, f1⟩ := aQz h
 have hsl : ∀ wx, (Instr.slice 9 (.string s) (some (.int .i64 (p : Int))) none none).run Tryz.prog wx = .ok (.string (s.extract p s.size)) wx := fun wx => aZh wx _ s p _ rfl hp Tryz.underlying9
 have hcut := fun n => Tryz.strings_Cut (s.extract p s.size) sg m (w.drewN n) (by rw [aWx]; omega) hm
 simp only [aJl] at hcut
 have HB := aQ1 h
 clear h hm
 by_cases hf : upF s p sg.data.toList = 0
 · obtain ⟨e1, e2, e3⟩ := bJt hp hf
   obtain ⟨h4, h5⟩ := upT_size hp hf
   obtain ⟨X, hX⟩ : ∃ X, upT s p sg.data.toList = X := ⟨_, rfl⟩
   obtain ⟨q, hq⟩ : ∃ q, upP s p sg.data.toList = q := ⟨_, rfl⟩
   rw [hX] at e2 e3 h4
   rw [hq] at e3 h5
   rw [← Lib.size_eq] at e3
   rw [e1, e2] at hcut
   have hw1 : IntKind.i64.wrap ((X.size : Int) + (sg.size : Int)) = (X.size : Int) + (sg.size : Int) := aZ2 (by omega) (by omega)
   have hw2 : IntKind.i64.wrap ((p : Int) + ((X.size : Int) + (sg.size : Int))) = (q : Int) := by rw [aZ2 (by omega) (by omega)]; omega
   rw [hf, hX, hq]
   have hfr := fun wx => aVl X wx (by omega)
   clear hf e1 e2 e3 hX hq
   go_enter Tryz.func62, Tryz.ntmps62
   go_wp2_with fail
   go_quiet ((go_at_call 93; exact Calls.quiet_of (hcut _)))
   have HB1 : Hid (aQi (w.drewN nq) g s p) := HB
   go_wp2_with fail
   refine (hfr _).mono ?_
   rintro e w1 ⟨rfl, hg1⟩
   have HB2 := aQ1 (aJd (aW7 HB1.out q rfl) hg1)
   have HG2 := aQ1 (aQ3 (aQ3 (aQb w nq (some g)) (aQa (.int .i64 (q : Int)))) (bJf hg1))
   clear hg1 hfr hcut
   go_wp2
   go_ret2
   exact ⟨X, q, rfl, HB2.out, h5, fun _ => ⟨rfl, rfl⟩, HG2.out⟩
 · obtain ⟨e1, e2⟩ := aYw hf
   rw [e1] at hcut
   rw [e2]
   clear hf e1 e2
   go_enter Tryz.func62, Tryz.ntmps62
   go_wp2_with fail
   go_quiet ((go_at_call 93; exact Calls.quiet_of (hcut _)))
   go_wp2
   go_ret2
   exact ⟨_, p, rfl, HB.out, hp, fun h => absurd h (by omega), aQb w nq _⟩
theorem aV9 [Inhabited Hold] {w : World} {g : Nat} {s : ByteArray} {p : Nat} (h : aQi w g s p) (hT : Tabs w) (hv : VB s p) (hs : s.size ≤ 1048576) (hp : p ≤ s.size) :
 Calls Tryz.prog 98 #[.pointer (some ⟨g, 0, none⟩)] w fun e w' => bXv w g s (nmF s p) (nmT s p) (nmP s p) e w' := by
 obtain ⟨c0, c1, f1⟩ := aQz h
 have hsl : ∀ wx, (Instr.slice 9 (.string s) (some (.int .i64 (p : Int))) none none).run Tryz.prog wx = .ok (.string (s.extract p s.size)) wx := fun wx => aZh wx _ s p _ rfl hp Tryz.underlying9
 have hns := fun n => nameSize_any s p (w.drewN n) hp hv (hT.keep fun _ _ => rfl)
 have hroom : p + aXw s p ≤ s.size := nameZ_roomI hp
 have hF : nmF s p = if 60 < aXw s p then 2 else if s.size ≤ p + aXw s p then 1 else if aXw s p = 0 then 2 else 0 := rfl
 have hTx : nmT s p = s.extract p (p + aXw s p) := rfl
 have hPx : nmP s p = p + aXw s p := rfl
 obtain ⟨n, hn⟩ : ∃ n, aXw s p = n := ⟨_, rfl⟩
 rw [hTx, hPx, hF]
 rw [hn] at hns hroom ⊢
 clear hF hTx hPx hn
 have hXs := aWx s p
 obtain ⟨X, hX⟩ : ∃ X, s.extract p s.size = X := ⟨_, rfl⟩
 rw [hX] at hsl hns hXs
 have hsl2 : ∀ wx, (Instr.slice 9 (.string X) none (some (.int .i64 (n : Int))) none).run Tryz.prog wx = .ok (.string (s.extract p (p + n))) wx := fun wx => by
  rw [sub_to wx _ X n _ rfl (by omega) Tryz.underlying9, ← hX, ext_ext]
 have HB := aQ1 h
 have HX := aQ1 hX
 have HXS := aQ1 hXs
 have hw1 : IntKind.i64.wrap ((p : Int) + (n : Int)) = (p : Int) + (n : Int) := aZ2 (by omega) (by omega)
 clear h hX hXs hv hT
 by_cases h60 : 60 < n
 · rw [if_pos h60]
   go_enter Tryz.func98, Tryz.ntmps98
   go_wp2_with fail
   go_quiet (fail)
   have HB1 : Hid (aQi (w.drewN nq) g s p) := HB
   go_wp2_with fail
   refine (hns nq).mono ?_
   rintro e w1 ⟨rfl, hb1⟩
   have HB2 := aQ1 (aZt HB1.out hb1)
   have HG2 := aQ1 (aQ3 (aQb w nq (some g)) (aJz hb1))
   clear hb1 hns c0 c1 f1
   go_wp2
   go_ret2
   exact ⟨_, p, rfl, HB2.out, hp, fun h => absurd h (by omega), HG2.out⟩
 rw [if_neg h60]
 by_cases hend : s.size ≤ p + n
 · rw [if_pos hend]
   have hnX : n = X.size := by have := HXS.out; omega
   subst hnX
   go_enter Tryz.func98, Tryz.ntmps98
   go_wp2_with fail
   go_quiet (fail)
   have HB1 : Hid (aQi (w.drewN nq) g s p) := HB
   go_wp2_with fail
   refine (hns nq).mono ?_
   rintro e w1 ⟨rfl, hb1⟩
   have HB2 := aQ1 (aZt HB1.out hb1)
   have HG2 := aQ1 (aQ3 (aQb w nq (some g)) (aJz hb1))
   clear hb1 hns c0 c1 f1
   go_wp2
   go_ret2
   exact ⟨_, p, rfl, HB2.out, hp, fun h => absurd h (by omega), HG2.out⟩
 rw [if_neg hend]
 have hnX : ¬ (n : Int) = (X.size : Int) := by have := HXS.out; omega
 by_cases h0 : n = 0
 · subst h0
   rw [if_pos rfl]
   go_enter Tryz.func98, Tryz.ntmps98
   go_wp2_with fail
   go_quiet (fail)
   have HB1 : Hid (aQi (w.drewN nq) g s p) := HB
   go_wp2_with fail
   refine (hns nq).mono ?_
   rintro e w1 ⟨rfl, hb1⟩
   have HB2 := aQ1 (aZt HB1.out hb1)
   have HG2 := aQ1 (aQ3 (aQb w nq (some g)) (aJz hb1))
   clear hb1 hns c0 c1 f1
   go_wp2
   go_ret2
   exact ⟨_, p, rfl, HB2.out, hp, fun h => absurd h (by omega), HG2.out⟩
 rw [if_neg h0]
 have hn0 : ¬ (n : Int) = 0 := by omega
 have hfr := fun wx => aVl (s.extract p (p + n)) wx (by rw [aX7 (by omega)]; omega)
 go_enter Tryz.func98, Tryz.ntmps98
 go_wp2_with fail
 go_quiet (fail)
 have HB1 : Hid (aQi (w.drewN nq) g s p) := HB
 go_wp2_with fail
 refine (hns nq).mono ?_
 rintro e w1 ⟨rfl, hb1⟩
 have HB2 := aQ1 (aZt HB1.out hb1)
 have HG2 := aQ1 (aQ3 (aQb w nq (some g)) (aJz hb1))
 clear hb1 hns c0 c1 f1
 obtain ⟨c0, c1, f1⟩ := aQz HB2.out
 go_wp2_with fail
 refine (hfr _).mono ?_
 rintro e w2 ⟨rfl, hg2⟩
 have HB3 := aQ1 (aJd (aW7 (z := (p : Int) + (n : Int)) HB2.out (p + n) (by omega)) hg2)
 have HG3 := aQ1 (aQ3 (aQ3 HG2.out (aQa (.int .i64 ((p : Int) + (n : Int))))) (bJf hg2))
 clear hg2 hfr c0 c1 f1
 go_wp2
 go_ret2
 exact ⟨_, p + n, rfl, HB3.out, hroom, fun _ => ⟨rfl, rfl⟩, HG3.out⟩
open Go.RowKit Strs Strs2 Plain9 Plain10
theorem aJu [Inhabited Hold] {w w' : World} {g : Nat} {s : ByteArray} {f : Nat} {t : ByteArray} {q p : Nat} {t' : ByteArray} (hf : f ≠ 0) (hb : aQi w' g s p) (hp : p ≤ s.size) (hg : w.grownBy w' (some g)) : bXv w g s f t q (.returned (.tuple #[.string t', errV f])) w' :=
 ⟨t', p, rfl, hb, hp, fun h => absurd h hf, hg⟩
theorem bQ7 [Inhabited Hold] {w : World} {g : Nat} {s : ByteArray} {p : Nat} (h : aQi w g s p) (hs : s.size ≤ 1048576) (hp : p ≤ s.size) :
 Calls Tryz.prog 100 #[.pointer (some ⟨g, 0, none⟩), .int .u8 60] w fun e w' => bXv w g s (valF s p) (valT s p) (valP s p) e w' := by
 have HB := aQ1 h
 obtain ⟨c0, c1, f1⟩ := aQz h
 clear h
 by_cases he : s.size ≤ p
 · have hF : valF s p = 1 := by unfold valF; rw [if_pos he]
   have hpe : p = s.size := by omega
   rw [hF]
   generalize valT s p = T
   generalize valP s p = Q
   subst hpe
   clear hF he
   go_enter Tryz.func100, Tryz.ntmps100
   go_wp2_with fail
   go_quiet (fail)
   go_wp2
   go_ret2
   exact aJu (by omega) HB.out (Nat.le_refl _) (aQb w nq _)
 have hlt : p < s.size := by omega
 have hne : ¬ (p : Int) = (s.size : Int) := by omega
 obtain ⟨c, hc⟩ : ∃ c, aQ2 s p = c := ⟨_, rfl⟩
 have hix : ∀ wx, (Instr.index 9 (.string s) (.int .i64 (p : Int))).run Tryz.prog wx = .ok (.int .u8 c) wx := fun wx => by rw [aXl wx 9 s p (by omega) Tryz.underlying9, hc]
 by_cases hq : aKe c = true
 · have hF : valF s p = (aZv s c (s.size + 1) (p + 1)).1 := by unfold valF; rw [if_neg he, hc, if_pos hq]
   have hTT : valT s p = s.extract (p + 1) (aZv s c (s.size + 1) (p + 1)).2 := by unfold valT valE; rw [hc]
   have hPP : valP s p = (aZv s c (s.size + 1) (p + 1)).2 + 1 := by unfold valP valE; rw [hc]
   rw [hF, hTT, hPP]
   obtain ⟨R, hR⟩ : ∃ R, aZv s c (s.size + 1) (p + 1) = R := ⟨_, rfl⟩
   rw [hR]
   have HR := aQ1 hR
   clear hF hTT hPP hR hc
   have hq' := of_decide_eq_true hq
   have hw1 : IntKind.i64.wrap ((p : Int) + 1) = ((p + 1 : Nat) : Int) := by rw [aZ2 (by omega) (by omega)]; omega
   have hqq : (c = 34 ∧ ¬ c = 39) ∨ (¬ c = 34 ∧ c = 39) := by omega
   clear hq hq'
   go_enter Tryz.func100, Tryz.ntmps100
   go_wp2_with fail
   go_quiet (fail)
   have HB1 : Hid (aQi (w.drewN nq) g s p) := HB
   have HG1 := aQ1 (aQb w nq (some g))
   generalize w.drewN nq = w1 at HB1 HG1 ⊢
   clear c0 c1 f1
   obtain ⟨c0, c1, f1⟩ := aQz HB1.out
   go_wp2_with fail
   go_quiet (fail)
   have HB2 : Hid (aQi (w1.drewN nq) g s p) := HB1
   have HG2 := aQ1 (aQ3 HG1.out (aQb w1 nq (some g)))
   generalize w1.drewN nq = w2 at HB2 HG2 ⊢
   clear c0 c1 f1 HB1 HG1 hix
   obtain ⟨c0, c1, f1⟩ := aQz HB2.out
   have hgo : Hid (∃ f k : Nat, (p + 1 : Nat) = k ∧ p + 1 ≤ k ∧ k ≤ s.size ∧ aZv s c f k = R ∧ s.size + 1 ≤ k + f) := aQ1 ⟨s.size + 1, p + 1, rfl, Nat.le_refl _, by omega, HR.out, by omega⟩
   rcases hqq with ⟨hq1, hq2⟩ | ⟨hq1, hq2⟩
   all_goals
    go_wp2
    go_loop [7] (fun i => ∃ f k : Nat, i = .int .i64 k ∧ p + 1 ≤ k ∧ k ≤ s.size ∧ aZv s c f k = R ∧ s.size + 1 ≤ k + f) (fun i => s.size - (intOf i).toNat)
    case atStart =>
     obtain ⟨f, k, rfl, h1, h2, h3, h4⟩ := hgo.out
     exact ⟨f, _, by simp, h1, h2, h3, h4⟩
    case round =>
     obtain ⟨f, k, rfl, hk1, hk2, hval, hfu⟩ := hrel
     have HV := aQ1 hval
     clear hval
     by_cases hkl : k < s.size
     · obtain ⟨f', rfl⟩ : ∃ f', f = f' + 1 := ⟨f - 1, by omega⟩
       obtain ⟨d, hd⟩ : ∃ d, aQ2 s k = d := ⟨_, rfl⟩
       have hix : ∀ wx, (Instr.index 9 (.string s) (.int .i64 (k : Int))).run Tryz.prog wx = .ok (.int .u8 d) wx := fun wx => by rw [aXl wx 9 s k (by omega) Tryz.underlying9, hd]
       have HD := aQ1 hd
       clear hd
       by_cases h60 : d = 60
       · have hR2 : R = (2, k) := by rw [← HV.out]; exact bK5 hkl (by rw [HD.out]; exact h60)
         subst hR2
         subst h60
         go_wp2
         go_ret2
         exact aJu (by simp) HB2.out hp HG2.out
       · by_cases hdc : d = c
         · have hR2 : R = (0, k) := by rw [← HV.out]; exact bK4 hkl (by rw [HD.out]; exact h60) (by rw [HD.out]; exact hdc)
           subst hR2
           have hsl : ∀ wx, (Instr.slice 9 (.string s) (some (.int .i64 ((p : Int) + 1))) (some (.int .i64 (k : Int))) none).run Tryz.prog wx = .ok (.string (s.extract (p + 1) k)) wx := fun wx => aYd wx _ s (p + 1) k _ _ (by omega) rfl hk1 hk2 Tryz.underlying9
           have hsl2 : ∀ wx, (Instr.slice 9 (.string s) (some (.int .i64 ((p + 1 : Nat) : Int))) (some (.int .i64 (k : Int))) none).run Tryz.prog wx = .ok (.string (s.extract (p + 1) k)) wx := fun wx => aYd wx _ s (p + 1) k _ _ rfl rfl hk1 hk2 Tryz.underlying9
           have hfr := fun wx => aVl (s.extract (p + 1) k) wx (by rw [aX7 hk2]; omega)
           have hw2 : IntKind.i64.wrap ((k : Int) + 1) = (k : Int) + 1 := aZ2 (by omega) (by omega)
           clear HD HV hgo
           subst hdc
           go_wp2_with fail
           go_region_held3 (fun W => W.cell? ⟨g, 0, none⟩ = some (.string s) ∧ W.cell? ⟨g, 1, none⟩ = some (.int .i64 (p : Int))) (go_keep)
            (first | (go_at_call 94; refine (hfr _).mono ?_; rintro e w' ⟨rfl, hg'⟩; obtain ⟨c0, c1, f1⟩ := aQz (aJd (w := w2.drew) HB2.out hg')))
           have HB3 := aQ1 (aJd (w := w2.drew) HB2.out hg')
           have HG3 : Hid (w.grownBy w' (some g)) := aQ1 (aQ3 HG2.out (aQ3 (aQb w2 1 _) (bJf (a := w2.drew) hg')))
           clear hg'
           go_wp2
           go_ret2
           exact ⟨_, k + 1, rfl, aW7 HB3.out (k + 1) (by omega), by omega, fun _ => ⟨rfl, rfl⟩, aQ3 HG3.out (aQa _)⟩
         · have hR2 : aZv s c f' (k + 1) = R := by rw [← HV.out]; exact (val_on hkl (by rw [HD.out]; exact h60) (by rw [HD.out]; exact hdc)).symm
           have HV2 := aQ1 hR2
           clear hR2
           go_wp2
           go_round
           case rel => exact ⟨f', k + 1, by go_num, by omega, by omega, HV2.out, by omega⟩
           case measure => simp [intOf]; omega
     · have hR2 : R = (1, k) := by rw [← HV.out]; exact val_end (by omega)
       subst hR2
       go_wp2
       go_ret2
       exact aJu (by simp) HB2.out hp HG2.out
 · have hF : valF s p = 2 := by unfold valF; rw [if_neg he, hc, if_neg hq]
   rw [hF]
   generalize valT s p = T
   generalize valP s p = Q
   have hq1 : ¬ c = 34 := fun h => hq (by subst h; rfl)
   have hq2 : ¬ c = 39 := fun h => hq (by subst h; rfl)
   have hb1 : (c != 34) = true := by simpa using hq1
   have hb2 : (c != 39) = true := by simpa using hq2
   clear hF hc hq hq1 hq2
   go_enter Tryz.func100, Tryz.ntmps100
   go_wp2_with fail
   go_quiet (fail)
   have HB1 : Hid (aQi (w.drewN nq) g s p) := HB
   have HG1 := aQ1 (aQb w nq (some g))
   generalize w.drewN nq = w1 at HB1 HG1 ⊢
   clear c0 c1 f1
   obtain ⟨c0, c1, f1⟩ := aQz HB1.out
   go_wp2_with fail
   go_quiet (fail)
   go_wp2
   go_ret2
   exact aJu (by omega) HB1.out hp (aQ3 HG1.out (aQb w1 nq _))
end Go.Proofs.YtdblemolaojebaaGreatDoor
