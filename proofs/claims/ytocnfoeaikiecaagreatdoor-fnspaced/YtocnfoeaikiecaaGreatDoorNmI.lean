import Derived.Test.YtocnfoeaikiecaaGreatDoorProg
import Derived.Test.YtocnfoeaikiecaaGreatDoorShelfA
import Derived.WalkSpells
import Derived.Test.YtocnfoeaikiecaaGreatDoorPlB
set_option maxRecDepth 100000
set_option maxHeartbeats 2000000
namespace Go.Proofs.YtocnfoeaikiecaaGreatDoor
open Go.RowKit Plain1 Tryz
theorem bXy (n : Int) (w : World) :
 Calls prog 59 #[.int .i64 n] w fun e w' => e = .returned (.bool (aZ5 n)) ∧ w' = w := by
 go_enter func59, ntmps59
 go_wp2
 all_goals
  go_ret
  exact ⟨aXd (by rw [Bool.eq_iff_iff, aJn]; simp at *; omega), rfl⟩
open Go.RowKit Plain1 Plain2
theorem bKz (n lo hi : Int) (w : World) :
 Calls prog 60 #[.agg #[.int .i64 lo, .int .i64 hi], .int .i64 n] w fun e w' => e = .returned (.bool (decide (lo ≤ n ∧ n ≤ hi))) ∧ Below w.heap.size w w' := by
 go_enter func60, ntmps60
 go_wp2
 all_goals
  go_ret
  exact ⟨aXd (by rw [Bool.eq_iff_iff]; simp at *; omega), bAl⟩
theorem idxS0 (w : World) : (Instr.index 121 (.agg aQi) (.int .i64 0)).run prog w = .ok (.agg #[.int .i64 (loOf aQl 0), .int .i64 (hiOf aQl 0)]) w := by kernel_rfl
theorem idxS1 (w : World) : (Instr.index 121 (.agg aQi) (.int .i64 1)).run prog w = .ok (.agg #[.int .i64 (loOf aQl 1), .int .i64 (hiOf aQl 1)]) w := by kernel_rfl
theorem idxS2 (w : World) : (Instr.index 121 (.agg aQi) (.int .i64 2)).run prog w = .ok (.agg #[.int .i64 (loOf aQl 2), .int .i64 (hiOf aQl 2)]) w := by kernel_rfl
theorem idxS3 (w : World) : (Instr.index 121 (.agg aQi) (.int .i64 3)).run prog w = .ok (.agg #[.int .i64 (loOf aQl 3), .int .i64 (hiOf aQl 3)]) w := by kernel_rfl
theorem idxS4 (w : World) : (Instr.index 121 (.agg aQi) (.int .i64 4)).run prog w = .ok (.agg #[.int .i64 (loOf aQl 4), .int .i64 (hiOf aQl 4)]) w := by kernel_rfl
theorem idxS5 (w : World) : (Instr.index 121 (.agg aQi) (.int .i64 5)).run prog w = .ok (.agg #[.int .i64 (loOf aQl 5), .int .i64 (hiOf aQl 5)]) w := by kernel_rfl
theorem idxS6 (w : World) : (Instr.index 121 (.agg aQi) (.int .i64 6)).run prog w = .ok (.agg #[.int .i64 (loOf aQl 6), .int .i64 (hiOf aQl 6)]) w := by kernel_rfl
theorem idxS7 (w : World) : (Instr.index 121 (.agg aQi) (.int .i64 7)).run prog w = .ok (.agg #[.int .i64 (loOf aQl 7), .int .i64 (hiOf aQl 7)]) w := by kernel_rfl
theorem idxS8 (w : World) : (Instr.index 121 (.agg aQi) (.int .i64 8)).run prog w = .ok (.agg #[.int .i64 (loOf aQl 8), .int .i64 (hiOf aQl 8)]) w := by kernel_rfl
theorem idxS9 (w : World) : (Instr.index 121 (.agg aQi) (.int .i64 9)).run prog w = .ok (.agg #[.int .i64 (loOf aQl 9), .int .i64 (hiOf aQl 9)]) w := by kernel_rfl
theorem idxS10 (w : World) : (Instr.index 121 (.agg aQi) (.int .i64 10)).run prog w = .ok (.agg #[.int .i64 (loOf aQl 10), .int .i64 (hiOf aQl 10)]) w := by kernel_rfl
theorem idxS11 (w : World) : (Instr.index 121 (.agg aQi) (.int .i64 11)).run prog w = .ok (.agg #[.int .i64 (loOf aQl 11), .int .i64 (hiOf aQl 11)]) w := by kernel_rfl
theorem idxS12 (w : World) : (Instr.index 121 (.agg aQi) (.int .i64 12)).run prog w = .ok (.agg #[.int .i64 (loOf aQl 12), .int .i64 (hiOf aQl 12)]) w := by kernel_rfl
theorem idxS13 (w : World) : (Instr.index 121 (.agg aQi) (.int .i64 13)).run prog w = .ok (.agg #[.int .i64 (loOf aQl 13), .int .i64 (hiOf aQl 13)]) w := by kernel_rfl
theorem idxS14 (w : World) : (Instr.index 121 (.agg aQi) (.int .i64 14)).run prog w = .ok (.agg #[.int .i64 (loOf aQl 14), .int .i64 (hiOf aQl 14)]) w := by kernel_rfl
theorem idxS15 (w : World) : (Instr.index 121 (.agg aQi) (.int .i64 15)).run prog w = .ok (.agg #[.int .i64 (loOf aQl 15), .int .i64 (hiOf aQl 15)]) w := by kernel_rfl
theorem dZ6 (k : Nat) (hk : k < 16) (w : World) : (Instr.index 121 (.agg aQi) (.int .i64 (k : Int))).run prog w = .ok (.agg #[.int .i64 (loOf aQl k), .int .i64 (hiOf aQl k)]) w := by
 have h : k = 0 ∨ k = 1 ∨ k = 2 ∨ k = 3 ∨ k = 4 ∨ k = 5 ∨ k = 6 ∨ k = 7 ∨ k = 8 ∨ k = 9 ∨ k = 10 ∨ k = 11 ∨ k = 12 ∨ k = 13 ∨ k = 14 ∨ k = 15 := by omega
 rcases h with rfl | rfl | rfl | rfl | rfl | rfl | rfl | rfl | rfl | rfl | rfl | rfl | rfl | rfl | rfl | rfl
 · exact idxS0 w
 · exact idxS1 w
 · exact idxS2 w
 · exact idxS3 w
 · exact idxS4 w
 · exact idxS5 w
 · exact idxS6 w
 · exact idxS7 w
 · exact idxS8 w
 · exact idxS9 w
 · exact idxS10 w
 · exact idxS11 w
 · exact idxS12 w
 · exact idxS13 w
 · exact idxS14 w
 · exact idxS15 w
theorem aWw (n : Int) (w : World) (t : TypeId) (fr : Nat × Nat) (hg : w.heap[0]? = some (.cells aQi t fr)) :
 Calls prog 36 #[.int .i64 n] w fun e w' => e = .returned (.bool (aJ2 n)) ∧ Below w.heap.size w w' := by
 go_enter func36, ntmps36
 go_wp2_with (refine wpList_load_row rfl 121 _ rfl 0 rfl t _ fr _ hg underlying121 rfl (by kernel_rfl) ?_)
 go_loopw [6] (fun i wr => ∃ k : Nat, k ≤ 16 ∧ i = .int .i64 k ∧ inTo aQl k n = false ∧ Below w.heap.size w wr) (fun i _ => 16 - (intOf i).toNat)
 case atStart => exact ⟨0, Nat.zero_le _, rfl, bJo _ _, Below.refl _ _⟩
 case round =>
  obtain ⟨k, hk, rfl, hno, hb⟩ := hrel
  by_cases hlt : k < 16
  · have hidx := dZ6 k hlt
    have hsz := hb.size
    have hsn := bJp aQl k n (by simpa [aQl] using hlt)
    rw [hno, Bool.false_or] at hsn
    have HS : Hid (inTo aQl (k + 1) n = decide (loOf aQl k ≤ n ∧ n ≤ hiOf aQl k)) := hsn
    have HN : Hid (inTo aQl k n = false) := hno
    clear hsn hno
    by_cases hin : loOf aQl k ≤ n ∧ n ≤ hiOf aQl k
    · have hd : decide (loOf aQl k ≤ n ∧ n ≤ hiOf aQl k) = true := decide_eq_true hin
      clear hin
      go_wp2_with (go_at_call 60; refine (bKz _ _ _ _).mono ?_; rintro e w' ⟨rfl, hb'⟩)
      go_ret
      exact ⟨aXd (bJq (l := aQl) (k := k + 1) (by rw [HS.out]; exact hd)).symm, hb.trans ((bAl).trans (hb'.mono (by simp)) |>.mono hsz)⟩
    · have hd : decide (loOf aQl k ≤ n ∧ n ≤ hiOf aQl k) = false := decide_eq_false hin
      clear hin
      go_wp2_with (go_at_call 60; refine (bKz _ _ _ _).mono ?_; rintro e w' ⟨rfl, hb'⟩)
      go_roundw
      case rel => exact ⟨k + 1, by omega, by go_num, by rw [HS.out]; exact hd, hb.trans ((bAl).trans (hb'.mono (by simp)) |>.mono hsz)⟩
      case measure => simp [intOf]; omega
  · have : k = 16 := by omega
    subst this
    go_wp2_with fail
    go_ret
    exact ⟨aXd (by unfold aJ2; rw [hno]), hb⟩
open Go.RowKit Plain1 Plain2
theorem idxP0 (w : World) : (Instr.index 122 (.agg aXg) (.int .i64 0)).run prog w = .ok (.agg #[.int .i64 (loOf aZd 0), .int .i64 (hiOf aZd 0)]) w := by kernel_rfl
theorem idxP1 (w : World) : (Instr.index 122 (.agg aXg) (.int .i64 1)).run prog w = .ok (.agg #[.int .i64 (loOf aZd 1), .int .i64 (hiOf aZd 1)]) w := by kernel_rfl
theorem idxP2 (w : World) : (Instr.index 122 (.agg aXg) (.int .i64 2)).run prog w = .ok (.agg #[.int .i64 (loOf aZd 2), .int .i64 (hiOf aZd 2)]) w := by kernel_rfl
theorem idxP3 (w : World) : (Instr.index 122 (.agg aXg) (.int .i64 3)).run prog w = .ok (.agg #[.int .i64 (loOf aZd 3), .int .i64 (hiOf aZd 3)]) w := by kernel_rfl
theorem idxP4 (w : World) : (Instr.index 122 (.agg aXg) (.int .i64 4)).run prog w = .ok (.agg #[.int .i64 (loOf aZd 4), .int .i64 (hiOf aZd 4)]) w := by kernel_rfl
theorem dVx (k : Nat) (hk : k < 5) (w : World) : (Instr.index 122 (.agg aXg) (.int .i64 (k : Int))).run prog w = .ok (.agg #[.int .i64 (loOf aZd k), .int .i64 (hiOf aZd k)]) w := by
 have h : k = 0 ∨ k = 1 ∨ k = 2 ∨ k = 3 ∨ k = 4 := by omega
 rcases h with rfl | rfl | rfl | rfl | rfl
 · exact idxP0 w
 · exact idxP1 w
 · exact idxP2 w
 · exact idxP3 w
 · exact idxP4 w
theorem bYo (n : Int) (w : World) (t : TypeId) (fr : Nat × Nat) (hg : w.heap[1]? = some (.cells aXg t fr)) (ts : TypeId) (frs : Nat × Nat) (hgs : w.heap[0]? = some (.cells aQi ts frs)) :
 Calls prog 37 #[.int .i64 n] w fun e w' => e = .returned (.bool (aVz n)) ∧ Below w.heap.size w w' := by
 have hz : 0 < w.heap.size := (gLt hgs)
 have HG : Hid (w.heap[0]? = some (.cells aQi ts frs)) := hgs
 clear hgs
 go_enter func37, ntmps37
 go_wp2_with (refine wpList_load_row rfl 122 _ rfl 1 rfl t _ fr _ hg underlying122 rfl (by kernel_rfl) ?_)
 clear hg
 go_loopw [6] (fun i wr => ∃ k : Nat, k ≤ 5 ∧ i = .int .i64 k ∧ inTo aZd k n = false ∧ Below w.heap.size w wr) (fun i _ => 5 - (intOf i).toNat)
 case atStart => exact ⟨0, Nat.zero_le _, rfl, bJo _ _, Below.refl _ _⟩
 case round =>
  obtain ⟨k, hk, rfl, hno, hb⟩ := hrel
  by_cases hlt : k < 5
  · have hidx := dVx k hlt
    have hsz := hb.size
    have hsn := bJp aZd k n (by simpa [aZd] using hlt)
    rw [hno, Bool.false_or] at hsn
    have HS : Hid (inTo aZd (k + 1) n = decide (loOf aZd k ≤ n ∧ n ≤ hiOf aZd k)) := hsn
    clear hsn hno
    by_cases hin : loOf aZd k ≤ n ∧ n ≤ hiOf aZd k
    · have hd : decide (loOf aZd k ≤ n ∧ n ≤ hiOf aZd k) = true := decide_eq_true hin
      clear hin
      go_wp2_with (go_at_call 60; refine (bKz _ _ _ _).mono ?_; rintro e w' ⟨rfl, hb'⟩)
      go_ret
      refine ⟨aXd ?_, hb.trans ((bAl).trans (hb'.mono (by simp)) |>.mono hsz)⟩
      have := bJq (l := aZd) (k := k + 1) (n := n) (by rw [HS.out]; exact hd)
      unfold aVz
      rw [show inTo aZd 5 n = true from this]
      rfl
    · have hd : decide (loOf aZd k ≤ n ∧ n ≤ hiOf aZd k) = false := decide_eq_false hin
      clear hin
      go_wp2_with (go_at_call 60; refine (bKz _ _ _ _).mono ?_; rintro e w' ⟨rfl, hb'⟩)
      go_roundw
      case rel => exact ⟨k + 1, by omega, by go_num, by rw [HS.out]; exact hd, hb.trans ((bAl).trans (hb'.mono (by simp)) |>.mono hsz)⟩
      case measure => simp [intOf]; omega
  · have : k = 5 := by omega
    subst this
    have hg1 : wr.heap[0]? = some (.cells aQi ts frs) := (hb.block _ hz).trans HG.out
    have HG1 : Hid (wr.heap[0]? = some (.cells aQi ts frs)) := hg1
    clear hg1
    go_wp2_with (go_at_call 36; refine (aWw _ _ ts frs HG1.out).mono ?_; rintro e w' ⟨rfl, hb'⟩)
    go_ret
    exact ⟨aXd (by unfold aVz; rw [hno]; rfl), hb.trans (hb'.mono hb.size)⟩
open Go.RowKit Plain1 Strs Plain3 Plain4
theorem dVv : (prog.info? 2).map (fun i => (i.zero, i.size, i.bytes)) = some (some (.int .i64 0), 1, 8) := by kernel_rfl
theorem cVr (rest : ByteArray) (r : Int) (w : World) :
 Calls prog 58 #[.string rest, .int .i32 r] w fun e w' => e = .returned (.bool (decide (r = 65533) && !Lib.hasPrefix rest.data.toList [239, 191, 189])) ∧ w' = w := by
 obtain ⟨b, hb⟩ := nmE (Lib.hasPrefix rest.data.toList [239, 191, 189])
 have hcall := Tryz.strings_HasPrefix rest ⟨#[239, 191, 189]⟩ w
 rw [show (⟨#[239, 191, 189]⟩ : ByteArray).data.toList = [239, 191, 189] from rfl, hb] at hcall
 rw [hb]
 clear hb
 by_cases hr : r = 65533
 · subst hr
   go_enter func58, ntmps58
   go_wp2_with (go_at_call 78; refine hcall.mono ?_; rintro e w' ⟨rfl, rfl⟩)
   go_ret
   exact ⟨aXd (by simp), rfl⟩
 · have hr' : (r == 65533) = false := by simpa using hr
   go_enter func58, ntmps58
   go_wp2
   go_ret
   exact ⟨aXd (by simp [hr]), rfl⟩
theorem dV1 (x : UInt8) (k : Nat) (hk : k < 256) : (x.toNat : Int) = k ↔ UInt8.ofNat k = x := by
 constructor
 · intro h
   apply UInt8.toNat.inj
   rw [UInt8.toNat_ofNat_of_lt' (by simpa using hk)]
   omega
 · intro h
   rw [← h, UInt8.toNat_ofNat_of_lt' (by simpa using hk)]
theorem cX3 (m : List UInt8) : [(239 : UInt8), 191, 189].isPrefixOf m = true ↔ (3 ≤ m.length ∧ ((m.getD 0 0).toNat : Int) = 239 ∧ ((m.getD 1 0).toNat : Int) = 191 ∧ ((m.getD 2 0).toNat : Int) = 189) := by
 match m with
 | [] => simp
 | [x] => simp [List.isPrefixOf]
 | [x, y] => simp [List.isPrefixOf]
 | x :: y :: z :: t =>
  have e0 := dV1 x 239 (by omega)
  have e1 := dV1 y 191 (by omega)
  have e2 := dV1 z 189 (by omega)
  simp only [List.isPrefixOf, List.getD_cons_zero, List.getD_cons_succ, List.length_cons, Bool.and_eq_true, beq_iff_eq]
  constructor
  · rintro ⟨h0, h1, h2, _⟩
    exact ⟨by omega, e0.2 h0, e1.2 h1, e2.2 h2⟩
  · rintro ⟨_, h0, h1, h2⟩
    exact ⟨e0.1 h0, e1.1 h1, e2.1 h2, trivial⟩
theorem bJ3 (s : ByteArray) (pos : Nat) : Lib.hasPrefix (s.extract pos s.size).data.toList [239, 191, 189] = true ↔ fffd s pos := by
 have e : (s.extract pos s.size).data.toList = s.data.toList.drop pos := by
  simp [ByteArray.data_extract, Array.toList_extract, List.extract, List.take_of_length_le]
 rw [e]
 unfold Lib.hasPrefix fffd aQ1
 have hs : s.size = s.data.toList.length := by simp
 rw [hs]
 generalize s.data.toList = l
 rw [cX3]
 have g : ∀ k, (l.drop pos).getD k 0 = l.getD (pos + k) 0 := by
  intro k; simp [List.getD, List.getElem?_drop]
 rw [g 0, g 1, g 2, List.length_drop]
 constructor
 · rintro ⟨a, b⟩; exact ⟨by omega, b⟩
 · rintro ⟨a, b⟩; exact ⟨by omega, b⟩
theorem cKc {s : ByteArray} {pos c n : Nat} (hp : pos < s.size) (hd : Utf8.decode s pos = (c, n)) (h : (aQm s pos).2 ≠ 0) :
 (decide ((c : Int) = 65533) && !Lib.hasPrefix (s.extract pos s.size).data.toList [239, 191, 189]) = false ∧ aZ5 (c : Int) = true ∧ aQm s pos = ((c : Int), n) := by
 rcases bVy hp with ⟨_, e1, e2, e3⟩ | ⟨e, _⟩
 · rw [hd] at e1 e2 e3
   refine ⟨?_, e3, Prod.ext e1.symm e2.symm⟩
   by_cases hc : (c : Int) = 65533
   · rw [(bJ3 s pos).2 (bYv h (e1.symm.trans hc))]; simp
   · simp [hc]
 · rw [e] at h; exact absurd rfl h
theorem dX2 {s : ByteArray} {pos c n : Nat} (hp : pos < s.size) (hd : Utf8.decode s pos = (c, n)) (h : (aQm s pos).2 = 0) :
 (decide ((c : Int) = 65533) && !Lib.hasPrefix (s.extract pos s.size).data.toList [239, 191, 189]) = true ∨ ((decide ((c : Int) = 65533) && !Lib.hasPrefix (s.extract pos s.size).data.toList [239, 191, 189]) = false ∧ aZ5 (c : Int) = false) := by
 rcases bVy hp with ⟨e, _⟩ | ⟨_, e | e⟩
 · exact absurd h e
 · left
   rw [hd] at e
   have hc : c = 65533 := congrArg Prod.fst e
   have hnp : Lib.hasPrefix (s.extract pos s.size).data.toList [239, 191, 189] = false := by
    cases hh : Lib.hasPrefix (s.extract pos s.size).data.toList [239, 191, 189] with
    | false => rfl
    | true => have := cW0 ((bJ3 s pos).1 hh); rw [this] at h; cases h
   rw [hnp, hc]; rfl
 · right
   rw [hd] at e
   refine ⟨?_, e⟩
   have hc : ¬ ((c : Int) = 65533) := by
    intro hc
    simp only at e
    rw [hc] at e
    cases e
   simp [hc]
open Go.RowKit Plain3 Plain5 Lists
theorem bJ5 {w : World} {B : Nat} {e : TypeId} {size : Nat} {v : Value} {n : Nat} {xs : List Value} (h : w.ownsRow B e size v n xs) : ∃ ao cv, v = .slice ao n cv := by
 rcases aJw h with ⟨rfl, rfl⟩ | ⟨g, cap, rfl⟩
 · exact ⟨_, _, rfl⟩
 · exact ⟨_, _, rfl⟩
theorem dXj {w : World} {base base' size n : Nat} {e : TypeId} {v : Value} {xs : List Value} (h : w.ownsRow base e size v n xs) (hb : base' ≤ base) : w.ownsRow base' e size v n xs := by
 obtain ⟨h1, h2⟩ := h
 refine ⟨h1, ?_⟩
 rcases h2 with h2 | ⟨g, cap, cur, a, b, c⟩
 · exact .inl h2
 · exact .inr ⟨g, cap, cur, a, Nat.le_trans hb b, c⟩
theorem dQj {w : World} {g : Nat} {a b c : Value} {t : TypeId} (h : w.heap[g]? = some (.cells #[a, b, c] t)) :
 w.cell? ⟨g, 0, none⟩ = some a ∧ w.cell? ⟨g, 1, none⟩ = some b ∧ w.cell? ⟨g, 2, none⟩ = some c ∧ w.frozen? ⟨g, 0, none⟩ = false ∧ w.frozen? ⟨g, 1, none⟩ = false ∧ w.frozen? ⟨g, 2, none⟩ = false := by
 simp [World.cell?, World.frozen?, h]
theorem cJd {W W3 : World} {base k : Nat} {e : TypeId} {size : Nat} {v : Value} {n : Nat} {xs : List Value} {o : Obj} (hown : W.ownsRow base e size v n xs) (hg : (W.alloc o).grownBy W3 v.ownBlock) (hk : k < base) (hkW : k < W.heap.size) : W3.heap[k]? = W.heap[k]? := by
 rw [hg.block k (by simp; omega) (fun h => by have := (hown.lt k h.symm).1; omega)]
 exact Below.heap_alloc W o k hkW
theorem aYr (w : World) (s : ByteArray) (o : Obj) : ((w.alloc o).iter s 0).heap[w.heap.size + 1]? = some (.stringIter s 0) ∧ ((w.alloc o).iter s 0).heap[w.heap.size]? = some o ∧ Below w.heap.size w ((w.alloc o).iter s 0) ∧ w.heap.size + 2 ≤ ((w.alloc o).iter s 0).heap.size := by
 have hz : (w.alloc o).heap.size = w.heap.size + 1 := by simp
 refine ⟨?_, ?_, ?_, ?_⟩
 · have := World.iter_heap (w.alloc o) s 0
   rw [hz] at this
   exact this
 · unfold World.iter
   rw [Below.heap_alloc _ _ _ (by omega)]
   exact heap_alloc_new w o
 · exact ((Below.refl _ _).alloc (Nat.le_refl _) o).alloc (by omega) _
 · unfold World.iter
   simp
theorem bVk (s : ByteArray) (w : World) (hs : s.size ≤ 4000) :
 Calls prog 35 #[.string s] w fun e w' => ∃ v, e = .returned (.agg #[v, .int .i64 (if 0 ≤ (aX4 s).2 then (aX4 s).2 else 0), .int .i64 (if 0 ≤ (aX4 s).2 then 3 else 0)]) ∧ w'.ownsRow w.heap.size 2 1 v (aX4 s).1.length ((aX4 s).1.map (Value.int .i64)) ∧ Below w.heap.size w w' := by
 obtain ⟨i0, hi, hz0, hz1, hz2⟩ := info_parts dVv
 obtain ⟨R, hR⟩ := nmE (aX4 s)
 rw [hR]
 have HR : Hid (aX4 s = R) := hR
 clear hR
 obtain ⟨at3, hat⟩ : ∃ x, (if 0 ≤ R.2 then R.2 else 0) = x := ⟨_, rfl⟩
 obtain ⟨co3, hco⟩ : ∃ x : Int, (if 0 ≤ R.2 then 3 else 0) = x := ⟨_, rfl⟩
 rw [hat, hco]
 have HAT : Hid ((if 0 ≤ R.2 then R.2 else 0) = at3) := hat
 have HCO : Hid ((if 0 ≤ R.2 then (3 : Int) else 0) = co3) := hco
 clear hat hco
 go_enter func35, ntmps35
 go_wp2
 go_loopw [3] (fun v wr => ∃ (f pos : Nat) (acc : List Int), pos ≤ s.size ∧ wr.heap[w.heap.size + 1]? = some (.stringIter s pos) ∧ wr.heap[w.heap.size]? = some (.cells #[.slice none 0 0, .int .i64 0, .int .i64 0] 85) ∧ scan s f pos acc = R ∧ s.size < pos + f ∧ acc.length ≤ pos ∧ wr.ownsRow (w.heap.size + 2) 2 1 v acc.length (acc.map (Value.int .i64)) ∧ Below w.heap.size w wr ∧ w.heap.size + 2 ≤ wr.heap.size) (fun _ wr => s.size - wr.iterPos (w.heap.size + 1))
 case atStart =>
  refine ⟨s.size + 1, 0, [], Nat.zero_le _, ?_, ?_, HR.out, by omega, Nat.le_refl _, World.ownsRow_nil _ _ _ _, ?_, ?_⟩
  · exact (aYr w s _).1
  · exact (aYr w s _).2.1
  · exact (aYr w s _).2.2.1
  · exact (aYr w s _).2.2.2
 case round =>
  obtain ⟨f, pos, acc, hpos, hit, hbox, hsc, hf, hal, hown, hb, hsz⟩ := hrel
  have HS : Hid (scan s f pos acc = R) := hsc
  clear hsc
  by_cases hlt : pos < s.size
  · obtain ⟨f', rfl⟩ : ∃ f', f = f' + 1 := ⟨f - 1, by omega⟩
    obtain ⟨c, n, hd⟩ : ∃ c n, Utf8.decode s pos = (c, n) := ⟨_, _, rfl⟩
    have hle := decode_le s pos
    have hnx : ∀ ty, (Instr.next (.pointer (some ⟨w.heap.size + 1, 0, none⟩)) true ty).run prog wr = _ := fun ty => Lib.run_next_any_at wr (w.heap.size + 1) s pos ty hit hlt
    rw [hd] at hnx hle
    simp only at hnx hle
    obtain ⟨W2, hW2⟩ := nmE (wr.iterAt (w.heap.size + 1) s (pos + n))
    have hit2 := Lib.iterAt_heap wr (w.heap.size + 1) s pos (pos + n) hit
    have hb2 := Lib.below_iterAt hb (k := w.heap.size + 1) (by omega) s (pos + n)
    have hown2 := ownsRow_iterAt hown (k := w.heap.size + 1) (by omega) s (pos + n)
    have hbox2 := (Lib.iterAt_other wr (w.heap.size + 1) w.heap.size s (pos + n) (by omega)).trans hbox
    have hsz2 := Lib.iterAt_size wr (w.heap.size + 1) s (pos + n)
    rw [hW2] at hnx hit2 hb2 hown2 hbox2 hsz2
    rw [← hsz2] at hsz
    have HIT : Hid (wr.heap[w.heap.size + 1]? = some (.stringIter s pos)) := hit
    clear hW2 hsz2 hown hb hbox hit
    have hbr := cVr (s.extract pos s.size) c W2
    by_cases hz : (aQm s pos).2 = 0
    · rcases dX2 hlt hd hz with ht | ⟨ht, hch⟩
      · rw [ht] at hbr
        have hbad := aW0 (f := f') (acc := acc) hlt hz
        rw [HS.out] at hbad
        subst hbad
        have hat := HAT.out
        have hco := HCO.out
        rw [if_pos (by simp only []; omega)] at hat hco
        simp only at hat
        subst hat hco
        obtain ⟨k0, k1, k2, f0, f1, f2⟩ := dQj hbox2
        clear ht hbox2 hown2 hit2 hd hz HS HR HAT HCO hf hal
        go_wp2_with (go_at_call 58; refine hbr.mono ?_; rintro e w' ⟨rfl, rfl⟩)
        refine bodyPost_ret (v := .agg #[.slice none 0 0, .int .i64 pos, .int .i64 3]) (by simp [results, results35, go_sem, k0, k1, k2]) rfl ⟨_, rfl, World.ownsRow_nil _ _ _ _, ?_⟩
        exact ((hb2.setCell (Nat.le_refl _) _).setCell (Nat.le_refl _) _).setCell (Nat.le_refl _) _
      · rw [ht] at hbr
        have hbad := aW0 (f := f') (acc := acc) hlt hz
        rw [HS.out] at hbad
        subst hbad
        have hat := HAT.out
        have hco := HCO.out
        rw [if_pos (by simp only []; omega)] at hat hco
        simp only at hat
        subst hat hco
        obtain ⟨k0, k1, k2, f0, f1, f2⟩ := dQj hbox2
        clear ht hbox2 hown2 hit2 hd hz HS HR HAT HCO hf hal
        go_wp2_with (first | (go_at_call 58; refine hbr.mono ?_; rintro e w' ⟨rfl, rfl⟩) | (go_at_call 59; refine (bXy _ _).mono ?_; rintro e w' ⟨rfl, rfl⟩))
        refine bodyPost_ret (v := .agg #[.slice none 0 0, .int .i64 pos, .int .i64 3]) (by simp [results, results35, go_sem, k0, k1, k2]) rfl ⟨_, rfl, World.ownsRow_nil _ _ _ _, ?_⟩
        exact ((hb2.setCell (Nat.le_refl _) _).setCell (Nat.le_refl _) _).setCell (Nat.le_refl _) _
    · obtain ⟨ht, hch, hr⟩ := cKc hlt hd hz
      rw [ht] at hbr
      have hgood := aVl (f := f') (acc := acc) hlt hz
      have hrl := aWr (s := s) (pos := pos) hz
      rw [HS.out, hr] at hgood
      rw [hr] at hrl hz
      simp only at hgood hrl hz
      have HG : Hid (R = scan s f' (pos + n) (acc ++ [(c : Int)])) := hgood
      have HI : Hid (W2.heap[w.heap.size + 1]? = some (.stringIter s (pos + n))) := hit2
      have HBx : Hid (W2.heap[w.heap.size]? = some (.cells #[.slice none 0 0, .int .i64 0, .int .i64 0] 85)) := hbox2
      clear ht hd hr hgood HS hit2 hbox2
      go_wp2_with (first | (go_at_call 58; refine hbr.mono ?_; rintro e w' ⟨rfl, rfl⟩) | (go_at_call 59; refine (bXy _ _).mono ?_; rintro e w' ⟨rfl, rfl⟩) | (at_builtin; refine wpList_append_own _ rfl _ _ 70 rfl (w.heap.size + 2) 2 i0 (.int .i64 0) 1 8 underlying70 hi hz0 hz1 hz2 rfl (by decide) _ _ _ rfl (hown2.alloc _) ⟨_, 0, none⟩ 1 1 [.int .i64 (c : Int)] rfl rfl ?c1 ?c2 ?c3 ?c4 ?c5 ?_))
      case c1 => exact cell_one_new _ _ _
      case c2 => intro u hu; simp at hu; subst hu; rfl
      case c3 => unfold maxLen; omega
      case c4 => omega
      case c5 => simp; omega
      intro v' w3 hown' hgrow _
      have hb3 : Below w.heap.size w w3 := (hb2.alloc (by omega) _).grown hgrow (by simp; omega) (fun k hk => by have := (hown2.lt k hk).1; omega)
      have hit3 : w3.heap[w.heap.size + 1]? = some (.stringIter s (pos + n)) := (cJd hown2 hgrow (by omega) (by omega)).trans HI.out
      have hbox3 : w3.heap[w.heap.size]? = some (.cells #[.slice none 0 0, .int .i64 0, .int .i64 0] 85) := (cJd hown2 hgrow (by omega) (by omega)).trans HBx.out
      have hsz3 : w.heap.size + 2 ≤ w3.heap.size := by have := hgrow.size; simp at this; omega
      have H3 : Hid (w3.heap[w.heap.size + 1]? = some (.stringIter s (pos + n))) := hit3
      have HX3 : Hid (w3.heap[w.heap.size]? = some (.cells #[.slice none 0 0, .int .i64 0, .int .i64 0] 85)) := hbox3
      clear hgrow hown2 hb2 hit3 hbox3 hnx hbr
      go_wp2
      go_roundw
      case rel =>
       refine ⟨f', pos + n, acc ++ [(c : Int)], by omega, H3.out, HX3.out, HG.out.symm, by omega, by simp; omega, ?_, hb3, hsz3⟩
       simpa using hown'
      case measure => rw [iterPos_of H3.out, iterPos_of HIT.out]; omega
  · have hnx : ∀ ty, (Instr.next (.pointer (some ⟨w.heap.size + 1, 0, none⟩)) true ty).run prog wr = _ := fun ty => Lib.run_next_end_at wr (w.heap.size + 1) s pos ty hit hlt
    have he := aWq (f := f) (acc := acc) (show s.size ≤ pos by omega)
    rw [HS.out] at he
    subst he
    have hat := HAT.out
    have hco := HCO.out
    rw [if_neg (by simp only []; omega)] at hat hco
    subst hat hco
    obtain ⟨k0, k1, k2, f0, f1, f2⟩ := dQj hbox
    obtain ⟨ao, cv, hv⟩ := bJ5 hown
    subst hv
    clear hbox hit HS HR HAT HCO hf hal
    go_wp2
    refine bodyPost_ret (v := .agg #[.slice ao acc.length cv, .int .i64 0, .int .i64 0]) (by simp [results, results35, go_sem, k0, k1, k2]) rfl ⟨_, rfl, ?_, ?_⟩
    · have hq : w.heap.size < w.heap.size + 2 := by omega
      exact dXj (ownsRow_setCell_below (ownsRow_setCell_below (ownsRow_setCell_below hown hq _) hq _) hq _) (by omega)
    · exact ((hb.setCell (Nat.le_refl _) _).setCell (Nat.le_refl _) _).setCell (Nat.le_refl _) _
theorem bKx (s : ByteArray) (w : World) :
 Calls prog 35 #[.string s] w fun e w' => ∃ v, e = .returned (.agg #[v, .int .i64 (rAt s), .int .i64 (bY0 s)]) ∧ w'.ownsRow w.heap.size 2 1 v (bVh s).length ((bVh s).map (Value.int .i64)) ∧ Below w.heap.size w w' := by
 by_cases hbig : 4000 < s.size
 · have e1 : bVh s = [] := by unfold bVh; rw [if_pos hbig]
   have e2 : rAt s = 0 := by unfold rAt; rw [if_pos hbig]
   have e3 : bY0 s = 2 := by unfold bY0; rw [if_pos hbig]
   rw [e1, e2, e3]
   clear e1 e2 e3
   go_enter func35, ntmps35
   go_wp2
   refine bodyPost_ret (v := .agg #[.slice none 0 0, .int .i64 0, .int .i64 2]) (by simp [results, results35, go_sem]) rfl ⟨_, rfl, World.ownsRow_nil _ _ _ _, ?_⟩
   exact bAl
 · have := bVk s w (by omega)
   unfold bVh rAt bY0
   rw [if_neg hbig, if_neg hbig, if_neg hbig]
   exact this
open Go.RowKit Plain1 Plain2 Plain5 Plain6 Lists
theorem dJc {p : Prop} (h : p) : Hid p := h
theorem bVb {w w1 : World} {v : Value} {n : Nat} {c0 : Int} {cs : List Int} {e : TypeId} {A C : Array Value} {t tp : TypeId} {fr frp : Nat × Nat} {ga gp : Nat} (hg : w.heap[ga]? = some (.cells A t fr)) (hgp : w.heap[gp]? = some (.cells C tp frp)) (hz : ga < w.heap.size) (hzp : gp < w.heap.size)
 (ho : w1.ownsRow w.heap.size e 1 v (n + 1) ((c0 :: cs).map (Value.int .i64))) (hb : Below w.heap.size w w1) :
 ∃ g cap, v = .slice (some ⟨g, 0, none⟩) (n + 1) cap ∧ (n + 1 ≤ cap ∧ cap ≤ maxLen) ∧ g < w1.heap.size ∧ w1.cell? ⟨g, 0, none⟩ = some (.int .i64 c0) ∧ Hid (∀ o, (w1.alloc o).heap[ga]? = some (.cells A t fr)) ∧ Hid (∀ o, (w1.alloc o).heap[gp]? = some (.cells C tp frp)) ∧ Hid (Below w.heap.size w w1) ∧ Hid (w1.ownsRow w.heap.size e 1 (.slice (some ⟨g, 0, none⟩) (n + 1) cap) (n + 1) ((c0 :: cs).map (Value.int .i64))) := by
 rcases aJw ho with ⟨_, h⟩ | ⟨g, cap, rfl⟩
 · omega
 · have hcap : n + 1 ≤ cap ∧ cap ≤ maxLen := by
    rcases ho.2 with ⟨h, _⟩ | ⟨g', cap', cur, h, _, _, h1, h2, _⟩
    · cases h
    · cases h; exact ⟨h1, h2⟩
   refine ⟨g, cap, rfl, hcap, (ho.lt g rfl).2, ?_, ?_, ?_, hb, ho⟩
   · rw [ho.cellAt 0 (by omega)]; rfl
   · intro o; exact ((hb.alloc hb.size o).block ga hz).trans hg
   · intro o; exact ((hb.alloc hb.size o).block gp hzp).trans hgp
theorem bKe {w w1 w2 : World} {a b c : Value} {t : TypeId} (hb1 : Below w.heap.size w w1) (hb : Below (w1.alloc (.cells #[a, b, c] t)).heap.size (w1.alloc (.cells #[a, b, c] t)) w2) :
 w2.cell? ⟨w1.heap.size, 0, none⟩ = some a ∧ Hid (Below w.heap.size w w2) :=
 ⟨(hb.cell (p := ⟨w1.heap.size, 0, none⟩) (by simp)).trans (by simp), (hb1.alloc hb1.size _).trans (hb.mono (by have := hb1.size; simp; omega))⟩
theorem aYg (s : ByteArray) (w : World) (t : TypeId) (fr : Nat × Nat) (hg : w.heap[0]? = some (.cells aQi t fr)) (tp : TypeId) (frp : Nat × Nat) (hgp : w.heap[1]? = some (.cells aXg tp frp)) :
 Calls prog 23 #[.string s] w fun e w' => e = .returned (.bool (aV6 s)) ∧ Below w.heap.size w w' := by
 by_cases h1 : s.size < 1
 · rw [bJg h1]
   have hem : s.toList.isEmpty = true := by
    rw [Lib.toList_data, List.isEmpty_iff, ← List.length_eq_zero_iff]
    have hsz : s.data.toList.length = s.size := by simp
    omega
   go_enter func23, ntmps23
   go_wp2_with fail
   go_ret
   exact ⟨rfl, Below.refl _ _⟩
 have hem : s.toList.isEmpty = false := by
  rw [Lib.toList_data]
  have hsz : s.data.toList.length = s.size := by simp
  cases h : s.data.toList with
  | nil => rw [h] at hsz; simp at hsz; omega
  | cons a l => rfl
 by_cases h2 : 60 < s.size
 · rw [aWi h2]
   go_enter func23, ntmps23
   go_wp2_with fail
   go_ret
   exact ⟨rfl, Below.refl _ _⟩
 have hz : 0 < w.heap.size := (gLt hg)
 have hzp : 1 < w.heap.size := (gLt hgp)
 have HG : Hid (w.heap[0]? = some (.cells aQi t fr)) := hg
 have HGP : Hid (w.heap[1]? = some (.cells aXg tp frp)) := hgp
 clear hg hgp
 have hcall := bKx s w
 have e1 : bVh s = (aX4 s).1 := by unfold bVh; rw [if_neg (by omega)]
 have hnb : aV6 s = (decide ((aX4 s).2 < 0) && bKs 0 (aX4 s).1) := by unfold aV6; rw [decide_eq_true (by omega), Bool.true_and]
 by_cases hbad : (aX4 s).2 < 0
 · have e3 : bY0 s = 0 := by unfold bY0; rw [if_neg (by omega), if_neg (by omega)]
   have hlen := cKx (by omega) hbad
   rw [decide_eq_true hbad, Bool.true_and] at hnb
   rw [hnb]
   rw [e1, e3] at hcall
   clear hnb e3 hbad
   have hll : (aX4 s).1.length ≤ 4000 := by rw [← e1]; exact cWc s
   clear e1
   obtain ⟨L, hL⟩ := nmE ((aX4 s).1)
   rw [hL] at hcall hlen hll ⊢
   clear hL
   obtain ⟨at3, hat⟩ : ∃ x, rAt s = x := ⟨_, rfl⟩
   rw [hat] at hcall
   clear hat
   match L, hlen with
   | c0 :: cs, _ =>
   have hnl : bKs 0 (c0 :: cs) = (aJ2 c0 && cs.all aVz) := by
    unfold bKs
    cases h : aJ2 c0 with
    | true => simp [h, cJx h]
    | false => simp [h]
   rw [hnl]
   clear hnl
   obtain ⟨n, hn⟩ := nmE (cs.length)
   have HN : Hid (cs.length = n) := hn
   simp only [List.length_cons, hn] at hll hcall
   clear hn hlen
   go_enter func23, ntmps23
   cases hst : aJ2 c0 with
   | false =>
    go_wp2_with (first | (go_at_call 35; refine hcall.mono ?_; rintro e w1 ⟨v1, rfl, ho1, hb1⟩; clear hcall; obtain ⟨g, cap, rfl, ⟨hcap, hcm⟩, hgz, k0, G1, GP1, HB1, HO1⟩ := bVb HG.out HGP.out hz hzp ho1 hb1; clear ho1 hb1) | (go_at_call 36; refine (aWw _ _ t fr (G1.out _)).mono ?_; rintro e w2 ⟨rfl, hb2⟩; obtain ⟨q0, q1⟩ := bKe HB1.out hb2; replace hb2 := dJc hb2))
    go_ret
    exact ⟨rfl, q1.out⟩
   | true =>
    go_wp2_with (first | (go_at_call 35; refine hcall.mono ?_; rintro e w1 ⟨v1, rfl, ho1, hb1⟩; clear hcall; obtain ⟨g, cap, rfl, ⟨hcap, hcm⟩, hgz, k0, G1, GP1, HB1, HO1⟩ := bVb HG.out HGP.out hz hzp ho1 hb1; clear ho1 hb1) | (go_at_call 36; refine (aWw _ _ t fr (G1.out _)).mono ?_; rintro e w2 ⟨rfl, hb2⟩; obtain ⟨q0, q1⟩ := bKe HB1.out hb2; replace hb2 := dJc hb2))
    ·
     have hn0 : n = 0 := by omega
     subst hn0
     have hcs : cs = [] := List.eq_nil_of_length_eq_zero HN.out
     subst hcs
     clear hcap hcm k0 hgz q0
     go_loopw [30] (fun i wr => i = .int .i64 0 ∧ wr = w2) (fun _ _ => 0)
     case atStart => exact ⟨rfl, rfl⟩
     case round =>
      obtain ⟨rfl, rfl⟩ := hrel
      go_wp2
      go_ret
      exact ⟨rfl, q1.out⟩
    · have hcells : Hid (∀ k, k < n → w2.cell? ⟨g, 1 + k, none⟩ = some (.int .i64 (cs.getD k 0))) := by
       intro k hk
       refine (hb2.out.cell (p := ⟨g, 1 + k, none⟩) (by simp; omega)).trans ?_
       refine (((Below.refl w1.heap.size w1).alloc (Nat.le_refl _) _).cell (p := ⟨g, 1 + k, none⟩) hgz).trans ?_
       rw [HO1.out.cellAt (1 + k) (by omega)]
       have hkl : k < cs.length := by have := HN.out; omega
       rw [Nat.add_comm 1 k]
       simp [List.getD, hkl]
      have hgw : g < w2.heap.size := by have := hb2.out.size; simp at this; omega
      have GS2 : Hid (∀ wx, Below w2.heap.size w2 wx → wx.heap[0]? = some (.cells aQi t fr)) := fun wx hx => ((hx.block _ (Nat.lt_of_lt_of_le hz q1.out.size)).trans (q1.out.block _ hz)).trans HG.out
      have GP2 : Hid (∀ wx, Below w2.heap.size w2 wx → wx.heap[1]? = some (.cells aXg tp frp)) := fun wx hx => ((hx.block _ (Nat.lt_of_lt_of_le hzp q1.out.size)).trans (q1.out.block _ hzp)).trans HGP.out
      clear k0 hgz q0 G1 GP1 HO1 hb2 HB1
      go_loopw [30] (fun i wr => ∃ (k : Nat), k ≤ n ∧ i = .int .i64 k ∧ (cs.take k).all aVz = true ∧ Below w2.heap.size w2 wr) (fun i _ => n - (intOf i).toNat)
      case atStart => exact ⟨0, Nat.zero_le _, rfl, rfl, Below.refl _ _⟩
      case round =>
       obtain ⟨k, hk, rfl, hall, hbr⟩ := hrel
       by_cases hlt : k < n
       · have c1 := (hbr.cell (p := ⟨g, 1 + k, none⟩) hgw).trans (hcells.out k hlt)
         have hkl : k < cs.length := by have := HN.out; omega
         obtain ⟨c, hce⟩ : ∃ c, c = cs.getD k 0 := ⟨_, rfl⟩
         rw [← hce] at c1
         have HE : Hid (c = cs.getD k 0) := hce
         have HA : Hid ((cs.take k).all aVz = true) := hall
         have hpart := bYo c wr tp frp (GP2.out wr hbr) t fr (GS2.out wr hbr)
         have HBR : Hid (Below w2.heap.size w2 wr) := hbr
         clear hce hall hbr
         cases hpb : aVz c with
         | true =>
          rw [hpb] at hpart
          go_wp2_with (go_at_call 37; refine hpart.mono ?_; rintro e w4 ⟨rfl, hb4⟩)
          go_roundw
          case rel =>
           refine ⟨k + 1, by omega, by go_num, ?_, HBR.out.trans (hb4.mono HBR.out.size)⟩
           have e : cs.take (k + 1) = cs.take k ++ [c] := by rw [List.take_succ_eq_append_getElem hkl, HE.out]; simp [List.getD, hkl]
           rw [e, List.all_append, HA.out]
           simp [hpb]
          case measure => simp [intOf]; omega
         | false =>
          rw [hpb] at hpart
          go_wp2_with (go_at_call 37; refine hpart.mono ?_; rintro e w4 ⟨rfl, hb4⟩)
          go_ret
          refine ⟨aXd ?_, (q1.out.trans (HBR.out.mono q1.out.size)).trans (hb4.mono (q1.out.trans (HBR.out.mono q1.out.size)).size)⟩
          have hno : cs.all aVz = false := by
           cases h : cs.all aVz with
           | false => rfl
           | true =>
            rw [List.all_eq_true] at h
            have := h cs[k] (List.getElem_mem hkl)
            have e : c = cs[k] := by rw [HE.out]; simp [List.getD, hkl]
            rw [← e, hpb] at this
            cases this
          rw [hno]; rfl
       · have hkn : n ≤ k := by omega
         have e : cs.take k = cs := List.take_of_length_le (by have := HN.out; omega)
         rw [e] at hall
         clear e
         have HA : Hid (cs.all aVz = true) := hall
         clear hall
         go_wp2
         go_ret
         refine ⟨aXd ?_, q1.out.trans (hbr.mono q1.out.size)⟩
         rw [HA.out]; rfl
 · rw [decide_eq_false hbad, Bool.false_and] at hnb
   rw [hnb]
   have e3 : bY0 s = 3 := by unfold bY0; rw [if_neg (by omega), if_pos (by omega)]
   have e4 : bVh s = [] := by rw [e1]; exact bWs _ _ _ (by unfold aX4 at hbad; omega)
   rw [e3, e4] at hcall
   clear hnb e1 e3 e4 hbad
   obtain ⟨at3, hat⟩ : ∃ x, rAt s = x := ⟨_, rfl⟩
   rw [hat] at hcall
   clear hat
   go_enter func23, ntmps23
   go_wp2_with (go_at_call 35; refine hcall.mono ?_; rintro e w1 ⟨v1, rfl, ho1, hb1⟩; clear hcall; obtain ⟨ao, cv, rfl⟩ := bJ5 ho1; clear ho1)
   go_ret
   exact ⟨rfl, hb1.alloc hb1.size _⟩
open Go.RowKit Plain2 Lists Plain3 Plain6 Plain9 Plain10 Plain13 PlainS
def zQ : Obj := .cells #[.string ⟨#[]⟩, .string ⟨#[]⟩, .int .i64 0] 40
theorem aJ3 {p : Prop} (h : p) : Hid p := h
structure QBox (w W : World) : Prop where
 res : W.heap[w.heap.size]? = some zQ
 bel : Below w.heap.size w W
theorem QBox.start (w : World) : QBox w (w.alloc zQ) := ⟨heap_alloc_new w zQ, bAl⟩
theorem QBox.step {w W W' : World} (h : QBox w W) (hb : Below W.heap.size W W') : QBox w W' :=
 ⟨by rw [hb.block _ (gLt h.res)]; exact h.res, h.bel.trans (hb.mono h.bel.size)⟩
theorem QBox.cells {w W : World} (h : QBox w W) : W.cell? ⟨w.heap.size, 0, none⟩ = some (.string ⟨#[]⟩) ∧ W.cell? ⟨w.heap.size, 1, none⟩ = some (.string ⟨#[]⟩) ∧ W.cell? ⟨w.heap.size, 2, none⟩ = some (.int .i64 0) ∧ W.frozen? ⟨w.heap.size, 0, none⟩ = false ∧ W.frozen? ⟨w.heap.size, 1, none⟩ = false ∧ W.frozen? ⟨w.heap.size, 2, none⟩ = false := by
 simp [World.cell?, World.frozen?, h.res, zQ]
theorem aQt {w W : World} (h : Below w.heap.size w W) (j : Nat) (u : Value) : Below w.heap.size w (W.setCell ⟨w.heap.size, j, none⟩ u) :=
 ⟨h.os, h.tape, h.output, by have := h.size; simpa using this, fun i hi => by rw [Below.heap_setCell W ⟨w.heap.size, j, none⟩ u i (by simp only; omega)]; exact h.block i hi⟩
theorem QBox.fin {w W : World} (h : QBox w W) (a b c : Value) : Below w.heap.size w (((W.setCell ⟨w.heap.size, 0, none⟩ a).setCell ⟨w.heap.size, 1, none⟩ b).setCell ⟨w.heap.size, 2, none⟩ c) :=
 aQt (aQt (aQt h.bel 0 a) 1 b) 2 c
structure SFr (w W : World) (t : TypeId) (fr : Nat × Nat) (tp : TypeId) (frp : Nat × Nat) (m : Int) : Prop where
 q : QBox w W
 st : W.heap[0]? = some (.cells aQi t fr)
 pt : W.heap[1]? = some (.cells aXg tp frp)
 mx : W.cell? ⟨2, 0, none⟩ = some (.int .i64 m)
theorem SFr.step {w W W' : World} {t : TypeId} {fr : Nat × Nat} {tp : TypeId} {frp : Nat × Nat} {m : Int} (h : SFr w W t fr tp frp m) (hb : Below W.heap.size W W') : SFr w W' t fr tp frp m :=
 ⟨h.q.step hb, by rw [hb.block _ (gLt h.st)]; exact h.st, by rw [hb.block _ (gLt h.pt)]; exact h.pt, (hb.cell (p := ⟨2, 0, none⟩) (aQk h.mx)).trans h.mx⟩
theorem SFr.drewN {w W : World} {t : TypeId} {fr : Nat × Nat} {tp : TypeId} {frp : Nat × Nat} {m : Int} (h : SFr w W t fr tp frp m) (n : Nat) : SFr w (W.drewN n) t fr tp frp m :=
 h.step ⟨rfl, rfl, rfl, Nat.le_refl _, fun _ _ => rfl⟩
theorem SFr.start {w : World} {t : TypeId} {fr : Nat × Nat} {tp : TypeId} {frp : Nat × Nat} {m : Int} (hg : w.heap[0]? = some (.cells aQi t fr)) (hgp : w.heap[1]? = some (.cells aXg tp frp)) (hm : w.cell? ⟨2, 0, none⟩ = some (.int .i64 m)) : SFr w (w.alloc zQ) t fr tp frp m :=
 ⟨QBox.start w, by rw [heap_alloc_old w zQ (gLt hg)]; exact hg, by rw [heap_alloc_old w zQ (gLt hgp)]; exact hgp, (((Below.refl _ _).alloc (Nat.le_refl _) zQ).cell (p := ⟨2, 0, none⟩) (aQk hm)).trans hm⟩
theorem bX0 (s : ByteArray) (w : World) (hs : s.size ≤ 1048576) (t : TypeId) (fr : Nat × Nat) (hg : w.heap[0]? = some (.cells aQi t fr)) (tp : TypeId) (frp : Nat × Nat) (hgp : w.heap[1]? = some (.cells aXg tp frp)) (m : Int) (hm : w.cell? ⟨2, 0, none⟩ = some (.int .i64 m)) :
 Calls prog 9 #[.string s] w fun e w' => e = .returned (.agg #[.string (aQu s).1, .string (aQu s).2.1, .int .i64 (aQu s).2.2]) ∧ Below w.heap.size w w' := by
 obtain ⟨Z, hZ⟩ := nmE (aQu s)
 rw [hZ]
 have HZ := aJ3 hZ
 clear hZ
 have Q0 := aJ3 (QBox.start w)
 by_cases hbig : 4000 < s.size
 · have hZ2 : Z = (⟨#[]⟩, ⟨#[]⟩, 2) := by rw [← HZ.out]; unfold aQu; rw [if_pos hbig]
   subst hZ2
   go_enter func9, ntmps9
   go_wp2
   refine bodyPost_ret (v := .agg #[.string ⟨#[]⟩, .string ⟨#[]⟩, .int .i64 2]) (by simp [results, results9, go_sem]) rfl ⟨rfl, ?_⟩
   exact bAl
 have hcut := Tryz.strings_Cut s ⟨#[58]⟩ m (w.alloc zQ) (by omega) ((((Below.refl _ _).alloc (Nat.le_refl _) zQ).cell (p := ⟨2, 0, none⟩) (aQk hm)).trans hm)
 have FA : Hid (SFr w (w.alloc zQ) t fr tp frp m) := aJ3 (SFr.start hg hgp hm)
 by_cases hf : upF s 0 [58] = 0
 · obtain ⟨h1, h2, h3, h4, h5, h6, h7⟩ := cKj hf
   rw [h4, h5, h6] at hcut
   obtain ⟨X, hX⟩ := nmE (upT s 0 [58])
   obtain ⟨Y, hY⟩ := nmE (s.extract (upP s 0 [58]) s.size)
   rw [hX, hY] at hcut h7
   rw [hX] at h2
   rw [hY] at h3
   have hnX := fun W (h : SFr w W t fr tp frp m) => aYg X W t fr h.st tp frp h.pt
   have hnY := fun W (h : SFr w W t fr tp frp m) => aYg Y W t fr h.st tp frp h.pt
   have hcY := fun W (h : SFr w W t fr tp frp m) => Tryz.strings_Contains Y ⟨#[58]⟩ m W (by omega) h.mx
   have H7 := aJ3 h7
   clear h4 h5 h6 h7 hX hY hf h1
   cases hbX : aV6 X with
   | false =>
    rw [hbX] at hnX
    have hZ2 : Z = (⟨#[]⟩, ⟨#[]⟩, 3) := by rw [← HZ.out]; unfold aQu; rw [if_neg hbig, H7.out, hbX]; split <;> simp
    subst hZ2
    go_enter func9, ntmps9
    go_wp2_with fail
    refine hcut.mono ?_
    rintro e w1 ⟨rfl, n, hww⟩
    have F0 : Hid (SFr w w1 t fr tp frp m) := by rw [hww]; exact aJ3 (FA.out.drewN n)
    clear hww hcut
    obtain ⟨r0, r1, r2, f0, f1, f2⟩ := F0.out.q.cells
    go_wp2_with fail
    refine (hnX _ F0.out).mono ?_
    rintro e w2 ⟨rfl, hb2⟩
    have F1 := aJ3 (F0.out.step hb2)
    clear hb2 F0
    obtain ⟨r0, r1, r2, f0, f1, f2⟩ := F1.out.q.cells
    go_wp2
    refine bodyPost_ret (v := .agg #[.string ⟨#[]⟩, .string ⟨#[]⟩, .int .i64 3]) (by simp [results, results9, go_sem, r0, r1, r2]) rfl ⟨rfl, ?_⟩
    exact F1.out.q.fin _ _ _
   | true =>
    rw [hbX] at hnX
    cases hbY : aV6 Y with
    | false =>
     rw [hbY] at hnY
     have hZ2 : Z = (⟨#[]⟩, ⟨#[]⟩, 3) := by rw [← HZ.out]; unfold aQu; rw [if_neg hbig, H7.out, hbY]; split <;> simp
     subst hZ2
     go_enter func9, ntmps9
     go_wp2_with fail
     refine hcut.mono ?_
     rintro e w1 ⟨rfl, n, hww⟩
     have F0 : Hid (SFr w w1 t fr tp frp m) := by rw [hww]; exact aJ3 (FA.out.drewN n)
     clear hww hcut
     obtain ⟨r0, r1, r2, f0, f1, f2⟩ := F0.out.q.cells
     go_wp2_with fail
     refine (hnX _ F0.out).mono ?_
     rintro e w2 ⟨rfl, hb2⟩
     have F1 := aJ3 (F0.out.step hb2)
     clear hb2 F0
     obtain ⟨r0, r1, r2, f0, f1, f2⟩ := F1.out.q.cells
     go_wp2_with fail
     refine (hnY _ F1.out).mono ?_
     rintro e w3 ⟨rfl, hb3⟩
     have F2 := aJ3 (F1.out.step hb3)
     clear hb3 F1
     obtain ⟨r0, r1, r2, f0, f1, f2⟩ := F2.out.q.cells
     go_wp2
     refine bodyPost_ret (v := .agg #[.string ⟨#[]⟩, .string ⟨#[]⟩, .int .i64 3]) (by simp [results, results9, go_sem, r0, r1, r2]) rfl ⟨rfl, ?_⟩
     exact F2.out.q.fin _ _ _
    | true =>
     rw [hbY] at hnY
     cases hbC : Lib.contains Y.data.toList [58] with
     | true =>
      have hcY : ∀ W, SFr w W t fr tp frp m → Calls prog 24 #[.string Y, .string ⟨#[58]⟩] W fun e w' => e = .returned (.bool true) ∧ w' = W := fun W h => by have := hcY W h; rw [show (⟨#[58]⟩ : ByteArray).data.toList = [58] from rfl, hbC] at this; exact this
      have hZ2 : Z = (⟨#[]⟩, ⟨#[]⟩, 3) := by rw [← HZ.out]; unfold aQu; rw [if_neg hbig, H7.out, hbC, if_pos rfl]; simp
      subst hZ2
      go_enter func9, ntmps9
      go_wp2_with fail
      refine hcut.mono ?_
      rintro e w1 ⟨rfl, n, hww⟩
      have F0 : Hid (SFr w w1 t fr tp frp m) := by rw [hww]; exact aJ3 (FA.out.drewN n)
      clear hww hcut
      obtain ⟨r0, r1, r2, f0, f1, f2⟩ := F0.out.q.cells
      go_wp2_with fail
      refine (hnX _ F0.out).mono ?_
      rintro e w2 ⟨rfl, hb2⟩
      have F1 := aJ3 (F0.out.step hb2)
      clear hb2 F0
      obtain ⟨r0, r1, r2, f0, f1, f2⟩ := F1.out.q.cells
      go_wp2_with fail
      refine (hnY _ F1.out).mono ?_
      rintro e w3 ⟨rfl, hb3⟩
      have F2 := aJ3 (F1.out.step hb3)
      clear hb3 F1
      obtain ⟨r0, r1, r2, f0, f1, f2⟩ := F2.out.q.cells
      go_wp2_with fail
      refine (hcY _ F2.out).mono ?_
      rintro e w4 ⟨rfl, hww4⟩
      obtain rfl := hww4.symm
      go_wp2
      refine bodyPost_ret (v := .agg #[.string ⟨#[]⟩, .string ⟨#[]⟩, .int .i64 3]) (by simp [results, results9, go_sem, r0, r1, r2]) rfl ⟨rfl, ?_⟩
      exact F2.out.q.fin _ _ _
     | false =>
      have hcY : ∀ W, SFr w W t fr tp frp m → Calls prog 24 #[.string Y, .string ⟨#[58]⟩] W fun e w' => e = .returned (.bool false) ∧ w' = W := fun W h => by have := hcY W h; rw [show (⟨#[58]⟩ : ByteArray).data.toList = [58] from rfl, hbC] at this; exact this
      have hZ2 : Z = (X, Y, 0) := by rw [← HZ.out]; unfold aQu; rw [if_neg hbig, H7.out, hbC]; simp [hbX, hbY]
      subst hZ2
      go_enter func9, ntmps9
      go_wp2_with fail
      refine hcut.mono ?_
      rintro e w1 ⟨rfl, n, hww⟩
      have F0 : Hid (SFr w w1 t fr tp frp m) := by rw [hww]; exact aJ3 (FA.out.drewN n)
      clear hww hcut
      obtain ⟨r0, r1, r2, f0, f1, f2⟩ := F0.out.q.cells
      go_wp2_with fail
      refine (hnX _ F0.out).mono ?_
      rintro e w2 ⟨rfl, hb2⟩
      have F1 := aJ3 (F0.out.step hb2)
      clear hb2 F0
      obtain ⟨r0, r1, r2, f0, f1, f2⟩ := F1.out.q.cells
      go_wp2_with fail
      refine (hnY _ F1.out).mono ?_
      rintro e w3 ⟨rfl, hb3⟩
      have F2 := aJ3 (F1.out.step hb3)
      clear hb3 F1
      obtain ⟨r0, r1, r2, f0, f1, f2⟩ := F2.out.q.cells
      go_wp2_with fail
      refine (hcY _ F2.out).mono ?_
      rintro e w4 ⟨rfl, hww4⟩
      obtain rfl := hww4.symm
      go_wp2
      refine bodyPost_ret (v := .agg #[.string X, .string Y, .int .i64 0]) (by simp [results, results9, go_sem, r0, r1, r2]) rfl ⟨rfl, ?_⟩
      exact F2.out.q.fin _ _ _
 · obtain ⟨h1, h2⟩ := dX8 hf
   have hcn := (cut_no hf).1
   have hr : rest s 0 = s.data.toList := by unfold rest; rw [List.drop_zero]
   rw [hr] at hcn
   rw [show (⟨#[58]⟩ : ByteArray).data.toList = [58] from rfl, hcn] at hcut
   have hself : (⟨(s.data.toList).toArray⟩ : ByteArray) = s := by simp
   simp only [hself] at hcut
   have hnY := fun W (h : SFr w W t fr tp frp m) => aYg s W t fr h.st tp frp h.pt
   have hcY : ∀ W, SFr w W t fr tp frp m → Calls prog 24 #[.string s, .string ⟨#[58]⟩] W fun e w' => e = .returned (.bool false) ∧ w' = W := fun W h => by have := Tryz.strings_Contains s ⟨#[58]⟩ m W (by omega) h.mx; rw [show (⟨#[58]⟩ : ByteArray).data.toList = [58] from rfl, h2] at this; exact this
   have H1 := aJ3 h1
   clear h1 hf hcn hr hself h2
   cases hbY : aV6 s with
   | false =>
    rw [hbY] at hnY
    have hZ2 : Z = (⟨#[]⟩, ⟨#[]⟩, 3) := by rw [← HZ.out]; unfold aQu; rw [if_neg hbig, H1.out, hbY]; simp
    subst hZ2
    go_enter func9, ntmps9
    go_wp2_with fail
    refine hcut.mono ?_
    rintro e w1 ⟨rfl, n, hww⟩
    have F0 : Hid (SFr w w1 t fr tp frp m) := by rw [hww]; exact aJ3 (FA.out.drewN n)
    clear hww hcut
    obtain ⟨r0, r1, r2, f0, f1, f2⟩ := F0.out.q.cells
    go_wp2_with fail
    refine (hnY _ F0.out).mono ?_
    rintro e w2 ⟨rfl, hb2⟩
    have F1 := aJ3 (F0.out.step hb2)
    clear hb2 F0
    obtain ⟨r0, r1, r2, f0, f1, f2⟩ := F1.out.q.cells
    go_wp2
    refine bodyPost_ret (v := .agg #[.string ⟨#[]⟩, .string ⟨#[]⟩, .int .i64 3]) (by simp [results, results9, go_sem, r0, r1, r2]) rfl ⟨rfl, ?_⟩
    exact F1.out.q.fin _ _ _
   | true =>
    rw [hbY] at hnY
    have hZ2 : Z = (⟨#[]⟩, s, 0) := by rw [← HZ.out]; unfold aQu; rw [if_neg hbig, H1.out, hbY]; rfl
    subst hZ2
    go_enter func9, ntmps9
    go_wp2_with fail
    refine hcut.mono ?_
    rintro e w1 ⟨rfl, n, hww⟩
    have F0 : Hid (SFr w w1 t fr tp frp m) := by rw [hww]; exact aJ3 (FA.out.drewN n)
    clear hww hcut
    obtain ⟨r0, r1, r2, f0, f1, f2⟩ := F0.out.q.cells
    go_wp2_with fail
    refine (hnY _ F0.out).mono ?_
    rintro e w2 ⟨rfl, hb2⟩
    have F1 := aJ3 (F0.out.step hb2)
    clear hb2 F0
    obtain ⟨r0, r1, r2, f0, f1, f2⟩ := F1.out.q.cells
    go_wp2_with fail
    refine (hcY _ F1.out).mono ?_
    rintro e w3 ⟨rfl, hww3⟩
    obtain rfl := hww3.symm
    go_wp2
    refine bodyPost_ret (v := .agg #[.string ⟨#[]⟩, .string s, .int .i64 0]) (by simp [results, results9, go_sem, r0, r1, r2]) rfl ⟨rfl, ?_⟩
    exact F1.out.q.fin _ _ _
end Go.Proofs.YtocnfoeaikiecaaGreatDoor
