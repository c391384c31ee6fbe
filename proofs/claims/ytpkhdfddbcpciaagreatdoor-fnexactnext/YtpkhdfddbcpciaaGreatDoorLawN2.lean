/- The laws' marks on a list of attributes, and whether they are held. -/
import Derived.Test.YtpkhdfddbcpciaaGreatDoorLawN1
import Derived.Test.YtpkhdfddbcpciaaGreatDoorPlB
namespace Go.Proofs.YtpkhdfddbcpciaaGreatDoor
open Go.RowKit Plain1 Strs Strs2 Lists Plain3 Plain5 Plain6 Plain9 Plain10 Plain11 Plain12 Plain16 Ents

def mtGo : Nat → Nat → ByteArray → ByteArray
  | 0, _, l => l
  | f + 1, k, l => if k = 0 then l else mtGo f (k / 10) (strOfNums [48 + (k : Int) % 10] ++ l)
def mt (k : Nat) : ByteArray := ⟨#[109]⟩ ++ mtGo k k ⟨#[]⟩

theorem one_size (c : Int) : (strOfNums [c]).size = 1 := rfl
set_option maxRecDepth 100000 in
set_option maxHeartbeats 2000000 in
theorem markText_any (k : Nat) (w : World) (h0 : 1 ≤ k) (h1 : k ≤ 1048576) :
    Calls Tryz.prog 69 #[.int .i64 (k : Int)] w fun e w' => e = .returned (.string (mt k)) ∧ w.grownBy w' none := by
  have hk0 : ¬ (k : Int) ≤ 0 := by omega
  have hcv := fun W c => conv_one W c _ rfl
  go_enter Tryz.func69, Tryz.ntmps69
  go_wp2
  go_loopw [0, 3] (fun i o wr => ∃ (f j : Nat) (out : ByteArray), j ≤ f ∧ out.size + j ≤ k ∧ i = .int .i64 j ∧ o = .string out ∧ mtGo f j out = mtGo k k ⟨#[]⟩ ∧ w.grownBy wr none) (fun i _ _ => (intOf i).toNat)
  case atStart => exact ⟨k, k, _, Nat.le_refl _, by simp [ByteArray.size], rfl, rfl, rfl, gnR3 _ _⟩
  case round =>
    obtain ⟨f, j, out, hjf, hjk, rfl, rfl, hm, hg⟩ := hrel
    have HM := mkHidT hm
    have HG := mkHidT hg
    clear hm hg
    by_cases hj : j = 0
    · subst hj
      have hsz : ¬ 9223372036854775807 < 1 + out.size := by omega
      go_wp2
      go_ret
      refine ⟨?_, HG.out⟩
      have e : mtGo f 0 out = out := by cases f <;> simp [mtGo]
      unfold mt
      rw [← HM.out, e]
      rfl
    · have hj' : (j : Int) > 0 := by omega
      have hos := one_size (48 + (j : Int) % 10)
      have hsz : ¬ 9223372036854775807 < (strOfNums [48 + (j : Int) % 10]).size + out.size := by omega
      clear hos
      go_wp2
      go_roundw
      case rel =>
        obtain ⟨f', rfl⟩ : ∃ f', f = f' + 1 := ⟨f - 1, by omega⟩
        refine ⟨f', j / 10, _, by omega, ?_, by go_num, rfl, ?_, im_gtrans HG.out (gnA3 _ _)⟩
        · rw [ByteArray.size_append, one_size]; omega
        · rw [← HM.out]
          conv => rhs; unfold mtGo
          rw [if_neg hj]
      case measure => simp [intOf]; omega

/-- The marks from a number on. -/
def mks (n k : Nat) : List (ByteArray × ByteArray) := (List.range n).map fun i => (mt (k + i * 2), mt (k + i * 2 + 1))
theorem mks_len (n k : Nat) : (mks n k).length = n := by simp [mks]
theorem mks_at (n k j : Nat) (h : j < (mks n k).length) : (mks n k)[j]'h = (mt (k + j * 2), mt (k + j * 2 + 1)) := by simp [mks]
theorem mks_cells {n k : Nat} {xs : List Value} (hl : xs.length = n * 2) (h : ∀ j, j < n → xs[j * 2]? = some (.string (mt (k + j * 2))) ∧ xs[j * 2 + 1]? = some (.string (mt (k + j * 2 + 1)))) : xs = acells (mks n k) := by
  have hlen : (acells (mks n k)).length = n * 2 := by
    have : ∀ l : List (ByteArray × ByteArray), (acells l).length = l.length * 2 := fun l => by
      induction l with
      | nil => rfl
      | cons a l ih => simp [acells] at ih ⊢; omega
    rw [this, mks_len]
  apply List.ext_getElem?
  intro i
  by_cases hi : i < n * 2
  · have hj : i / 2 < (mks n k).length := by rw [mks_len]; omega
    have a := acells_at (mks n k) (i / 2) hj
    rw [mks_at] at a
    have b := h (i / 2) (by omega)
    rcases Nat.mod_two_eq_zero_or_one i with h2 | h2
    · have e : i = i / 2 * 2 := by omega
      rw [e, b.1, a.1]
    · have e : i = i / 2 * 2 + 1 := by omega
      rw [e, b.2, a.2]
  · rw [List.getElem?_eq_none (by omega), List.getElem?_eq_none (by omega)]

theorem gset3 {w : World} {g j : Nat} (u : Value) : w.grownBy (w.setCell ⟨g, j, none⟩ u) (some g) := gset5 u

set_option maxRecDepth 100000 in
set_option maxHeartbeats 4000000 in
theorem markAttrS_any (B : Nat) (v : Value) (n : Nat) (ys : List Value) (w : World) (hown : w.ownsRow B 85 2 v n ys) (hn : n ≤ 5000) :
    Calls Tryz.prog 37 #[v, .int .i64 1] w fun e w' => e = .returned (.int .i64 (1 + (n : Int) * 2)) ∧ w'.ownsRow B 85 2 v n (acells (mks n 1)) ∧ w.grownBy w' v.ownBlock := by
  rcases hown.2 with ⟨rfl, rfl⟩ | ⟨g, cap, cur, rfl, hrest⟩
  · clear hown
    go_enter Tryz.func37, Tryz.ntmps37
    go_wp2
    go_loopw [1, 5] (fun kk i wr => kk = .int .i64 1 ∧ i = .int .i64 0 ∧ wr = w) (fun _ _ _ => 0)
    case atStart => exact ⟨rfl, rfl, rfl⟩
    case round =>
      obtain ⟨rfl, rfl, rfl⟩ := hrel
      go_wp2
      go_ret
      exact ⟨rfl, World.ownsRow_nil _ _ _ _, gnR3 _ _⟩
  · clear hrest
    have hgl : g < w.heap.size := (hown.lt g rfl).2
    have HO0 := mkHidT hown
    clear hown
    go_enter Tryz.func37, Tryz.ntmps37
    go_wp2
    go_loopw [1, 5] (fun kk i wr => ∃ (j : Nat) (xs : List Value), j ≤ n ∧ kk = .int .i64 (1 + (j : Int) * 2) ∧ i = .int .i64 j ∧ wr.ownsRow B 85 2 (.slice (some ⟨g, 0, none⟩) n cap) n xs ∧ (∀ t, t < j → xs[t * 2]? = some (.string (mt (1 + t * 2))) ∧ xs[t * 2 + 1]? = some (.string (mt (1 + t * 2 + 1)))) ∧ w.grownBy wr (some g)) (fun _ i _ => n - (intOf i).toNat)
    case atStart => exact ⟨0, ys, Nat.zero_le _, rfl, rfl, HO0.out, fun t ht => absurd ht (by omega), gnR3 _ _⟩
    case round =>
      obtain ⟨j, xs, hj, rfl, rfl, ho, hx, hb⟩ := hrel
      have HX := mkHidT hx
      have HB := mkHidT hb
      have HO := mkHidT ho
      clear hx hb ho
      by_cases hlt : j < n
      · have hxl : xs.length = n * 2 := HO.out.1
        have hm1 := markText_any (1 + j * 2) wr (by omega) (by omega)
        rw [show ((1 + j * 2 : Nat) : Int) = 1 + (j : Int) * 2 by omega] at hm1
        go_wp2_with fail
        refine hm1.mono ?_
        rintro e w1 ⟨rfl, hg1⟩
        clear hm1
        have ho1 := HO.out.kept hg1 (.inr (by simp [Value.ownBlock]))
        have k1 := ho1.cellAt (j * 2) (by omega)
        rw [List.getElem?_eq_getElem (by omega)] at k1
        have f1 := ho1.frozenAt (j * 2)
        have hs1 := ho1.stored (j * 2) (.string (mt (1 + j * 2)))
        have HO1 := mkHidT hs1.1
        have HB1 := mkHidT (im_gtrans HB.out (im_gtrans (gnone hg1) (gset5 (w := w1) (g := g) (j := j * 2) (.string (mt (1 + j * 2))))))
        clear ho1 hs1 hg1 HO HB
        have hm2 := markText_any (1 + j * 2 + 1) (w1.setCell ⟨g, j * 2, none⟩ (.string (mt (1 + j * 2)))) (by omega) (by omega)
        rw [show ((1 + j * 2 + 1 : Nat) : Int) = 1 + (j : Int) * 2 + 1 by omega] at hm2
        have HM2 := mkHidT hm2
        clear hm2
        go_wp2_with fail
        refine HM2.out.mono ?_
        rintro e w2 ⟨rfl, hg2⟩
        have ho2 := HO1.out.kept hg2 (.inr (by simp [Value.ownBlock]))
        have hxl2 : (xs.set (j * 2) (.string (mt (1 + j * 2)))).length = n * 2 := by rw [List.length_set]; exact hxl
        have k2 := ho2.cellAt (j * 2 + 1) (by omega)
        rw [List.getElem?_eq_getElem (by omega)] at k2
        have f2 := ho2.frozenAt (j * 2 + 1)
        have hs2 := ho2.stored (j * 2 + 1) (.string (mt (1 + j * 2 + 1)))
        have HO2 := mkHidT hs2.1
        have HB2 := mkHidT (im_gtrans HB1.out (im_gtrans (gnone hg2) (gset5 (w := w2) (g := g) (j := j * 2 + 1) (.string (mt (1 + j * 2 + 1))))))
        clear ho2 hs2 hg2 HO1 HB1 HM2 k1 f1
        go_wp2
        go_roundw
        case rel =>
          refine ⟨j + 1, _, by omega, by go_num, by go_num, HO2.out, fun t ht => ?_, HB2.out⟩
          by_cases hjk : t = j
          · subst hjk
            exact ⟨by rw [List.getElem?_set_ne (by omega), List.getElem?_set_self (by omega)], by rw [List.getElem?_set_self (by rw [List.length_set]; omega)]⟩
          · have := HX.out t (by omega)
            rw [List.getElem?_set_ne (by omega), List.getElem?_set_ne (by omega), List.getElem?_set_ne (by omega), List.getElem?_set_ne (by omega)]
            exact this
        case measure => simp [intOf]; omega
      · obtain rfl : j = n := by omega
        go_wp2
        go_ret
        have e := mks_cells (k := 1) HO.out.1 HX.out
        rw [← e]
        exact ⟨rfl, HO.out, HB.out⟩

set_option maxRecDepth 100000 in
set_option maxHeartbeats 4000000 in
theorem heldAttrS_any (w : World) (a : Option Addr) (n c : Nat) (hn : n ≤ 5000) (h : EntsAt w a (mks n 1)) :
    Calls Tryz.prog 38 #[.slice a n c, .int .i64 1] w fun e w' => e = .returned (.int .i64 (1 + (n : Int) * 2)) ∧ w.grownBy w' none := by
  have HA := mkHidT h
  clear h
  go_enter Tryz.func38, Tryz.ntmps38
  go_wp2
  go_loopw [1, 5] (fun kk i wr => ∃ (k : Nat), k ≤ n ∧ kk = .int .i64 (1 + (k : Int) * 2) ∧ i = .int .i64 k ∧ w.grownBy wr none) (fun _ i _ => n - (intOf i).toNat)
  case atStart => exact ⟨0, Nat.zero_le _, rfl, rfl, gnR3 _ _⟩
  case round =>
    obtain ⟨k, hk, rfl, rfl, hgr⟩ := hrel
    have HG := mkHidT hgr
    clear hgr
    by_cases hlt : k < n
    · obtain ⟨b, off, ha, hc⟩ := HA.out.grown HG.out
      rw [mks_len] at ha
      obtain rfl := ha (by omega)
      have hcc := hc k (by rw [mks_len]; exact hlt)
      rw [mks_at] at hcc
      obtain ⟨c1, c2⟩ := hcc
      have C2 := mkHidT c2
      have hm1 := fun W => markText_any (1 + k * 2) W (by omega) (by omega)
      simp only [show ((1 + k * 2 : Nat) : Int) = 1 + (k : Int) * 2 by omega] at hm1
      have hm2 := fun W => markText_any (1 + k * 2 + 1) W (by omega) (by omega)
      simp only [show ((1 + k * 2 + 1 : Nat) : Int) = 1 + (k : Int) * 2 + 1 by omega] at hm2
      have HM1 := mkHidT hm1
      have HM2 := mkHidT hm2
      simp only at c1
      obtain ⟨M1, hM1⟩ : ∃ M1, mt (1 + k * 2) = M1 := ⟨_, rfl⟩
      obtain ⟨M2, hM2⟩ : ∃ M2, mt (1 + k * 2 + 1) = M2 := ⟨_, rfl⟩
      rw [hM1] at c1 HM1
      rw [hM2] at C2 HM2
      clear hc ha HA hm1 hm2 c2 hM1 hM2
      go_wp2_with fail
      go_region_held3 (fun W => W.cell? ⟨b, off + k * 2, none⟩ = some (.string M1)) (go_keep)
        (first | (go_at_call 69; refine (HM1.out _).mono ?_; rintro e w' ⟨rfl, hg'⟩; have e1 := cell_keep (w := wr) (w' := w') (fun k hk => hg'.block k hk (by simp)) c1))
      have HG1 : Hid (w.grownBy w' none) := mkHidT (im_gtrans HG.out (im_gtrans (im_gdrew wr 1 _) hg'))
      have c2 := cell_keep (w := wr) (w' := w') (fun k hk => hg'.block k hk (by simp)) C2.out
      clear hg' c1 e1 HG HM1 C2
      go_wp2_with fail
      go_region_held3 (fun W => W.cell? ⟨b, off + k * 2 + 1, none⟩ = some (.string M2)) (go_keep)
        (first | (go_at_call 69; refine (HM2.out _).mono ?_; rintro e w2 ⟨rfl, hg2⟩; have e2 := cell_keep (w := w') (w' := w2) (fun k hk => hg2.block k hk (by simp)) c2))
      have HG2 : Hid (w.grownBy w2 none) := mkHidT (im_gtrans HG1.out (im_gtrans (im_gdrew w' 1 _) hg2))
      clear hg2 c2 e2 HG1 HM2
      go_wp2
      go_roundw
      case rel => exact ⟨k + 1, by omega, by go_num, by go_num, HG2.out⟩
      case measure => simp [intOf]; omega
    · obtain rfl : k = n := by omega
      go_wp2
      go_ret
      exact ⟨rfl, HG.out⟩

set_option maxRecDepth 100000 in
set_option maxHeartbeats 4000000 in
theorem markToken_any (B : Nat) (kd : Int) (nm tx : ByteArray) (ao : Option Addr) (an ac n : Nat) (ys : List Value) (w : World) (hown : w.ownsRow B 85 2 (.slice ao an ac) n ys) (hn : n ≤ 5000) :
    Calls Tryz.prog 17 #[.agg #[.int .i64 kd, .string nm, .string tx, .slice ao an ac], .int .i64 1] w fun e w' => e = .returned (.int .i64 (1 + (n : Int) * 2)) ∧ w'.ownsRow B 85 2 (.slice ao an ac) n (acells (mks n 1)) ∧ w.grownBy w' (Value.slice ao an ac).ownBlock := by
  obtain ⟨w1, hw1⟩ : ∃ w1, w.alloc (.cells #[.int .i64 kd, .string nm, .string tx, .slice ao an ac] 24) = w1 := ⟨_, rfl⟩
  have hm := markAttrS_any B (.slice ao an ac) n ys w1 (by rw [← hw1]; exact hown.alloc _) hn
  have HM := mkHidT hm
  have HG := mkHidT (show w.grownBy w1 none by rw [← hw1]; exact gnA3 _ _)
  have HW := mkHidT hw1
  clear hm hw1 hown
  go_enter Tryz.func17, Tryz.ntmps17
  go_wp2_with fail
  rw [HW.out]
  refine HM.out.mono ?_
  rintro e w2 ⟨rfl, hr, hg⟩
  have HR := mkHidT hr
  have HG2 := mkHidT (im_gtrans (gnone HG.out) hg)
  clear hr hg HM
  go_wp2
  go_ret
  exact ⟨rfl, HR.out, HG2.out⟩

set_option maxRecDepth 100000 in
set_option maxHeartbeats 4000000 in
theorem markOut_any (B : Nat) (kd a1 cd : Int) (nm tx : ByteArray) (ao : Option Addr) (an ac n : Nat) (ys : List Value) (w : World) (hown : w.ownsRow B 85 2 (.slice ao an ac) n ys) (hn : n ≤ 5000) :
    Calls Tryz.prog 7 #[.agg #[.int .i64 kd, .string nm, .string tx, .slice ao an ac, .int .i64 a1, .int .i64 cd], .int .i64 1] w fun e w' => e = .returned (.int .i64 (1 + (n : Int) * 2)) ∧ w'.ownsRow B 85 2 (.slice ao an ac) n (acells (mks n 1)) ∧ w.grownBy w' (Value.slice ao an ac).ownBlock := by
  obtain ⟨w1, hw1⟩ : ∃ w1, w.alloc (.cells #[.int .i64 kd, .string nm, .string tx, .slice ao an ac, .int .i64 a1, .int .i64 cd] 26) = w1 := ⟨_, rfl⟩
  have hm := markToken_any B kd nm tx ao an ac n ys w1 (by rw [← hw1]; exact hown.alloc _) hn
  have HM := mkHidT hm
  have HG := mkHidT (show w.grownBy w1 none by rw [← hw1]; exact gnA3 _ _)
  have HW := mkHidT hw1
  clear hm hw1 hown
  go_enter Tryz.func7, Tryz.ntmps7
  go_wp2_with fail
  rw [HW.out]
  refine HM.out.mono ?_
  rintro e w2 ⟨rfl, hr, hg⟩
  have HR := mkHidT hr
  have HG2 := mkHidT (im_gtrans (gnone HG.out) hg)
  clear hr hg HM
  go_wp2
  go_ret
  exact ⟨rfl, HR.out, HG2.out⟩

set_option maxRecDepth 100000 in
set_option maxHeartbeats 4000000 in
theorem heldToken_any (kd : Int) (nm tx : ByteArray) (a : Option Addr) (n c : Nat) (w : World) (hn : n ≤ 5000) (h : EntsAt w a (mks n 1)) :
    Calls Tryz.prog 18 #[.agg #[.int .i64 kd, .string nm, .string tx, .slice a n c], .int .i64 1] w fun e w' => e = .returned (.int .i64 (1 + (n : Int) * 2)) ∧ w.grownBy w' none := by
  obtain ⟨w1, hw1⟩ : ∃ w1, w.alloc (.cells #[.int .i64 kd, .string nm, .string tx, .slice a n c] 24) = w1 := ⟨_, rfl⟩
  have hg1 : w.grownBy w1 none := by rw [← hw1]; exact gnA3 _ _
  have hm := heldAttrS_any w1 a n c hn (h.grown hg1)
  have HM := mkHidT hm
  have HG := mkHidT hg1
  have HW := mkHidT hw1
  have hneg : ¬ (1 + (n : Int) * 2) < 0 := by omega
  clear hm hw1 h hg1
  go_enter Tryz.func18, Tryz.ntmps18
  go_wp2_with fail
  rw [HW.out]
  refine HM.out.mono ?_
  rintro e w2 ⟨rfl, hg⟩
  have HG2 := mkHidT (im_gtrans HG.out hg)
  clear hg HM
  go_wp2
  go_ret
  exact ⟨rfl, HG2.out⟩

set_option maxRecDepth 100000 in
set_option maxHeartbeats 4000000 in
theorem heldOut_any (kd a1 cd : Int) (nm tx : ByteArray) (a : Option Addr) (n c : Nat) (w : World) (hn : n ≤ 5000) (h : EntsAt w a (mks n 1)) :
    Calls Tryz.prog 8 #[.agg #[.int .i64 kd, .string nm, .string tx, .slice a n c, .int .i64 a1, .int .i64 cd], .int .i64 1] w fun e w' => e = .returned (.int .i64 (1 + (n : Int) * 2)) ∧ w.grownBy w' none := by
  obtain ⟨w1, hw1⟩ : ∃ w1, w.alloc (.cells #[.int .i64 kd, .string nm, .string tx, .slice a n c, .int .i64 a1, .int .i64 cd] 26) = w1 := ⟨_, rfl⟩
  have hg1 : w.grownBy w1 none := by rw [← hw1]; exact gnA3 _ _
  have hm := heldToken_any kd nm tx a n c w1 hn (h.grown hg1)
  have HM := mkHidT hm
  have HG := mkHidT hg1
  have HW := mkHidT hw1
  have hneg : ¬ (1 + (n : Int) * 2) < 0 := by omega
  clear hm hw1 h hg1
  go_enter Tryz.func8, Tryz.ntmps8
  go_wp2_with fail
  rw [HW.out]
  refine HM.out.mono ?_
  rintro e w2 ⟨rfl, hg⟩
  have HG2 := mkHidT (im_gtrans HG.out hg)
  clear hg HM
  go_wp2
  go_ret
  exact ⟨rfl, HG2.out⟩
end Go.Proofs.YtpkhdfddbcpciaaGreatDoor
