/- The contracts of the model's drawing: l01Some, DrawUtf, DrawNameStart. -/
import Derived.Test.YtpkhdfddbcpciaaDoorDrawA
import Derived.Test.YtpkhdfddbcpciaaDoorChars
import Derived.WalkSpells
namespace Go.Proofs.YtpkhdfddbcpciaaDoor
open Go.RowKit Plain1 Lists

theorem edge_any {W0 w : World} {g : Nat} {a : Option Addr} {n cap : Nat} (hS : Fed W0 a n) (hd : Dr W0 w g a n cap) :
    Calls Tryd.prog 53 #[.pointer (some ⟨g, 0, none⟩)] w fun e w' => ∃ x, e = .returned (.int .i64 x) ∧ Dr W0 w' g a n cap ∧ w.grownBy w' (some g) := by
  have hlt := hd.lt
  have hcall := fun o => draw_any hS (hd.alloc o) 14 (by omega)
  clear hd
  go_enter Tryd.func53, Tryd.ntmps53
  go_wp2_with fail
  refine (hcall _).mono ?_
  rintro e w1 ⟨r, rfl, h0, h1, -, hd1, hg1⟩
  have h1' := h1 (by omega)
  obtain ⟨k, rfl⟩ : ∃ k : Nat, r = k := ⟨r.toNat, by omega⟩
  obtain ⟨x, hx⟩ := lit_int (k := k) hg1 hlt (by simp; omega) (by simp [isInt64])
  have hg2 := grown_of_alloc hg1
  clear hcall h1 hg1
  go_wp2
  go_ret
  exact ⟨x, rfl, hd1, hg2⟩

theorem char_any {W0 w : World} {g : Nat} {a : Option Addr} {n cap : Nat} (hS : Fed W0 a n) (hd : Dr W0 w g a n cap) :
    Calls Tryd.prog 41 #[.pointer (some ⟨g, 0, none⟩)] w fun e w' => ∃ x, e = .returned (.int .i64 x) ∧ Dr W0 w' g a n cap ∧ w.grownBy w' (some g) := by
  have hcall := one_any hS hd 3 (by omega)
  clear hd
  go_enter Tryd.func41, Tryd.ntmps41
  go_wp2_with fail
  refine hcall.mono ?_
  rintro e w1 ⟨b, rfl, hd1, hg1⟩
  clear hcall
  cases b with
  | true =>
    go_wp2_with fail
    refine (edge_any hS hd1).mono ?_
    rintro e w2 ⟨y, rfl, hd2, hg2⟩
    have hlt := hd2.lt
    have hcall := fun o => draw_any hS (hd2.alloc o) 22 (by omega)
    clear hd1 hd2
    go_wp2_with fail
    refine (hcall _).mono ?_
    rintro e w3 ⟨r, rfl, h0, h1, -, hd3, hg3⟩
    have h1' := h1 (by omega)
    obtain ⟨k, rfl⟩ : ∃ k : Nat, r = k := ⟨r.toNat, by omega⟩
    obtain ⟨x, hx⟩ := lit_int (k := k) hg3 hlt (by simp; omega) (by simp [isInt64])
    have hg4 := grown_trans' (grown_trans' hg1 hg2) (grown_of_alloc hg3)
    clear hcall h1 hg3 hg1 hg2
    go_wp2
    go_ret
    exact ⟨x, rfl, hd3, hg4⟩
  | false =>
    go_wp2_with fail
    refine (draw_any hS hd1 12288 (by omega)).mono ?_
    rintro e w2 ⟨r, rfl, h0, h1, h2, hd2, hg2⟩
    clear h1 h2
    go_wp2
    go_ret
    exact ⟨r, rfl, hd2, grown_trans' hg1 hg2⟩

theorem info64d : (Tryd.prog.info? 2).map (fun i => (i.zero, i.size, i.bytes)) = some (some (.int .i64 0), 1, 8) := by kernel_rfl

theorem grown_app {w wr w2 : World} {g : Nat} {o : Obj} {e : TypeId} {size : Nat} {v : Value} {n : Nat} {xs : List Value} (h : w.grownBy wr (some g)) (ho : wr.ownsRow w.heap.size e size v n xs) (hg : (wr.alloc o).grownBy w2 v.ownBlock) : w.grownBy w2 (some g) := by
  have hs := h.size
  refine ⟨hg.os.trans h.os, hg.tape.trans h.tape, hg.output.trans h.output, by have := hg.size; simp at this; omega, fun i hi hr => ?_⟩
  rw [hg.block i (by simp; omega) (fun e => by have := (ho.lt i e.symm).1; omega), Below.heap_alloc wr o i (by omega)]
  exact h.block i hi hr
theorem dr_app {W0 w wr w2 : World} {g : Nat} {a : Option Addr} {nn cap : Nat} {o : Obj} {e : TypeId} {size : Nat} {v : Value} {n : Nat} {xs : List Value} (hd : Dr W0 wr g a nn cap) (hgw : g < w.heap.size) (ho : wr.ownsRow w.heap.size e size v n xs) (hg : (wr.alloc o).grownBy w2 v.ownBlock) : Dr W0 w2 g a nn cap := by
  have ht := hd.there
  refine (hd.alloc o).grown hg (fun h => ?_) (fun k hk => ?_)
  · have := (ho.lt g h).1; omega
  · have := (ho.lt k hk).1; omega
theorem owns_draw {w wr w2 : World} {g : Nat} {e : TypeId} {size : Nat} {v : Value} {n : Nat} {xs : List Value} (ho : wr.ownsRow w.heap.size e size v n xs) (hgw : g < w.heap.size) (hg : wr.grownBy w2 (some g)) : w2.ownsRow w.heap.size e size v n xs :=
  ho.kept hg (by right; intro h; have := (ho.lt g h).1; omega)

theorem owns_low {w : World} {base base' size n : Nat} {e : TypeId} {v : Value} {xs : List Value} (h : w.ownsRow base e size v n xs) (hb : base' ≤ base) : w.ownsRow base' e size v n xs := by
  obtain ⟨h1, h2⟩ := h
  refine ⟨h1, ?_⟩
  rcases h2 with h2 | ⟨g, cap, cur, a, b, c⟩
  · exact .inl h2
  · exact .inr ⟨g, cap, cur, a, Nat.le_trans hb b, c⟩

set_option maxHeartbeats 1000000 in
theorem some_any {W0 w : World} {g : Nat} {a : Option Addr} {n cap : Nat} (hS : Fed W0 a n) (hd : Dr W0 w g a n cap) :
    Calls Tryd.prog 32 #[.pointer (some ⟨g, 0, none⟩)] w fun e w' => ∃ (v : Value) (l : List Int), e = .returned v ∧ l.length ≤ 7 ∧ w'.ownsRow w.heap.size 2 1 v l.length (l.map (Value.int .i64)) ∧ Dr W0 w' g a n cap ∧ w.grownBy w' (some g) := by
  obtain ⟨i0, hi, hz0, hz1, hz2⟩ := info_parts info64d
  have hgw := hd.lt
  have hcall := fun o => draw_any hS (hd.alloc o) 8 (by omega)
  clear hd
  go_enter Tryd.func32, Tryd.ntmps32
  go_wp2_with fail
  refine (hcall _).mono ?_
  rintro e w1 ⟨r, rfl, h0, h1, -, hd1, hg1⟩
  have h1' := h1 (by omega)
  obtain ⟨k0, rfl⟩ : ∃ k : Nat, r = k := ⟨r.toNat, by omega⟩
  have ho1 : w1.ownsRow w.heap.size 2 1 (.slice (some ⟨w.heap.size, 0, none⟩) 0 0) 0 [] := owns_draw (World.ownsRow_lit w #[] 0 (Nat.le_refl _) (by unfold maxLen; omega) (by simp)) hgw hg1
  have hgr := grown_of_alloc hg1
  clear hcall h1 hg1
  go_wp2_with fail
  go_loopw [3, 4] (fun v i wr => ∃ (k : Nat) (acc : List Int), i = .int .i64 k ∧ k + acc.length ≤ 7 ∧ wr.ownsRow w.heap.size 2 1 v acc.length (acc.map (Value.int .i64)) ∧ Dr W0 wr g a n cap ∧ w.grownBy wr (some g)) (fun _ i _ => (intOf i).toNat)
  case atStart => exact ⟨k0, [], rfl, by simp; omega, ho1, hd1, hgr⟩
  case round =>
    obtain ⟨k, acc, rfl, hal, hown, hdr, hg⟩ := hrel
    clear ho1 hd1 hgr
    have HO := mkHidD hown
    have HD := mkHidD hdr
    have HG := mkHidD hg
    clear hown hdr hg
    by_cases hlt : 0 < k
    · go_wp2_with fail
      refine (char_any hS HD.out).mono ?_
      rintro e w2 ⟨c, rfl, hd2, hg2⟩
      have HO2 := mkHidD (owns_draw HO.out hgw hg2)
      have HD2 := mkHidD hd2
      have HG2 := mkHidD (grown_trans' HG.out hg2)
      clear hd2 hg2 HO HD HG
      have hk1 : (k : Int) - 1 = ((k - 1 : Nat) : Int) := by omega
      have HK := mkHidD hk1
      clear hk1
      cases hch : charB c with
      | true =>
        go_wp2_with (first | (go_at_call 21; refine (specChar_any _ _).mono ?_; rintro e w' ⟨rfl, rfl⟩) | (at_builtin; refine wpList_append_own _ rfl _ _ 23 rfl w.heap.size 2 i0 (.int .i64 0) 1 8 Tryd.underlying23 hi hz0 hz1 hz2 rfl (by decide) _ _ _ rfl (HO2.out.alloc _) ⟨_, 0, none⟩ 1 1 [.int .i64 c] rfl rfl (cell_one_new _ _ _) (by intro u hu; simp at hu; subst hu; rfl) (by unfold maxLen; omega) (by omega) (by have := HG2.out.size; simp; omega) ?_; intro v' w3 hown' hgrow _; have HD3 := mkHidD (dr_app HD2.out hgw HO2.out hgrow); have HG3 := mkHidD (grown_app HG2.out HO2.out hgrow); clear hgrow))
        go_roundw
        case rel => exact ⟨k - 1, acc ++ [c], by rw [HK.out], by simp; omega, by simpa using hown', HD3.out, HG3.out⟩
        case measure => simp [intOf]; omega
      | false =>
        go_wp2_with (first | (go_at_call 21; refine (specChar_any _ _).mono ?_; rintro e w' ⟨rfl, rfl⟩))
        refine (one_any hS HD2.out 10 (by omega)).mono ?_
        rintro e w3 ⟨b, rfl, hd3, hg3⟩
        have HO3 := mkHidD (owns_draw HO2.out hgw hg3)
        have HD3 := mkHidD hd3
        have HG3 := mkHidD (grown_trans' HG2.out hg3)
        clear hd3 hg3 HO2 HD2 HG2
        cases b with
        | true =>
          go_wp2_with (at_builtin; refine wpList_append_own _ rfl _ _ 23 rfl w.heap.size 2 i0 (.int .i64 0) 1 8 Tryd.underlying23 hi hz0 hz1 hz2 rfl (by decide) _ _ _ rfl (HO3.out.alloc _) ⟨_, 0, none⟩ 1 1 [.int .i64 c] rfl rfl (cell_one_new _ _ _) (by intro u hu; simp at hu; subst hu; rfl) (by unfold maxLen; omega) (by omega) (by have := HG3.out.size; simp; omega) ?_; intro v' w4 hown' hgrow _; have HD4 := mkHidD (dr_app HD3.out hgw HO3.out hgrow); have HG4 := mkHidD (grown_app HG3.out HO3.out hgrow); clear hgrow)
          go_roundw
          case rel => exact ⟨k - 1, acc ++ [c], by rw [HK.out], by simp; omega, by simpa using hown', HD4.out, HG4.out⟩
          case measure => simp [intOf]; omega
        | false =>
          go_wp2
          go_roundw
          case rel => exact ⟨k - 1, acc, by rw [HK.out], by omega, HO3.out, HD3.out, HG3.out⟩
          case measure => simp [intOf]; omega
    · go_wp2
      go_ret
      exact ⟨_, acc, rfl, by omega, HO.out, HD.out, HG.out⟩

theorem below_of_grown {w w' : World} {g : Nat} (h : w.grownBy w' (some g)) (hg : w.heap.size ≤ g) : Below w.heap.size w w' := ⟨h.os, h.tape, h.output, h.size, fun k hk => h.block k hk (fun e => by cases e; omega)⟩

theorem drawUtf_any (a : Option Addr) (n cap : Nat) (w : World) (hS : Fed w a n) :
    Calls Tryd.prog 9 #[.slice a n cap] w fun e w' => ∃ (v : Value) (l : List Int), e = .returned v ∧ l.length ≤ 7 ∧ w'.ownsRow w.heap.size 2 1 v l.length (l.map (Value.int .i64)) ∧ Below w.heap.size w w' := by
  have hcall := source_any a n cap w hS
  go_enter Tryd.func9, Tryd.ntmps9
  go_wp2_with fail
  refine hcall.mono ?_
  rintro e w1 ⟨rfl, hd1⟩
  have hb1 := hd1.below
  go_wp2_with fail
  refine (some_any hS hd1).mono ?_
  rintro e w2 ⟨v, l, rfl, hl, ho, hd2, hg2⟩
  have hb2 := hd2.below
  clear hcall hd1 hd2 hg2
  go_wp2
  go_ret
  exact ⟨v, l, rfl, hl, owns_low ho hb1.size, hb2⟩

theorem drawStart_any (a : Option Addr) (n cap : Nat) (w : World) (hS : Fed w a n) :
    Calls Tryd.prog 18 #[.slice a n cap] w fun e w' => ∃ x, e = .returned (.int .i64 x) ∧ Below w.heap.size w w' := by
  have hcall := source_any a n cap w hS
  go_enter Tryd.func18, Tryd.ntmps18
  go_wp2_with fail
  refine hcall.mono ?_
  rintro e w1 ⟨rfl, hd1⟩
  go_wp2_with fail
  refine (char_any hS hd1).mono ?_
  rintro e w2 ⟨x, rfl, hd2, hg2⟩
  have hb2 := hd2.below
  clear hcall hd1 hd2 hg2
  go_wp2
  go_ret
  exact ⟨x, rfl, hb2⟩
end Go.Proofs.YtpkhdfddbcpciaaDoor
