/- The model's scanner: the text of a head (subset). -/
/- The model's scanner: ahead of its text's end 'end' turns nothing. -/
/- The model's scanner: whether attributes have a name. -/
/- The model's scanner: what the reading of a start holds in memory. -/
import Derived.Test.YteebdfcegndaoaaGreatDoorFreA
import Derived.Test.YteebdfcegndaoaaGreatDoorMdB
import Derived.Test.YteebdfcegndaoaaGreatDoorPlA
import Derived.OwnWalk
namespace Go.Proofs.YteebdfcegndaoaaGreatDoor
open Go.RowKit Plain1 Strs Strs2 Lists Plain3 Plain5 Plain6 Plain9 Plain10 Plain11

theorem fz_not {s : ByteArray} {p : Nat} {sg : List UInt8} (hp : p < s.size) (h : hasAt s p sg = false) : fz s p sg ≠ (p : Int) := by
  rw [fz_miss hp h]
  rcases fz_spec s (p + 1) sg (by omega) with h1 | ⟨i, h1, h2, _⟩
  · rw [h1]; omega
  · rw [h1]; omega
/-- How far the scan has come: what it will tell. -/
def SubAt (s : ByteArray) (R : Nat × Nat) (x : Sc) : Prop := (x.fl = 0 ∧ ∃ f, subGo s f x.pos = R ∧ s.size + 1 ≤ x.pos + f) ∨ (x.fl = 1 ∧ R.1 = 1)
theorem sub_next {s : ByteArray} {R : Nat × Nat} {f p k q n F : Nat} (hR : subGo s (f + 1) k = R) (hfu : s.size + 1 ≤ k + (f + 1)) (hk : k < p) (hst : subGo s (f + 1) k = if F = 0 then subGo s f n else (1, k)) (hF : F = 0 ∨ F = 1) (hq : F = 0 → q = n ∧ p ≤ n) : SubAt s R ⟨q, F⟩ := by
  rw [hR] at hst
  rcases hF with h | h
  · subst h
    obtain ⟨rfl, hl⟩ := hq rfl
    exact .inl ⟨rfl, f, by rw [hst]; rfl, by show s.size + 1 ≤ q + f; omega⟩
  · subst h
    exact .inr ⟨rfl, by rw [hst]; rfl⟩
theorem conv_one (W : World) (c : Int) (n : Nat) (hn : n = W.heap.size) : (convert 22 9 (.slice (some ⟨n, 0, none⟩) 1 1)).run Tryz.prog (W.alloc (.cells #[.int .u8 c] 5)) = .ok (.string (strOfNums [c])) (W.alloc (.cells #[.int .u8 c] 5)) := by
  subst hn
  exact Bytes.conv_own (B := 0) (xs := [c]) Tryz.underlying22 Tryz.underlying5 Tryz.underlying9 (World.ownsRow_lit (size := 1) W #[.int .u8 c] 1 (Nat.zero_le _) (by decide) rfl)
def scMeas (w : World) (g n : Nat) : Nat := match w.cell? ⟨g, 2, none⟩ with | some (.bool true) => 0 | _ => n + 1 - scPos w g
theorem scMeas_0 {w : World} {g : Nat} {s : ByteArray} {k : Nat} (h : ScBox w g s ⟨k, 0⟩) (n : Nat) : scMeas w g n = n + 1 - k := by
  obtain ⟨_, _, c2, _⟩ := block0 h
  unfold scMeas; rw [c2, scPos_of h]
theorem scMeas_1 {w : World} {g : Nat} {s : ByteArray} {k : Nat} (h : ScBox w g s ⟨k, 1⟩) (n : Nat) : scMeas w g n = 0 := by
  obtain ⟨_, _, c2, _⟩ := block5 h
  unfold scMeas; rw [c2]; rfl
theorem up_01 (s : ByteArray) (p : Nat) (sg : List UInt8) : upF s p sg = 0 ∨ upF s p sg = 1 := by unfold upF; split <;> simp

set_option maxHeartbeats 4000000 in
set_option maxRecDepth 100000 in
theorem subset_ok (w : World) (g : Nat) (s : ByteArray) (p : Nat) (h : ScBox w g s ⟨p, 0⟩) (hs : s.size ≤ 1048576) (hp : p ≤ s.size) :
    Calls Tryz.prog 121 #[.pointer (some ⟨g, 0, none⟩)] w fun e w' => ∃ t q, e = .returned (.string t) ∧ ScBox w' g s ⟨q, subF s p⟩ ∧ q ≤ s.size ∧ (subF s p = 0 → t = subT s p ∧ q = subP s p) ∧ w.grownBy w' (some g) := by
  obtain ⟨R, hR⟩ : ∃ R, subGo s (s.size + 1) p = R := ⟨_, rfl⟩
  have hF : subF s p = R.1 := by unfold subF; rw [hR]
  have hT : subT s p = s.extract p (R.2 - 1) := by unfold subT subP; rw [hR]
  have hP : subP s p = R.2 := by unfold subP; rw [hR]
  rw [hF, hT, hP]
  have HR := mkHidT hR
  obtain ⟨c0, c1, c2, c3, c4, f1, f2, f3, f4⟩ := block0 h
  have HB := mkHidT h
  clear hF hT hP hR h
  go_enter Tryz.func121, Tryz.ntmps121
  go_wp2_with fail
  go_loopw [] (fun wr => ∃ x : Sc, (x.fl = 0 → p ≤ x.pos) ∧ x.pos ≤ s.size ∧ SubAt s R x ∧ ScBox wr g s x ∧ w.grownBy wr (some g)) (fun wr => scMeas wr g s.size)
  case atStart => exact ⟨⟨p, 0⟩, fun _ => Nat.le_refl _, hp, .inl ⟨rfl, s.size + 1, HR.out, by show s.size + 1 ≤ p + _; omega⟩, HB.out, gdrew5 w 0 _⟩
  case round =>
    obtain ⟨⟨k, F⟩, hk0, hk, hat, hbx, hg⟩ := hrel
    simp only at hk0 hk
    have HBX := mkHidT hbx
    have HG := mkHidT hg
    clear c0 c1 c2 c3 c4 f1 f2 f3 f4
    have ho := ok_any wr g s _ hbx
    rcases hat with ⟨hF0, f, hgo, hfu⟩ | ⟨hF1, hR1⟩
    · simp only at hF0 hgo hfu
      subst hF0
      have HP := mkHidT (scMeas_0 hbx s.size)
      replace hk0 := hk0 rfl
      have HGO := mkHidT hgo
      have hc2 := end_any wr g s _ hbx (by show k ≤ _; omega)
      simp only [decide_true] at ho
      clear hbx hg hgo
      by_cases hlt : s.size ≤ k
      · have hst := sub_end (s := s) (f := f) (p := k) (by omega)
        rw [HGO.out] at hst
        have HST := mkHidT hst
        simp only [decide_eq_true hlt, ended_end (x := ⟨k, 0⟩) (s := s) hlt rfl] at hc2
        clear hst
        go_wp2_with (first | (go_at_call 68; refine ho.mono ?_; rintro e w' ⟨rfl, hww⟩; obtain rfl := hww.symm) | (go_at_call 88; refine hc2.mono ?_; rintro e w5 ⟨rfl, hb5, hg5⟩))
        go_ret
        refine ⟨_, k, rfl, by rw [HST.out]; exact hb5, hk, ?_, gtrans5 HG.out hg5⟩
        rw [HST.out]; simp
      · obtain ⟨f', rfl⟩ : ∃ f', f = f' + 1 := ⟨f - 1, by omega⟩
        simp only [decide_eq_false hlt, ended_in (x := ⟨k, 0⟩) (s := s) (show k < s.size by omega)] at hc2
        have hkl : k < s.size := by omega
        obtain ⟨c, hcb⟩ : ∃ c, byteAt s k = c := ⟨_, rfl⟩
        have hix : ∀ wx, (Instr.index 9 (.string s) (.int .i64 (k : Int))).run Tryz.prog wx = .ok (.int .u8 c) wx := fun wx => by rw [run_index_byte wx 9 s k (by omega) Tryz.underlying9, hcb]
        have HC := mkHidT hcb
        clear hcb
        have hw1 : IntKind.i64.wrap ((k : Int) + 1) = (k : Int) + 1 := wrapSm (by omega) (by omega)
        by_cases h93 : c = 93
        · have hst := sub_close (s := s) (f := f') hkl (HC.out.trans h93)
          rw [HGO.out] at hst
          have HST := mkHidT hst
          subst h93
          have hw2 : IntKind.i64.wrap ((k : Int) + 1 - 1) = (k : Int) := by rw [wrapSm (by omega) (by omega)]; omega
          have hsl : ∀ wx, (Instr.slice 9 (.string s) (some (.int .i64 (p : Int))) (some (.int .i64 (k : Int))) none).run Tryz.prog wx = .ok (.string (s.extract p k)) wx := fun wx => sub_text wx _ s p k _ _ rfl rfl hk0 hk Tryz.underlying9
          clear hst
          go_wp2_with (first | (go_at_call 68; refine ho.mono ?_; rintro e w' ⟨rfl, hww⟩; obtain rfl := hww.symm) | (go_at_call 88; refine hc2.mono ?_; rintro e w5 ⟨rfl, hb5, hg5⟩; obtain ⟨c0, c1, c2, c3, c4, f1, f2, f3, f4⟩ := block0 hb5; replace hb5 := mkHidT hb5; replace hg5 := mkHidT hg5))
          go_quiet (fail)
          go_wp2_with fail
          go_quiet (fail)
          go_wp2
          go_ret
          refine ⟨_, k + 1, rfl, by rw [HST.out]; exact box_posI (W := w5.drewN _) hb5.out (k + 1) (by omega), by omega, ?_, gtrans5 HG.out (gtrans5 hg5.out (gtrans5 (gdrew5 w5 _ _) (gtrans5 (gset5 _) (gdrew5 _ _ _))))⟩
          rw [HST.out]; simp
        · have e93 : (c == 93) = false := beq_eq_false_iff_ne.2 h93
          by_cases h34 : c = 34
          · have hst := sub_q (s := s) (f := f') hkl (HC.out.trans h34)
            have HST := mkHidT hst
            subst h34
            clear hst h93
            go_wp2_with (first | (go_at_call 68; refine ho.mono ?_; rintro e w' ⟨rfl, hww⟩; obtain rfl := hww.symm) | (go_at_call 88; refine hc2.mono ?_; rintro e w5 ⟨rfl, hb5, hg5⟩; obtain ⟨c0, c1, c2, c3, c4, f1, f2, f3, f4⟩ := block0 hb5; replace hb5 := mkHidT hb5; replace hg5 := mkHidT hg5))
            go_quiet (fail)
            have hcv := conv_one ((w5.drewN nq).setCell ⟨g, 1, none⟩ (.int .i64 ((k : Int) + 1))) 34 w5.heap.size (by rw [World.size_setCell]; rfl)
            go_wp2_with fail
            have hbx6 := box_posI (W := w5.drewN nq) hb5.out (k + 1) (z := (k : Int) + 1) (by omega)
            have hg6 := gtrans5 HG.out (gtrans5 hg5.out (gtrans5 (gdrew5 w5 nq _) (gset5 (j := 1) (.int .i64 ((k : Int) + 1)))))
            have hm := till_call _ g s (strOfNums [34]) (k + 1) [34] rfl (sc_alloc hbx6 (.cells #[.int .u8 34] 5)) hs (by omega) (by decide) (by simp)
            replace hg6 := gtrans5 hg6 (galloc5 _ (.cells #[.int .u8 34] 5) _)
            refine hm.mono ?_
            rintro e w6 ⟨t, q, rfl, hb6, hq6, hT6, hg7⟩
            have hpp := up_le (s := s) (p := k + 1) (sg := [34]) (by omega)
            have hat := mkHidT (sub_next (p := k + 1) (q := q) HGO.out hfu (by omega) HST.out (up_01 _ _ _) (fun h0 => ⟨(hT6 h0).2, by have := hpp h0; omega⟩))
            have hlt0 : upF s (k + 1) [34] = 0 → k < q := fun h0 => by have h1 := (hT6 h0).2; have := hpp h0; omega
            have hms : Hid (scMeas w6 g s.size < scMeas wr g s.size) := by
              show scMeas w6 g s.size < scMeas wr g s.size
              rw [HP.out]
              rcases up_01 s (k + 1) [34] with h0 | h0
              · have h1 := hlt0 h0; rw [h0] at hb6; rw [scMeas_0 hb6]; omega
              · rw [h0] at hb6; rw [scMeas_1 hb6]; omega
            replace hlt0 := mkHidT hlt0
            replace hb6 := mkHidT hb6
            replace hg7 := mkHidT (gtrans5 hg6 hg7)
            clear hm hbx6 hg6 hT6 hpp
            go_wp2
            exact ⟨⟨⟨q, _⟩, fun h0 => by have := hlt0.out h0; show p ≤ q; omega, hq6, hat.out, hb6.out, hg7.out⟩, hms.out⟩
          by_cases h39 : c = 39
          · have e34 : (c == 34) = false := beq_eq_false_iff_ne.2 h34
            have hst := sub_a (s := s) (f := f') hkl (HC.out.trans h39)
            have HST := mkHidT hst
            subst h39
            clear hst h93 h34 e34
            go_wp2_with (first | (go_at_call 68; refine ho.mono ?_; rintro e w' ⟨rfl, hww⟩; obtain rfl := hww.symm) | (go_at_call 88; refine hc2.mono ?_; rintro e w5 ⟨rfl, hb5, hg5⟩; obtain ⟨c0, c1, c2, c3, c4, f1, f2, f3, f4⟩ := block0 hb5; replace hb5 := mkHidT hb5; replace hg5 := mkHidT hg5))
            go_quiet (fail)
            have hcv := conv_one ((w5.drewN nq).setCell ⟨g, 1, none⟩ (.int .i64 ((k : Int) + 1))) 39 w5.heap.size (by rw [World.size_setCell]; rfl)
            go_wp2_with fail
            have hbx6 := box_posI (W := w5.drewN nq) hb5.out (k + 1) (z := (k : Int) + 1) (by omega)
            have hg6 := gtrans5 HG.out (gtrans5 hg5.out (gtrans5 (gdrew5 w5 nq _) (gset5 (j := 1) (.int .i64 ((k : Int) + 1)))))
            have hm := till_call _ g s (strOfNums [39]) (k + 1) [39] rfl (sc_alloc hbx6 (.cells #[.int .u8 39] 5)) hs (by omega) (by decide) (by simp)
            replace hg6 := gtrans5 hg6 (galloc5 _ (.cells #[.int .u8 39] 5) _)
            refine hm.mono ?_
            rintro e w6 ⟨t, q, rfl, hb6, hq6, hT6, hg7⟩
            have hpp := up_le (s := s) (p := k + 1) (sg := [39]) (by omega)
            have hat := mkHidT (sub_next (p := k + 1) (q := q) HGO.out hfu (by omega) HST.out (up_01 _ _ _) (fun h0 => ⟨(hT6 h0).2, by have := hpp h0; omega⟩))
            have hlt0 : upF s (k + 1) [39] = 0 → k < q := fun h0 => by have h1 := (hT6 h0).2; have := hpp h0; omega
            have hms : Hid (scMeas w6 g s.size < scMeas wr g s.size) := by
              show scMeas w6 g s.size < scMeas wr g s.size
              rw [HP.out]
              rcases up_01 s (k + 1) [39] with h0 | h0
              · have h1 := hlt0 h0; rw [h0] at hb6; rw [scMeas_0 hb6]; omega
              · rw [h0] at hb6; rw [scMeas_1 hb6]; omega
            replace hlt0 := mkHidT hlt0
            replace hb6 := mkHidT hb6
            replace hg7 := mkHidT (gtrans5 hg6 hg7)
            clear hm hbx6 hg6 hT6 hpp
            go_wp2
            exact ⟨⟨⟨q, _⟩, fun h0 => by have := hlt0.out h0; show p ≤ q; omega, hq6, hat.out, hb6.out, hg7.out⟩, hms.out⟩
          have e34 : (c == 34) = false := beq_eq_false_iff_ne.2 h34
          have e39 : (c == 39) = false := beq_eq_false_iff_ne.2 h39
          have n93 : byteAt s k ≠ 93 := by rw [HC.out]; exact h93
          have n34 : byteAt s k ≠ 34 := by rw [HC.out]; exact h34
          have n39 : byteAt s k ≠ 39 := by rw [HC.out]; exact h39
          have hfC := fun wx => find_any s k ⟨#[60, 33, 45, 45]⟩ wx hs (by decide) hk
          have hfP := fun wx => find_any s k ⟨#[60, 63]⟩ wx hs (by decide) hk
          simp only [findZ_fz (s := s) (what := ⟨#[60, 33, 45, 45]⟩) (by simp) k] at hfC
          simp only [findZ_fz (s := s) (what := ⟨#[60, 63]⟩) (by simp) k] at hfP
          cases hC : hasAt s k [60, 33, 45, 45] with
          | true =>
            have hst := sub_c (s := s) (f := f') hkl n93 n34 n39 hC
            have HST := mkHidT hst
            have hroom := has_room hC hk
            simp only [List.length_cons, List.length_nil] at hroom
            simp only [fz_hit hkl hC] at hfC
            have hw4 : IntKind.i64.wrap ((k : Int) + 4) = (k : Int) + 4 := wrapSm (by omega) (by omega)
            clear hst h93 h34 h39 n93 n34 n39 hC hfP
            go_wp2_with (first | (go_at_call 68; refine ho.mono ?_; rintro e w' ⟨rfl, hww⟩; obtain rfl := hww.symm) | (go_at_call 88; refine hc2.mono ?_; rintro e w5 ⟨rfl, hb5, hg5⟩; obtain ⟨c0, c1, c2, c3, c4, f1, f2, f3, f4⟩ := block0 hb5; replace hb5 := mkHidT hb5; replace hg5 := mkHidT hg5))
            go_quiet (fail)
            go_wp2_with fail
            replace hb5 := mkHidT (show ScBox (w5.drewN nq) g s ⟨k, 0⟩ from hb5.out)
            replace hg5 := mkHidT (gtrans5 hg5.out (gdrew5 w5 nq _))
            generalize w5.drewN nq = w7 at hb5 hg5 ⊢
            clear c0 c1 c2 c3 c4 f1 f2 f3 f4
            obtain ⟨c0, c1, c2, c3, c4, f1, f2, f3, f4⟩ := block0 hb5.out
            go_quiet ((go_at_call 33; exact Calls.quiet_of_same (hfC _)))
            go_wp2_with fail
            have hbx6 := box_posI (W := w7.drewN nq) hb5.out (k + 4) (z := (k : Int) + 4) (by omega)
            have hg6 := gtrans5 HG.out (gtrans5 hg5.out (gtrans5 (gdrew5 w7 nq _) (gset5 (j := 1) (.int .i64 ((k : Int) + 4)))))
            have hm := till_call _ g s ⟨#[45, 45, 62]⟩ (k + 4) [45, 45, 62] rfl hbx6 hs (by omega) (by decide) (by simp)
            refine hm.mono ?_
            rintro e w6 ⟨t, q, rfl, hb6, hq6, hT6, hg7⟩
            have hpp := up_le (s := s) (p := k + 4) (sg := [45, 45, 62]) (by omega)
            have hat := mkHidT (sub_next (p := k + 1) (q := q) HGO.out hfu (by omega) HST.out (up_01 _ _ _) (fun h0 => ⟨(hT6 h0).2, by have := hpp h0; omega⟩))
            have hlt0 : upF s (k + 4) [45, 45, 62] = 0 → k < q := fun h0 => by have h1 := (hT6 h0).2; have := hpp h0; omega
            have hms : Hid (scMeas w6 g s.size < scMeas wr g s.size) := by
              show scMeas w6 g s.size < scMeas wr g s.size
              rw [HP.out]
              rcases up_01 s (k + 4) [45, 45, 62] with h0 | h0
              · have h1 := hlt0 h0; rw [h0] at hb6; rw [scMeas_0 hb6]; omega
              · rw [h0] at hb6; rw [scMeas_1 hb6]; omega
            replace hlt0 := mkHidT hlt0
            replace hb6 := mkHidT hb6
            replace hg7 := mkHidT (gtrans5 hg6 hg7)
            clear hm hbx6 hg6 hT6 hpp
            go_wp2
            exact ⟨⟨⟨q, _⟩, fun h0 => by have := hlt0.out h0; show p ≤ q; omega, hq6, hat.out, hb6.out, hg7.out⟩, hms.out⟩
          | false =>
            obtain ⟨z, hz⟩ : ∃ z, fz s k [60, 33, 45, 45] = z := ⟨_, rfl⟩
            have ezC : (z == (k : Int)) = false := beq_eq_false_iff_ne.2 (by rw [← hz]; exact fz_not hkl hC)
            simp only [hz] at hfC
            clear hz
            cases hP : hasAt s k [60, 63] with
            | true =>
              have hst := sub_p (s := s) (f := f') hkl n93 n34 n39 hC hP
              have HST := mkHidT hst
              have hroom := has_room hP hk
              simp only [List.length_cons, List.length_nil] at hroom
              simp only [fz_hit hkl hP] at hfP
              have hw4 : IntKind.i64.wrap ((k : Int) + 2) = (k : Int) + 2 := wrapSm (by omega) (by omega)
              clear hst h93 h34 h39 n93 n34 n39 hC hP
              go_wp2_with (first | (go_at_call 68; refine ho.mono ?_; rintro e w' ⟨rfl, hww⟩; obtain rfl := hww.symm) | (go_at_call 88; refine hc2.mono ?_; rintro e w5 ⟨rfl, hb5, hg5⟩; obtain ⟨c0, c1, c2, c3, c4, f1, f2, f3, f4⟩ := block0 hb5; replace hb5 := mkHidT hb5; replace hg5 := mkHidT hg5))
              go_quiet (fail)
              go_wp2_with fail
              replace hb5 := mkHidT (show ScBox (w5.drewN nq) g s ⟨k, 0⟩ from hb5.out)
              replace hg5 := mkHidT (gtrans5 hg5.out (gdrew5 w5 nq _))
              generalize w5.drewN nq = w7 at hb5 hg5 ⊢
              clear c0 c1 c2 c3 c4 f1 f2 f3 f4
              obtain ⟨c0, c1, c2, c3, c4, f1, f2, f3, f4⟩ := block0 hb5.out
              go_quiet ((go_at_call 33; exact Calls.quiet_of_same (hfC _)))
              go_wp2_with fail
              replace hb5 := mkHidT (show ScBox (w7.drewN nq) g s ⟨k, 0⟩ from hb5.out)
              replace hg5 := mkHidT (gtrans5 hg5.out (gdrew5 w7 nq _))
              generalize w7.drewN nq = w8 at hb5 hg5 ⊢
              clear c0 c1 c2 c3 c4 f1 f2 f3 f4
              obtain ⟨c0, c1, c2, c3, c4, f1, f2, f3, f4⟩ := block0 hb5.out
              go_quiet ((go_at_call 33; exact Calls.quiet_of_same (hfP _)))
              go_wp2_with fail
              have hbx6 := box_posI (W := w8.drewN nq) hb5.out (k + 2) (z := (k : Int) + 2) (by omega)
              have hg6 := gtrans5 HG.out (gtrans5 hg5.out (gtrans5 (gdrew5 w8 nq _) (gset5 (j := 1) (.int .i64 ((k : Int) + 2)))))
              have hm := till_call _ g s ⟨#[63, 62]⟩ (k + 2) [63, 62] rfl hbx6 hs (by omega) (by decide) (by simp)
              refine hm.mono ?_
              rintro e w6 ⟨t, q, rfl, hb6, hq6, hT6, hg7⟩
              have hpp := up_le (s := s) (p := k + 2) (sg := [63, 62]) (by omega)
              have hat := mkHidT (sub_next (p := k + 1) (q := q) HGO.out hfu (by omega) HST.out (up_01 _ _ _) (fun h0 => ⟨(hT6 h0).2, by have := hpp h0; omega⟩))
              have hlt0 : upF s (k + 2) [63, 62] = 0 → k < q := fun h0 => by have h1 := (hT6 h0).2; have := hpp h0; omega
              have hms : Hid (scMeas w6 g s.size < scMeas wr g s.size) := by
                show scMeas w6 g s.size < scMeas wr g s.size
                rw [HP.out]
                rcases up_01 s (k + 2) [63, 62] with h0 | h0
                · have h1 := hlt0 h0; rw [h0] at hb6; rw [scMeas_0 hb6]; omega
                · rw [h0] at hb6; rw [scMeas_1 hb6]; omega
              replace hlt0 := mkHidT hlt0
              replace hb6 := mkHidT hb6
              replace hg7 := mkHidT (gtrans5 hg6 hg7)
              clear hm hbx6 hg6 hT6 hpp
              go_wp2
              exact ⟨⟨⟨q, _⟩, fun h0 => by have := hlt0.out h0; show p ≤ q; omega, hq6, hat.out, hb6.out, hg7.out⟩, hms.out⟩
            | false =>
              obtain ⟨z2, hz2⟩ : ∃ z, fz s k [60, 63] = z := ⟨_, rfl⟩
              have ezP : (z2 == (k : Int)) = false := beq_eq_false_iff_ne.2 (by rw [← hz2]; exact fz_not hkl hP)
              simp only [hz2] at hfP
              have hst := sub_d (s := s) (f := f') hkl n93 n34 n39 hC hP
              rw [HGO.out] at hst
              have HST := mkHidT hst
              clear hz2 hst h93 h34 h39 n93 n34 n39 hC hP
              go_wp2_with (first | (go_at_call 68; refine ho.mono ?_; rintro e w' ⟨rfl, hww⟩; obtain rfl := hww.symm) | (go_at_call 88; refine hc2.mono ?_; rintro e w5 ⟨rfl, hb5, hg5⟩; obtain ⟨c0, c1, c2, c3, c4, f1, f2, f3, f4⟩ := block0 hb5; replace hb5 := mkHidT hb5; replace hg5 := mkHidT hg5))
              go_quiet (fail)
              go_wp2_with fail
              replace hb5 := mkHidT (show ScBox (w5.drewN nq) g s ⟨k, 0⟩ from hb5.out)
              replace hg5 := mkHidT (gtrans5 hg5.out (gdrew5 w5 nq _))
              generalize w5.drewN nq = w7 at hb5 hg5 ⊢
              clear c0 c1 c2 c3 c4 f1 f2 f3 f4
              obtain ⟨c0, c1, c2, c3, c4, f1, f2, f3, f4⟩ := block0 hb5.out
              go_quiet ((go_at_call 33; exact Calls.quiet_of_same (hfC _)))
              go_wp2_with fail
              replace hb5 := mkHidT (show ScBox (w7.drewN nq) g s ⟨k, 0⟩ from hb5.out)
              replace hg5 := mkHidT (gtrans5 hg5.out (gdrew5 w7 nq _))
              generalize w7.drewN nq = w8 at hb5 hg5 ⊢
              clear c0 c1 c2 c3 c4 f1 f2 f3 f4
              obtain ⟨c0, c1, c2, c3, c4, f1, f2, f3, f4⟩ := block0 hb5.out
              go_quiet ((go_at_call 33; exact Calls.quiet_of_same (hfP _)))
              go_wp2
              have hbx6 := box_posI (W := w8.drewN nq) hb5.out (k + 1) (z := (k : Int) + 1) (by omega)
              have hg6 := gtrans5 HG.out (gtrans5 hg5.out (gtrans5 (gdrew5 w8 nq _) (gset5 (j := 1) (.int .i64 ((k : Int) + 1)))))
              exact ⟨⟨⟨k + 1, 0⟩, fun _ => by show p ≤ k + 1; omega, hkl, .inl ⟨rfl, f', HST.out.symm, by show s.size + 1 ≤ k + 1 + f'; omega⟩, hbx6, hg6⟩, by rw [HP.out, scMeas_0 hbx6]; omega⟩
    · simp only at hF1
      subst hF1
      simp only [show decide ((1 : Nat) = 0) = false from rfl] at ho
      have HR1 := mkHidT hR1
      clear hbx hg hR1
      go_wp2_with (go_at_call 68; refine ho.mono ?_; rintro e w' ⟨rfl, hww⟩; obtain rfl := hww.symm)
      go_ret
      refine ⟨_, k, rfl, by rw [HR1.out]; exact HBX.out, hk, ?_, HG.out⟩
      rw [HR1.out]; simp
end Go.Proofs.YteebdfcegndaoaaGreatDoor

namespace Go.Proofs.YteebdfcegndaoaaGreatDoor
open Go.RowKit Plain1 Strs Strs2 Lists Plain3 Plain5 Plain6 Plain9 Plain10 Plain11

theorem end_in {W : World} {g : Nat} {s : ByteArray} {x : Sc} (h : ScBox W g s x) (hp : x.pos < s.size) (W' : World) (hW : W'.heap = W.heap) :
    Calls Tryz.prog 88 #[.pointer (some ⟨g, 0, none⟩)] W' fun e w' => e = .returned (.bool false) ∧ ∃ n, w' = W'.drewN n := by
  have h' : ScBox W' g s x := by unfold ScBox; rw [hW]; exact h
  obtain ⟨c0, c1, c2, c3, c4, f1, f2, f3, f4⟩ := block5 h'
  clear h h' hW
  have hei : ¬ (s.size : Int) ≤ (x.pos : Int) := by omega
  go_enter Tryz.func88, Tryz.ntmps88
  go_wp2_with fail
  go_quiet (fail)
  go_wp2
  go_ret
  exact ⟨rfl, nq, rfl⟩
theorem ok_at {W : World} {g : Nat} {s : ByteArray} {x : Sc} (h : ScBox W g s x) (W' : World) (hW : W'.heap = W.heap) :
    Calls Tryz.prog 68 #[.pointer (some ⟨g, 0, none⟩)] W' fun e w' => e = .returned (.bool (decide (x.fl = 0))) ∧ w' = W' :=
  ok_any W' g s x (by unfold ScBox; rw [hW]; exact h)
theorem end_at {W : World} {g : Nat} {s : ByteArray} {x : Sc} (h : ScBox W g s x) (hp : x.pos ≤ 1048577) (W' : World) (hW : W'.heap = W.heap) :
    Calls Tryz.prog 88 #[.pointer (some ⟨g, 0, none⟩)] W' fun e w' => e = .returned (.bool (decide (s.size ≤ x.pos))) ∧ ScBox w' g s (x.ended s) ∧ W'.grownBy w' (some g) :=
  end_any W' g s x (by unfold ScBox; rw [hW]; exact h) hp
end Go.Proofs.YteebdfcegndaoaaGreatDoor

namespace Go.Proofs.YteebdfcegndaoaaGreatDoor
open Go.RowKit Plain1 Strs Strs2 Lists Plain3 Plain5 Plain6 Plain9 Plain10 Plain11

theorem acells_len (l : List (ByteArray × ByteArray)) : (acells l).length = l.length * 2 := by
  induction l with
  | nil => rfl
  | cons a t ih => simp only [acells, List.flatMap_cons, List.length_append] at ih ⊢; rw [ih]; simp; omega

set_option maxHeartbeats 2000000 in
theorem l02Has_any (w : World) (a : Option Addr) (c : Nat) (l : List (ByteArray × ByteArray)) (n : ByteArray) (h : AttrsAt w a l) (hl : l.length ≤ 1048576) :
    Calls Tryz.prog 120 #[.slice a l.length c, .string n] w fun e w' => e = .returned (.bool (hasZ l n)) ∧ w' = w := by
  have HA := mkHidT h
  clear h
  obtain ⟨R, hR⟩ : ∃ R, hasZ l n = R := ⟨_, rfl⟩
  rw [hR]
  have HR := mkHidT hR
  clear hR
  go_enter Tryz.func120, Tryz.ntmps120
  go_wp2
  go_loop [5] (fun i => ∃ k : Nat, k ≤ l.length ∧ i = .int .i64 k ∧ hasTo l n k = false) (fun i => l.length - (intOf i).toNat)
  case atStart => exact ⟨0, Nat.zero_le _, rfl, rfl⟩
  case round =>
    obtain ⟨k, hk, rfl, hno⟩ := hrel
    have HNO := mkHidT hno
    clear hno
    by_cases hlt : k < l.length
    · have hlti : (k : Int) < (l.length : Int) := by omega
      rcases HA.out with h0 | ⟨g, ha, hcells⟩
      · subst h0; simp at hlt
      · subst ha
        obtain ⟨h1, _⟩ := hcells k hlt
        obtain ⟨m, hm⟩ : ∃ m, (l[k]'hlt).1 = m := ⟨_, rfl⟩
        rw [hm] at h1
        have HM := mkHidT hm
        clear hcells hm
        cases hst : (m.toList == n.toList) with
        | true =>
          have hRt : R = true := by rw [← HR.out]; apply hasTo_mono (k := k + 1); rw [hasTo_succ hlt, HM.out, hst, Bool.or_true]
          subst hRt
          go_wp2
          go_ret
          exact ⟨rfl, rfl⟩
        | false =>
          have hno2 : hasTo l n (k + 1) = false := by rw [hasTo_succ hlt, HM.out, hst, HNO.out]; rfl
          have HN2 := mkHidT hno2
          clear hno2
          go_wp2
          go_round
          case rel => exact ⟨k + 1, by omega, by go_num, HN2.out⟩
          case measure => simp [intOf]; omega
    · have hlti : ¬ (k : Int) < (l.length : Int) := by omega
      have hRf : R = false := by
        rw [← HR.out]
        have hkl : k = l.length := by omega
        have h0 := HNO.out
        rw [hkl] at h0
        unfold hasTo at h0
        rw [List.take_length] at h0
        exact h0
      subst hRf
      go_wp2
      go_ret
      exact ⟨rfl, rfl⟩
end Go.Proofs.YteebdfcegndaoaaGreatDoor

namespace Go.Proofs.YteebdfcegndaoaaGreatDoor
open Go.RowKit Plain1 Strs Strs2 Lists Plain3 Plain5 Plain6 Plain9 Plain10 Plain11

/-- The scanner, the result's place, the mark in the making and its attributes. -/
structure Ft (w W : World) (g : Nat) (s : ByteArray) (x : Sc) (k : Nat) (kd : Int) (nm : ByteArray) (v : Value) (acc : List (ByteArray × ByteArray)) : Prop where
  fr : Fr w W g s x k kd nm ByteArray.empty v
  row : W.ownsRow (k + 1) 109 2 v acc.length (acells acc)
variable {w W W' : World} {g : Nat} {s : ByteArray} {x x' : Sc} {k : Nat} {kd : Int} {nm : ByteArray} {v : Value} {acc : List (ByteArray × ByteArray)}
theorem Ft.step (h : Ft w W g s x k kd nm v acc) (hb : ScBox W' g s x') (hg : W.grownBy W' (some g)) : Ft w W' g s x' k kd nm v acc :=
  ⟨h.fr.step hb hg, h.row.kept hg (.inr fun e => by have := h.row.lt g e; have := h.fr.ahead; have := h.fr.fr.lt; omega)⟩
theorem Ft.drew (h : Ft w W g s x k kd nm v acc) (n : Nat) : Ft w (W.drewN n) g s x k kd nm v acc := h.step h.fr.fr.sc (gdrew5 W n _)
theorem Ft.bad {p : Nat} (h : Ft w W g s ⟨p, 0⟩ k kd nm v acc) : Ft w (W.setCell ⟨g, 3, none⟩ (.bool true)) g s ⟨p, 2⟩ k kd nm v acc := h.step (box_bad h.fr.fr.sc) (gset5 _)
theorem Ft.pos {p f : Nat} (h : Ft w W g s ⟨p, f⟩ k kd nm v acc) {z : Int} (q : Nat) (hz : z = (q : Int)) : Ft w (W.setCell ⟨g, 1, none⟩ (.int .i64 z)) g s ⟨q, f⟩ k kd nm v acc := h.step (box_posI h.fr.fr.sc q hz) (gset5 _)
theorem Ft.kind (h : Ft w W g s x k kd nm v acc) (z : Int) : Ft w (W.setCell ⟨k, 0, none⟩ (.int .i64 z)) g s x k z nm v acc :=
  ⟨h.fr.kind z, h.row.kept (gset5 (g := k) (j := 0) (.int .i64 z)) (.inr fun e => by have := h.row.lt k e; omega)⟩
theorem Ft.alloc (h : Ft w W g s x k kd nm v acc) (o : Obj) : Ft w (W.alloc o) g s x k kd nm v acc := h.step (sc_alloc h.fr.fr.sc o) (galloc5 W o _)
structure Fa (w W : World) (g : Nat) (s : ByteArray) (x : Sc) (k : Nat) (kd : Int) (nm : ByteArray) (v : Value) (acc : List (ByteArray × ByteArray)) (a : Nat) (an av : ByteArray) : Prop where
  ft : Ft w W g s x k kd nm v acc
  box : AtBox W a an av
  ahead : k < a
  apart : ∀ b, v.ownBlock = some b → b < a
variable {a : Nat} {an av : ByteArray}
theorem Ft.newA (h : Ft w W g s x k kd nm v acc) (an av : ByteArray) : Fa w (W.alloc (.cells #[.string an, .string av] 109)) g s x k kd nm v acc W.heap.size an av :=
  ⟨h.alloc _, Below.heap_new _ _, tk_lt h.fr.box, fun b hb => (h.row.lt b hb).2⟩
theorem Fa.step (h : Fa w W g s x k kd nm v acc a an av) (hb : ScBox W' g s x') (hg : W.grownBy W' (some g)) : Fa w W' g s x' k kd nm v acc a an av := by
  have hl := h.ft.fr.fr.lt
  have ha := h.ft.fr.ahead
  have hk := h.ahead
  refine ⟨h.ft.step hb hg, ?_, h.ahead, h.apart⟩
  unfold AtBox
  rw [hg.block a (Array.getElem?_eq_some_iff.1 h.box).1 (fun e => by have := Option.some.inj e; omega)]; exact h.box
theorem Fa.drew (h : Fa w W g s x k kd nm v acc a an av) (n : Nat) : Fa w (W.drewN n) g s x k kd nm v acc a an av := h.step h.ft.fr.fr.sc (gdrew5 W n _)
theorem Fa.there {p : Nat} (h : Fa w W g s ⟨p, 0⟩ k kd nm v acc a an av) : Fa w ((W.setCell ⟨g, 4, none⟩ (.bool true)).setCell ⟨g, 3, none⟩ (.bool true)) g s ⟨p, 3⟩ k kd nm v acc a an av :=
  h.step (box_there h.ft.fr.fr.sc) (gtrans5 (gset5 _) (gset5 _))
theorem Fa.val (h : Fa w W g s x k kd nm v acc a an av) (t : ByteArray) : Fa w (W.setCell ⟨a, 1, none⟩ (.string t)) g s x k kd nm v acc a an t := by
  have hl := h.ft.fr.fr.lt
  have ha := h.ft.fr.ahead
  have hk := h.ahead
  refine ⟨⟨⟨⟨sc_set h.ft.fr.fr.sc (by omega) _, ?_, gsetNew h.ft.fr.fr.grown (by omega) _, hl⟩, ?_, ha⟩, ?_⟩, ?_, hk, h.apart⟩
  · unfold TkBox; rw [set_other _ (by omega)]; exact h.ft.fr.fr.res
  · unfold TkBox; rw [set_other _ (by omega)]; exact h.ft.fr.box
  · exact h.ft.row.kept (gset5 (g := a) (j := 1) (.string t)) (.inr fun e => by have := h.apart a e; omega)
  · unfold AtBox; rw [set5 h.box 1 (.string t)]; rfl
/-- Behind an append: the new row, the mark's field written. -/
theorem Fa.appended {W3 : World} {v' : Value} (h : Fa w W g s x k kd nm v acc a an av) (o : Obj) (hr : W3.ownsRow (k + 1) 109 2 v' (acc.length + 1) (acells acc ++ [.string an, .string av])) (hg : (W.alloc o).grownBy W3 v.ownBlock) :
    Ft w (W3.setCell ⟨k, 3, none⟩ v') g s x k kd nm v' (acc ++ [(an, av)]) := by
  have hl := h.ft.fr.fr.lt
  have ha := h.ft.fr.ahead
  have hne : ∀ b, b ≤ k → some b ≠ v.ownBlock := fun b hb e => by have := h.ft.row.lt b e.symm; omega
  have h0 := h.ft.alloc o
  have hsc : ScBox W3 g s x := by unfold ScBox; rw [hg.block g (sc_lt h0.fr.fr.sc) (hne g (by omega))]; exact h0.fr.fr.sc
  have hres : TkBox W3 w.heap.size 0 ByteArray.empty ByteArray.empty (.slice none 0 0) := by unfold TkBox; rw [hg.block _ (tk_lt h0.fr.fr.res) (hne _ (by omega))]; exact h0.fr.fr.res
  have hbox : TkBox W3 k kd nm ByteArray.empty v := by unfold TkBox; rw [hg.block _ (tk_lt h0.fr.box) (hne _ (by omega))]; exact h0.fr.box
  have hgr : w.grownBy W3 (some g) := ⟨hg.os.trans h0.fr.fr.grown.os, hg.tape.trans h0.fr.fr.grown.tape, hg.output.trans h0.fr.fr.grown.output, Nat.le_trans h0.fr.fr.grown.size hg.size,
    fun i hi hne' => (hg.block i (Nat.lt_of_lt_of_le hi h0.fr.fr.grown.size) (hne i (by omega))).trans (h0.fr.fr.grown.block i hi hne')⟩
  have hF : Fr w W3 g s x k kd nm ByteArray.empty v := ⟨⟨hsc, hres, hgr, hl⟩, hbox, ha⟩
  refine ⟨hF.kset 3 v' rfl, ?_⟩
  have e1 : (acc ++ [(an, av)]).length = acc.length + 1 := by simp
  rw [e1, acells_snoc]
  exact hr.kept (gset5 (g := k) (j := 3) v') (.inr fun e => by have := hr.lt k e; omega)
/-- The end of a start that is told. -/
theorem Ft.tells {p : Nat} (h : Ft w W g s ⟨p, 0⟩ k kd nm v acc) (hp : p ≤ s.size) :
    TkSays w g s ⟨0, kd, nm, ByteArray.empty, acc, p⟩ (.returned (.agg #[.int .i64 kd, .string nm, .string ByteArray.empty, v])) ((((W.setCell ⟨w.heap.size, 0, none⟩ (.int .i64 kd)).setCell ⟨w.heap.size, 1, none⟩ (.string nm)).setCell ⟨w.heap.size, 2, none⟩ (.string ByteArray.empty)).setCell ⟨w.heap.size, 3, none⟩ v) := by
  have hF := fin4 h.fr.fr.sc h.fr.fr.grown h.fr.fr.lt (.int .i64 kd) (.string nm) (.string ByteArray.empty) v
  have ha := h.fr.ahead
  have hs : ∀ {W0 : World} (j : Nat) (u : Value), W0.ownsRow (k + 1) 109 2 v acc.length (acells acc) → (W0.setCell ⟨w.heap.size, j, none⟩ u).ownsRow (k + 1) 109 2 v acc.length (acells acc) :=
    fun j u h0 => h0.kept (gset5 (g := w.heap.size) (j := j) u) (.inr fun e => by have := h0.lt _ e; omega)
  have hr := hs 3 v (hs 2 (.string ByteArray.empty) (hs 1 (.string nm) (hs 0 (.int .i64 kd) h.row)))
  obtain ⟨ao, an, ac, rfl⟩ : ∃ ao an ac, v = .slice ao an ac := by
    rcases owns_forms h.row with ⟨rfl, _⟩ | ⟨_, _, rfl⟩
    · exact ⟨_, _, _, rfl⟩
    · exact ⟨_, _, _, rfl⟩
  refine ⟨kd, nm, ByteArray.empty, _, _, _, p, rfl, hF.1, hp, fun _ => ⟨rfl, rfl, rfl, rfl, ?_⟩, hF.2⟩
  rcases hr with ⟨h1, h2⟩
  refine ⟨h1, ?_⟩
  rcases h2 with h2 | ⟨b, cap, cur, h3, h4, h5⟩
  · exact .inl h2
  · exact .inr ⟨b, cap, cur, h3, by omega, h5⟩
def scMeas2 (w : World) (g n : Nat) : Nat := match w.cell? ⟨g, 2, none⟩, w.cell? ⟨g, 3, none⟩ with | some (.bool false), some (.bool false) => n + 1 - scPos w g | _, _ => 0
theorem scMeas2_0 {p : Nat} (h : ScBox W g s ⟨p, 0⟩) (n : Nat) : scMeas2 W g n = n + 1 - p := by
  obtain ⟨_, _, c2, c3, _⟩ := block0 h
  unfold scMeas2; rw [c2, c3, scPos_of h]
theorem scMeas2_f {p f : Nat} (h : ScBox W g s ⟨p, f⟩) (hf : f ≠ 0) (n : Nat) : scMeas2 W g n = 0 := by
  obtain ⟨_, _, c2, c3, _⟩ := block5 h
  unfold scMeas2; rw [c2, c3]
  rcases fl_cases f with ⟨h0, _⟩ | ⟨_, _, e1, e2⟩ | ⟨_, _, e1, e2⟩
  · exact absurd h0 hf
  · simp only [e1]
  · simp only [e1, e2]
end Go.Proofs.YteebdfcegndaoaaGreatDoor
