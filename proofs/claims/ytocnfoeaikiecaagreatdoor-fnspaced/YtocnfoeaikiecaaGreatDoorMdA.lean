import Derived.Test.YtocnfoeaikiecaaGreatDoorSpR
set_option maxHeartbeats 2000000
namespace Go.Proofs.YtocnfoeaikiecaaGreatDoor
open Go.RowKit Plain9 Plain10 Tryz
theorem aK4 (s : ByteArray) (p : Nat) (what : ByteArray) (w : World) (hs : s.size ≤ 1048576) (hw : what.size ≤ 1048576) (hp : p ≤ s.size) :
 Calls prog 33 #[.string s, .int .i64 p, .string what] w fun e w' => e = .returned (.int .i64 (bXn s p what)) ∧ w' = w := by
 obtain ⟨R, hR⟩ := nmE (bXn s p what)
 rw [hR]
 have HR : Hid (aVd s what (s.size + 1) p = R) := hR
 clear hR
 go_enter func33, ntmps33
 go_wp2
 go_loop [7] (fun i => ∃ (f k : Nat), k ≤ s.size + 1 ∧ i = .int .i64 k ∧ aVd s what f k = R ∧ s.size + 1 ≤ k + f) (fun i => s.size + 1 - (intOf i).toNat)
 case atStart => exact ⟨s.size + 1, p, by omega, rfl, HR.out, by omega⟩
 case round =>
  obtain ⟨f, k, hk, rfl, hf, hfu⟩ := hrel
  have HF : Hid (aVd s what f k = R) := hf
  clear hf
  by_cases hlt : k + what.size ≤ s.size
  · obtain ⟨f', rfl⟩ : ∃ f', f = f' + 1 := ⟨f - 1, by omega⟩
    cases hst : aKy s k what with
    | true =>
     have hh := find_hit (f := f') hlt hst
     rw [HF.out] at hh
     have hst' : ((s.extract k (k + what.size)).toList == what.toList) = true := hst
     clear hst
     go_wp2
     go_ret
     exact ⟨rfl, rfl⟩
    | false =>
     have hh := bJy (f := f') hlt hst
     rw [HF.out] at hh
     have HG : Hid (R = aVd s what f' (k + 1)) := hh
     have hst' : ((s.extract k (k + what.size)).toList == what.toList) = false := hst
     clear hst hh
     go_wp2
     go_round
     case rel => exact ⟨f', k + 1, by omega, by go_num, HG.out.symm, by omega⟩
     case measure => simp [intOf]; omega
  · have hh := find_end (f := f) hlt
    rw [HF.out] at hh
    go_wp2
    go_ret
    exact ⟨rfl, rfl⟩
def aQj (w : World) (g : Nat) (s : ByteArray) (x : Sc) : Prop := w.heap[g]? = some (.cells #[.string s, .int .i64 (x.pos : Int), .bool (decide (x.fl = 1)), .bool (decide (2 ≤ x.fl)), .bool (decide (x.fl = 3))] 126)
theorem aJz {w : World} {g : Nat} {s : ByteArray} {x : Sc} (h : aQj w g s x) :
 w.cell? ⟨g, 0, none⟩ = some (.string s) ∧ w.cell? ⟨g, 1, none⟩ = some (.int .i64 (x.pos : Int)) ∧ w.cell? ⟨g, 2, none⟩ = some (.bool (decide (x.fl = 1))) ∧ w.cell? ⟨g, 3, none⟩ = some (.bool (decide (2 ≤ x.fl))) ∧ w.cell? ⟨g, 4, none⟩ = some (.bool (decide (x.fl = 3))) ∧
 w.frozen? ⟨g, 1, none⟩ = false ∧ w.frozen? ⟨g, 2, none⟩ = false ∧ w.frozen? ⟨g, 3, none⟩ = false ∧ w.frozen? ⟨g, 4, none⟩ = false := by
 unfold aQj at h
 simp [World.cell?, World.frozen?, h]
theorem aXi {w : World} {g : Nat} {s : ByteArray} {p : Nat} (h : aQj w g s ⟨p, 0⟩) :
 w.cell? ⟨g, 0, none⟩ = some (.string s) ∧ w.cell? ⟨g, 1, none⟩ = some (.int .i64 (p : Int)) ∧ w.cell? ⟨g, 2, none⟩ = some (.bool false) ∧ w.cell? ⟨g, 3, none⟩ = some (.bool false) ∧ w.cell? ⟨g, 4, none⟩ = some (.bool false) ∧
 w.frozen? ⟨g, 1, none⟩ = false ∧ w.frozen? ⟨g, 2, none⟩ = false ∧ w.frozen? ⟨g, 3, none⟩ = false ∧ w.frozen? ⟨g, 4, none⟩ = false := aJz h
theorem bZi (f : Nat) : (f = 0 ∧ decide (f = 0) = true ∧ decide (f = 1) = false ∧ decide (2 ≤ f) = false) ∨ (f = 1 ∧ decide (f = 0) = false ∧ decide (f = 1) = true ∧ decide (2 ≤ f) = false) ∨ (2 ≤ f ∧ decide (f = 0) = false ∧ decide (f = 1) = false ∧ decide (2 ≤ f) = true) := by
 by_cases h0 : f = 0
 · left; subst h0; simp
 · by_cases h1 : f = 1
   · right; left; subst h1; simp
   · right; right; exact ⟨by omega, decide_eq_false h0, decide_eq_false h1, decide_eq_true (by omega)⟩
theorem aVc (w : World) (g : Nat) (s : ByteArray) (x : Sc) (h : aQj w g s x) :
 Calls prog 83 #[.pointer (some ⟨g, 0, none⟩)] w fun e w' => e = .returned (.bool (decide (x.fl = 0))) ∧ w' = w := by
 obtain ⟨c0, c1, c2, c3, c4, f1, f2, f3, f4⟩ := aJz h
 clear h c0 c1 c4 f1 f2 f3 f4
 rcases bZi x.fl with ⟨_, e0, e1, e2⟩ | ⟨_, e0, e1, e2⟩ | ⟨_, e0, e1, e2⟩
 all_goals
  rw [e1] at c2
  rw [e2] at c3
  rw [e0]
  clear e0 e1 e2
  go_enter func83, ntmps83
  go_wp2
  go_ret
  exact ⟨rfl, rfl⟩
theorem aQs (w : World) (k : Nat) (r : Option Nat) : w.grownBy (w.drewN k) r := ⟨rfl, rfl, rfl, Nat.le_refl _, fun _ _ _ => rfl⟩
theorem aQ6 {a b c : World} {r : Option Nat} (h : a.grownBy b r) (k : b.grownBy c r) : a.grownBy c r :=
 ⟨k.os.trans h.os, k.tape.trans h.tape, k.output.trans h.output, Nat.le_trans h.size k.size, fun i hi hr => (k.block i (Nat.lt_of_lt_of_le hi h.size) hr).trans (h.block i hi hr)⟩
theorem cXw {W : World} {g : Nat} {s : ByteArray} {p f : Nat} (h : aQj W g s ⟨p, f⟩) (q : Nat) : aQj (W.setCell ⟨g, 1, none⟩ (.int .i64 (q : Int))) g s ⟨q, f⟩ := set5 h 1 _
theorem aZ6 {W : World} {g : Nat} {s : ByteArray} {p f : Nat} (h : aQj W g s ⟨p, f⟩) {z : Int} (q : Nat) (hz : z = (q : Int)) : aQj (W.setCell ⟨g, 1, none⟩ (.int .i64 z)) g s ⟨q, f⟩ := by rw [hz]; exact cXw h q
theorem bV6 {W : World} {g : Nat} {s : ByteArray} {p : Nat} (h : aQj W g s ⟨p, 0⟩) : aQj (W.setCell ⟨g, 2, none⟩ (.bool true)) g s ⟨p, 1⟩ := by
 have h5 := set5 h 2 (.bool true)
 unfold aQj; rw [h5]; rfl
theorem aWd {W : World} {g : Nat} {s : ByteArray} {p : Nat} (h : aQj W g s ⟨p, 0⟩) : aQj (W.setCell ⟨g, 3, none⟩ (.bool true)) g s ⟨p, 2⟩ := by
 have h5 := set5 h 3 (.bool true)
 unfold aQj; rw [h5]; rfl
theorem dZp {W : World} {g : Nat} {s : ByteArray} {p f : Nat} (hf : f = 0) (h : aQj W g s ⟨p, f⟩) : aQj (W.setCell ⟨g, 3, none⟩ (.bool true)) g s ⟨p, 2⟩ := by subst hf; exact aWd h
theorem dQi {W : World} {g : Nat} {s : ByteArray} {p : Nat} (h : aQj W g s ⟨p, 0⟩) : aQj ((W.setCell ⟨g, 4, none⟩ (.bool true)).setCell ⟨g, 3, none⟩ (.bool true)) g s ⟨p, 3⟩ := by
 have h5 := set5 h 4 (.bool true)
 have h6 := set5 h5 3 (.bool true)
 unfold aQj; rw [h6]; rfl
theorem aVt (w : World) (g : Nat) (s : ByteArray) (x : Sc) (h : aQj w g s x) (hp : x.pos ≤ 1048577) :
 Calls prog 84 #[.pointer (some ⟨g, 0, none⟩)] w fun e w' => e = .returned (.bool (decide (s.size ≤ x.pos))) ∧ aQj w' g s (x.ended s) ∧ w.grownBy w' (some g) := by
 obtain ⟨c0, c1, c2, c3, c4, f1, f2, f3, f4⟩ := aJz h
 have HB : Hid (aQj w g s x) := h
 clear h
 obtain ⟨pos, fl⟩ := x
 simp only at c0 c1 c2 c3 c4 hp ⊢
 by_cases he : s.size ≤ pos
 · rw [decide_eq_true he]
   have HE : Hid (s.size ≤ pos) := he
   have hei : (s.size : Int) ≤ (pos : Int) := by omega
   have key : ∀ W : World, aQj W g s ⟨pos, fl⟩ → ∀ u, u = (decide (fl = 1) || !decide (2 ≤ fl)) → aQj (W.setCell ⟨g, 2, none⟩ (.bool u)) g s ((Sc.mk pos fl).ended s) := by
    intro W hW u hu
    have h5 := set5 (w := W) hW 2 (.bool u)
    unfold aQj
    rw [h5]
    rcases bZi fl with ⟨h0, e0, e1, e2⟩ | ⟨h0, e0, e1, e2⟩ | ⟨h0, e0, e1, e2⟩
    · subst h0; rw [aZb HE.out rfl, hu]; rfl
    · rw [bW7 (by show fl ≠ 0; omega), hu, e1, e2]; simp
    · rw [bW7 (by show fl ≠ 0; omega), hu, e1, e2]; simp
   have KEY : Hid (∀ W : World, aQj W g s ⟨pos, fl⟩ → ∀ u, u = (decide (fl = 1) || !decide (2 ≤ fl)) → aQj (W.setCell ⟨g, 2, none⟩ (.bool u)) g s ((Sc.mk pos fl).ended s)) := key
   clear key he
   rcases bZi fl with ⟨h0, e0, e1, e2⟩ | ⟨h0, e0, e1, e2⟩ | ⟨h0, e0, e1, e2⟩
   all_goals
    have E : Hid (decide (fl = 1) = _ ∧ decide (2 ≤ fl) = _) := ⟨e1, e2⟩
    rw [e1] at c2
    rw [e2] at c3
    clear e0 e1 e2 h0 c4
    go_enter func84, ntmps84
    go_wp2_with fail
    go_quiet (fail)
    go_wp2
    go_ret
    exact ⟨rfl, KEY.out (w.drewN nq) HB.out _ (by rw [E.out.1, E.out.2]; rfl), aQ6 (aQs w nq _) (aX9 _)⟩
 · rw [aV9 (show (Sc.mk pos fl).pos < s.size by show pos < s.size; omega), decide_eq_false he]
   have hei : ¬ (s.size : Int) ≤ (pos : Int) := by omega
   clear he
   go_enter func84, ntmps84
   go_wp2_with fail
   go_quiet (fail)
   go_wp2
   go_ret
   exact ⟨rfl, HB.out, aQs w nq _⟩
open Go.RowKit Plain1 Strs Plain9 Plain10
theorem aK9 (b : Int) (w : World) (h0 : 0 ≤ b) (h1 : b ≤ 255) :
 Calls prog 69 #[.int .u8 b] w fun e w' => e = .returned (.bool (whiteB b)) ∧ w' = w := by
 go_enter func69, ntmps69
 go_wp2
 all_goals
  go_ret
  exact ⟨aXd (by unfold whiteB; apply Bool.eq_iff_iff.2; simp at *; try omega), rfl⟩
def cQv (w : World) (g : Nat) : Nat := match w.cell? ⟨g, 1, none⟩ with | some (.int _ n) => n.toNat | _ => 0
theorem aYt {w : World} {g : Nat} {s : ByteArray} {x : Sc} (h : aQj w g s x) : cQv w g = x.pos := by
 obtain ⟨_, c1, _⟩ := aJz h
 unfold cQv
 rw [c1]
 simp
theorem aXq (w : World) (g : Nat) (s : ByteArray) (x : Sc) (h : aQj w g s x) (hs : s.size ≤ 1048576) (hp : x.pos ≤ s.size) :
 Calls prog 86 #[.pointer (some ⟨g, 0, none⟩)] w fun e w' => e = .returned (.bool (decide (x.pos < whiteZ s x.pos))) ∧ aQj w' g s ⟨whiteZ s x.pos, x.fl⟩ ∧ w.grownBy w' (some g) := by
 obtain ⟨pos, fl⟩ := x
 obtain ⟨R, hR⟩ := nmE (whiteZ s pos)
 simp only at hp ⊢
 rw [hR]
 have HR : Hid (aXz s (s.size + 1) pos = R) := hR
 have HB : Hid (aQj w g s ⟨pos, fl⟩) := h
 obtain ⟨c0, c1, c2, c3, c4, f1, f2, f3, f4⟩ := aJz h
 simp only at c0 c1 c2 c3 c4
 clear h hR
 go_enter func86, ntmps86
 go_wp2_with fail
 go_loopw [] (fun wr => ∃ (f k : Nat), pos ≤ k ∧ k ≤ s.size ∧ aXz s f k = R ∧ s.size + 1 ≤ k + f ∧ aQj wr g s ⟨k, fl⟩ ∧ w.grownBy wr (some g)) (fun wr => s.size - cQv wr g)
 case atStart => exact ⟨s.size + 1, pos, Nat.le_refl _, hp, HR.out, by omega, HB.out, aQs w 0 _⟩
 case round =>
  obtain ⟨f, k, hk0, hk, hf, hfu, hbx, hg⟩ := hrel
  have HF : Hid (aXz s f k = R) := hf
  have HBX : Hid (aQj wr g s ⟨k, fl⟩) := hbx
  have HG : Hid (w.grownBy wr (some g)) := hg
  have HP : Hid (cQv wr g = k) := aYt hbx
  clear c0 c1 c2 c3 c4 f1 f2 f3 f4
  obtain ⟨c0, c1, c2, c3, c4, f1, f2, f3, f4⟩ := aJz hbx
  simp only at c0 c1 c2 c3 c4
  clear hf hbx hg
  by_cases hlt : k < s.size
  · obtain ⟨b, hb⟩ := nmE (aQ1 s k)
    have hbd := aXn s k
    rw [hb] at hbd
    obtain ⟨hb0, hb1⟩ := hbd
    have hix : ∀ wx, (Instr.index 9 (.string s) (.int .i64 (k : Int))).run prog wx = .ok (.int .u8 b) wx := fun wx => by rw [aQ8 wx 9 s k hlt underlying9, hb]
    have HBB : Hid (aQ1 s k = b) := hb
    clear hb
    have hki : (k : Int) < (s.size : Int) := by omega
    cases hw : whiteB b with
    | true =>
     obtain ⟨f', rfl⟩ : ∃ f', f = f' + 1 := ⟨f - 1, by omega⟩
     have hon := aJu (f := f') (i := k) (s := s) ⟨hlt, by rw [HBB.out]; exact hw⟩
     rw [HF.out] at hon
     have HON : Hid (R = aXz s f' (k + 1)) := hon
     clear hon
     go_wp2_with fail
     go_quiet ((go_at_call 69; exact Calls.quiet_of_same (aK9 _ _ hb0 hb1)))
     go_wp2
     have hnew : aQj ((wr.drewN nq).setCell ⟨g, 1, none⟩ (.int .i64 ((k : Int) + 1))) g s ⟨k + 1, fl⟩ := set5 (w := wr.drewN nq) HBX.out 1 _
     go_roundw
     case rel => exact ⟨f', k + 1, by omega, by omega, HON.out.symm, by omega, hnew, aQ6 HG.out (aQ6 (aQs wr nq _) (aX9 _))⟩
     case measure => rw [aYt hnew, HP.out]; simp only []; omega
    | false =>
     have hst := aXc (f := f) (i := k) (s := s) (fun hh => by rw [HBB.out, hw] at hh; cases hh.2)
     rw [HF.out] at hst
     have HST : Hid (R = k) := hst
     clear hst
     go_wp2_with fail
     go_quiet ((go_at_call 69; exact Calls.quiet_of_same (aK9 _ _ hb0 hb1)))
     go_wp2
     go_ret
     refine ⟨aXd ?_, ?_, aQ6 HG.out (aQs wr nq _)⟩
     · rw [HST.out]
     · rw [HST.out]; exact HBX.out
  · have hst := aXc (f := f) (i := k) (s := s) (fun hh => hlt hh.1)
    rw [HF.out] at hst
    have HST : Hid (R = k) := hst
    clear hst
    have hki : ¬ (k : Int) < (s.size : Int) := by omega
    have hkd : decide ((k : Int) < (s.size : Int)) = false := by simpa using hki
    go_wp2_with fail
    go_quiet (fail)
    go_wp2
    go_ret
    refine ⟨aXd ?_, ?_, aQ6 HG.out (aQs wr nq _)⟩
    · rw [HST.out]
    · rw [HST.out]; exact HBX.out
theorem bZg (w : World) (g : Nat) (s what : ByteArray) (x : Sc) (h : aQj w g s x) (hs : s.size ≤ 1048576) (hw : what.size ≤ 1048576) (hp : x.pos ≤ s.size) :
 Calls prog 82 #[.pointer (some ⟨g, 0, none⟩), .string what] w fun e w' => e = .returned (.tuple #[]) ∧ aQj w' g s (x.must s what) ∧ w.grownBy w' (some g) := by
 obtain ⟨R, hR⟩ := nmE (x.must s what)
 rw [hR]
 have HR : Hid (aV7 s what (what.size + 1) 0 x = R) := hR
 have HB := aQ0 h
 clear h hR
 go_enter func82, ntmps82
 go_wp2_with fail
 go_loopw [4] (fun i wr => ∃ (f k : Nat) (y : Sc), k ≤ what.size ∧ i = .int .i64 k ∧ y.pos ≤ s.size ∧ aV7 s what f k y = R ∧ what.size + 1 ≤ k + f ∧ aQj wr g s y ∧ w.grownBy wr (some g)) (fun i _ => what.size - (intOf i).toNat)
 case atStart => exact ⟨what.size + 1, 0, x, Nat.zero_le _, rfl, hp, HR.out, by omega, HB.out, aQs w 0 _⟩
 case round =>
  obtain ⟨f, k, y, hk, rfl, hyp, hf, hfu, hbx, hg⟩ := hrel
  have HF := aQ0 hf
  have HBX := aQ0 hbx
  have HG := aQ0 hg
  clear hf hbx hg
  by_cases hlt : k < what.size
  · have hlti : (k : Int) < (what.size : Int) := by omega
    by_cases hok0 : y.fl = 0
    rotate_left
    · have hok : decide (y.fl = 0) = false := decide_eq_false hok0
      have hst := aYf (f := f) (i := k) (x := y) (s := s) (what := what) (fun hh => hok0 hh.2)
      rw [HF.out] at hst
      subst hst
      have hc := aVc wr g s R HBX.out
      rw [hok] at hc
      go_wp2_with (go_at_call 83; refine hc.mono ?_; rintro e w' ⟨rfl, rfl⟩)
      go_end0
      exact ⟨rfl, HBX.out, HG.out⟩
    · have hok : decide (y.fl = 0) = true := decide_eq_true hok0
      have HOK := aQ0 hok0
      obtain ⟨f', rfl⟩ : ∃ f', f = f' + 1 := ⟨f - 1, by omega⟩
      have hc := aVc wr g s y HBX.out
      rw [hok] at hc
      have hc2 := aVt wr g s y HBX.out (by omega)
      by_cases he : s.size ≤ y.pos
      · have hst := bKt (f := f') (i := k) (x := y) (s := s) (what := what) ⟨hlt, hok0⟩ he
        rw [HF.out] at hst
        subst hst
        rw [decide_eq_true he] at hc2
        go_wp2_with (first | (go_at_call 83; refine hc.mono ?_; rintro e w' ⟨rfl, rfl⟩) | (go_at_call 84; refine hc2.mono ?_; rintro e w2 ⟨rfl, hb2, hg2⟩))
        go_end0
        exact ⟨rfl, hb2, aQ6 HG.out hg2⟩
      · have hend : y.ended s = y := aV9 (by omega)
        rw [decide_eq_false he, hend] at hc2
        clear hend
        obtain ⟨b, hb⟩ := nmE (aQ1 s y.pos)
        obtain ⟨c, hcb⟩ := nmE (aQ1 what k)
        have hix : ∀ wx, (Instr.index 9 (.string s) (.int .i64 (y.pos : Int))).run prog wx = .ok (.int .u8 b) wx := fun wx => by rw [aQ8 wx 9 s y.pos (by omega) underlying9, hb]
        have hiw : ∀ wx, (Instr.index 9 (.string what) (.int .i64 (k : Int))).run prog wx = .ok (.int .u8 c) wx := fun wx => by rw [aQ8 wx 9 what k hlt underlying9, hcb]
        by_cases heq : b = c
        · have hst := cXb (f := f') (i := k) (x := y) (s := s) (what := what) ⟨hlt, hok0⟩ he (by rw [hb, hcb]; exact heq)
          rw [HF.out] at hst
          have HON := aQ0 hst
          have hne : (b != c) = false := by simp [heq]
          clear hst heq hb hcb hok hok0
          go_wp2_with (first | (go_at_call 83; refine hc.mono ?_; rintro e w' ⟨rfl, rfl⟩) | (go_at_call 84; refine hc2.mono ?_; rintro e w2 ⟨rfl, hb2, hg2⟩; obtain ⟨c0, c1, c2, c3, c4, f1, f2, f3, f4⟩ := aJz hb2; replace hb2 := aQ0 hb2; replace hg2 := aQ0 hg2))
          go_quiet (fail)
          go_wp2
          have hnew : aQj ((w2.drewN nq).setCell ⟨g, 1, none⟩ (.int .i64 ((y.pos : Int) + 1))) g s ⟨y.pos + 1, y.fl⟩ := set5 (w := w2.drewN nq) hb2.out 1 _
          go_roundw
          case rel => exact ⟨f', k + 1, ⟨y.pos + 1, y.fl⟩, by omega, by go_num, by simp only []; omega, HON.out.symm, by omega, hnew, aQ6 HG.out (aQ6 hg2.out (aQ6 (aQs w2 nq _) (aX9 _)))⟩
          case measure => simp [intOf]; omega
        · have hst := bKu (f := f') (i := k) (x := y) (s := s) (what := what) ⟨hlt, hok0⟩ he (by rw [hb, hcb]; exact heq)
          rw [HF.out] at hst
          subst hst
          have hne : (b != c) = true := by simp [heq]
          clear heq hb hcb hok hok0
          go_wp2_with (first | (go_at_call 83; refine hc.mono ?_; rintro e w' ⟨rfl, rfl⟩) | (go_at_call 84; refine hc2.mono ?_; rintro e w2 ⟨rfl, hb2, hg2⟩; obtain ⟨c0, c1, c2, c3, c4, f1, f2, f3, f4⟩ := aJz hb2; replace hb2 := aQ0 hb2; replace hg2 := aQ0 hg2))
          go_quiet (fail)
          go_wp2
          refine bodyPost_ret (v := .tuple #[]) (by simp [results, results82]) rfl ?_
          exact ⟨rfl, dZp (W := w2.drewN nq) HOK.out hb2.out, aQ6 HG.out (aQ6 hg2.out (aQ6 (aQs w2 nq _) (aX9 _)))⟩
  · have hlti : ¬ (k : Int) < (what.size : Int) := by omega
    have hst := aYf (f := f) (i := k) (x := y) (s := s) (what := what) (fun hh => hlt hh.1)
    rw [HF.out] at hst
    subst hst
    go_wp2_with fail
    go_end0
    exact ⟨rfl, HBX.out, HG.out⟩
open Go.RowKit Plain1
theorem cY0 (n lo hi : Int) (w : World) :
 Calls prog 81 #[.int .i64 n, .int .i64 lo, .int .i64 hi] w fun e w' => e = .returned (.bool (decide (lo ≤ n ∧ n ≤ hi))) ∧ w' = w := by
 go_enter func81, ntmps81
 go_wp2
 all_goals
  go_ret
  exact ⟨aXd (by rw [Bool.eq_iff_iff]; simp at *; omega), rfl⟩
theorem aZ7 (n : Int) (w : World) :
 Calls prog 62 #[.int .i64 n] w fun e w' => e = .returned (.bool (aZ5 n)) ∧ w' = w := by
 go_enter func62, ntmps62
 go_wp2
 all_goals
  go_ret
  exact ⟨aXd (by rw [Bool.eq_iff_iff, aJn]; simp at *; omega), rfl⟩
open Go.RowKit Plain1 Strs Plain3
theorem rune_1 (s : ByteArray) (pos : Nat) (b0 : Int) (w : World) (hp : pos < s.size) (hs : s.size ≤ 1048576) (hb : aQ1 s pos = b0) (hp0 : 0 ≤ b0) (h1 : b0 < 128) :
 Calls prog 40 #[.string s, .int .i64 pos] w fun e w' => e = .returned (.tuple #[.int .i64 (fin s pos (b0) 1 0).1, .int .i64 ((fin s pos (b0) 1 0).2 : Int)]) ∧ w' = w := by
 have HB : Hid (aQ1 s pos = b0) := hb
 clear hb
 have hn : ¬ s.size < pos + 1 := by omega
 generalize hf : fin s pos (b0) 1 0 = f
 have HF : Hid (fin s pos (b0) 1 0 = f) := hf
 clear hf
 go_enter func40, ntmps40
 go_wp2_with (first | (refine aQf rfl 9 (.tmp 11) (.tmp 12) rfl s pos _ b0 rfl rfl rfl hp underlying9 HB.out ?_) | go_in)
 go_loop [6, 9] (fun c i => ∃ (j : Nat) (x : Int), 1 ≤ j ∧ j ≤ 1 ∧ i = .int .i64 j ∧ c = .int .i64 x ∧ Bd j x ∧ x = vz s pos (b0) (j - 1) ∧ aVu s pos j) (fun _ i => 1 - (intOf i).toNat)
 case atStart => exact ⟨1, _, by omega, by omega, rfl, rfl, by unfold Bd; omega, rfl, aVb _ _⟩
 case round =>
  obtain ⟨j, x, hj1, hj2, rfl, rfl, hx, hv, hc⟩ := hrel
  have HX : Hid (Bd j x) := hx
  have HV : Hid (x = vz s pos (b0) (j - 1)) := hv
  have HC : Hid (aVu s pos j) := hc
  have hx0 : 0 ≤ x := hx.1
  have hx1 : x ≤ 33554431 := hx.2.2.2.2
  clear hx hv hc
  · obtain rfl : j = 1 := by omega
    have hv : vz s pos (b0) (1 - 1) = x := HV.out.symm
    by_cases hlow : x < 0
    · go_wp2
      go_ret2
      exact ⟨aJ4 (a := (0, 0)) (by rw [← HF.out, bW2 (by omega)]), rfl⟩
    have HV' : Hid (vz s pos (b0) (1 - 1) = x) := hv
    clear hv
    by_cases hch : aZ5 x = true
    · go_wp2_with (first | (go_at_call 62; refine (aZ7 _ _).mono ?_; rintro e w' ⟨rfl, rfl⟩))
      go_ret2
      exact ⟨aJ4 (a := (x, 1)) (by rw [← HF.out, aJ5 (by omega) HC.out (by rw [HV'.out]; omega) (by rw [HV'.out]; exact hch), HV'.out]), rfl⟩
    · have hch' : aZ5 x = false := by simpa using hch
      clear hch
      go_wp2_with (first | (go_at_call 62; refine (aZ7 _ _).mono ?_; rintro e w' ⟨rfl, rfl⟩))
      go_ret2
      exact ⟨aJ4 (a := (0, 0)) (by rw [← HF.out, bX1 (by rw [HV'.out]; exact hch')]), rfl⟩
theorem rune_2 (s : ByteArray) (pos : Nat) (b0 : Int) (w : World) (hp : pos < s.size) (hs : s.size ≤ 1048576) (hb : aQ1 s pos = b0) (h0 : 192 ≤ b0) (h1 : b0 < 224) :
 Calls prog 40 #[.string s, .int .i64 pos] w fun e w' => e = .returned (.tuple #[.int .i64 (fin s pos (b0 - 192) 2 128).1, .int .i64 ((fin s pos (b0 - 192) 2 128).2 : Int)]) ∧ w' = w := by
 have HB : Hid (aQ1 s pos = b0) := hb
 clear hb
 by_cases hn : s.size < pos + 2
 · go_enter func40, ntmps40
   go_wp2_with (first | (refine aQf rfl 9 (.tmp 11) (.tmp 12) rfl s pos _ b0 rfl rfl rfl hp underlying9 HB.out ?_) | go_in)
   go_ret2
   exact ⟨aJ4 (a := (0, 0)) (bV0 hn).symm, rfl⟩
 generalize hf : fin s pos (b0 - 192) 2 128 = f
 have HF : Hid (fin s pos (b0 - 192) 2 128 = f) := hf
 clear hf
 go_enter func40, ntmps40
 go_wp2_with (first | (refine aQf rfl 9 (.tmp 11) (.tmp 12) rfl s pos _ b0 rfl rfl rfl hp underlying9 HB.out ?_) | go_in)
 go_loop [6, 9] (fun c i => ∃ (j : Nat) (x : Int), 1 ≤ j ∧ j ≤ 2 ∧ i = .int .i64 j ∧ c = .int .i64 x ∧ Bd j x ∧ x = vz s pos (b0 - 192) (j - 1) ∧ aVu s pos j) (fun _ i => 2 - (intOf i).toNat)
 case atStart => exact ⟨1, _, by omega, by omega, rfl, rfl, by unfold Bd; omega, rfl, aVb _ _⟩
 case round =>
  obtain ⟨j, x, hj1, hj2, rfl, rfl, hx, hv, hc⟩ := hrel
  have HX : Hid (Bd j x) := hx
  have HV : Hid (x = vz s pos (b0 - 192) (j - 1)) := hv
  have HC : Hid (aVu s pos j) := hc
  have hx0 : 0 ≤ x := hx.1
  have hx1 : x ≤ 33554431 := hx.2.2.2.2
  clear hx hv hc
  by_cases hlt : j < 2
  · obtain ⟨bj, hbj⟩ : ∃ b, aQ1 s (pos + j) = b := ⟨_, rfl⟩
    have hbd := aXn s (pos + j)
    rw [hbj] at hbd
    obtain ⟨hbd0, hbd1⟩ := hbd
    have HJ : Hid (aQ1 s (pos + j) = bj) := hbj
    clear hbj
    have hpj : pos + j < s.size := by omega
    by_cases hgo : 128 ≤ bj ∧ bj < 192
    · obtain ⟨hg0, hg1⟩ := hgo
      go_wp2_with (first | (refine aQf rfl 9 (.tmp 56) (.tmp 59) rfl s (pos + j) _ bj rfl rfl (by omega) hpj underlying9 HJ.out ?_) | go_in)
      go_round
      case rel => exact ⟨j + 1, 64 * x + bj - 128, by omega, by omega, by go_num, rfl, cZ0 HX.out hj1 (by omega) hg0 hg1, by rw [cQh _ _ _ _ hj1, HJ.out, ← HV.out], aJi HC.out (by unfold aQw; rw [HJ.out]; exact ⟨hg0, hg1⟩)⟩
      case measure => simp [intOf]; omega
    · have hno : ¬ aQw s (pos + j) := by unfold aQw; rw [HJ.out]; exact hgo
      have HN : Hid (¬ aQw s (pos + j)) := hno
      clear hno
      have hgo' : bj < 128 ∨ 192 ≤ bj := by omega
      clear hgo
      rcases hgo' with hg | hg
      all_goals
       go_wp2_with (first | (refine aQf rfl 9 (.tmp 56) (.tmp 59) rfl s (pos + j) _ bj rfl rfl (by omega) hpj underlying9 HJ.out ?_) | go_in)
       go_ret2
       exact ⟨aJ4 (a := (0, 0)) (by rw [← HF.out, bW3 hj1 hlt HN.out]), rfl⟩
  · obtain rfl : j = 2 := by omega
    have hv : vz s pos (b0 - 192) (2 - 1) = x := HV.out.symm
    by_cases hlow : x < 128
    · go_wp2
      go_ret2
      exact ⟨aJ4 (a := (0, 0)) (by rw [← HF.out, bW2 (by omega)]), rfl⟩
    have HV' : Hid (vz s pos (b0 - 192) (2 - 1) = x) := hv
    clear hv
    by_cases hch : aZ5 x = true
    · go_wp2_with (first | (go_at_call 62; refine (aZ7 _ _).mono ?_; rintro e w' ⟨rfl, rfl⟩))
      go_ret2
      exact ⟨aJ4 (a := (x, 2)) (by rw [← HF.out, aJ5 (by omega) HC.out (by rw [HV'.out]; omega) (by rw [HV'.out]; exact hch), HV'.out]), rfl⟩
    · have hch' : aZ5 x = false := by simpa using hch
      clear hch
      go_wp2_with (first | (go_at_call 62; refine (aZ7 _ _).mono ?_; rintro e w' ⟨rfl, rfl⟩))
      go_ret2
      exact ⟨aJ4 (a := (0, 0)) (by rw [← HF.out, bX1 (by rw [HV'.out]; exact hch')]), rfl⟩
theorem rune_3 (s : ByteArray) (pos : Nat) (b0 : Int) (w : World) (hp : pos < s.size) (hs : s.size ≤ 1048576) (hb : aQ1 s pos = b0) (h0 : 224 ≤ b0) (h1 : b0 < 240) :
 Calls prog 40 #[.string s, .int .i64 pos] w fun e w' => e = .returned (.tuple #[.int .i64 (fin s pos (b0 - 224) 3 2048).1, .int .i64 ((fin s pos (b0 - 224) 3 2048).2 : Int)]) ∧ w' = w := by
 have HB : Hid (aQ1 s pos = b0) := hb
 clear hb
 by_cases hn : s.size < pos + 3
 · go_enter func40, ntmps40
   go_wp2_with (first | (refine aQf rfl 9 (.tmp 11) (.tmp 12) rfl s pos _ b0 rfl rfl rfl hp underlying9 HB.out ?_) | go_in)
   go_ret2
   exact ⟨aJ4 (a := (0, 0)) (bV0 hn).symm, rfl⟩
 generalize hf : fin s pos (b0 - 224) 3 2048 = f
 have HF : Hid (fin s pos (b0 - 224) 3 2048 = f) := hf
 clear hf
 go_enter func40, ntmps40
 go_wp2_with (first | (refine aQf rfl 9 (.tmp 11) (.tmp 12) rfl s pos _ b0 rfl rfl rfl hp underlying9 HB.out ?_) | go_in)
 go_loop [6, 9] (fun c i => ∃ (j : Nat) (x : Int), 1 ≤ j ∧ j ≤ 3 ∧ i = .int .i64 j ∧ c = .int .i64 x ∧ Bd j x ∧ x = vz s pos (b0 - 224) (j - 1) ∧ aVu s pos j) (fun _ i => 3 - (intOf i).toNat)
 case atStart => exact ⟨1, _, by omega, by omega, rfl, rfl, by unfold Bd; omega, rfl, aVb _ _⟩
 case round =>
  obtain ⟨j, x, hj1, hj2, rfl, rfl, hx, hv, hc⟩ := hrel
  have HX : Hid (Bd j x) := hx
  have HV : Hid (x = vz s pos (b0 - 224) (j - 1)) := hv
  have HC : Hid (aVu s pos j) := hc
  have hx0 : 0 ≤ x := hx.1
  have hx1 : x ≤ 33554431 := hx.2.2.2.2
  clear hx hv hc
  by_cases hlt : j < 3
  · obtain ⟨bj, hbj⟩ : ∃ b, aQ1 s (pos + j) = b := ⟨_, rfl⟩
    have hbd := aXn s (pos + j)
    rw [hbj] at hbd
    obtain ⟨hbd0, hbd1⟩ := hbd
    have HJ : Hid (aQ1 s (pos + j) = bj) := hbj
    clear hbj
    have hpj : pos + j < s.size := by omega
    by_cases hgo : 128 ≤ bj ∧ bj < 192
    · obtain ⟨hg0, hg1⟩ := hgo
      go_wp2_with (first | (refine aQf rfl 9 (.tmp 56) (.tmp 59) rfl s (pos + j) _ bj rfl rfl (by omega) hpj underlying9 HJ.out ?_) | go_in)
      go_round
      case rel => exact ⟨j + 1, 64 * x + bj - 128, by omega, by omega, by go_num, rfl, cZ0 HX.out hj1 (by omega) hg0 hg1, by rw [cQh _ _ _ _ hj1, HJ.out, ← HV.out], aJi HC.out (by unfold aQw; rw [HJ.out]; exact ⟨hg0, hg1⟩)⟩
      case measure => simp [intOf]; omega
    · have hno : ¬ aQw s (pos + j) := by unfold aQw; rw [HJ.out]; exact hgo
      have HN : Hid (¬ aQw s (pos + j)) := hno
      clear hno
      have hgo' : bj < 128 ∨ 192 ≤ bj := by omega
      clear hgo
      rcases hgo' with hg | hg
      all_goals
       go_wp2_with (first | (refine aQf rfl 9 (.tmp 56) (.tmp 59) rfl s (pos + j) _ bj rfl rfl (by omega) hpj underlying9 HJ.out ?_) | go_in)
       go_ret2
       exact ⟨aJ4 (a := (0, 0)) (by rw [← HF.out, bW3 hj1 hlt HN.out]), rfl⟩
  · obtain rfl : j = 3 := by omega
    have hv : vz s pos (b0 - 224) (3 - 1) = x := HV.out.symm
    by_cases hlow : x < 2048
    · go_wp2
      go_ret2
      exact ⟨aJ4 (a := (0, 0)) (by rw [← HF.out, bW2 (by omega)]), rfl⟩
    have HV' : Hid (vz s pos (b0 - 224) (3 - 1) = x) := hv
    clear hv
    by_cases hch : aZ5 x = true
    · go_wp2_with (first | (go_at_call 62; refine (aZ7 _ _).mono ?_; rintro e w' ⟨rfl, rfl⟩))
      go_ret2
      exact ⟨aJ4 (a := (x, 3)) (by rw [← HF.out, aJ5 (by omega) HC.out (by rw [HV'.out]; omega) (by rw [HV'.out]; exact hch), HV'.out]), rfl⟩
    · have hch' : aZ5 x = false := by simpa using hch
      clear hch
      go_wp2_with (first | (go_at_call 62; refine (aZ7 _ _).mono ?_; rintro e w' ⟨rfl, rfl⟩))
      go_ret2
      exact ⟨aJ4 (a := (0, 0)) (by rw [← HF.out, bX1 (by rw [HV'.out]; exact hch')]), rfl⟩
theorem rune_4 (s : ByteArray) (pos : Nat) (b0 : Int) (w : World) (hp : pos < s.size) (hs : s.size ≤ 1048576) (hb : aQ1 s pos = b0) (h0 : 240 ≤ b0) (h1 : b0 < 248) :
 Calls prog 40 #[.string s, .int .i64 pos] w fun e w' => e = .returned (.tuple #[.int .i64 (fin s pos (b0 - 240) 4 65536).1, .int .i64 ((fin s pos (b0 - 240) 4 65536).2 : Int)]) ∧ w' = w := by
 have HB : Hid (aQ1 s pos = b0) := hb
 clear hb
 by_cases hn : s.size < pos + 4
 · go_enter func40, ntmps40
   go_wp2_with (first | (refine aQf rfl 9 (.tmp 11) (.tmp 12) rfl s pos _ b0 rfl rfl rfl hp underlying9 HB.out ?_) | go_in)
   go_ret2
   exact ⟨aJ4 (a := (0, 0)) (bV0 hn).symm, rfl⟩
 generalize hf : fin s pos (b0 - 240) 4 65536 = f
 have HF : Hid (fin s pos (b0 - 240) 4 65536 = f) := hf
 clear hf
 go_enter func40, ntmps40
 go_wp2_with (first | (refine aQf rfl 9 (.tmp 11) (.tmp 12) rfl s pos _ b0 rfl rfl rfl hp underlying9 HB.out ?_) | go_in)
 go_loop [6, 9] (fun c i => ∃ (j : Nat) (x : Int), 1 ≤ j ∧ j ≤ 4 ∧ i = .int .i64 j ∧ c = .int .i64 x ∧ Bd j x ∧ x = vz s pos (b0 - 240) (j - 1) ∧ aVu s pos j) (fun _ i => 4 - (intOf i).toNat)
 case atStart => exact ⟨1, _, by omega, by omega, rfl, rfl, by unfold Bd; omega, rfl, aVb _ _⟩
 case round =>
  obtain ⟨j, x, hj1, hj2, rfl, rfl, hx, hv, hc⟩ := hrel
  have HX : Hid (Bd j x) := hx
  have HV : Hid (x = vz s pos (b0 - 240) (j - 1)) := hv
  have HC : Hid (aVu s pos j) := hc
  have hx0 : 0 ≤ x := hx.1
  have hx1 : x ≤ 33554431 := hx.2.2.2.2
  clear hx hv hc
  by_cases hlt : j < 4
  · obtain ⟨bj, hbj⟩ : ∃ b, aQ1 s (pos + j) = b := ⟨_, rfl⟩
    have hbd := aXn s (pos + j)
    rw [hbj] at hbd
    obtain ⟨hbd0, hbd1⟩ := hbd
    have HJ : Hid (aQ1 s (pos + j) = bj) := hbj
    clear hbj
    have hpj : pos + j < s.size := by omega
    by_cases hgo : 128 ≤ bj ∧ bj < 192
    · obtain ⟨hg0, hg1⟩ := hgo
      go_wp2_with (first | (refine aQf rfl 9 (.tmp 56) (.tmp 59) rfl s (pos + j) _ bj rfl rfl (by omega) hpj underlying9 HJ.out ?_) | go_in)
      go_round
      case rel => exact ⟨j + 1, 64 * x + bj - 128, by omega, by omega, by go_num, rfl, cZ0 HX.out hj1 (by omega) hg0 hg1, by rw [cQh _ _ _ _ hj1, HJ.out, ← HV.out], aJi HC.out (by unfold aQw; rw [HJ.out]; exact ⟨hg0, hg1⟩)⟩
      case measure => simp [intOf]; omega
    · have hno : ¬ aQw s (pos + j) := by unfold aQw; rw [HJ.out]; exact hgo
      have HN : Hid (¬ aQw s (pos + j)) := hno
      clear hno
      have hgo' : bj < 128 ∨ 192 ≤ bj := by omega
      clear hgo
      rcases hgo' with hg | hg
      all_goals
       go_wp2_with (first | (refine aQf rfl 9 (.tmp 56) (.tmp 59) rfl s (pos + j) _ bj rfl rfl (by omega) hpj underlying9 HJ.out ?_) | go_in)
       go_ret2
       exact ⟨aJ4 (a := (0, 0)) (by rw [← HF.out, bW3 hj1 hlt HN.out]), rfl⟩
  · obtain rfl : j = 4 := by omega
    have hv : vz s pos (b0 - 240) (4 - 1) = x := HV.out.symm
    by_cases hlow : x < 65536
    · go_wp2
      go_ret2
      exact ⟨aJ4 (a := (0, 0)) (by rw [← HF.out, bW2 (by omega)]), rfl⟩
    have HV' : Hid (vz s pos (b0 - 240) (4 - 1) = x) := hv
    clear hv
    by_cases hch : aZ5 x = true
    · go_wp2_with (first | (go_at_call 62; refine (aZ7 _ _).mono ?_; rintro e w' ⟨rfl, rfl⟩))
      go_ret2
      exact ⟨aJ4 (a := (x, 4)) (by rw [← HF.out, aJ5 (by omega) HC.out (by rw [HV'.out]; omega) (by rw [HV'.out]; exact hch), HV'.out]), rfl⟩
    · have hch' : aZ5 x = false := by simpa using hch
      clear hch
      go_wp2_with (first | (go_at_call 62; refine (aZ7 _ _).mono ?_; rintro e w' ⟨rfl, rfl⟩))
      go_ret2
      exact ⟨aJ4 (a := (0, 0)) (by rw [← HF.out, bX1 (by rw [HV'.out]; exact hch')]), rfl⟩
theorem cKz (s : ByteArray) (pos : Nat) (b0 : Int) (w : World) (hp : pos < s.size) (hb : aQ1 s pos = b0) (hb1 : b0 ≤ 255) (h : (128 ≤ b0 ∧ b0 < 192) ∨ 248 ≤ b0) :
 Calls prog 40 #[.string s, .int .i64 pos] w fun e w' => e = .returned (.tuple #[.int .i64 0, .int .i64 0]) ∧ w' = w := by
 have HB : Hid (aQ1 s pos = b0) := hb
 clear hb
 rcases h with ⟨h0, h1⟩ | h0
 all_goals
  go_enter func40, ntmps40
  go_wp2_with (first | (refine aQf rfl 9 (.tmp 11) (.tmp 12) rfl s pos _ b0 rfl rfl rfl hp underlying9 HB.out ?_) | go_in)
  go_ret2
  exact ⟨rfl, rfl⟩
theorem cZm (s : ByteArray) (pos : Nat) (w : World) (hp : pos < s.size) (hs : s.size ≤ 1048576) :
 Calls prog 40 #[.string s, .int .i64 pos] w fun e w' => e = .returned (.tuple #[.int .i64 (aQm s pos).1, .int .i64 ((aQm s pos).2 : Int)]) ∧ w' = w := by
 have hbd := aXn s pos
 unfold aQm
 by_cases c1 : aQ1 s pos < 128
 · rw [if_pos c1]; exact rune_1 s pos _ w hp hs rfl hbd.1 c1
 rw [if_neg c1]
 by_cases c2 : 192 ≤ aQ1 s pos ∧ aQ1 s pos < 224
 · rw [if_pos c2]; exact rune_2 s pos _ w hp hs rfl c2.1 c2.2
 rw [if_neg c2]
 by_cases c3 : 224 ≤ aQ1 s pos ∧ aQ1 s pos < 240
 · rw [if_pos c3]; exact rune_3 s pos _ w hp hs rfl c3.1 c3.2
 rw [if_neg c3]
 by_cases c4 : 240 ≤ aQ1 s pos ∧ aQ1 s pos < 248
 · rw [if_pos c4]; exact rune_4 s pos _ w hp hs rfl c4.1 c4.2
 rw [if_neg c4]
 exact cKz s pos _ w hp rfl hbd.2 (by omega)
open Go.RowKit Plain1 Plain2
theorem bKo (n : Int) (w : World) (h : n < 128) :
 Calls prog 79 #[.int .i64 n] w fun e w' => e = .returned (.bool (aJ2 n)) ∧ Below w.heap.size w w' := by
 rw [cJz h]
 go_enter func79, ntmps79
 go_wp2
 all_goals
  go_ret
  exact ⟨aXd (by apply Bool.eq_iff_iff.2; simp at *; try omega), Below.refl _ _⟩
theorem cWu (j : Nat) (hj : j < 24) : (#[.int .i64 192, .int .i64 214, .int .i64 216, .int .i64 246, .int .i64 248, .int .i64 767, .int .i64 880, .int .i64 893, .int .i64 895, .int .i64 8191, .int .i64 8204, .int .i64 8205, .int .i64 8304, .int .i64 8591, .int .i64 11264, .int .i64 12271, .int .i64 12289, .int .i64 55295, .int .i64 63744, .int .i64 64975, .int .i64 65008, .int .i64 65533, .int .i64 65536, .int .i64 983039] : Array Value)[j]? = some (.int .i64 (bJh.getD j 0)) := by
 have e : (#[.int .i64 192, .int .i64 214, .int .i64 216, .int .i64 246, .int .i64 248, .int .i64 767, .int .i64 880, .int .i64 893, .int .i64 895, .int .i64 8191, .int .i64 8204, .int .i64 8205, .int .i64 8304, .int .i64 8591, .int .i64 11264, .int .i64 12271, .int .i64 12289, .int .i64 55295, .int .i64 63744, .int .i64 64975, .int .i64 65008, .int .i64 65533, .int .i64 65536, .int .i64 983039] : Array Value) = (bJh.map (Value.int .i64)).toArray := rfl
 rw [e]
 have hl : j < bJh.length := hj
 simp [List.getD, hl]
theorem bYc (k : Nat) (hk : k < 12) : bJh.getD (2 * k) 0 = loOf aKj k ∧ bJh.getD (2 * k + 1) 0 = hiOf aKj k := by
 have h : k = 0 ∨ k = 1 ∨ k = 2 ∨ k = 3 ∨ k = 4 ∨ k = 5 ∨ k = 6 ∨ k = 7 ∨ k = 8 ∨ k = 9 ∨ k = 10 ∨ k = 11 := by omega
 rcases h with rfl | rfl | rfl | rfl | rfl | rfl | rfl | rfl | rfl | rfl | rfl | rfl <;> exact ⟨rfl, rfl⟩
theorem bVf (n : Int) (w : World) (h : 128 ≤ n) :
 Calls prog 79 #[.int .i64 n] w fun e w' => e = .returned (.bool (aJ2 n)) ∧ Below w.heap.size w w' := by
 rw [cQr h]
 go_enter func79, ntmps79
 go_wp2
 go_loopw [4] (fun i wr => ∃ k : Nat, k ≤ 12 ∧ i = .int .i64 ((2 * k : Nat) : Int) ∧ inTo aKj k n = false ∧ Below w.heap.size w wr ∧ ∀ j, j < 24 → wr.cell? ⟨w.heap.size, j, none⟩ = some (.int .i64 (bJh.getD j 0))) (fun i _ => 24 - (intOf i).toNat)
 case atStart =>
  refine ⟨0, Nat.zero_le _, rfl, bJo _ _, bAl, fun j hj => ?_⟩
  rw [World.cell?_alloc_new]
  exact cWu j hj
 case round =>
  obtain ⟨k, hk, rfl, hno, hb, hc⟩ := hrel
  by_cases hlt : k < 12
  · have c0 := hc (2 * k) (by omega)
    have c1 := hc (2 * k + 1) (by omega)
    rw [(bYc k hlt).1] at c0
    rw [(bYc k hlt).2] at c1
    have HC : Hid (∀ j, j < 24 → wr.cell? ⟨w.heap.size, j, none⟩ = some (.int .i64 (bJh.getD j 0))) := hc
    clear hc
    have hsn := bJp aKj k n (by simpa [aKj, aQl] using hlt)
    rw [hno, Bool.false_or] at hsn
    have HS : Hid (inTo aKj (k + 1) n = decide (loOf aKj k ≤ n ∧ n ≤ hiOf aKj k)) := hsn
    clear hsn hno
    have HB : Hid (Below w.heap.size w wr) := hb
    clear hb
    go_wp2_with fail
    go_quiet ((go_at_call 81; exact Calls.quiet_of_same (cY0 _ _ _ _)))
    go_wp2
    · have hin : loOf aKj k ≤ n ∧ n ≤ hiOf aKj k := by assumption
      go_ret
      exact ⟨aXd (bJq (l := aKj) (k := k + 1) (by rw [HS.out]; exact decide_eq_true hin)).symm, below_drewN HB.out _⟩
    · have hin : ¬ (loOf aKj k ≤ n ∧ n ≤ hiOf aKj k) := by assumption
      go_roundw
      case rel => exact ⟨k + 1, by omega, by go_num, by rw [HS.out]; exact decide_eq_false hin, below_drewN HB.out _, fun j hj => HC.out j hj⟩
      case measure => simp [intOf]; omega
  · have : k = 12 := by omega
    subst this
    clear hc
    go_wp2
    go_ret
    exact ⟨aXd hno.symm, hb⟩
theorem aZh (n : Int) (w : World) :
 Calls prog 79 #[.int .i64 n] w fun e w' => e = .returned (.bool (aJ2 n)) ∧ Below w.heap.size w w' := by
 by_cases h : n < 128
 · exact bKo n w h
 · exact bVf n w (by omega)
open Go.RowKit Plain1 Plain2
theorem aJv (n : Int) (w : World) :
 Calls prog 80 #[.int .i64 n] w fun e w' => e = .returned (.bool (aVz n)) ∧ Below w.heap.size w w' := by
 by_cases hs : aJ2 n = true
 · go_enter func80, ntmps80
   go_wp2_with (first | (go_at_call 79; refine (aZh _ _).mono ?_; rintro e w1 ⟨rfl, hb1⟩) | go_in)
   go_ret
   exact ⟨aXd (by rw [cZp, hs]; rfl), hb1⟩
 · have hs' : aJ2 n = false := by simpa using hs
   clear hs
   go_enter func80, ntmps80
   go_wp2_with (first | (go_at_call 79; refine (aZh _ _).mono ?_; rintro e w1 ⟨rfl, hb1⟩) | go_in)
   all_goals
    go_ret
    exact ⟨aXd (by rw [cZp, hs']; apply Bool.eq_iff_iff.2; simp at *; try omega), by assumption⟩
open Go.RowKit Plain2 Plain3 Plain5 Plain6
theorem aY3 {p : Prop} (h : p) : Hid p := h
theorem bQk (s : ByteArray) (p : Nat) (w : World) (hs : s.size ≤ 1048576) (hp : p ≤ s.size) :
 Calls prog 61 #[.string s, .int .i64 p] w fun e w' => e = .returned (.int .i64 (nameZ s p : Int)) ∧ Below w.heap.size w w' := by
 obtain ⟨R, hR⟩ := nmE (nameZ s p)
 rw [hR]
 have HR : Hid (aZk s p (s.size + 1) 0 = R) := hR
 clear hR
 go_enter func61, ntmps61
 go_wp2
 go_loopw [5] (fun i wr => ∃ (f n : Nat), p + n ≤ s.size ∧ i = .int .i64 n ∧ aZk s p f n = R ∧ s.size < n + f ∧ Below w.heap.size w wr) (fun i _ => s.size - (intOf i).toNat)
 case atStart => exact ⟨s.size + 1, 0, by omega, rfl, HR.out, by omega, Below.refl _ _⟩
 case round =>
  obtain ⟨f, n, hn, rfl, hgo, hf, hb⟩ := hrel
  have HS : Hid (aZk s p f n = R) := hgo
  have HB : Hid (Below w.heap.size w wr) := hb
  clear hgo hb
  by_cases hlt : p + n < s.size
  · obtain ⟨f', rfl⟩ : ∃ f', f = f' + 1 := ⟨f - 1, by omega⟩
    have hcall := cZm s (p + n) wr hlt hs
    obtain ⟨r, hr⟩ := nmE (aQm s (p + n))
    rw [hr] at hcall
    obtain ⟨c, k⟩ := r
    simp only at hcall
    rw [show ((p + n : Nat) : Int) = (p : Int) + (n : Int) by omega] at hcall
    have hst : aVy s p n ↔ (k = 0 ∨ (n = 0 ∧ aJ2 c = false) ∨ aVz c = false) := by unfold aVy; rw [hr]
    by_cases hstop : aVy s p n
    · have hR2 := aZm (f := f') hlt hstop
      rw [HS.out] at hR2
      replace hR2 := hR2.symm
      subst hR2
      have hcase := hst.1 hstop
      clear hst hstop hr HS HR
      by_cases hk : k = 0
      · subst hk
        go_wp2_with (first | (go_at_call 40; refine hcall.mono ?_; rintro e w' ⟨rfl, rfl⟩) | (go_at_call 79; refine (aZh _ _).mono ?_; rintro e w2 ⟨rfl, hb2⟩; replace hb2 := aY3 hb2) | (go_at_call 80; refine (aJv _ _).mono ?_; rintro e w3 ⟨rfl, hb3⟩; replace hb3 := aY3 hb3))
        go_ret
        exact ⟨rfl, HB.out⟩
      have hk' : ((k : Int) == 0) = false := by simp; omega
      by_cases h0 : n = 0
      · subst h0
        cases hsb : aJ2 c with
        | false =>
         go_wp2_with (first | (go_at_call 40; refine hcall.mono ?_; rintro e w' ⟨rfl, rfl⟩) | (go_at_call 79; refine (aZh _ _).mono ?_; rintro e w2 ⟨rfl, hb2⟩; replace hb2 := aY3 hb2) | (go_at_call 80; refine (aJv _ _).mono ?_; rintro e w3 ⟨rfl, hb3⟩; replace hb3 := aY3 hb3))
         go_ret
         exact ⟨rfl, HB.out.trans (hb2.out.mono HB.out.size)⟩
        | true =>
         have hpb : aVz c = false := by
          rcases hcase with h | ⟨_, h⟩ | h
          · exact absurd h hk
          · rw [hsb] at h; cases h
          · exact h
         go_wp2_with (first | (go_at_call 40; refine hcall.mono ?_; rintro e w' ⟨rfl, rfl⟩) | (go_at_call 79; refine (aZh _ _).mono ?_; rintro e w2 ⟨rfl, hb2⟩; replace hb2 := aY3 hb2) | (go_at_call 80; refine (aJv _ _).mono ?_; rintro e w3 ⟨rfl, hb3⟩; replace hb3 := aY3 hb3))
         go_ret
         exact ⟨rfl, (HB.out.trans (hb2.out.mono HB.out.size)).trans (hb3.out.mono (HB.out.trans (hb2.out.mono HB.out.size)).size)⟩
      · have h0' : ((n : Int) == 0) = false := by simp; omega
        have hpb : aVz c = false := by
         rcases hcase with h | ⟨h, _⟩ | h
         · exact absurd h hk
         · exact absurd h h0
         · exact h
        go_wp2_with (first | (go_at_call 40; refine hcall.mono ?_; rintro e w' ⟨rfl, rfl⟩) | (go_at_call 79; refine (aZh _ _).mono ?_; rintro e w2 ⟨rfl, hb2⟩; replace hb2 := aY3 hb2) | (go_at_call 80; refine (aJv _ _).mono ?_; rintro e w3 ⟨rfl, hb3⟩; replace hb3 := aY3 hb3))
        go_ret
        exact ⟨rfl, HB.out.trans (hb3.out.mono HB.out.size)⟩
    · have hR2 := aVo (f := f') hlt hstop
      have hk : (aQm s (p + n)).2 ≠ 0 := by rw [hr]; intro h; exact hstop (hst.2 (.inl h))
      have hle := aWr hk
      rw [HS.out, hr] at hR2
      rw [hr] at hle hk
      simp only at hR2 hle hk
      have HG : Hid (R = aZk s p f' (n + k)) := hR2
      have hpart : aVz c = true := by
       cases h : aVz c with
       | true => rfl
       | false => exact absurd (hst.2 (.inr (.inr h))) hstop
      have hstart : n = 0 → aJ2 c = true := by
       intro h0
       cases h : aJ2 c with
       | true => rfl
       | false => exact absurd (hst.2 (.inr (.inl ⟨h0, h⟩))) hstop
      have hk' : ((k : Int) == 0) = false := by simp; omega
      clear hst hstop hR2 hr
      by_cases h0 : n = 0
      · subst h0
        have hs1 := hstart rfl
        clear hstart
        go_wp2_with (first | (go_at_call 40; refine hcall.mono ?_; rintro e w' ⟨rfl, rfl⟩) | (go_at_call 79; refine (aZh _ _).mono ?_; rintro e w2 ⟨rfl, hb2⟩; replace hb2 := aY3 hb2) | (go_at_call 80; refine (aJv _ _).mono ?_; rintro e w3 ⟨rfl, hb3⟩; replace hb3 := aY3 hb3))
        go_roundw
        case rel => exact ⟨f', k, by omega, by go_num, by rw [HG.out, Nat.zero_add], by omega, (HB.out.trans (hb2.out.mono HB.out.size)).trans (hb3.out.mono (HB.out.trans (hb2.out.mono HB.out.size)).size)⟩
        case measure => simp [intOf]; omega
      · have h0' : ((n : Int) == 0) = false := by simp; omega
        clear hstart
        go_wp2_with (first | (go_at_call 40; refine hcall.mono ?_; rintro e w' ⟨rfl, rfl⟩) | (go_at_call 79; refine (aZh _ _).mono ?_; rintro e w2 ⟨rfl, hb2⟩; replace hb2 := aY3 hb2) | (go_at_call 80; refine (aJv _ _).mono ?_; rintro e w3 ⟨rfl, hb3⟩; replace hb3 := aY3 hb3))
        go_roundw
        case rel => exact ⟨f', n + k, by omega, by go_num, HG.out.symm, by omega, HB.out.trans (hb3.out.mono HB.out.size)⟩
        case measure => simp [intOf]; omega
  · have he := aXx (f := f) (show s.size ≤ p + n by omega)
    rw [HS.out] at he
    subst he
    go_wp2
    go_ret
    exact ⟨rfl, HB.out⟩
open Go.RowKit Strs2 Plain3 Plain5 Plain6 Plain10
theorem bJe {s : ByteArray} {p : Nat} : ∀ (f n : Nat), p + n ≤ s.size → p + aZk s p f n ≤ s.size
 | 0, n, h => h
 | f + 1, n, h => by
  by_cases hl : p + n < s.size
  · by_cases hs : aVy s p n
    · rw [aZm hl hs]; exact h
    · rw [aVo hl hs]
      have hr : (aQm s (p + n)).2 ≠ 0 := fun h0 => hs (.inl h0)
      have := aWr hr
      exact bJe f _ (by omega)
  · rw [aXx (by omega)]; exact h
theorem cVa {s : ByteArray} {p : Nat} (h : p ≤ s.size) : p + nameZ s p ≤ s.size := bJe _ _ h
theorem cQ7 {w w' : World} {g : Nat} {s : ByteArray} {x : Sc} (h : aQj w g s x) (hb : Below w.heap.size w w') : aQj w' g s x := by
 have hlt : g < w.heap.size := (gLt h)
 unfold aQj
 rw [hb.block g hlt]; exact h
theorem bQl {a b : World} {r : Option Nat} (h : Below a.heap.size a b) : a.grownBy b r := ⟨h.os, h.tape, h.output, h.size, fun i hi _ => h.block i hi⟩
theorem bJd (w : World) (g : Nat) (s : ByteArray) (x : Sc) (h : aQj w g s x) (h0 : x.fl ≠ 0) :
 Calls prog 85 #[.pointer (some ⟨g, 0, none⟩)] w fun e w' => e = .returned (.string ByteArray.empty) ∧ w' = w := by
 have hc := aVc w g s x h
 rw [decide_eq_false h0] at hc
 clear h h0
 go_enter func85, ntmps85
 go_wp2_with (go_at_call 83; refine hc.mono ?_; rintro e w' ⟨rfl, rfl⟩)
 go_ret
 exact ⟨rfl, rfl⟩
theorem bXj (w : World) (g : Nat) (s : ByteArray) (p : Nat) (h : aQj w g s ⟨p, 0⟩) (hs : s.size ≤ 1048576) (hp : p ≤ s.size) :
 Calls prog 85 #[.pointer (some ⟨g, 0, none⟩)] w fun e w' => ∃ t q, e = .returned (.string t) ∧ aQj w' g s ⟨q, nmF s p⟩ ∧ q ≤ s.size ∧ (nmF s p = 0 → t = nmT s p ∧ q = nmP s p) ∧ w.grownBy w' (some g) := by
 have hc := aVc w g s _ h
 have hc2 := aVt w g s _ h (by show p ≤ _; omega)
 have hroom := cVa hp
 simp only [decide_true] at hc hc2
 obtain ⟨F, hF⟩ := nmE (nmF s p)
 rw [hF]
 have HF := aQ0 hF
 clear hF
 by_cases he : s.size ≤ p
 · rw [decide_eq_true he, aZb (x := ⟨p, 0⟩) he rfl] at hc2
   have hF1 : F = 1 := by
    rw [← HF.out]; unfold nmF
    have hn : nameZ s p = 0 := aXx (by omega)
    rw [hn, if_neg (by omega), if_pos (by omega)]
   subst hF1
   clear h hroom
   go_enter func85, ntmps85
   go_wp2_with (first | (go_at_call 83; refine hc.mono ?_; rintro e w' ⟨rfl, hww⟩; obtain rfl := hww.symm) | (go_at_call 84; refine hc2.mono ?_; rintro e w2 ⟨rfl, hb2, hg2⟩))
   go_ret
   exact ⟨_, p, rfl, hb2, hp, fun h => (by cases h), hg2⟩
 · rw [decide_eq_false he, aV9 (x := ⟨p, 0⟩) (by show p < _; omega)] at hc2
   obtain ⟨n, hn⟩ := nmE (nameZ s p)
   rw [hn] at hroom
   have hT : nmT s p = s.extract p (p + n) := by unfold nmT; rw [hn]
   have hP : nmP s p = p + n := by unfold nmP; rw [hn]
   rw [hT, hP]
   have HN := aQ0 hn
   clear hT hP hn h
   go_enter func85, ntmps85
   go_wp2_with (first | (go_at_call 83; refine hc.mono ?_; rintro e w' ⟨rfl, hww⟩; obtain rfl := hww.symm) | (go_at_call 84; refine hc2.mono ?_; rintro e w2 ⟨rfl, hb2, hg2⟩; obtain ⟨c0, c1, c2, c3, c4, f1, f2, f3, f4⟩ := aXi hb2; replace hb2 := aQ0 hb2; replace hg2 := aQ0 hg2) | fail)
   go_region_with (go_at_call 61; refine (bQk s p _ hs hp).mono ?_; rintro e w3 ⟨rfl, hb3⟩; rw [HN.out])
   all_goals
    have hbx3 : aQj w3 g s ⟨p, 0⟩ := cQ7 (w := w2.drew) hb2.out hb3
    have hg3 : w.grownBy w3 (some g) := aQ6 hg2.out (aQ6 (b := w2.drew) ⟨rfl, rfl, rfl, Nat.le_refl _, fun _ _ _ => rfl⟩ (bQl hb3))
    replace hbx3 := aQ0 hbx3
    replace hg3 := aQ0 hg3
    clear c0 c1 c2 c3 c4 f1 f2 f3 f4 hb2 hg2 hb3
    obtain ⟨c0, c1, c2, c3, c4, f1, f2, f3, f4⟩ := aXi hbx3.out
    have hwr : IntKind.i64.wrap ((p : Int) + (n : Int)) = (p : Int) + (n : Int) := aXt (by omega) (by omega)
    have hsl : ∀ wx, (Instr.slice 9 (.string s) (some (.int .i64 (p : Int))) (some (.int .i64 ((p : Int) + (n : Int)))) none).run prog wx = .ok (.string (s.extract p (p + n))) wx := fun wx => aKx wx _ s p (p + n) _ _ rfl (by omega) (by omega) hroom underlying9
    have HF2 : Hid (F = if 60 < n then 2 else if s.size ≤ p + n then 1 else if n = 0 then 2 else 0) := by
     rw [← HF.out]; unfold nmF; rw [HN.out]; exact aQ0 rfl
    by_cases hn0 : n = 0
    · subst hn0
      have hF2 := HF2.out
      rw [if_neg (by omega), if_neg (by omega), if_pos rfl] at hF2
      subst hF2
      go_wp2_with fail
      go_quiet (fail)
      go_wp2
      go_ret
      exact ⟨_, p, rfl, aWd (aZ6 (W := w3.drewN nq) hbx3.out p (by omega)), hp, fun h => (by cases h), aQ6 hg3.out (aQ6 (aQs w3 nq _) (aQ6 (aX9 _) (aX9 _)))⟩
    by_cases h60 : 60 < n
    · have hF2 := HF2.out
      rw [if_pos h60] at hF2
      subst hF2
      go_wp2_with fail
      go_quiet (fail)
      go_wp2
      go_ret
      exact ⟨_, p + n, rfl, aWd (aZ6 (W := w3.drewN nq) hbx3.out (p + n) (by omega)), hroom, fun h => (by cases h), aQ6 hg3.out (aQ6 (aQs w3 nq _) (aQ6 (aX9 _) (aX9 _)))⟩
    have e0 : ((n : Int) == 0) = false := beq_eq_false_iff_ne.2 (by omega)
    have e60 : ¬ (60 : Int) < (n : Int) := by omega
    by_cases hend : s.size ≤ p + n
    · have hF2 := HF2.out
      rw [if_neg h60, if_pos hend] at hF2
      subst hF2
      have hei : (s.size : Int) ≤ (p : Int) + (n : Int) := by omega
      go_wp2_with fail
      go_quiet (fail)
      go_wp2_with fail
      have hbx4 := aQ0 (aZ6 (W := w3.drewN nq) hbx3.out (p + n) (z := (p : Int) + (n : Int)) (by omega))
      have hg4 := aQ0 (aQ6 hg3.out (aQ6 (aQs w3 nq _) (aX9 (j := 1) (.int .i64 ((p : Int) + (n : Int))))))
      generalize (w3.drewN nq).setCell ⟨g, 1, none⟩ (.int .i64 ((p : Int) + (n : Int))) = w4 at hbx4 hg4 ⊢
      clear c0 c1 c2 c3 c4 f1 f2 f3 f4
      obtain ⟨c0, c1, c2, c3, c4, f1, f2, f3, f4⟩ := aXi hbx4.out
      push_cast at c1
      go_quiet (fail)
      go_wp2
      go_ret
      exact ⟨_, p + n, rfl, bV6 (W := w4.drewN _) hbx4.out, hroom, fun h => (by cases h), aQ6 hg4.out (aQ6 (aQs w4 _ _) (aX9 _))⟩
    · have hF2 := HF2.out
      rw [if_neg h60, if_neg hend, if_neg hn0] at hF2
      subst hF2
      have hei : ¬ (s.size : Int) ≤ (p : Int) + (n : Int) := by omega
      go_wp2_with fail
      go_quiet (fail)
      go_wp2_with fail
      have hbx4 := aQ0 (aZ6 (W := w3.drewN nq) hbx3.out (p + n) (z := (p : Int) + (n : Int)) (by omega))
      have hg4 := aQ0 (aQ6 hg3.out (aQ6 (aQs w3 nq _) (aX9 (j := 1) (.int .i64 ((p : Int) + (n : Int))))))
      generalize (w3.drewN nq).setCell ⟨g, 1, none⟩ (.int .i64 ((p : Int) + (n : Int))) = w4 at hbx4 hg4 ⊢
      clear c0 c1 c2 c3 c4 f1 f2 f3 f4
      obtain ⟨c0, c1, c2, c3, c4, f1, f2, f3, f4⟩ := aXi hbx4.out
      push_cast at c1
      go_quiet (fail)
      go_wp2
      go_ret
      exact ⟨_, rfl, p + n, hbx4.out, hroom, ⟨rfl, rfl⟩, aQ6 hg4.out (aQs w4 _ _)⟩
end Go.Proofs.YtocnfoeaikiecaaGreatDoor
