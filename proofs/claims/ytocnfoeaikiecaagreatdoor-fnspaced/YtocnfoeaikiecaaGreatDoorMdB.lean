import Derived.Test.YtocnfoeaikiecaaGreatDoorMdA
set_option maxHeartbeats 2000000
namespace Go.Proofs.YtocnfoeaikiecaaGreatDoor
open Go.RowKit Strs Strs2 Plain9 Plain10 Tryz
theorem cKa (w : World) (g : Nat) (s what : ByteArray) (x : Sc) (h : aQj w g s x) (h0 : x.fl ≠ 0) :
 Calls prog 90 #[.pointer (some ⟨g, 0, none⟩), .string what] w fun e w' => e = .returned (.string ByteArray.empty) ∧ w' = w := by
 have hc := aVc w g s x h
 rw [decide_eq_false h0] at hc
 clear h h0
 go_enter func90, ntmps90
 go_wp2_with (go_at_call 83; refine hc.mono ?_; rintro e w' ⟨rfl, rfl⟩)
 go_ret
 exact ⟨rfl, rfl⟩
theorem cZ4 (w : World) (g : Nat) (s : ByteArray) (x : Sc) (h : aQj w g s x) (h0 : x.fl ≠ 0) :
 Calls prog 107 #[.pointer (some ⟨g, 0, none⟩)] w fun e w' => e = .returned (.string ByteArray.empty) ∧ w' = w := by
 have hc := aVc w g s x h
 rw [decide_eq_false h0] at hc
 clear h h0
 go_enter func107, ntmps107
 go_wp2_with (go_at_call 83; refine hc.mono ?_; rintro e w' ⟨rfl, rfl⟩)
 go_ret
 exact ⟨rfl, rfl⟩
theorem dV2 (w : World) (g : Nat) (s what : ByteArray) (p : Nat) (h : aQj w g s ⟨p, 0⟩) (hs : s.size ≤ 1048576) (hp : p ≤ s.size) (hw : what.size ≤ 1048576) (hw0 : what.data.toList ≠ []) :
 Calls prog 90 #[.pointer (some ⟨g, 0, none⟩), .string what] w fun e w' => ∃ t q, e = .returned (.string t) ∧ aQj w' g s ⟨q, upF s p what.data.toList⟩ ∧ q ≤ s.size ∧ (upF s p what.data.toList = 0 → t = upT s p what.data.toList ∧ q = upP s p what.data.toList) ∧ w.grownBy w' (some g) := by
 have hc := aVc w g s _ h
 simp only [decide_true] at hc
 have hfind := fun wx => aK4 s p what wx hs hw hp
 simp only [aW3 hw0] at hfind
 obtain ⟨c0, c1, c2, c3, c4, f1, f2, f3, f4⟩ := aXi h
 have HB := aQ0 h
 clear h hw0
 rcases aZa s p what.data.toList hp with hz | ⟨i, hz, hpi, hr, ho, _⟩
 · have hF : upF s p what.data.toList = 1 := by unfold upF; rw [if_pos hz]
   rw [hF]
   rw [hz] at hfind
   clear hz hF
   go_enter func90, ntmps90
   go_wp2_with (go_at_call 83; refine hc.mono ?_; rintro e w' ⟨rfl, hww⟩; obtain rfl := hww.symm)
   go_quiet ((go_at_call 33; exact Calls.quiet_of_same (hfind _)))
   go_wp2
   go_ret
   exact ⟨_, s.size, rfl, bV6 (cXw (W := w.drewN _) HB.out s.size), Nat.le_refl _, fun h => (by cases h), aQ6 (aQs w _ _) (aQ6 (aX9 _) (aX9 _))⟩
 · have hF : upF s p what.data.toList = 0 := by unfold upF; rw [if_neg (by omega)]
   have hT : upT s p what.data.toList = s.extract p i := by unfold upT; rw [hz]; rfl
   have hP : upP s p what.data.toList = i + what.size := by unfold upP; rw [hz, ← Lib.size_eq]; rfl
   rw [← Lib.size_eq] at hr
   rw [hF, hT, hP]
   rw [hz] at hfind
   clear hz hF hT hP ho
   have hsl : ∀ wx, (Instr.slice 9 (.string s) (some (.int .i64 (p : Int))) (some (.int .i64 (i : Int))) none).run prog wx = .ok (.string (s.extract p i)) wx := fun wx => aKx wx _ s p i _ _ rfl rfl hpi (by omega) underlying9
   go_enter func90, ntmps90
   go_wp2_with (go_at_call 83; refine hc.mono ?_; rintro e w' ⟨rfl, hww⟩; obtain rfl := hww.symm)
   go_quiet ((go_at_call 33; exact Calls.quiet_of_same (hfind _)))
   go_wp2_with fail
   go_quiet (fail)
   go_wp2
   go_ret
   exact ⟨_, i + what.size, rfl, aZ6 (W := w.drewN _) HB.out (i + what.size) (by omega), hr, fun _ => ⟨rfl, rfl⟩, aQ6 (aQs w _ _) (aX9 _)⟩
theorem cZ3 (w : World) (g : Nat) (s : ByteArray) (p : Nat) (h : aQj w g s ⟨p, 0⟩) (hs : s.size ≤ 1048576) (hp : p ≤ s.size) :
 Calls prog 107 #[.pointer (some ⟨g, 0, none⟩)] w fun e w' => ∃ t q, e = .returned (.string t) ∧ aQj w' g s ⟨q, valF s p⟩ ∧ q ≤ s.size ∧ (valF s p = 0 → t = valT s p ∧ q = valP s p) ∧ w.grownBy w' (some g) := by
 have hc := aVc w g s _ h
 have hc2 := aVt w g s _ h (by show p ≤ _; omega)
 simp only [decide_true] at hc hc2
 by_cases he : s.size ≤ p
 · rw [decide_eq_true he, aZb (x := ⟨p, 0⟩) he rfl] at hc2
   have hF : valF s p = 1 := by unfold valF; rw [if_pos he]
   rw [hF]
   clear h hF
   go_enter func107, ntmps107
   go_wp2_with (first | (go_at_call 83; refine hc.mono ?_; rintro e w' ⟨rfl, hww⟩; obtain rfl := hww.symm) | (go_at_call 84; refine hc2.mono ?_; rintro e w2 ⟨rfl, hb2, hg2⟩))
   go_ret
   exact ⟨_, p, rfl, hb2, hp, fun h => (by cases h), hg2⟩
 rw [decide_eq_false he, aV9 (x := ⟨p, 0⟩) (by show p < _; omega)] at hc2
 obtain ⟨b, hb⟩ := nmE (aQ1 s p)
 have hix : ∀ wx, (Instr.index 9 (.string s) (.int .i64 (p : Int))).run prog wx = .ok (.int .u8 b) wx := fun wx => by rw [aQ8 wx 9 s p (by omega) underlying9, hb]
 have HBB := aQ0 hb
 clear h hb
 cases hq : aY2 b with
 | false =>
  have hF : valF s p = 2 := by unfold valF; rw [if_neg he, HBB.out, hq]; rfl
  rw [hF]
  have hq' : ¬ (b = 34 ∨ b = 39) := of_decide_eq_false hq
  have q1 : (b != 34) = true := bne_iff_ne.2 (by omega)
  have q2 : (b != 39) = true := bne_iff_ne.2 (by omega)
  clear hF hq hq'
  go_enter func107, ntmps107
  go_wp2_with (first | (go_at_call 83; refine hc.mono ?_; rintro e w' ⟨rfl, hww⟩; obtain rfl := hww.symm) | (go_at_call 84; refine hc2.mono ?_; rintro e w2 ⟨rfl, hb2, hg2⟩; obtain ⟨c0, c1, c2, c3, c4, f1, f2, f3, f4⟩ := aXi hb2; replace hb2 := aQ0 hb2; replace hg2 := aQ0 hg2))
  go_quiet (fail)
  go_wp2
  go_ret
  exact ⟨_, p, rfl, aWd (W := w2.drewN nq) hb2.out, hp, fun h => (by cases h), aQ6 hg2.out (aQ6 (aQs w2 nq _) (aX9 _))⟩
 | true =>
  obtain ⟨R, hR⟩ := nmE (aVe s b (s.size + 1) (p + 1))
  have hF : valF s p = R.1 := by unfold valF; rw [if_neg he, HBB.out, hq, if_pos rfl, hR]
  have hT : valT s p = s.extract (p + 1) R.2 := by unfold valT valE; rw [HBB.out, hR]
  have hP : valP s p = R.2 + 1 := by unfold valP valE; rw [HBB.out, hR]
  rw [hF, hT, hP]
  have HR := aQ0 hR
  have hq' : b = 34 ∨ b = 39 := of_decide_eq_true hq
  have q1 : (b != 34 && b != 39) = false := by rcases hq' with h | h <;> subst h <;> rfl
  have q2 : (b == 60) = false := by rcases hq' with h | h <;> subst h <;> rfl
  have q3 : (if (b != 34) = true then (b != 39) else false) = false := by rcases hq' with h | h <;> subst h <;> rfl
  clear hF hT hP hR hq
  go_enter func107, ntmps107
  go_wp2_with (first | (go_at_call 83; refine hc.mono ?_; rintro e w' ⟨rfl, hww⟩; obtain rfl := hww.symm) | (go_at_call 84; refine hc2.mono ?_; rintro e w2 ⟨rfl, hb2, hg2⟩; obtain ⟨c0, c1, c2, c3, c4, f1, f2, f3, f4⟩ := aXi hb2; replace hb2 := aQ0 hb2; replace hg2 := aQ0 hg2))
  go_quiet (fail)
  have hwr : IntKind.i64.wrap ((p : Int) + 1) = (p : Int) + 1 := aXt (by omega) (by omega)
  go_wp2_with fail
  all_goals
   have hbx4 := aQ0 (aZ6 (W := w2.drewN nq) hb2.out (p + 1) (z := (p : Int) + 1) (by omega))
   have hg4 := aQ0 (aQ6 hg2.out (aQ6 (aQs w2 nq _) (aX9 (j := 1) (.int .i64 ((p : Int) + 1)))))
   generalize (w2.drewN nq).setCell ⟨g, 1, none⟩ (.int .i64 ((p : Int) + 1)) = w4 at hbx4 hg4 ⊢
   clear c0 c1 c2 c3 c4 f1 f2 f3 f4 hb2 hg2 hc hc2 hix
   go_loopw [] (fun wr => ∃ (f k : Nat), p + 1 ≤ k ∧ k ≤ s.size ∧ aVe s b f k = R ∧ s.size + 1 ≤ k + f ∧ aQj wr g s ⟨k, 0⟩ ∧ w.grownBy wr (some g)) (fun wr => s.size - cQv wr g)
   case atStart => exact ⟨s.size + 1, p + 1, Nat.le_refl _, by omega, HR.out, by omega, hbx4.out, hg4.out⟩
   case round =>
    obtain ⟨f, k, hk0, hk, hf, hfu, hbx, hg⟩ := hrel
    have HF := aQ0 hf
    have HBX := aQ0 hbx
    have HG := aQ0 hg
    have HP := aQ0 (aYt hbx)
    have hc2 := aVt wr g s _ hbx (by show k ≤ _; omega)
    clear hf hbx hg
    by_cases hlt : s.size ≤ k
    · have hst := cQj (s := s) (q := b) (f := f) (i := k) (by omega)
      rw [HF.out] at hst
      have HST := aQ0 hst
      clear hst
      simp only [decide_eq_true hlt, aZb (x := ⟨k, 0⟩) (s := s) hlt rfl] at hc2
      go_wp2_with (go_at_call 84; refine hc2.mono ?_; rintro e w5 ⟨rfl, hb5, hg5⟩)
      go_ret
      refine ⟨_, k, rfl, by rw [HST.out]; exact hb5, hk, ?_, aQ6 HG.out hg5⟩
      rw [HST.out]; simp
    · obtain ⟨f', rfl⟩ : ∃ f', f = f' + 1 := ⟨f - 1, by omega⟩
      simp only [decide_eq_false hlt, aV9 (x := ⟨k, 0⟩) (s := s) (show k < s.size by omega)] at hc2
      obtain ⟨c, hcb⟩ := nmE (aQ1 s k)
      have hix : ∀ wx, (Instr.index 9 (.string s) (.int .i64 (k : Int))).run prog wx = .ok (.int .u8 c) wx := fun wx => by rw [aQ8 wx 9 s k (by omega) underlying9, hcb]
      have HC := aQ0 hcb
      clear hcb
      have hwk : IntKind.i64.wrap ((k : Int) + 1) = (k : Int) + 1 := aXt (by omega) (by omega)
      by_cases h60 : c = 60
      · have hst := bKl (s := s) (q := b) (f := f') (i := k) (by omega) (HC.out.trans h60)
        rw [HF.out] at hst
        have HST := aQ0 hst
        clear hst
        subst h60
        go_wp2_with (go_at_call 84; refine hc2.mono ?_; rintro e w5 ⟨rfl, hb5, hg5⟩; obtain ⟨c0, c1, c2, c3, c4, f1, f2, f3, f4⟩ := aXi hb5; replace hb5 := aQ0 hb5; replace hg5 := aQ0 hg5)
        go_quiet (fail)
        go_wp2
        go_ret
        refine ⟨_, k, rfl, by rw [HST.out]; exact aWd (W := w5.drewN _) hb5.out, hk, ?_, aQ6 HG.out (aQ6 hg5.out (aQ6 (aQs w5 _ _) (aX9 _)))⟩
        rw [HST.out]; simp
      · have e60 : (c == 60) = false := beq_eq_false_iff_ne.2 h60
        by_cases hcq : c = b
        · have hst := bKk (s := s) (q := b) (f := f') (i := k) (by omega) (by rw [HC.out]; exact h60) (HC.out.trans hcq)
          rw [HF.out] at hst
          have HST := aQ0 hst
          clear hst
          have ecb : (c == b) = true := beq_iff_eq.2 hcq
          have hsl : ∀ wx, (Instr.slice 9 (.string s) (some (.int .i64 ((p : Int) + 1))) (some (.int .i64 (k : Int))) none).run prog wx = .ok (.string (s.extract (p + 1) k)) wx := fun wx => aKx wx _ s (p + 1) k _ _ (by omega) rfl (by omega) (by omega) underlying9
          have hwk2 : IntKind.i64.wrap ((k : Int) + 1 - 1) = (k : Int) := by rw [aXt (by omega) (by omega)]; omega
          clear h60 hcq
          go_wp2_with (go_at_call 84; refine hc2.mono ?_; rintro e w5 ⟨rfl, hb5, hg5⟩; obtain ⟨c0, c1, c2, c3, c4, f1, f2, f3, f4⟩ := aXi hb5; replace hb5 := aQ0 hb5; replace hg5 := aQ0 hg5)
          go_quiet (fail)
          go_wp2_with fail
          go_quiet (fail)
          go_wp2
          go_ret
          exact ⟨_, k + 1, rfl, by rw [HST.out]; exact aZ6 (W := w5.drewN _) hb5.out (k + 1) (by omega), by omega, fun _ => by rw [HST.out]; exact ⟨rfl, rfl⟩, aQ6 HG.out (aQ6 hg5.out (aQ6 (aQs w5 _ _) (aQ6 (aX9 _) (aQs _ _ _))))⟩
        · have hst := cZ5 (s := s) (q := b) (f := f') (i := k) (by omega) (by rw [HC.out]; exact h60) (by rw [HC.out]; exact hcq)
          rw [HF.out] at hst
          have HON := aQ0 hst
          have ecb : (c == b) = false := beq_eq_false_iff_ne.2 hcq
          clear h60 hcq hst
          go_wp2_with (go_at_call 84; refine hc2.mono ?_; rintro e w5 ⟨rfl, hb5, hg5⟩; obtain ⟨c0, c1, c2, c3, c4, f1, f2, f3, f4⟩ := aXi hb5; replace hb5 := aQ0 hb5; replace hg5 := aQ0 hg5)
          go_quiet (fail)
          go_wp2
          have hnew := aZ6 (W := w5.drewN nq) hb5.out (k + 1) (z := (k : Int) + 1) (by omega)
          refine ⟨⟨f', k + 1, by omega, by omega, HON.out.symm, by omega, hnew, aQ6 HG.out (aQ6 hg5.out (aQ6 (aQs w5 _ _) (aX9 _)))⟩, ?_⟩
          rw [aYt hnew, HP.out]
          show s.size - (k + 1) < s.size - k
          omega
open Go.RowKit Plain1 Strs Plain10
def aVx (w : World) (g : Nat) (s : ByteArray) (T : Tk) (e : Ending) (w' : World) : Prop :=
 ∃ kd nm tx ao an ac q, e = .returned (.agg #[.int .i64 kd, .string nm, .string tx, .slice ao an ac]) ∧ aQj w' g s ⟨q, T.fl⟩ ∧ q ≤ s.size ∧
  (T.fl = 0 → kd = T.kind ∧ nm = T.name ∧ tx = T.text ∧ q = T.pos ∧ w'.ownsRow w.heap.size 54 2 (.slice ao an ac) T.attrs.length (aQc T.attrs)) ∧ w.grownBy w' (some g)
theorem bWx {w w' : World} {g : Nat} {s : ByteArray} {f : Nat} {kd : Int} {nm tx : ByteArray} {ao : Option Addr} {an ac : Nat} {q : Nat} (hf : f ≠ 0) (hb : aQj w' g s ⟨q, f⟩) (hq : q ≤ s.size) (hg : w.grownBy w' (some g)) :
 aVx w g s (aX2 f) (.returned (.agg #[.int .i64 kd, .string nm, .string tx, .slice ao an ac])) w' :=
 ⟨kd, nm, tx, ao, an, ac, q, rfl, hb, hq, fun h => absurd h hf, hg⟩
theorem cV2 {w w' : World} {g : Nat} {s : ByteArray} {kd : Int} {nm tx : ByteArray} {q : Nat} (hb : aQj w' g s ⟨q, 0⟩) (hq : q ≤ s.size) (hg : w.grownBy w' (some g)) :
 aVx w g s ⟨0, kd, nm, tx, [], q⟩ (.returned (.agg #[.int .i64 kd, .string nm, .string tx, .slice none 0 0])) w' :=
 ⟨kd, nm, tx, _, _, _, q, rfl, hb, hq, fun _ => ⟨rfl, rfl, rfl, rfl, World.ownsRow_nil _ _ _ _⟩, hg⟩
theorem dXc {w : World} {g : Nat} {s : ByteArray} {x : Sc} (h : aQj w g s x) : g < w.heap.size := (gLt h)
theorem aVi (w : World) (o : Obj) (r : Option Nat) : w.grownBy (w.alloc o) r := bQl ((Below.refl _ _).alloc (Nat.le_refl _) o)
theorem aW1 {w : World} {g : Nat} {s : ByteArray} {x : Sc} (h : aQj w g s x) (o : Obj) : aQj (w.alloc o) g s x := cQ7 h ((Below.refl _ _).alloc (Nat.le_refl _) o)
theorem bVx {w : World} {g k j : Nat} {s : ByteArray} {x : Sc} (h : aQj w g s x) (hne : k ≠ g) (u : Value) : aQj (w.setCell ⟨k, j, none⟩ u) g s x := by
 unfold aQj
 rw [Below.heap_setCell w ⟨k, j, none⟩ u g (fun e => hne e.symm)]; exact h
theorem fin4 {w W : World} {g : Nat} {s : ByteArray} {x : Sc} (hb : aQj W g s x) (hg : w.grownBy W (some g)) (hlt : g < w.heap.size) (a b c d : Value) :
 aQj ((((W.setCell ⟨w.heap.size, 0, none⟩ a).setCell ⟨w.heap.size, 1, none⟩ b).setCell ⟨w.heap.size, 2, none⟩ c).setCell ⟨w.heap.size, 3, none⟩ d) g s x ∧
 w.grownBy ((((W.setCell ⟨w.heap.size, 0, none⟩ a).setCell ⟨w.heap.size, 1, none⟩ b).setCell ⟨w.heap.size, 2, none⟩ c).setCell ⟨w.heap.size, 3, none⟩ d) (some g) :=
 ⟨bVx (bVx (bVx (bVx hb (by omega) _) (by omega) _) (by omega) _) (by omega) _, bXm (bXm (bXm (bXm hg (Nat.le_refl _) _) (Nat.le_refl _) _) (Nat.le_refl _) _) (Nat.le_refl _) _⟩
theorem dJx (n : ByteArray) (w : World) :
 Calls prog 106 #[.string n] w fun e w' => e = .returned (.bool (xmlB n)) ∧ w' = w := by
 by_cases h3 : n.size = 3
 · obtain ⟨b0, hb0⟩ : ∃ b, aQ1 n 0 = b := ⟨_, rfl⟩
   obtain ⟨b1, hb1⟩ : ∃ b, aQ1 n 1 = b := ⟨_, rfl⟩
   obtain ⟨b2, hb2⟩ : ∃ b, aQ1 n 2 = b := ⟨_, rfl⟩
   have i0 : ∀ wx, (Instr.index 9 (.string n) (.int .i64 0)).run prog wx = .ok (.int .u8 b0) wx := fun wx => by rw [← hb0]; exact aQ8 wx 9 n 0 (by omega) underlying9
   have i1 : ∀ wx, (Instr.index 9 (.string n) (.int .i64 1)).run prog wx = .ok (.int .u8 b1) wx := fun wx => by rw [← hb1]; exact aQ8 wx 9 n 1 (by omega) underlying9
   have i2 : ∀ wx, (Instr.index 9 (.string n) (.int .i64 2)).run prog wx = .ok (.int .u8 b2) wx := fun wx => by rw [← hb2]; exact aQ8 wx 9 n 2 (by omega) underlying9
   have hx : xmlB n = (decide (b0 = 120 ∨ b0 = 88) && (decide (b1 = 109 ∨ b1 = 77) && decide (b2 = 108 ∨ b2 = 76))) := by
    unfold xmlB; rw [decide_eq_true h3, hb0, hb1, hb2]; rfl
   rw [hx]
   have h3i : ((n.size : Int) == 3) = true := beq_iff_eq.2 (by omega)
   clear hb0 hb1 hb2 hx
   go_enter func106, ntmps106
   go_wp2
   all_goals
    go_ret
    exact ⟨aXd (by apply Bool.eq_iff_iff.2; simp at *; try omega), rfl⟩
 · have hx : xmlB n = false := by unfold xmlB; rw [decide_eq_false h3]; rfl
   rw [hx]
   have h3i : ((n.size : Int) == 3) = false := beq_eq_false_iff_ne.2 (by omega)
   clear hx
   go_enter func106, ntmps106
   go_wp2
   go_ret
   exact ⟨rfl, rfl⟩
theorem cVm (w : World) (g : Nat) (s : ByteArray) (x : Sc) (h : aQj w g s x) (h0 : x.fl ≠ 0) (hs : s.size ≤ 1048576) (hp : x.pos ≤ s.size) :
 Calls prog 89 #[.pointer (some ⟨g, 0, none⟩)] w fun e w' => aVx w g s (aX2 x.fl) e w' := by
 have hlt := dXc h
 have HG := aQ0 (aVi w zTok (some g))
 have HK := aQ0 (cZ8 w)
 have h1 := aW1 h zTok
 have hc := cKa _ g s ⟨#[45, 45]⟩ x h1 h0
 have H1 := aQ0 h1
 clear h h1
 go_enter func89, ntmps89
 go_wp2_with fail
 refine hc.mono ?_
 rintro e w1 ⟨rfl, hww⟩
 replace hww := aQ0 hww
 replace HK := aQ0 (hww.out.symm ▸ HK.out)
 replace HG := aQ0 (hww.out.symm ▸ HG.out)
 replace H1 := aQ0 (hww.out.symm ▸ H1.out)
 clear hww hc
 go_wp2_with fail
 have hm := bZg _ g s ⟨#[62]⟩ x (aW1 H1.out (.cells #[.int .i64 6, .string ByteArray.empty, .string ByteArray.empty, .slice none 0 0] 99)) hs (by decide) hp
 rw [cWp h0] at hm
 refine hm.mono ?_
 rintro e w2 ⟨rfl, hb, hg⟩
 have hK := bZn (cK9 w1 6 ByteArray.empty ByteArray.empty (.slice none 0 0)) hg (by have := dXc H1.out; omega)
 have hR := bZn (bZn (g := g) HK.out (aVi w1 (.cells #[.int .i64 6, .string ByteArray.empty, .string ByteArray.empty, .slice none 0 0] 99) _) (by omega)) hg (by omega)
 obtain ⟨k0, k1, k2, k3, _, _, _, _⟩ := aQ9 hK
 obtain ⟨r0, r1, r2, r3, s0, s1, s2, s3⟩ := aQ9 hR
 have HG2 := aQ0 (aQ6 HG.out (aQ6 (aVi w1 _ _) hg))
 replace hb := aQ0 hb
 clear hK hR hm hg
 go_wp2
 have hF := aQ0 (fin4 hb.out HG2.out hlt (.int .i64 6) (.string ByteArray.empty) (.string ByteArray.empty) (.slice none 0 0))
 refine bodyPost_ret (v := .agg #[.int .i64 6, .string ByteArray.empty, .string ByteArray.empty, .slice none 0 0]) (by simp [results, results89, go_sem, r0, r1, r2, r3]) rfl ?_
 exact bWx h0 hF.out.1 hp hF.out.2
open Go.RowKit Plain10
structure Fr0 (w W : World) (g : Nat) (s : ByteArray) (x : Sc) : Prop where
 sc : aQj W g s x
 res : aKr W w.heap.size 0 ByteArray.empty ByteArray.empty (.slice none 0 0)
 grown : w.grownBy W (some g)
 lt : g < w.heap.size
structure Fr (w W : World) (g : Nat) (s : ByteArray) (x : Sc) (k : Nat) (kd : Int) (nm tx : ByteArray) (v : Value) : Prop where
 fr : Fr0 w W g s x
 box : aKr W k kd nm tx v
 ahead : w.heap.size < k
theorem Fr0.start {w : World} {g : Nat} {s : ByteArray} {x : Sc} (h : aQj w g s x) : Fr0 w (w.alloc zTok) g s x :=
 ⟨aW1 h _, cZ8 w, aVi w _ _, dXc h⟩
theorem Fr0.step {w W W' : World} {g : Nat} {s : ByteArray} {x x' : Sc} (h : Fr0 w W g s x) (hb : aQj W' g s x') (hg : W.grownBy W' (some g)) : Fr0 w W' g s x' :=
 ⟨hb, bZn h.res hg (by have := h.lt; omega), aQ6 h.grown hg, h.lt⟩
theorem Fr0.alloc {w W : World} {g : Nat} {s : ByteArray} {x : Sc} (h : Fr0 w W g s x) (o : Obj) : Fr0 w (W.alloc o) g s x :=
 h.step (aW1 h.sc o) (aVi W o _)
theorem Fr0.new {w W : World} {g : Nat} {s : ByteArray} {x : Sc} (h : Fr0 w W g s x) (kd : Int) (nm tx : ByteArray) (v : Value) :
 Fr w (W.alloc (.cells #[.int .i64 kd, .string nm, .string tx, v] 99)) g s x W.heap.size kd nm tx v :=
 ⟨h.alloc _, cK9 W kd nm tx v, bZ7 h.res⟩
theorem Fr.step {w W W' : World} {g : Nat} {s : ByteArray} {x x' : Sc} {k : Nat} {kd : Int} {nm tx : ByteArray} {v : Value} (h : Fr w W g s x k kd nm tx v) (hb : aQj W' g s x') (hg : W.grownBy W' (some g)) : Fr w W' g s x' k kd nm tx v :=
 ⟨h.fr.step hb hg, bZn h.box hg (by have := h.fr.lt; have := h.ahead; omega), h.ahead⟩
theorem Fr.drew {w W : World} {g : Nat} {s : ByteArray} {x : Sc} {k : Nat} {kd : Int} {nm tx : ByteArray} {v : Value} (h : Fr w W g s x k kd nm tx v) (n : Nat) : Fr w (W.drewN n) g s x k kd nm tx v :=
 h.step h.fr.sc (aQs W n _)
theorem Fr.bad {w W : World} {g : Nat} {s : ByteArray} {p : Nat} {k : Nat} {kd : Int} {nm tx : ByteArray} {v : Value} (h : Fr w W g s ⟨p, 0⟩ k kd nm tx v) : Fr w (W.setCell ⟨g, 3, none⟩ (.bool true)) g s ⟨p, 2⟩ k kd nm tx v :=
 h.step (aWd h.fr.sc) (aX9 _)
theorem Fr.pos {w W : World} {g : Nat} {s : ByteArray} {p f : Nat} {k : Nat} {kd : Int} {nm tx : ByteArray} {v : Value} (h : Fr w W g s ⟨p, f⟩ k kd nm tx v) {z : Int} (q : Nat) (hz : z = (q : Int)) : Fr w (W.setCell ⟨g, 1, none⟩ (.int .i64 z)) g s ⟨q, f⟩ k kd nm tx v :=
 h.step (aZ6 h.fr.sc q hz) (aX9 _)
theorem Fr.kset {w W : World} {g : Nat} {s : ByteArray} {x : Sc} {k : Nat} {kd kd' : Int} {nm tx nm' tx' : ByteArray} {v v' : Value} (h : Fr w W g s x k kd nm tx v) (j : Nat) (u : Value)
 (hu : (#[.int .i64 kd, .string nm, .string tx, v] : Array Value).setIfInBounds j u = #[.int .i64 kd', .string nm', .string tx', v']) : Fr w (W.setCell ⟨k, j, none⟩ u) g s x k kd' nm' tx' v' := by
 have ha := h.ahead
 have hl := h.fr.lt
 refine ⟨⟨bVx h.fr.sc (by omega) _, ?_, bXm h.fr.grown (by omega) _, hl⟩, ?_, ha⟩
 · unfold aKr; rw [bZv _ (by omega)]; exact h.fr.res
 · unfold aKr; rw [set5 h.box j u, hu]
theorem Fr.text {w W : World} {g : Nat} {s : ByteArray} {x : Sc} {k : Nat} {kd : Int} {nm tx : ByteArray} {v : Value} (h : Fr w W g s x k kd nm tx v) (t : ByteArray) : Fr w (W.setCell ⟨k, 2, none⟩ (.string t)) g s x k kd nm t v := h.kset 2 _ rfl
theorem Fr.name {w W : World} {g : Nat} {s : ByteArray} {x : Sc} {k : Nat} {kd : Int} {nm tx : ByteArray} {v : Value} (h : Fr w W g s x k kd nm tx v) (t : ByteArray) : Fr w (W.setCell ⟨k, 1, none⟩ (.string t)) g s x k kd t tx v := h.kset 1 _ rfl
theorem Fr.kind {w W : World} {g : Nat} {s : ByteArray} {x : Sc} {k : Nat} {kd : Int} {nm tx : ByteArray} {v : Value} (h : Fr w W g s x k kd nm tx v) (z : Int) : Fr w (W.setCell ⟨k, 0, none⟩ (.int .i64 z)) g s x k z nm tx v := h.kset 0 _ rfl
theorem Fr0.fails {w W : World} {g : Nat} {s : ByteArray} {p f : Nat} (h : Fr0 w W g s ⟨p, f⟩) (hf : f ≠ 0) (hp : p ≤ s.size) (kd : Int) (nm tx : ByteArray) (v : Value) (hv : ∃ ao an ac, v = .slice ao an ac := by exact ⟨_, _, _, rfl⟩) :
 aVx w g s (aX2 f) (.returned (.agg #[.int .i64 kd, .string nm, .string tx, v])) ((((W.setCell ⟨w.heap.size, 0, none⟩ (.int .i64 kd)).setCell ⟨w.heap.size, 1, none⟩ (.string nm)).setCell ⟨w.heap.size, 2, none⟩ (.string tx)).setCell ⟨w.heap.size, 3, none⟩ v) := by
 obtain ⟨ao, an, ac, rfl⟩ := hv
 have hF := fin4 h.sc h.grown h.lt (.int .i64 kd) (.string nm) (.string tx) (.slice ao an ac)
 exact bWx hf hF.1 hp hF.2
theorem Fr0.tells {w W : World} {g : Nat} {s : ByteArray} {p : Nat} (h : Fr0 w W g s ⟨p, 0⟩) (hp : p ≤ s.size) (kd : Int) (nm tx : ByteArray) :
 aVx w g s ⟨0, kd, nm, tx, [], p⟩ (.returned (.agg #[.int .i64 kd, .string nm, .string tx, .slice none 0 0])) ((((W.setCell ⟨w.heap.size, 0, none⟩ (.int .i64 kd)).setCell ⟨w.heap.size, 1, none⟩ (.string nm)).setCell ⟨w.heap.size, 2, none⟩ (.string tx)).setCell ⟨w.heap.size, 3, none⟩ (.slice none 0 0)) :=
 have hF := fin4 h.sc h.grown h.lt (.int .i64 kd) (.string nm) (.string tx) (.slice none 0 0)
 cV2 hF.1 hp hF.2
theorem aJa (w : World) (g : Nat) (s what : ByteArray) (p : Nat) (sg : List UInt8) (hsg : what.data.toList = sg) (h : aQj w g s ⟨p, 0⟩) (hs : s.size ≤ 1048576) (hw : what.size ≤ 1048576) (hp : p ≤ s.size) :
 Calls prog 82 #[.pointer (some ⟨g, 0, none⟩), .string what] w fun e w' => ∃ q, e = .returned (.tuple #[]) ∧ aQj w' g s ⟨q, aQp s p sg⟩ ∧ q ≤ s.size ∧ (aQp s p sg = 0 → q = p + sg.length) ∧ w.grownBy w' (some g) := by
 subst hsg
 obtain ⟨q, hq, hl, hpo⟩ := must_st (s := s) (what := what) hp
 refine (bZg w g s what ⟨p, 0⟩ h hs hw hp).mono ?_
 rintro e w' ⟨he, hb, hg⟩
 rw [hq] at hb
 exact ⟨q, he, hb, hl, hpo, hg⟩
theorem aZ8 (w : World) (g : Nat) (s what : ByteArray) (x : Sc) (h : aQj w g s x) (h0 : x.fl ≠ 0) (hs : s.size ≤ 1048576) (hw : what.size ≤ 1048576) (hp : x.pos ≤ s.size) :
 Calls prog 82 #[.pointer (some ⟨g, 0, none⟩), .string what] w fun e w' => e = .returned (.tuple #[]) ∧ aQj w' g s x ∧ w.grownBy w' (some g) := by
 have hm := bZg w g s what x h hs hw hp
 rw [cWp h0] at hm
 exact hm
theorem aVk (w : World) (g : Nat) (s what : ByteArray) (p : Nat) (sg : List UInt8) (hsg : what.data.toList = sg) (h : aQj w g s ⟨p, 0⟩) (hs : s.size ≤ 1048576) (hp : p ≤ s.size) (hw : what.size ≤ 1048576) (hw0 : sg ≠ []) :
 Calls prog 90 #[.pointer (some ⟨g, 0, none⟩), .string what] w fun e w' => ∃ t q, e = .returned (.string t) ∧ aQj w' g s ⟨q, upF s p sg⟩ ∧ q ≤ s.size ∧ (upF s p sg = 0 → t = upT s p sg ∧ q = upP s p sg) ∧ w.grownBy w' (some g) := by
 subst hsg
 exact dV2 w g s what p h hs hp hw hw0
open Go.RowKit Plain9 Plain10
theorem comment_ok (w : World) (g : Nat) (s : ByteArray) (p : Nat) (h : aQj w g s ⟨p, 0⟩) (hs : s.size ≤ 1048576) (hp : p ≤ s.size) :
 Calls prog 89 #[.pointer (some ⟨g, 0, none⟩)] w fun e w' => aVx w g s (aXa s p) e w' := by
 have F0 := aQ0 (Fr0.start h)
 have hc := aVk _ g s ⟨#[45, 45]⟩ p [45, 45] rfl F0.out.sc hs hp (by decide) (by simp)
 clear h
 go_enter func89, ntmps89
 go_wp2_with fail
 refine hc.mono ?_
 rintro e w1 ⟨t, q, rfl, hb1, hq, hT, hg1⟩
 have F1 := aQ0 (F0.out.step hb1 hg1)
 clear hc F0 hb1 hg1
 by_cases hf : upF s p [45, 45] = 0
 · obtain ⟨ht, hq'⟩ := hT hf
   have F2 := aQ0 (F1.out.new 6 ByteArray.empty t (.slice none 0 0))
   rw [hf] at F2
   have hm := aJa _ g s ⟨#[62]⟩ q [62] rfl F2.out.fr.sc hs (by decide) hq
   have hZ : aXa s p = if aQp s q [62] = 0 then ⟨0, 6, ByteArray.empty, t, [], q + 1⟩ else aX2 (aQp s q [62]) := by unfold aXa; rw [if_neg (by omega), ← ht, ← hq']
   have HZ := aQ0 hZ
   clear hT hZ ht hq' F1 hf
   go_wp2_with fail
   refine hm.mono ?_
   rintro e w2 ⟨q2, rfl, hb2, hl2, hp2, hg2⟩
   have F3 := aQ0 (F2.out.step hb2 hg2)
   clear hm F2 hb2 hg2
   obtain ⟨k0, k1, k2, k3, _, _, _, _⟩ := aQ9 F3.out.box
   obtain ⟨r0, r1, r2, r3, s0, s1, s2, s3⟩ := aQ9 F3.out.fr.res
   go_wp2
   refine bodyPost_ret (v := .agg #[.int .i64 6, .string ByteArray.empty, .string t, .slice none 0 0]) (by simp [results, results89, go_sem, r0, r1, r2, r3]) rfl ?_
   rw [HZ.out]
   by_cases hf2 : aQp s q [62] = 0
   · have hq2 := hp2 hf2
     have F4 := F3.out.fr
     rw [hf2] at F4
     rw [if_pos hf2]
     subst hq2
     exact F4.tells hl2 6 ByteArray.empty t
   · rw [if_neg hf2]
     exact F3.out.fr.fails hf2 hl2 6 ByteArray.empty t (.slice none 0 0)
 · have hZ : aXa s p = aX2 (upF s p [45, 45]) := by unfold aXa; rw [if_pos hf]
   have HZ := aQ0 hZ
   have F2 := aQ0 (F1.out.new 6 ByteArray.empty t (.slice none 0 0))
   have hm := aZ8 _ g s ⟨#[62]⟩ _ F2.out.fr.sc hf hs (by decide) hq
   clear hT hZ F1
   go_wp2_with fail
   refine hm.mono ?_
   rintro e w2 ⟨rfl, hb2, hg2⟩
   have F3 := aQ0 (F2.out.step hb2 hg2)
   clear hm F2 hb2 hg2
   obtain ⟨k0, k1, k2, k3, _, _, _, _⟩ := aQ9 F3.out.box
   obtain ⟨r0, r1, r2, r3, s0, s1, s2, s3⟩ := aQ9 F3.out.fr.res
   go_wp2
   refine bodyPost_ret (v := .agg #[.int .i64 6, .string ByteArray.empty, .string t, .slice none 0 0]) (by simp [results, results89, go_sem, r0, r1, r2, r3]) rfl ?_
   rw [HZ.out]
   exact F3.out.fr.fails hf hq 6 ByteArray.empty t (.slice none 0 0)
theorem pi_ok (w : World) (g : Nat) (s : ByteArray) (p : Nat) (h : aQj w g s ⟨p, 0⟩) (hs : s.size ≤ 1048576) (hp : p ≤ s.size) :
 Calls prog 87 #[.pointer (some ⟨g, 0, none⟩)] w fun e w' => aVx w g s (piZ s p) e w' := by
 have F0 := aQ0 (Fr0.start h)
 have hc := bXj _ g s p F0.out.sc hs hp
 clear h
 go_enter func87, ntmps87
 go_wp2_with fail
 refine hc.mono ?_
 rintro e w1 ⟨nm, q, rfl, hb1, hq, hT, hg1⟩
 have F1 := aQ0 (F0.out.step hb1 hg1)
 clear hc F0 hb1 hg1
 have F2 := aQ0 (F1.out.new 7 nm ByteArray.empty (.slice none 0 0))
 have ho := aVc _ g s _ F2.out.fr.sc
 by_cases hf : nmF s p = 0
 · obtain ⟨hn, hq'⟩ := hT hf
   rw [hf] at F2
   simp only [hf, decide_true] at ho
   have hx := fun wx => dJx nm wx
   have HN := aQ0 hn
   have HQ := aQ0 hq'
   have HF := aQ0 hf
   clear hT F1 hn hq' hf
   go_wp2_with fail
   refine ho.mono ?_
   rintro e w2 ⟨rfl, hww⟩
   have F3 := aQ0 (hww.symm ▸ F2.out)
   clear ho hww
   obtain ⟨k0, k1, k2, k3, _, _, _, _⟩ := aQ9 F3.out.box
   cases hxm : xmlB nm with
   | true =>
    rw [hxm] at hx
    have HZ : Hid (piZ s p = aX2 2) := by
     show piZ s p = aX2 2
     unfold piZ; rw [if_neg (by rw [HF.out]; simp), ← HN.out, hxm, if_pos rfl]
    go_wp2_with fail
    refine (hx _).mono ?_
    rintro e w3 ⟨rfl, hww⟩
    have F4 := aQ0 (hww.symm ▸ F3.out)
    clear hww F3 F2 hx k0 k1 k2 k3
    obtain ⟨c0, c1, c2, c3, c4, f1, f2, f3, f4⟩ := aXi F4.out.fr.sc
    go_wp2_with fail
    have F5 := aQ0 F4.out.bad
    have ho2 := aVc _ g s _ F5.out.fr.sc
    simp only [show decide ((2 : Nat) = 0) = false from rfl] at ho2
    refine ho2.mono ?_
    rintro e w4 ⟨rfl, hww⟩
    have F6 := aQ0 (hww.symm ▸ F5.out)
    clear hww F4 F5 ho2 c0 c1 c2 c3 c4 f1 f2 f3 f4
    have hm := aZ8 _ g s ⟨#[63, 62]⟩ _ F6.out.fr.sc (by simp) hs (by decide) hq
    go_wp2_with fail
    refine hm.mono ?_
    rintro e w5 ⟨rfl, hb5, hg5⟩
    have F7 := aQ0 (F6.out.step hb5 hg5)
    clear hm F6 hb5 hg5
    obtain ⟨k0, k1, k2, k3, _, _, _, _⟩ := aQ9 F7.out.box
    obtain ⟨r0, r1, r2, r3, s0, s1, s2, s3⟩ := aQ9 F7.out.fr.res
    go_wp2
    refine bodyPost_ret (v := .agg #[.int .i64 7, .string nm, .string ByteArray.empty, .slice none 0 0]) (by simp [results, results87, go_sem, r0, r1, r2, r3]) rfl ?_
    rw [HZ.out]
    exact F7.out.fr.fails (by simp) hq 7 nm ByteArray.empty (.slice none 0 0)
   | false =>
    rw [hxm] at hx
    go_wp2_with fail
    refine (hx _).mono ?_
    rintro e w3 ⟨rfl, hww⟩
    have F4 := aQ0 (hww.symm ▸ F3.out)
    clear hww F3 F2 hx k0 k1 k2 k3
    have ho2 := aVc _ g s _ F4.out.fr.sc
    simp only [decide_true] at ho2
    go_wp2_with fail
    refine ho2.mono ?_
    rintro e w4 ⟨rfl, hww⟩
    have F5 := aQ0 (hww.symm ▸ F4.out)
    clear hww F4 ho2
    have hwh := aXq _ g s _ F5.out.fr.sc hs hq
    go_wp2_with fail
    refine hwh.mono ?_
    rintro e w5 ⟨rfl, hb5, hg5⟩
    have F6 := aQ0 (F5.out.step hb5 hg5)
    have hq6 := aQv hq
    clear hwh F5 hb5 hg5
    by_cases hlt : q < whiteZ s q
    · have hlt' : decide (q < whiteZ s q) = true := decide_eq_true hlt
      have hm := aVk _ g s ⟨#[63, 62]⟩ (whiteZ s q) [63, 62] rfl F6.out.fr.sc hs hq6 (by decide) (by simp)
      have HZ : Hid (piZ s p = if upF s (whiteZ s q) [63, 62] = 0 then ⟨0, 7, nm, upT s (whiteZ s q) [63, 62], [], upP s (whiteZ s q) [63, 62]⟩ else aX2 (upF s (whiteZ s q) [63, 62])) := by
       show piZ s p = _
       unfold piZ; rw [if_neg (by rw [HF.out]; simp), ← HN.out, hxm, ← HQ.out]; simp only [Bool.false_eq_true, if_false]; rw [if_pos hlt]
      clear hlt
      simp only [hlt']
      go_wp2_with fail
      refine hm.mono ?_
      rintro e w6 ⟨t, q6, rfl, hb6, hl6, hT6, hg6⟩
      have F7 := aQ0 (F6.out.step hb6 hg6)
      clear hm F6 hb6 hg6
      obtain ⟨k0, k1, k2, k3, kf0, kf1, kf2, kf3⟩ := aQ9 F7.out.box
      obtain ⟨r0, r1, r2, r3, s0, s1, s2, s3⟩ := aQ9 F7.out.fr.res
      have hah := F7.out.ahead
      have hne : w.heap.size ≠ w1.heap.size := by omega
      have hne' : w1.heap.size ≠ w.heap.size := by omega
      go_wp2
      have F8 := F7.out.text t
      refine bodyPost_ret (v := .agg #[.int .i64 7, .string nm, .string t, .slice none 0 0]) (by simp [results, results87, go_sem, r0, r1, r2, r3]) rfl ?_
      rw [HZ.out]
      by_cases hf6 : upF s (whiteZ s q) [63, 62] = 0
      · obtain ⟨ht, hq7⟩ := hT6 hf6
        rw [if_pos hf6, ← ht, ← hq7]
        rw [hf6] at F8
        exact F8.fr.tells hl6 7 nm t
      · rw [if_neg hf6]
        exact F8.fr.fails hf6 hl6 7 nm t (.slice none 0 0)
    · have hlt' : decide (q < whiteZ s q) = false := decide_eq_false hlt
      have hm := aJa _ g s ⟨#[63, 62]⟩ (whiteZ s q) [63, 62] rfl F6.out.fr.sc hs (by decide) hq6
      have HZ : Hid (piZ s p = if aQp s (whiteZ s q) [63, 62] = 0 then ⟨0, 7, nm, ByteArray.empty, [], whiteZ s q + 2⟩ else aX2 (aQp s (whiteZ s q) [63, 62])) := by
       show piZ s p = _
       unfold piZ; rw [if_neg (by rw [HF.out]; simp), ← HN.out, hxm, ← HQ.out]; simp only [Bool.false_eq_true, if_false]; rw [if_neg hlt]
      clear hlt
      simp only [hlt']
      go_wp2_with fail
      refine hm.mono ?_
      rintro e w6 ⟨q6, rfl, hb6, hl6, hp6, hg6⟩
      have F7 := aQ0 (F6.out.step hb6 hg6)
      clear hm F6 hb6 hg6
      obtain ⟨k0, k1, k2, k3, kf0, kf1, kf2, kf3⟩ := aQ9 F7.out.box
      obtain ⟨r0, r1, r2, r3, s0, s1, s2, s3⟩ := aQ9 F7.out.fr.res
      go_wp2
      refine bodyPost_ret (v := .agg #[.int .i64 7, .string nm, .string ByteArray.empty, .slice none 0 0]) (by simp [results, results87, go_sem, r0, r1, r2, r3]) rfl ?_
      rw [HZ.out]
      have F8 := F7.out.fr
      by_cases hf6 : aQp s (whiteZ s q) [63, 62] = 0
      · have hq7 := hp6 hf6
        rw [if_pos hf6]
        rw [hf6] at F8
        subst hq7
        exact F8.tells hl6 7 nm ByteArray.empty
      · rw [if_neg hf6]
        exact F8.fails hf6 hl6 7 nm ByteArray.empty (.slice none 0 0)
 · have hZ : piZ s p = aX2 (nmF s p) := by unfold piZ; rw [if_pos hf]
   have HZ := aQ0 hZ
   simp only [decide_eq_false hf] at ho
   clear hT hZ F1
   go_wp2_with fail
   refine ho.mono ?_
   rintro e w2 ⟨rfl, hww⟩
   have F3 := aQ0 (hww.symm ▸ F2.out)
   clear ho hww F2
   have ho2 := aVc _ g s _ F3.out.fr.sc
   simp only [decide_eq_false hf] at ho2
   go_wp2_with fail
   refine ho2.mono ?_
   rintro e w3 ⟨rfl, hww⟩
   have F4 := aQ0 (hww.symm ▸ F3.out)
   clear ho2 hww F3
   have hm := aZ8 _ g s ⟨#[63, 62]⟩ _ F4.out.fr.sc hf hs (by decide) hq
   go_wp2_with fail
   refine hm.mono ?_
   rintro e w5 ⟨rfl, hb5, hg5⟩
   have F7 := aQ0 (F4.out.step hb5 hg5)
   clear hm F4 hb5 hg5
   obtain ⟨k0, k1, k2, k3, _, _, _, _⟩ := aQ9 F7.out.box
   obtain ⟨r0, r1, r2, r3, s0, s1, s2, s3⟩ := aQ9 F7.out.fr.res
   go_wp2
   refine bodyPost_ret (v := .agg #[.int .i64 7, .string nm, .string ByteArray.empty, .slice none 0 0]) (by simp [results, results87, go_sem, r0, r1, r2, r3]) rfl ?_
   rw [HZ.out]
   exact F7.out.fr.fails hf hq 7 nm ByteArray.empty (.slice none 0 0)
end Go.Proofs.YtocnfoeaikiecaaGreatDoor
