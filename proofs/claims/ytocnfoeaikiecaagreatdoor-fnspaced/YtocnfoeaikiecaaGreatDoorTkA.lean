import Derived.Test.YtocnfoeaikiecaaGreatDoorMdB
import Derived.Test.YtocnfoeaikiecaaGreatDoorPlE
set_option maxHeartbeats 8000000
set_option maxRecDepth 100000
namespace Go.Proofs.YtocnfoeaikiecaaGreatDoor
open Go.RowKit Plain1 Strs Plain9 Plain10 Plain11 Plain23 Tryz
def GBox (w : World) (g : Nat) (s : ByteArray) (p : Nat) (sh bd th : Bool) : Prop := w.heap[g]? = some (.cells #[.string s, .int .i64 (p : Int), .bool sh, .bool bd, .bool th] 126)
theorem bJv {w : World} {g : Nat} {s : ByteArray} {p : Nat} {sh bd th : Bool} (h : GBox w g s p sh bd th) :
 w.cell? ⟨g, 0, none⟩ = some (.string s) ∧ w.cell? ⟨g, 1, none⟩ = some (.int .i64 (p : Int)) ∧ w.cell? ⟨g, 2, none⟩ = some (.bool sh) ∧ w.cell? ⟨g, 3, none⟩ = some (.bool bd) ∧ w.frozen? ⟨g, 1, none⟩ = false ∧ w.frozen? ⟨g, 3, none⟩ = false := by
 unfold GBox at h
 simp [World.cell?, World.frozen?, h]
def bKi (w : World) (g : Nat) (s : ByteArray) : Prop := ∃ (p : Nat) (sh bd th : Bool), p ≤ s.size ∧ (sh || bd) = true ∧ GBox w g s p sh bd th
def aZc (w : World) (g : Nat) (s : ByteArray) : Option Nat → Prop
 | some p => p ≤ s.size ∧ aQj w g s ⟨p, 0⟩
 | none => bKi w g s
variable {w w' : World} {g : Nat} {s : ByteArray} {σ : Option Nat}
theorem bZ2 {x : Sc} (h : aQj w g s x) (h0 : x.fl ≠ 0) (hp : x.pos ≤ s.size) : bKi w g s := by
 refine ⟨x.pos, decide (x.fl = 1), decide (2 ≤ x.fl), decide (x.fl = 3), hp, ?_, h⟩
 rw [Bool.or_eq_true, decide_eq_true_iff, decide_eq_true_iff]; omega
theorem dX7 {q f : Nat} (h : aQj w g s ⟨q, f⟩) (hq : q ≤ s.size) {τ : Option Nat} (h0 : f = 0 → τ = some q) (h1 : f ≠ 0 → τ = none) : aZc w g s τ := by
 by_cases hf : f = 0
 · rw [h0 hf]; subst hf; exact ⟨hq, h⟩
 · rw [h1 hf]; exact bZ2 h hf hq
theorem cZg (h : aZc w g s σ) : g < w.heap.size := by
 cases σ with
 | some p => exact (gLt h.2)
 | none => obtain ⟨_, _, _, _, _, _, hb⟩ := h; exact (gLt hb)
theorem bKn (h : aZc w g s σ) (hb : w'.heap[g]? = w.heap[g]?) : aZc w' g s σ := by
 cases σ with
 | some p => exact ⟨h.1, by unfold aQj; rw [hb]; exact h.2⟩
 | none => obtain ⟨p, a, b, c, h1, h2, h3⟩ := h; exact ⟨p, a, b, c, h1, h2, by unfold GBox; rw [hb]; exact h3⟩
theorem aWp {r : Option Nat} (h : aZc w g s σ) (hg : w.grownBy w' r) (hne : some g ≠ r) : aZc w' g s σ := bKn h (hg.block g (cZg h) hne)
theorem dV9 {p : Nat} (h : aZc w g s (some p)) : p ≤ s.size := h.1
theorem cZt (w : World) (g : Nat) (s : ByteArray) (h : bKi w g s) : Calls prog 83 #[.pointer (some ⟨g, 0, none⟩)] w fun e w' => e = .returned (.bool false) ∧ w' = w := by
 obtain ⟨p, sh, bd, th, _, hf, hb⟩ := h
 obtain ⟨c0, c1, c2, c3, f1, f3⟩ := bJv hb
 clear hb c0 c1 f1 f3
 cases sh <;> cases bd
 · cases hf
 all_goals
  clear hf
  go_enter func83, ntmps83
  go_wp2
  go_ret
  exact ⟨rfl, rfl⟩
theorem cV5 (h : aZc w g s σ) : Calls prog 83 #[.pointer (some ⟨g, 0, none⟩)] w fun e w' => e = .returned (.bool σ.isSome) ∧ w' = w := by
 cases σ with
 | some p => exact aVc w g s _ h.2
 | none => exact cZt w g s h
theorem aW9 {W : World} (h : aZc W g s σ) (W' : World) (hW : W'.heap = W.heap) : Calls prog 83 #[.pointer (some ⟨g, 0, none⟩)] W' fun e w' => e = .returned (.bool σ.isSome) ∧ w' = W' := cV5 (bKn h (by rw [hW]))
def StrSt (w : World) (g : Nat) (s : ByteArray) (R : Option (ByteArray × Nat)) (e : Ending) (w' : World) : Prop :=
 ∃ t, e = .returned (.string t) ∧ aZc w' g s (R.map (·.2)) ∧ (∀ v, R = some v → t = v.1) ∧ w.grownBy w' (some g)
theorem dXv (w : World) (g : Nat) (s : ByteArray) (h : bKi w g s) : Calls prog 85 #[.pointer (some ⟨g, 0, none⟩)] w fun e w' => e = .returned (.string ByteArray.empty) ∧ w' = w := by
 have hc := cZt w g s h
 clear h
 go_enter func85, ntmps85
 go_wp2_with (go_at_call 83; refine hc.mono ?_; rintro e w' ⟨rfl, rfl⟩)
 go_ret
 exact ⟨rfl, rfl⟩
theorem cK2 (w : World) (g : Nat) (s : ByteArray) (h : bKi w g s) : Calls prog 107 #[.pointer (some ⟨g, 0, none⟩)] w fun e w' => e = .returned (.string ByteArray.empty) ∧ w' = w := by
 have hc := cZt w g s h
 clear h
 go_enter func107, ntmps107
 go_wp2_with (go_at_call 83; refine hc.mono ?_; rintro e w' ⟨rfl, rfl⟩)
 go_ret
 exact ⟨rfl, rfl⟩
theorem cWs (w : World) (g : Nat) (s what : ByteArray) (h : bKi w g s) (hw : what.size ≤ 1048576) : Calls prog 82 #[.pointer (some ⟨g, 0, none⟩), .string what] w fun e w' => e = .returned (.tuple #[]) ∧ w' = w := by
 have hc := cZt w g s h
 clear h
 go_enter func82, ntmps82
 go_wp2_with fail
 go_loopw [4] (fun i wr => i = .int .i64 0 ∧ wr = w) (fun _ _ => 0)
 case atStart => exact ⟨rfl, rfl⟩
 case round =>
  obtain ⟨rfl, hwr⟩ := hrel
  obtain rfl := hwr.symm
  by_cases hlt : 0 < what.size
  · have hlti : (0 : Int) < (what.size : Int) := by omega
    go_wp2_with (go_at_call 83; refine hc.mono ?_; rintro e w' ⟨rfl, rfl⟩)
    go_end0
    exact ⟨rfl, rfl⟩
  · have hlti : ¬ (0 : Int) < (what.size : Int) := by omega
    go_wp2_with fail
    go_end0
    exact ⟨rfl, rfl⟩
def gPos (w : World) (g : Nat) : Nat := match w.cell? ⟨g, 1, none⟩ with | some (.int _ n) => n.toNat | _ => 0
theorem cYa {p : Nat} {sh bd th : Bool} (h : GBox w g s p sh bd th) : gPos w g = p := by
 obtain ⟨_, c1, _⟩ := bJv h
 unfold gPos
 rw [c1]
 simp
theorem cK1 (w : World) (g : Nat) (s : ByteArray) (pos : Nat) (sh bd th : Bool) (h : GBox w g s pos sh bd th) (hs : s.size ≤ 1048576) (hp : pos ≤ s.size) :
 Calls prog 86 #[.pointer (some ⟨g, 0, none⟩)] w fun e w' => e = .returned (.bool (decide (pos < whiteZ s pos))) ∧ GBox w' g s (whiteZ s pos) sh bd th ∧ w.grownBy w' (some g) := by
 obtain ⟨R, hR⟩ := nmE (whiteZ s pos)
 rw [hR]
 have HR : Hid (aXz s (s.size + 1) pos = R) := hR
 have HB : Hid (GBox w g s pos sh bd th) := h
 obtain ⟨c0, c1, c2, c3, f1, f3⟩ := bJv h
 clear h hR
 go_enter func86, ntmps86
 go_wp2_with fail
 go_loopw [] (fun wr => ∃ (f k : Nat), pos ≤ k ∧ k ≤ s.size ∧ aXz s f k = R ∧ s.size + 1 ≤ k + f ∧ GBox wr g s k sh bd th ∧ w.grownBy wr (some g)) (fun wr => s.size - gPos wr g)
 case atStart => exact ⟨s.size + 1, pos, Nat.le_refl _, hp, HR.out, by omega, HB.out, aQs w 0 _⟩
 case round =>
  obtain ⟨f, k, hk0, hk, hf, hfu, hbx, hg⟩ := hrel
  have HF : Hid (aXz s f k = R) := hf
  have HBX : Hid (GBox wr g s k sh bd th) := hbx
  have HG : Hid (w.grownBy wr (some g)) := hg
  have HP : Hid (gPos wr g = k) := cYa hbx
  clear c0 c1 c2 c3 f1 f3
  obtain ⟨c0, c1, c2, c3, f1, f3⟩ := bJv hbx
  clear hf hbx hg
  by_cases hlt : k < s.size
  · obtain ⟨b, hb⟩ := nmE (aQ1 s k)
    have hbd := aXn s k
    rw [hb] at hbd
    obtain ⟨hb0, hb1⟩ := hbd
    have hix : ∀ wx, (Instr.index 9 (.string s) (.int .i64 (k : Int))).run prog wx = .ok (.int .u8 b) wx := fun wx => by rw [aQ8 wx 9 s k hlt underlying9, hb]
    have HBB : Hid (aQ1 s k = b) := hb
    clear hb
    have hki : (k : Int) < (s.size : Int) := by omega
    cases hw : whiteB b with
    | true =>
     obtain ⟨f', rfl⟩ : ∃ f', f = f' + 1 := ⟨f - 1, by omega⟩
     have hon := aJu (f := f') (i := k) (s := s) ⟨hlt, by rw [HBB.out]; exact hw⟩
     rw [HF.out] at hon
     have HON : Hid (R = aXz s f' (k + 1)) := hon
     clear hon
     go_wp2_with fail
     go_quiet ((go_at_call 69; exact Calls.quiet_of_same (aK9 _ _ hb0 hb1)))
     go_wp2
     have hnew : GBox ((wr.drewN nq).setCell ⟨g, 1, none⟩ (.int .i64 ((k : Int) + 1))) g s (k + 1) sh bd th := set5 (w := wr.drewN nq) HBX.out 1 _
     go_roundw
     case rel => exact ⟨f', k + 1, by omega, by omega, HON.out.symm, by omega, hnew, aQ6 HG.out (aQ6 (aQs wr nq _) (aX9 _))⟩
     case measure => rw [cYa hnew, HP.out]; omega
    | false =>
     have hst := aXc (f := f) (i := k) (s := s) (fun hh => by rw [HBB.out, hw] at hh; cases hh.2)
     rw [HF.out] at hst
     have HST : Hid (R = k) := hst
     clear hst
     go_wp2_with fail
     go_quiet ((go_at_call 69; exact Calls.quiet_of_same (aK9 _ _ hb0 hb1)))
     go_wp2
     go_ret
     refine ⟨aXd ?_, ?_, aQ6 HG.out (aQs wr nq _)⟩
     · rw [HST.out]
     · rw [HST.out]; exact HBX.out
  · have hst := aXc (f := f) (i := k) (s := s) (fun hh => hlt hh.1)
    rw [HF.out] at hst
    have HST : Hid (R = k) := hst
    clear hst
    have hki : ¬ (k : Int) < (s.size : Int) := by omega
    have hkd : decide ((k : Int) < (s.size : Int)) = false := by simpa using hki
    go_wp2_with fail
    go_quiet (fail)
    go_wp2
    go_ret
    refine ⟨aXd ?_, ?_, aQ6 HG.out (aQs wr nq _)⟩
    · rw [HST.out]
    · rw [HST.out]; exact HBX.out
theorem aYn (h : aZc w g s σ) (hs : s.size ≤ 1048576) : Calls prog 86 #[.pointer (some ⟨g, 0, none⟩)] w fun e w' => ∃ b : Bool, e = .returned (.bool b) ∧ aZc w' g s (σ.map (whiteZ s)) ∧ (∀ p, σ = some p → b = decide (p < whiteZ s p)) ∧ w.grownBy w' (some g) := by
 cases σ with
 | none =>
  obtain ⟨p, sh, bd, th, hp, hf, hb⟩ := h
  refine (cK1 w g s p sh bd th hb hs hp).mono ?_
  rintro e w' ⟨rfl, hb', hg⟩
  exact ⟨_, rfl, ⟨_, sh, bd, th, aQv hp, hf, hb'⟩, fun q hq => (by cases hq), hg⟩
 | some p =>
  refine (aXq w g s _ h.2 hs h.1).mono ?_
  rintro e w' ⟨rfl, hb', hg⟩
  exact ⟨_, rfl, ⟨aQv h.1, hb'⟩, fun q hq => (by cases hq; rfl), hg⟩
theorem must_st (h : aZc w g s σ) (what : ByteArray) (sg : List UInt8) (hsg : what.data.toList = sg) (hs : s.size ≤ 1048576) (hw : what.size ≤ 1048576) : Calls prog 82 #[.pointer (some ⟨g, 0, none⟩), .string what] w fun e w' =>
 e = .returned (.tuple #[]) ∧ aZc w' g s (σ.bind fun p => bQh s p sg) ∧ w.grownBy w' (some g) := by
 cases σ with
 | none =>
  refine (cWs w g s what h hw).mono ?_
  rintro e w' ⟨rfl, rfl⟩
  exact ⟨rfl, h, aQs _ 0 _⟩
 | some p =>
  refine (aJa w g s what p sg hsg h.2 hs hw h.1).mono ?_
  rintro e w' ⟨q, rfl, hb, hq, hT, hg⟩
  refine ⟨rfl, ?_, hg⟩
  refine dX7 hb hq (fun h0 => ?_) (fun h0 => ?_)
  · rw [Option.bind_some, hT h0]; unfold bQh; rw [if_pos (aJ0.1 h0)]
  · rw [Option.bind_some]; unfold bQh; rw [if_neg (fun hh => h0 (aJ0.2 hh))]
theorem bJc (h : aZc w g s σ) (hs : s.size ≤ 1048576) : Calls prog 85 #[.pointer (some ⟨g, 0, none⟩)] w fun e w' => StrSt w g s (σ.bind (aJ6 s)) e w' := by
 cases σ with
 | none =>
  refine (dXv w g s h).mono ?_
  rintro e w' ⟨rfl, rfl⟩
  exact ⟨_, rfl, h, fun v hv => (by cases hv), aQs _ 0 _⟩
 | some p =>
  refine (bXj w g s p h.2 hs h.1).mono ?_
  rintro e w' ⟨t, q, rfl, hb, hq, hT, hg⟩
  refine ⟨t, rfl, ?_, ?_, hg⟩
  · refine dX7 hb hq (fun h0 => ?_) (fun h0 => ?_)
    · rw [Option.bind_some, dXu h0, (hT h0).2]; rfl
    · rw [Option.bind_some, bY8 h0]; rfl
  · intro v hv
    rw [Option.bind_some] at hv
    obtain ⟨h1, h2, _⟩ := aZj hv
    rw [(hT h1).1, h2]
theorem bKj (h : aZc w g s σ) (hs : s.size ≤ 1048576) : Calls prog 107 #[.pointer (some ⟨g, 0, none⟩)] w fun e w' => StrSt w g s (σ.bind (valO s)) e w' := by
 cases σ with
 | none =>
  refine (cK2 w g s h).mono ?_
  rintro e w' ⟨rfl, rfl⟩
  exact ⟨_, rfl, h, fun v hv => (by cases hv), aQs _ 0 _⟩
 | some p =>
  refine (cZ3 w g s p h.2 hs h.1).mono ?_
  rintro e w' ⟨t, q, rfl, hb, hq, hT, hg⟩
  refine ⟨t, rfl, ?_, ?_, hg⟩
  · refine dX7 hb hq (fun h0 => ?_) (fun h0 => ?_)
    · rw [Option.bind_some, (hT h0).2]; unfold valO; rw [if_pos h0]; rfl
    · rw [Option.bind_some]; unfold valO; rw [if_neg h0]; rfl
  · intro v hv
    rw [Option.bind_some] at hv
    obtain ⟨h1, h2, _⟩ := aYp hv
    rw [(hT h1).1, h2]
open Go.RowKit Plain1 Plain9 Plain10 Plain23 Plain28
variable {w w' : World} {g : Nat} {s : ByteArray} {σ : Option Nat}
def isB (s : ByteArray) (sg : List UInt8) : Option Nat → Bool
 | some p => aQa s p sg
 | none => false
def isS (s : ByteArray) (sg : List UInt8) (σ : Option Nat) : Option Nat := σ.map fun p => if aQa s p sg = true then p + sg.length else p
theorem dVu (h : aZc w g s σ) (what : ByteArray) (sg : List UInt8) (hsg : what.data.toList = sg) (h0 : sg ≠ []) (hs : s.size ≤ 1048576) (hw : what.size ≤ 1048576) :
 Calls prog 113 #[.pointer (some ⟨g, 0, none⟩), .string what] w fun e w' => e = .returned (.bool (isB s sg σ)) ∧ aZc w' g s (isS s sg σ) ∧ w.grownBy w' (some g) := by
 have hc := aW9 h
 cases σ with
 | none =>
  have HB := aQ0 h
  clear h
  simp only [Option.isSome_none] at hc
  go_enter func113, ntmps113
  go_wp2_with fail
  go_quiet ((go_at_call 83; exact Calls.quiet_of_same (hc _ rfl)))
  go_wp2
  go_ret
  exact ⟨rfl, bKn HB.out rfl, aQs _ nq _⟩
 | some p =>
  subst hsg
  simp only [Option.isSome_some] at hc
  obtain ⟨hp, hb⟩ := h
  have hfd := fun wx => aK4 s p what wx hs hw hp
  rw [aW3 h0] at hfd
  obtain ⟨c0, c1, c2, c3, c4, f1, f2, f3, f4⟩ := aJz hb
  simp only at c0 c1 c2 c3 c4
  have HB := aQ0 hb
  clear hb c2 c3 c4 f2 f3 f4
  cases hh : aQa s p what.data.toList with
  | true =>
   rw [(fz_at hp h0).2 hh] at hfd
   have hroom := aX5 hh hp
   rw [← Lib.size_eq] at hroom
   have HH := aQ0 hh
   clear hh
   go_enter func113, ntmps113
   go_wp2_with fail
   go_quiet (first | (go_at_call 83; exact Calls.quiet_of_same (hc _ rfl)) | (go_at_call 33; exact Calls.quiet_of_same (hfd _)))
   go_wp2
   go_ret
   refine ⟨aXd HH.out.symm, ?_, aQ6 (aQs w nq _) (aX9 _)⟩
   have hnew := aZ6 (W := w.drewN nq) HB.out (p + what.size) (z := (p : Int) + (what.size : Int)) (by omega)
   unfold isS
   rw [Option.map_some, if_pos HH.out, ← Lib.size_eq]
   exact ⟨hroom, hnew⟩
  | false =>
   have hne : fz s p what.data.toList ≠ (p : Int) := fun e => by rw [(fz_at hp h0).1 e] at hh; cases hh
   obtain ⟨z, hz⟩ := nmE (fz s p what.data.toList)
   rw [hz] at hfd hne
   have hnb : (z == (p : Int)) = false := by simpa using hne
   have HH := aQ0 hh
   clear hh hz
   go_enter func113, ntmps113
   go_wp2_with fail
   go_quiet (first | (go_at_call 83; exact Calls.quiet_of_same (hc _ rfl)) | (go_at_call 33; exact Calls.quiet_of_same (hfd _)))
   go_wp2
   go_ret
   refine ⟨aXd HH.out.symm, ?_, aQs _ nq _⟩
   unfold isS
   rw [Option.map_some, if_neg (by rw [HH.out]; simp)]
   exact ⟨hp, HB.out⟩
theorem bZ0 (h : aZc w g s σ) (hs : s.size ≤ 1048576) : Calls prog 117 #[.pointer (some ⟨g, 0, none⟩)] w fun e w' => e = .returned (.tuple #[]) ∧ aZc w' g s (σ.bind (gapO s)) ∧ w.grownBy w' (some g) := by
 have hc := cV5 h
 cases σ with
 | none =>
  have HB := aQ0 h
  clear h
  simp only [Option.isSome_none] at hc
  go_enter func117, ntmps117
  go_wp2_with (go_at_call 83; refine hc.mono ?_; rintro e w' ⟨rfl, rfl⟩)
  go_end0
  exact ⟨rfl, HB.out, aQs _ 0 _⟩
 | some p =>
  simp only [Option.isSome_some] at hc
  obtain ⟨hp, hb⟩ := h
  have hwh := aXq w g s _ hb hs hp
  simp only at hwh
  clear hb
  by_cases hlt : p < whiteZ s p
  · rw [decide_eq_true hlt] at hwh
    have HL := aQ0 hlt
    clear hlt
    go_enter func117, ntmps117
    go_wp2_with (first | (go_at_call 83; refine hc.mono ?_; rintro e w' ⟨rfl, rfl⟩) | (go_at_call 86; refine hwh.mono ?_; rintro e w2 ⟨rfl, hb2, hg2⟩))
    go_end0
    refine ⟨rfl, ?_, hg2⟩
    rw [Option.bind_some]
    unfold gapO
    rw [if_pos HL.out]
    exact ⟨aQv hp, hb2⟩
  · rw [decide_eq_false hlt] at hwh
    have HL := aQ0 hlt
    clear hlt
    go_enter func117, ntmps117
    go_wp2_with (first | (go_at_call 83; refine hc.mono ?_; rintro e w' ⟨rfl, rfl⟩) | (go_at_call 86; refine hwh.mono ?_; rintro e w2 ⟨rfl, hb2, hg2⟩; obtain ⟨c0, c1, c2, c3, c4, f1, f2, f3, f4⟩ := aJz hb2; replace hb2 := aQ0 hb2; replace hg2 := aQ0 hg2))
    go_end0
    refine ⟨rfl, ?_, aQ6 hg2.out (aX9 _)⟩
    rw [Option.bind_some]
    unfold gapO
    rw [if_neg HL.out]
    exact bZ2 (aWd hb2.out) (by simp) (aQv hp)
theorem dK4 (s : ByteArray) (p : Nat) (hp : p < s.size) : (s.extract p (p + 1)).data.toList = [u8 s p] := by
 rw [Plain25.aK5]
 have := aXs hp
 unfold rest at this
 rw [this, show p + 1 - p = 1 by omega]
 rfl
theorem bVs {t : ByteArray} {c : UInt8} (h : t.data.toList = [c]) (d : UInt8) : (t.toList == (ByteArray.mk #[d]).toList) = decide (c = d) := by
 rw [ByteArray.toList_eq, ByteArray.toList_eq, h]
 by_cases hc : c = d <;> simp [hc]
open Go.RowKit Plain1 Strs Plain9 Plain11 Plain23 Plain27 Plain28
def chB (s : ByteArray) (p : Nat) : Bool := aQa s (p + 1) [35] && decide (cV7 s (p + 2))
theorem aZ3 {s : ByteArray} {p : Nat} (hp : p < s.size) (c : UInt8) : aQa s p [c] = decide (aQ1 s p = (c.toNat : Int)) := by
 cases h : aQa s p [c] with
 | true => exact (decide_eq_true (aX6 h hp)).symm
 | false =>
  symm
  apply decide_eq_false
  intro e
  have : aQa s p [c] = true := by
   unfold aQa
   rw [aXs hp]
   rw [aZ0] at e
   have : s.data.toList.getD p 0 = c := UInt8.toNat.inj (by omega)
   rw [this]; simp
  rw [h] at this; cases this
theorem bKy {s : ByteArray} {p : Nat} (hp : s.size ≤ p) (c : UInt8) (sg : List UInt8) : aQa s p (c :: sg) = false := by
 unfold aQa; rw [aW2 hp]; rfl
theorem dXn {s : ByteArray} {p : Nat} (hp : s.size ≤ p) : ¬ cV7 s p := by
 rintro ⟨h1, _⟩
 unfold numD at h1
 have hl := cXu (aJq s p) (rest s (aZu s p))
 have ha : p ≤ aZu s p := by unfold aZu; split <;> omega
 rw [aW2 (by omega)] at hl
 simp only [List.length_nil] at hl
 rw [aW2 (by omega)] at h1
 omega
theorem cY8 (s : ByteArray) (p j : Nat) : (rest s p).getD j 0 = s.data.toList.getD (p + j) 0 := by
 unfold rest; simp only [List.getD, List.getElem?_drop]
theorem bWe (s : ByteArray) (p : Nat) (w : World) (hs : s.size ≤ 1048576) (hp : p < s.size) (h38 : aQ1 s p = 38) :
 Calls prog 94 #[.string s, .int .i64 p] w fun e w' => ∃ (n : Int) (q : Nat), e = .returned (.tuple #[.int .i64 n, .int .i64 q, .bool (chB s p)]) ∧ (chB s p = true → n = (numV s (p + 2) : Int) ∧ q = aZu s (p + 2) + (numD s (p + 2)).length + 1) ∧ ∃ m, w' = w.drewN m := by
 have hi0 : ∀ wx, (Instr.index 9 (.string s) (.int .i64 (p : Int))).run prog wx = .ok (.int .u8 38) wx := fun wx => by rw [aQ8 wx 9 s p hp underlying9, h38]
 by_cases h2 : p + 2 < s.size
 · obtain ⟨b1, hb1⟩ : ∃ b, aQ1 s (p + 1) = b := ⟨_, rfl⟩
   have hd1 := aXn s (p + 1)
   rw [hb1] at hd1
   have hi1 : ∀ wx, (Instr.index 9 (.string s) (.int .i64 ((p : Int) + 1))).run prog wx = .ok (.int .u8 b1) wx := fun wx => by
    have := aQ8 (P := prog) wx 9 s (p + 1) (by omega) underlying9
    rw [hb1] at this
    simpa using this
   by_cases h35 : b1 = 35
   · subst h35
     have hh1 : aQa s (p + 1) [35] = true := by rw [aZ3 (by omega), hb1]; rfl
     have hcb : chB s p = decide (cV7 s (p + 2)) := by unfold chB; rw [hh1]; rfl
     obtain ⟨b2, hb2⟩ : ∃ b, aQ1 s (p + 2) = b := ⟨_, rfl⟩
     have hi2 : ∀ wx, (Instr.index 9 (.string s) (.int .i64 ((p : Int) + 2))).run prog wx = .ok (.int .u8 b2) wx := fun wx => by
      have := aQ8 (P := prog) wx 9 s (p + 2) (by omega) underlying9
      rw [hb2] at this
      simpa using this
     have key : (b2 = 120 ∧ aJq s (p + 2) = 16 ∧ aZu s (p + 2) = p + 3) ∨ (¬ b2 = 120 ∧ aJq s (p + 2) = 10 ∧ aZu s (p + 2) = p + 2) := by
      have := aZ3 h2 120
      rw [hb2] at this
      by_cases hx : b2 = 120
      · left
        have : aQa s (p + 2) [120] = true := by rw [this, hx]; rfl
        unfold aJq aZu
        rw [if_pos this, if_pos this]; exact ⟨hx, rfl, rfl⟩
      · right
        have : aQa s (p + 2) [120] = false := by rw [this]; exact decide_eq_false hx
        unfold aJq aZu
        rw [if_neg (by rw [this]; simp), if_neg (by rw [this]; simp)]; exact ⟨hx, rfl, rfl⟩
     obtain ⟨B, hB⟩ := nmE (aJq s (p + 2))
     obtain ⟨F, hF⟩ := nmE (aZu s (p + 2))
     obtain ⟨L, hL⟩ := nmE (rest s F)
     obtain ⟨D, hD⟩ := nmE ((digs B L).length)
     have hLs : L.length = s.size - F := by rw [← hL, aYx]
     have hBs : B = 10 ∨ B = 16 := by rw [← hB]; exact dZq s (p + 2)
     have hnD : (numD s (p + 2)).length = D := by unfold numD; rw [hB, hF, hL, hD]
     have hnV : numV s (p + 2) = digX B (L.take D) := by rw [cWj, hnD, hB, hF, hL]
     have hFs : F ≤ p + 3 := by rw [← hF]; unfold aZu; split <;> omega
     have hcb2 : chB s p = (decide (1 ≤ D) && (decide (D ≤ 8) && (aQa s (F + D) [59] && aZ5 (digX B (L.take D))))) := by
      rw [hcb]
      apply Bool.eq_iff_iff.2
      rw [decide_eq_true_iff]
      unfold cV7
      rw [hnD, hF, hnV]
      simp
     have hbyte : ∀ j, F + j < s.size → aQ1 s (F + j) = ((L.getD j 0).toNat : Int) := by
      intro j _
      rw [aZ0, ← hL, cY8]
     have hend : D ≤ L.length := by rw [← hD]; exact cXu B L
     have HF : Hid (aZu s (p + 2) = F) := hF
     have HV : Hid (numV s (p + 2) = digX B (L.take D)) := hnV
     have HN : Hid ((numD s (p + 2)).length = D) := hnD
     have HCB : Hid (chB s p = (decide (1 ≤ D) && (decide (D ≤ 8) && (aQa s (F + D) [59] && aZ5 (digX B (L.take D)))))) := hcb2
     have HD : Hid ((digs B L).length = D) := hD
     have HBY := aQ0 hbyte
     have HBS := aQ0 hBs
     rw [hB, hF] at key
     clear hcb hcb2 hnV hnD hF hB hL hD hbyte hh1 hb1 hb2 hd1 hBs
     rcases key with ⟨hx, hB, hF⟩ | ⟨hx, hB, hF⟩
     · subst hB hF
       go_enter func94, ntmps94
       go_wp2_with fail
       go_loopw [8, 10] (fun i n wr => ∃ j : Nat, j ≤ 9 ∧ j ≤ D ∧ i = .int .i64 ((p : Int) + 3 + j) ∧ n = .int .i64 (digX 16 (L.take j) : Int) ∧ wr = w) (fun i _ _ => s.size - (intOf i).toNat)
       case atStart => exact ⟨0, by omega, Nat.zero_le _, by go_num, by simp [digX], rfl⟩
       case round =>
        obtain ⟨j, hj9, hjD, rfl, rfl, hwr⟩ := hrel
        obtain rfl := hwr.symm
        have hX := bK9 (j := j) (base := 16) (l := L) (by omega) (by rw [HD.out]; exact hjD) hj9
        obtain ⟨X, hXe⟩ := nmE (digX 16 (L.take j))
        rw [hXe] at hX ⊢
        have HX := aQ0 hXe
        clear hXe
        by_cases hlt : p + 3 + j < s.size
        · obtain ⟨b, hb⟩ := nmE (aQ1 s (p + 3 + j))
          have hbd := aXn s (p + 3 + j)
          have hby := HBY.out j hlt
          rw [hb] at hbd hby
          obtain ⟨hb0, hb1⟩ := hbd
          have hix : ∀ wx, (Instr.index 9 (.string s) (.int .i64 ((p : Int) + 3 + j))).run prog wx = .ok (.int .u8 b) wx := fun wx => by
           have := aQ8 (P := prog) wx 9 s (p + 3 + j) hlt underlying9
           rw [hb] at this
           simpa using this
          have hdv := cQ0 (L.getD j 0)
          rw [← hby] at hdv
          obtain ⟨V, hV⟩ := nmE (digV (L.getD j 0))
          rw [hV] at hdv
          have HV2 := aQ0 hV
          have HBB := aQ0 hb
          clear hV hby hb
          have hlti : (p : Int) + 3 + j < (s.size : Int) := by omega
          by_cases h8 : j ≤ 8
          · by_cases hvb : V < 16
            · have hon : j + 1 ≤ D := by
               have := cXt 16 L j (by rw [HD.out]; exact hjD) (by omega) (by rw [HV2.out]; exact hvb)
               rw [HD.out] at this; exact this
              have HNX : Hid (digX 16 (L.take (j + 1)) = 16 * X + V) := aQ0 (by rw [bV5 (by omega), HX.out, HV2.out])
              have hr : (48 ≤ b ∧ b ≤ 57 ∧ (V : Int) = b - 48) ∨ (97 ≤ b ∧ b ≤ 102 ∧ (V : Int) = b - 97 + 10) ∨ (65 ≤ b ∧ b ≤ 70 ∧ (V : Int) = b - 65 + 10) := by
               split at hdv
               · omega
               split at hdv
               · omega
               split at hdv
               · omega
               · omega
              clear hdv hvb
              rcases hr with ⟨r1, r2, r3⟩ | ⟨r1, r2, r3⟩ | ⟨r1, r2, r3⟩
              · have HR3 := aQ0 r3
                clear r3
                go_wp2
                go_roundw
                case rel => exact ⟨j + 1, by omega, hon, by go_num, by rw [HNX.out]; have := HR3.out; go_num, by first | rfl | trivial⟩
                case measure => simp [intOf]; omega
              · have HR3 := aQ0 r3
                clear r3
                go_wp2
                go_roundw
                case rel => exact ⟨j + 1, by omega, hon, by go_num, by rw [HNX.out]; have := HR3.out; go_num, by first | rfl | trivial⟩
                case measure => simp [intOf]; omega
              · have HR3 := aQ0 r3
                clear r3
                go_wp2
                go_roundw
                case rel => exact ⟨j + 1, by omega, hon, by go_num, by rw [HNX.out]; have := HR3.out; go_num, by first | rfl | trivial⟩
                case measure => simp [intOf]; omega
            · have hst : j = D := by
               have := bV4 16 L j (by rw [HD.out]; exact hjD) (by omega) (by rw [HV2.out]; exact hvb)
               rw [HD.out] at this; exact this.symm
              subst hst
              have hiv : (b < 48) ∨ (58 ≤ b ∧ b ≤ 64) ∨ (71 ≤ b ∧ b ≤ 96) ∨ (103 ≤ b) := by
               split at hdv
               · omega
               split at hdv
               · omega
               split at hdv
               · omega
               · omega
              clear hdv hvb
              rcases hiv with v1 | ⟨v1, v2⟩ | ⟨v1, v2⟩ | v1
              · by_cases hj1 : j < 1
                · go_wp2
                  go_ret3
                  exact ⟨(X : Int), p + 3 + j + 1, by rw [HCB.out, decide_eq_false (by omega : ¬ 1 ≤ j)]; rfl, fun h => (by rw [HCB.out, decide_eq_false (by omega : ¬ 1 ≤ j)] at h; cases h), 0, rfl⟩
                · have hns : aQa s (p + 3 + j) [59] = false := by rw [aZ3 hlt, HBB.out]; exact decide_eq_false (by simp only [show ((59 : UInt8).toNat : Int) = 59 from rfl]; omega)
                  have HNS := aQ0 hns
                  clear hns
                  go_wp2
                  go_ret3
                  exact ⟨(X : Int), p + 3 + j + 1, by rw [HCB.out, HNS.out]; simp, fun h => (by rw [HCB.out, HNS.out] at h; simp at h), 0, rfl⟩
              · by_cases hj1 : j < 1
                · go_wp2
                  go_ret3
                  exact ⟨(X : Int), p + 3 + j + 1, by rw [HCB.out, decide_eq_false (by omega : ¬ 1 ≤ j)]; rfl, fun h => (by rw [HCB.out, decide_eq_false (by omega : ¬ 1 ≤ j)] at h; cases h), 0, rfl⟩
                · by_cases h59 : b = 59
                  · obtain rfl := h59
                    have hns : aQa s (p + 3 + j) [59] = true := by rw [aZ3 hlt, HBB.out]; rfl
                    have HNS := aQ0 hns
                    clear hns
                    go_wp2_with (go_at_call 62; refine (aZ7 _ _).mono ?_; rintro e w' ⟨rfl, rfl⟩)
                    go_ret3
                    refine ⟨(X : Int), p + 3 + j + 1, by rw [HCB.out, HNS.out, HX.out, decide_eq_true (by omega : 1 ≤ j), decide_eq_true h8]; first | rfl | simp, fun _ => ⟨by rw [HV.out, HX.out], by rw [HF.out, HN.out]⟩, 0, rfl⟩
                  · have h59b : (b == 59) = false := by simpa using h59
                    have hns : aQa s (p + 3 + j) [59] = false := by rw [aZ3 hlt, HBB.out]; exact decide_eq_false (by simp only [show ((59 : UInt8).toNat : Int) = 59 from rfl]; omega)
                    clear h59
                    have HNS := aQ0 hns
                    clear hns
                    go_wp2
                    go_ret3
                    exact ⟨(X : Int), p + 3 + j + 1, by rw [HCB.out, HNS.out]; simp, fun h => (by rw [HCB.out, HNS.out] at h; simp at h), 0, rfl⟩
              · by_cases hj1 : j < 1
                · go_wp2
                  go_ret3
                  exact ⟨(X : Int), p + 3 + j + 1, by rw [HCB.out, decide_eq_false (by omega : ¬ 1 ≤ j)]; rfl, fun h => (by rw [HCB.out, decide_eq_false (by omega : ¬ 1 ≤ j)] at h; cases h), 0, rfl⟩
                · have hns : aQa s (p + 3 + j) [59] = false := by rw [aZ3 hlt, HBB.out]; exact decide_eq_false (by simp only [show ((59 : UInt8).toNat : Int) = 59 from rfl]; omega)
                  have HNS := aQ0 hns
                  clear hns
                  go_wp2
                  go_ret3
                  exact ⟨(X : Int), p + 3 + j + 1, by rw [HCB.out, HNS.out]; simp, fun h => (by rw [HCB.out, HNS.out] at h; simp at h), 0, rfl⟩
              · by_cases hj1 : j < 1
                · go_wp2
                  go_ret3
                  exact ⟨(X : Int), p + 3 + j + 1, by rw [HCB.out, decide_eq_false (by omega : ¬ 1 ≤ j)]; rfl, fun h => (by rw [HCB.out, decide_eq_false (by omega : ¬ 1 ≤ j)] at h; cases h), 0, rfl⟩
                · have hns : aQa s (p + 3 + j) [59] = false := by rw [aZ3 hlt, HBB.out]; exact decide_eq_false (by simp only [show ((59 : UInt8).toNat : Int) = 59 from rfl]; omega)
                  have HNS := aQ0 hns
                  clear hns
                  go_wp2
                  go_ret3
                  exact ⟨(X : Int), p + 3 + j + 1, by rw [HCB.out, HNS.out]; simp, fun h => (by rw [HCB.out, HNS.out] at h; simp at h), 0, rfl⟩
          · have hD9 : ¬ D ≤ 8 := by omega
            have hj9e : 8 < j := by omega
            clear hdv
            go_wp2
            go_ret3
            exact ⟨(X : Int), p + 3 + j + 1, by rw [HCB.out, decide_eq_false hD9]; simp, fun h => (by rw [HCB.out, decide_eq_false hD9] at h; simp at h), 0, rfl⟩
        · have hst : j = D := by omega
          subst hst
          have hns : aQa s (p + 3 + j) [59] = false := bKy (by omega) 59 []
          have HNS := aQ0 hns
          clear hns
          have hlti : ¬ (p : Int) + 3 + j < (s.size : Int) := by omega
          by_cases hj1 : j < 1
          · go_wp2
            go_ret3
            exact ⟨(X : Int), p + 3 + j + 1, by rw [HCB.out, decide_eq_false (by omega : ¬ 1 ≤ j)]; rfl, fun h => (by rw [HCB.out, decide_eq_false (by omega : ¬ 1 ≤ j)] at h; cases h), 0, rfl⟩
          · by_cases h8 : j ≤ 8
            · go_wp2
              go_ret3
              exact ⟨(X : Int), p + 3 + j + 1, by rw [HCB.out, HNS.out]; simp, fun h => (by rw [HCB.out, HNS.out] at h; simp at h), 0, rfl⟩
            · go_wp2
              go_ret3
              exact ⟨(X : Int), p + 3 + j + 1, by rw [HCB.out, HNS.out]; simp, fun h => (by rw [HCB.out, HNS.out] at h; simp at h), 0, rfl⟩
     · subst hB hF
       go_enter func94, ntmps94
       go_wp2_with fail
       go_loopw [8, 10] (fun i n wr => ∃ j : Nat, j ≤ 9 ∧ j ≤ D ∧ i = .int .i64 ((p : Int) + 2 + j) ∧ n = .int .i64 (digX 10 (L.take j) : Int) ∧ wr = w) (fun i _ _ => s.size - (intOf i).toNat)
       case atStart => exact ⟨0, by omega, Nat.zero_le _, by go_num, by simp [digX], rfl⟩
       case round =>
        obtain ⟨j, hj9, hjD, rfl, rfl, hwr⟩ := hrel
        obtain rfl := hwr.symm
        have hX := bK9 (j := j) (base := 10) (l := L) (by omega) (by rw [HD.out]; exact hjD) hj9
        obtain ⟨X, hXe⟩ := nmE (digX 10 (L.take j))
        rw [hXe] at hX ⊢
        have HX := aQ0 hXe
        clear hXe
        by_cases hlt : p + 2 + j < s.size
        · obtain ⟨b, hb⟩ := nmE (aQ1 s (p + 2 + j))
          have hbd := aXn s (p + 2 + j)
          have hby := HBY.out j hlt
          rw [hb] at hbd hby
          obtain ⟨hb0, hb1⟩ := hbd
          have hix : ∀ wx, (Instr.index 9 (.string s) (.int .i64 ((p : Int) + 2 + j))).run prog wx = .ok (.int .u8 b) wx := fun wx => by
           have := aQ8 (P := prog) wx 9 s (p + 2 + j) hlt underlying9
           rw [hb] at this
           simpa using this
          have hdv := cQ0 (L.getD j 0)
          rw [← hby] at hdv
          obtain ⟨V, hV⟩ := nmE (digV (L.getD j 0))
          rw [hV] at hdv
          have HV2 := aQ0 hV
          have HBB := aQ0 hb
          clear hV hby hb
          have hlti : (p : Int) + 2 + j < (s.size : Int) := by omega
          by_cases h8 : j ≤ 8
          · by_cases hvb : V < 10
            · have hon : j + 1 ≤ D := by
               have := cXt 10 L j (by rw [HD.out]; exact hjD) (by omega) (by rw [HV2.out]; exact hvb)
               rw [HD.out] at this; exact this
              have HNX : Hid (digX 10 (L.take (j + 1)) = 10 * X + V) := aQ0 (by rw [bV5 (by omega), HX.out, HV2.out])
              have hr : (48 ≤ b ∧ b ≤ 57 ∧ (V : Int) = b - 48) := by
               split at hdv
               · omega
               split at hdv
               · omega
               split at hdv
               · omega
               · omega
              clear hdv hvb
              obtain ⟨r1, r2, r3⟩ := hr
              have HR3 := aQ0 r3
              clear r3
              go_wp2
              go_roundw
              case rel => exact ⟨j + 1, by omega, hon, by go_num, by rw [HNX.out]; have := HR3.out; go_num, by first | rfl | trivial⟩
              case measure => simp [intOf]; omega
            · have hst : j = D := by
               have := bV4 10 L j (by rw [HD.out]; exact hjD) (by omega) (by rw [HV2.out]; exact hvb)
               rw [HD.out] at this; exact this.symm
              subst hst
              have hiv : (b < 48) ∨ (58 ≤ b ∧ b ≤ 64) ∨ (71 ≤ b ∧ b ≤ 96) ∨ (103 ≤ b) ∨ (97 ≤ b ∧ b ≤ 102) ∨ (65 ≤ b ∧ b ≤ 70) := by
               split at hdv
               · omega
               split at hdv
               · omega
               split at hdv
               · omega
               · omega
              clear hdv hvb
              rcases hiv with v1 | ⟨v1, v2⟩ | ⟨v1, v2⟩ | v1 | ⟨v1, v2⟩ | ⟨v1, v2⟩
              · by_cases hj1 : j < 1
                · go_wp2
                  go_ret3
                  exact ⟨(X : Int), p + 2 + j + 1, by rw [HCB.out, decide_eq_false (by omega : ¬ 1 ≤ j)]; rfl, fun h => (by rw [HCB.out, decide_eq_false (by omega : ¬ 1 ≤ j)] at h; cases h), 0, rfl⟩
                · have hns : aQa s (p + 2 + j) [59] = false := by rw [aZ3 hlt, HBB.out]; exact decide_eq_false (by simp only [show ((59 : UInt8).toNat : Int) = 59 from rfl]; omega)
                  have HNS := aQ0 hns
                  clear hns
                  go_wp2
                  go_ret3
                  exact ⟨(X : Int), p + 2 + j + 1, by rw [HCB.out, HNS.out]; simp, fun h => (by rw [HCB.out, HNS.out] at h; simp at h), 0, rfl⟩
              · by_cases hj1 : j < 1
                · go_wp2
                  go_ret3
                  exact ⟨(X : Int), p + 2 + j + 1, by rw [HCB.out, decide_eq_false (by omega : ¬ 1 ≤ j)]; rfl, fun h => (by rw [HCB.out, decide_eq_false (by omega : ¬ 1 ≤ j)] at h; cases h), 0, rfl⟩
                · by_cases h59 : b = 59
                  · obtain rfl := h59
                    have hns : aQa s (p + 2 + j) [59] = true := by rw [aZ3 hlt, HBB.out]; rfl
                    have HNS := aQ0 hns
                    clear hns
                    go_wp2_with (go_at_call 62; refine (aZ7 _ _).mono ?_; rintro e w' ⟨rfl, rfl⟩)
                    go_ret3
                    refine ⟨(X : Int), p + 2 + j + 1, by rw [HCB.out, HNS.out, HX.out, decide_eq_true (by omega : 1 ≤ j), decide_eq_true h8]; first | rfl | simp, fun _ => ⟨by rw [HV.out, HX.out], by rw [HF.out, HN.out]⟩, 0, rfl⟩
                  · have h59b : (b == 59) = false := by simpa using h59
                    have hns : aQa s (p + 2 + j) [59] = false := by rw [aZ3 hlt, HBB.out]; exact decide_eq_false (by simp only [show ((59 : UInt8).toNat : Int) = 59 from rfl]; omega)
                    clear h59
                    have HNS := aQ0 hns
                    clear hns
                    go_wp2
                    go_ret3
                    exact ⟨(X : Int), p + 2 + j + 1, by rw [HCB.out, HNS.out]; simp, fun h => (by rw [HCB.out, HNS.out] at h; simp at h), 0, rfl⟩
              · by_cases hj1 : j < 1
                · go_wp2
                  go_ret3
                  exact ⟨(X : Int), p + 2 + j + 1, by rw [HCB.out, decide_eq_false (by omega : ¬ 1 ≤ j)]; rfl, fun h => (by rw [HCB.out, decide_eq_false (by omega : ¬ 1 ≤ j)] at h; cases h), 0, rfl⟩
                · have hns : aQa s (p + 2 + j) [59] = false := by rw [aZ3 hlt, HBB.out]; exact decide_eq_false (by simp only [show ((59 : UInt8).toNat : Int) = 59 from rfl]; omega)
                  have HNS := aQ0 hns
                  clear hns
                  go_wp2
                  go_ret3
                  exact ⟨(X : Int), p + 2 + j + 1, by rw [HCB.out, HNS.out]; simp, fun h => (by rw [HCB.out, HNS.out] at h; simp at h), 0, rfl⟩
              · by_cases hj1 : j < 1
                · go_wp2
                  go_ret3
                  exact ⟨(X : Int), p + 2 + j + 1, by rw [HCB.out, decide_eq_false (by omega : ¬ 1 ≤ j)]; rfl, fun h => (by rw [HCB.out, decide_eq_false (by omega : ¬ 1 ≤ j)] at h; cases h), 0, rfl⟩
                · have hns : aQa s (p + 2 + j) [59] = false := by rw [aZ3 hlt, HBB.out]; exact decide_eq_false (by simp only [show ((59 : UInt8).toNat : Int) = 59 from rfl]; omega)
                  have HNS := aQ0 hns
                  clear hns
                  go_wp2
                  go_ret3
                  exact ⟨(X : Int), p + 2 + j + 1, by rw [HCB.out, HNS.out]; simp, fun h => (by rw [HCB.out, HNS.out] at h; simp at h), 0, rfl⟩
              · by_cases hj1 : j < 1
                · go_wp2
                  go_ret3
                  exact ⟨(X : Int), p + 2 + j + 1, by rw [HCB.out, decide_eq_false (by omega : ¬ 1 ≤ j)]; rfl, fun h => (by rw [HCB.out, decide_eq_false (by omega : ¬ 1 ≤ j)] at h; cases h), 0, rfl⟩
                · have hns : aQa s (p + 2 + j) [59] = false := by rw [aZ3 hlt, HBB.out]; exact decide_eq_false (by simp only [show ((59 : UInt8).toNat : Int) = 59 from rfl]; omega)
                  have HNS := aQ0 hns
                  clear hns
                  go_wp2
                  go_ret3
                  exact ⟨(X : Int), p + 2 + j + 1, by rw [HCB.out, HNS.out]; simp, fun h => (by rw [HCB.out, HNS.out] at h; simp at h), 0, rfl⟩
              · by_cases hj1 : j < 1
                · go_wp2
                  go_ret3
                  exact ⟨(X : Int), p + 2 + j + 1, by rw [HCB.out, decide_eq_false (by omega : ¬ 1 ≤ j)]; rfl, fun h => (by rw [HCB.out, decide_eq_false (by omega : ¬ 1 ≤ j)] at h; cases h), 0, rfl⟩
                · have hns : aQa s (p + 2 + j) [59] = false := by rw [aZ3 hlt, HBB.out]; exact decide_eq_false (by simp only [show ((59 : UInt8).toNat : Int) = 59 from rfl]; omega)
                  have HNS := aQ0 hns
                  clear hns
                  go_wp2
                  go_ret3
                  exact ⟨(X : Int), p + 2 + j + 1, by rw [HCB.out, HNS.out]; simp, fun h => (by rw [HCB.out, HNS.out] at h; simp at h), 0, rfl⟩
          · have hD9 : ¬ D ≤ 8 := by omega
            have hj9e : 8 < j := by omega
            clear hdv
            go_wp2
            go_ret3
            exact ⟨(X : Int), p + 2 + j + 1, by rw [HCB.out, decide_eq_false hD9]; simp, fun h => (by rw [HCB.out, decide_eq_false hD9] at h; simp at h), 0, rfl⟩
        · have hst : j = D := by omega
          subst hst
          have hns : aQa s (p + 2 + j) [59] = false := bKy (by omega) 59 []
          have HNS := aQ0 hns
          clear hns
          have hlti : ¬ (p : Int) + 2 + j < (s.size : Int) := by omega
          by_cases hj1 : j < 1
          · exfalso; omega
          · by_cases h8 : j ≤ 8
            · go_wp2
              go_ret3
              exact ⟨(X : Int), p + 2 + j + 1, by rw [HCB.out, HNS.out]; simp, fun h => (by rw [HCB.out, HNS.out] at h; simp at h), 0, rfl⟩
            · go_wp2
              go_ret3
              exact ⟨(X : Int), p + 2 + j + 1, by rw [HCB.out, HNS.out]; simp, fun h => (by rw [HCB.out, HNS.out] at h; simp at h), 0, rfl⟩
   · have hcb : chB s p = false := by unfold chB; rw [aZ3 (by omega), hb1]; simp [h35]
     have HCB := aQ0 hcb
     have h35b : (b1 != 35) = true := by simpa using h35
     clear hcb hb1 h35
     go_enter func94, ntmps94
     go_wp2
     go_ret3
     exact ⟨0, p, (by rw [HCB.out] <;> rfl), fun h => (by rw [HCB.out] at h; cases h), 0, rfl⟩
 · have hcb : chB s p = false := by unfold chB; rw [decide_eq_false (dXn (by omega)), Bool.and_false]
   have HCB := aQ0 hcb
   clear hcb
   have h2i : ¬ (p : Int) + 2 < (s.size : Int) := by omega
   go_enter func94, ntmps94
   go_wp2
   go_ret3
   exact ⟨0, p, (by rw [HCB.out] <;> rfl), fun h => (by rw [HCB.out] at h; cases h), 0, rfl⟩
end Go.Proofs.YtocnfoeaikiecaaGreatDoor
