/- The model's scanner as the head's reader uses it: a place, or a fault that stays. -/
/- The model's scanner as the head's reader uses it: is, gap, quoted. -/
/- The model's scanner as the head's reader uses it: quoted. -/
/- The model's l03Char: a character by its number. -/
import Derived.Test.YteebdfcegndaoaaGreatDoorMdB
import Derived.Test.YteebdfcegndaoaaGreatDoorPlD
import Derived.Test.YteebdfcegndaoaaGreatDoorPlE
import Derived.Test.YteebdfcegndaoaaGreatDoorMdA
namespace Go.Proofs.YteebdfcegndaoaaGreatDoor
open Go.RowKit Plain1 Strs Strs2 Lists Plain3 Plain5 Plain6 Plain9 Plain10 Plain11 Plain23

/-- The scanner in memory, with whatever faults. -/
def GBox (w : World) (g : Nat) (s : ByteArray) (p : Nat) (sh bd th : Bool) : Prop := w.heap[g]? = some (.cells #[.string s, .int .i64 (p : Int), .bool sh, .bool bd, .bool th] 114)
theorem gcells {w : World} {g : Nat} {s : ByteArray} {p : Nat} {sh bd th : Bool} (h : GBox w g s p sh bd th) :
    w.cell? ⟨g, 0, none⟩ = some (.string s) ∧ w.cell? ⟨g, 1, none⟩ = some (.int .i64 (p : Int)) ∧ w.cell? ⟨g, 2, none⟩ = some (.bool sh) ∧ w.cell? ⟨g, 3, none⟩ = some (.bool bd) ∧ w.frozen? ⟨g, 1, none⟩ = false ∧ w.frozen? ⟨g, 3, none⟩ = false := by
  unfold GBox at h
  simp [World.cell?, World.frozen?, h]
def BadBox (w : World) (g : Nat) (s : ByteArray) : Prop := ∃ (p : Nat) (sh bd th : Bool), p ≤ s.size ∧ (sh || bd) = true ∧ GBox w g s p sh bd th
def StBox (w : World) (g : Nat) (s : ByteArray) : Option Nat → Prop
  | some p => p ≤ s.size ∧ ScBox w g s ⟨p, 0⟩
  | none => BadBox w g s
variable {w w' : World} {g : Nat} {s : ByteArray} {σ : Option Nat}
theorem bad_of {x : Sc} (h : ScBox w g s x) (h0 : x.fl ≠ 0) (hp : x.pos ≤ s.size) : BadBox w g s := by
  refine ⟨x.pos, decide (x.fl = 1), decide (2 ≤ x.fl), decide (x.fl = 3), hp, ?_, h⟩
  rw [Bool.or_eq_true, decide_eq_true_iff, decide_eq_true_iff]; omega
theorem st_of {q f : Nat} (h : ScBox w g s ⟨q, f⟩) (hq : q ≤ s.size) {τ : Option Nat} (h0 : f = 0 → τ = some q) (h1 : f ≠ 0 → τ = none) : StBox w g s τ := by
  by_cases hf : f = 0
  · rw [h0 hf]; subst hf; exact ⟨hq, h⟩
  · rw [h1 hf]; exact bad_of h hf hq
theorem st_block (h : StBox w g s σ) : g < w.heap.size := by
  cases σ with
  | some p => exact (Array.getElem?_eq_some_iff.1 h.2).1
  | none => obtain ⟨_, _, _, _, _, _, hb⟩ := h; exact (Array.getElem?_eq_some_iff.1 hb).1
theorem st_same (h : StBox w g s σ) (hb : w'.heap[g]? = w.heap[g]?) : StBox w' g s σ := by
  cases σ with
  | some p => exact ⟨h.1, by unfold ScBox; rw [hb]; exact h.2⟩
  | none => obtain ⟨p, a, b, c, h1, h2, h3⟩ := h; exact ⟨p, a, b, c, h1, h2, by unfold GBox; rw [hb]; exact h3⟩
theorem st_grown {r : Option Nat} (h : StBox w g s σ) (hg : w.grownBy w' r) (hne : some g ≠ r) : StBox w' g s σ := st_same h (hg.block g (st_block h) hne)
theorem st_le {p : Nat} (h : StBox w g s (some p)) : p ≤ s.size := h.1

theorem ok_bad (w : World) (g : Nat) (s : ByteArray) (h : BadBox w g s) : Calls Tryz.prog 68 #[.pointer (some ⟨g, 0, none⟩)] w fun e w' => e = .returned (.bool false) ∧ w' = w := by
  obtain ⟨p, sh, bd, th, _, hf, hb⟩ := h
  obtain ⟨c0, c1, c2, c3, f1, f3⟩ := gcells hb
  clear hb c0 c1 f1 f3
  cases sh <;> cases bd
  · cases hf
  all_goals
    clear hf
    go_enter Tryz.func68, Tryz.ntmps68
    go_wp2
    go_ret
    exact ⟨rfl, rfl⟩
theorem ok_st (h : StBox w g s σ) : Calls Tryz.prog 68 #[.pointer (some ⟨g, 0, none⟩)] w fun e w' => e = .returned (.bool σ.isSome) ∧ w' = w := by
  cases σ with
  | some p => exact ok_any w g s _ h.2
  | none => exact ok_bad w g s h
theorem ok_stAt {W : World} (h : StBox W g s σ) (W' : World) (hW : W'.heap = W.heap) : Calls Tryz.prog 68 #[.pointer (some ⟨g, 0, none⟩)] W' fun e w' => e = .returned (.bool σ.isSome) ∧ w' = W' := ok_st (st_same h (by rw [hW]))
/-- What a method of the scanner reads. -/
def StrSt (w : World) (g : Nat) (s : ByteArray) (R : Option (ByteArray × Nat)) (e : Ending) (w' : World) : Prop :=
  ∃ t, e = .returned (.string t) ∧ StBox w' g s (R.map (·.2)) ∧ (∀ v, R = some v → t = v.1) ∧ w.grownBy w' (some g)
theorem name_bad (w : World) (g : Nat) (s : ByteArray) (h : BadBox w g s) : Calls Tryz.prog 89 #[.pointer (some ⟨g, 0, none⟩)] w fun e w' => e = .returned (.string ByteArray.empty) ∧ w' = w := by
  have hc := ok_bad w g s h
  clear h
  go_enter Tryz.func89, Tryz.ntmps89
  go_wp2_with (go_at_call 68; refine hc.mono ?_; rintro e w' ⟨rfl, rfl⟩)
  go_ret
  exact ⟨rfl, rfl⟩
theorem value_bad (w : World) (g : Nat) (s : ByteArray) (h : BadBox w g s) : Calls Tryz.prog 119 #[.pointer (some ⟨g, 0, none⟩)] w fun e w' => e = .returned (.string ByteArray.empty) ∧ w' = w := by
  have hc := ok_bad w g s h
  clear h
  go_enter Tryz.func119, Tryz.ntmps119
  go_wp2_with (go_at_call 68; refine hc.mono ?_; rintro e w' ⟨rfl, rfl⟩)
  go_ret
  exact ⟨rfl, rfl⟩
theorem must_badS (w : World) (g : Nat) (s what : ByteArray) (h : BadBox w g s) (hw : what.size ≤ 1048576) : Calls Tryz.prog 87 #[.pointer (some ⟨g, 0, none⟩), .string what] w fun e w' => e = .returned (.tuple #[]) ∧ w' = w := by
  have hc := ok_bad w g s h
  clear h
  go_enter Tryz.func87, Tryz.ntmps87
  go_wp2_with fail
  go_loopw [4] (fun i wr => i = .int .i64 0 ∧ wr = w) (fun _ _ => 0)
  case atStart => exact ⟨rfl, rfl⟩
  case round =>
    obtain ⟨rfl, hwr⟩ := hrel
    obtain rfl := hwr.symm
    by_cases hlt : 0 < what.size
    · have hlti : (0 : Int) < (what.size : Int) := by omega
      go_wp2_with (go_at_call 68; refine hc.mono ?_; rintro e w' ⟨rfl, rfl⟩)
      go_end0
      exact ⟨rfl, rfl⟩
    · have hlti : ¬ (0 : Int) < (what.size : Int) := by omega
      go_wp2_with fail
      go_end0
      exact ⟨rfl, rfl⟩
def gPos (w : World) (g : Nat) : Nat := match w.cell? ⟨g, 1, none⟩ with | some (.int _ n) => n.toNat | _ => 0
theorem gPos_of {p : Nat} {sh bd th : Bool} (h : GBox w g s p sh bd th) : gPos w g = p := by
  obtain ⟨_, c1, _⟩ := gcells h
  unfold gPos
  rw [c1]
  simp
set_option maxHeartbeats 1000000 in
theorem white_gen (w : World) (g : Nat) (s : ByteArray) (pos : Nat) (sh bd th : Bool) (h : GBox w g s pos sh bd th) (hs : s.size ≤ 1048576) (hp : pos ≤ s.size) :
    Calls Tryz.prog 66 #[.pointer (some ⟨g, 0, none⟩)] w fun e w' => e = .returned (.bool (decide (pos < whiteZ s pos))) ∧ GBox w' g s (whiteZ s pos) sh bd th ∧ w.grownBy w' (some g) := by
  obtain ⟨R, hR⟩ : ∃ R, whiteZ s pos = R := ⟨_, rfl⟩
  rw [hR]
  have HR : Hid (whiteGo s (s.size + 1) pos = R) := hR
  have HB : Hid (GBox w g s pos sh bd th) := h
  obtain ⟨c0, c1, c2, c3, f1, f3⟩ := gcells h
  clear h hR
  go_enter Tryz.func66, Tryz.ntmps66
  go_wp2_with fail
  go_loopw [] (fun wr => ∃ (f k : Nat), pos ≤ k ∧ k ≤ s.size ∧ whiteGo s f k = R ∧ s.size + 1 ≤ k + f ∧ GBox wr g s k sh bd th ∧ w.grownBy wr (some g)) (fun wr => s.size - gPos wr g)
  case atStart => exact ⟨s.size + 1, pos, Nat.le_refl _, hp, HR.out, by omega, HB.out, gdrew5 w 0 _⟩
  case round =>
    obtain ⟨f, k, hk0, hk, hf, hfu, hbx, hg⟩ := hrel
    have HF : Hid (whiteGo s f k = R) := hf
    have HBX : Hid (GBox wr g s k sh bd th) := hbx
    have HG : Hid (w.grownBy wr (some g)) := hg
    have HP : Hid (gPos wr g = k) := gPos_of hbx
    clear c0 c1 c2 c3 f1 f3
    obtain ⟨c0, c1, c2, c3, f1, f3⟩ := gcells hbx
    clear hf hbx hg
    by_cases hlt : k < s.size
    · obtain ⟨b, hb⟩ : ∃ b, byteAt s k = b := ⟨_, rfl⟩
      have hbd := byteAt_bd s k
      rw [hb] at hbd
      obtain ⟨hb0, hb1⟩ := hbd
      have hix : ∀ wx, (Instr.index 9 (.string s) (.int .i64 (k : Int))).run Tryz.prog wx = .ok (.int .u8 b) wx := fun wx => by rw [run_index_byte wx 9 s k hlt Tryz.underlying9, hb]
      have HBB : Hid (byteAt s k = b) := hb
      clear hb
      have hki : (k : Int) < (s.size : Int) := by omega
      cases hw : whiteB b with
      | true =>
        obtain ⟨f', rfl⟩ : ∃ f', f = f' + 1 := ⟨f - 1, by omega⟩
        have hon := whiteGo_on (f := f') (i := k) (s := s) ⟨hlt, by rw [HBB.out]; exact hw⟩
        rw [HF.out] at hon
        have HON : Hid (R = whiteGo s f' (k + 1)) := hon
        clear hon
        go_wp2_with fail
        go_quiet ((go_at_call 102; exact Calls.quiet_of_same (white_byte _ _ hb0 hb1)))
        go_wp2
        have hnew : GBox ((wr.drewN nq).setCell ⟨g, 1, none⟩ (.int .i64 ((k : Int) + 1))) g s (k + 1) sh bd th := set5 (w := wr.drewN nq) HBX.out 1 _
        go_roundw
        case rel => exact ⟨f', k + 1, by omega, by omega, HON.out.symm, by omega, hnew, gtrans5 HG.out (gtrans5 (gdrew5 wr nq _) (gset5 _))⟩
        case measure => rw [gPos_of hnew, HP.out]; omega
      | false =>
        have hst := whiteGo_stop (f := f) (i := k) (s := s) (fun hh => by rw [HBB.out, hw] at hh; cases hh.2)
        rw [HF.out] at hst
        have HST : Hid (R = k) := hst
        clear hst
        go_wp2_with fail
        go_quiet ((go_at_call 102; exact Calls.quiet_of_same (white_byte _ _ hb0 hb1)))
        go_wp2
        go_ret
        refine ⟨ret_bool ?_, ?_, gtrans5 HG.out (gdrew5 wr nq _)⟩
        · rw [HST.out]
        · rw [HST.out]; exact HBX.out
    · have hst := whiteGo_stop (f := f) (i := k) (s := s) (fun hh => hlt hh.1)
      rw [HF.out] at hst
      have HST : Hid (R = k) := hst
      clear hst
      have hki : ¬ (k : Int) < (s.size : Int) := by omega
      have hkd : decide ((k : Int) < (s.size : Int)) = false := by simpa using hki
      go_wp2_with fail
      go_quiet (fail)
      go_wp2
      go_ret
      refine ⟨ret_bool ?_, ?_, gtrans5 HG.out (gdrew5 wr nq _)⟩
      · rw [HST.out]
      · rw [HST.out]; exact HBX.out
theorem white_st (h : StBox w g s σ) (hs : s.size ≤ 1048576) : Calls Tryz.prog 66 #[.pointer (some ⟨g, 0, none⟩)] w fun e w' => ∃ b : Bool, e = .returned (.bool b) ∧ StBox w' g s (σ.map (whiteZ s)) ∧ (∀ p, σ = some p → b = decide (p < whiteZ s p)) ∧ w.grownBy w' (some g) := by
  cases σ with
  | none =>
    obtain ⟨p, sh, bd, th, hp, hf, hb⟩ := h
    refine (white_gen w g s p sh bd th hb hs hp).mono ?_
    rintro e w' ⟨rfl, hb', hg⟩
    exact ⟨_, rfl, ⟨_, sh, bd, th, whiteZ_le hp, hf, hb'⟩, fun q hq => (by cases hq), hg⟩
  | some p =>
    refine (white_any w g s _ h.2 hs h.1).mono ?_
    rintro e w' ⟨rfl, hb', hg⟩
    exact ⟨_, rfl, ⟨whiteZ_le h.1, hb'⟩, fun q hq => (by cases hq; rfl), hg⟩
theorem must_st (h : StBox w g s σ) (what : ByteArray) (sg : List UInt8) (hsg : what.data.toList = sg) (hs : s.size ≤ 1048576) (hw : what.size ≤ 1048576) : Calls Tryz.prog 87 #[.pointer (some ⟨g, 0, none⟩), .string what] w fun e w' =>
    e = .returned (.tuple #[]) ∧ StBox w' g s (σ.bind fun p => mustO s p sg) ∧ w.grownBy w' (some g) := by
  cases σ with
  | none =>
    refine (must_badS w g s what h hw).mono ?_
    rintro e w' ⟨rfl, rfl⟩
    exact ⟨rfl, h, gdrew5 _ 0 _⟩
  | some p =>
    refine (must_call w g s what p sg hsg h.2 hs hw h.1).mono ?_
    rintro e w' ⟨q, rfl, hb, hq, hT, hg⟩
    refine ⟨rfl, ?_, hg⟩
    refine st_of hb hq (fun h0 => ?_) (fun h0 => ?_)
    · rw [Option.bind_some, hT h0]; unfold mustO; rw [if_pos (must_has.1 h0)]
    · rw [Option.bind_some]; unfold mustO; rw [if_neg (fun hh => h0 (must_has.2 hh))]
theorem name_st (h : StBox w g s σ) (hs : s.size ≤ 1048576) : Calls Tryz.prog 89 #[.pointer (some ⟨g, 0, none⟩)] w fun e w' => StrSt w g s (σ.bind (nameO s)) e w' := by
  cases σ with
  | none =>
    refine (name_bad w g s h).mono ?_
    rintro e w' ⟨rfl, rfl⟩
    exact ⟨_, rfl, h, fun v hv => (by cases hv), gdrew5 _ 0 _⟩
  | some p =>
    refine (name_ok w g s p h.2 hs h.1).mono ?_
    rintro e w' ⟨t, q, rfl, hb, hq, hT, hg⟩
    refine ⟨t, rfl, ?_, ?_, hg⟩
    · refine st_of hb hq (fun h0 => ?_) (fun h0 => ?_)
      · rw [Option.bind_some, name_yes h0, (hT h0).2]; rfl
      · rw [Option.bind_some, name_none h0]; rfl
    · intro v hv
      rw [Option.bind_some] at hv
      obtain ⟨h1, h2, _⟩ := name_some hv
      rw [(hT h1).1, h2]
theorem value_st (h : StBox w g s σ) (hs : s.size ≤ 1048576) : Calls Tryz.prog 119 #[.pointer (some ⟨g, 0, none⟩)] w fun e w' => StrSt w g s (σ.bind (valO s)) e w' := by
  cases σ with
  | none =>
    refine (value_bad w g s h).mono ?_
    rintro e w' ⟨rfl, rfl⟩
    exact ⟨_, rfl, h, fun v hv => (by cases hv), gdrew5 _ 0 _⟩
  | some p =>
    refine (value_ok w g s p h.2 hs h.1).mono ?_
    rintro e w' ⟨t, q, rfl, hb, hq, hT, hg⟩
    refine ⟨t, rfl, ?_, ?_, hg⟩
    · refine st_of hb hq (fun h0 => ?_) (fun h0 => ?_)
      · rw [Option.bind_some, (hT h0).2]; unfold valO; rw [if_pos h0]; rfl
      · rw [Option.bind_some]; unfold valO; rw [if_neg h0]; rfl
    · intro v hv
      rw [Option.bind_some] at hv
      obtain ⟨h1, h2, _⟩ := val_some hv
      rw [(hT h1).1, h2]
end Go.Proofs.YteebdfcegndaoaaGreatDoor

namespace Go.Proofs.YteebdfcegndaoaaGreatDoor
open Go.RowKit Plain1 Strs Strs2 Lists Plain3 Plain5 Plain6 Plain9 Plain10 Plain11 Plain23 Plain24 Plain28
variable {w w' : World} {g : Nat} {s : ByteArray} {σ : Option Nat}

def isB (s : ByteArray) (sg : List UInt8) : Option Nat → Bool
  | some p => hasAt s p sg
  | none => false
def isS (s : ByteArray) (sg : List UInt8) (σ : Option Nat) : Option Nat := σ.map fun p => if hasAt s p sg = true then p + sg.length else p
set_option maxHeartbeats 1000000 in
theorem is_st (h : StBox w g s σ) (what : ByteArray) (sg : List UInt8) (hsg : what.data.toList = sg) (h0 : sg ≠ []) (hs : s.size ≤ 1048576) (hw : what.size ≤ 1048576) :
    Calls Tryz.prog 103 #[.pointer (some ⟨g, 0, none⟩), .string what] w fun e w' => e = .returned (.bool (isB s sg σ)) ∧ StBox w' g s (isS s sg σ) ∧ w.grownBy w' (some g) := by
  have hc := ok_stAt h
  cases σ with
  | none =>
    have HB := mkHidT h
    clear h
    simp only [Option.isSome_none] at hc
    go_enter Tryz.func103, Tryz.ntmps103
    go_wp2_with fail
    go_quiet ((go_at_call 68; exact Calls.quiet_of_same (hc _ rfl)))
    go_wp2
    go_ret
    exact ⟨rfl, st_same HB.out rfl, gdrew5 _ nq _⟩
  | some p =>
    subst hsg
    simp only [Option.isSome_some] at hc
    obtain ⟨hp, hb⟩ := h
    have hfd := fun wx => find_any s p what wx hs hw hp
    rw [findZ_fz h0] at hfd
    obtain ⟨c0, c1, c2, c3, c4, f1, f2, f3, f4⟩ := block5 hb
    simp only at c0 c1 c2 c3 c4
    have HB := mkHidT hb
    clear hb c2 c3 c4 f2 f3 f4
    cases hh : hasAt s p what.data.toList with
    | true =>
      rw [(fz_at hp h0).2 hh] at hfd
      have hroom := has_room hh hp
      rw [← Lib.size_eq] at hroom
      have HH := mkHidT hh
      clear hh
      go_enter Tryz.func103, Tryz.ntmps103
      go_wp2_with fail
      go_quiet (first | (go_at_call 68; exact Calls.quiet_of_same (hc _ rfl)) | (go_at_call 33; exact Calls.quiet_of_same (hfd _)))
      go_wp2
      go_ret
      refine ⟨ret_bool HH.out.symm, ?_, gtrans5 (gdrew5 w nq _) (gset5 _)⟩
      have hnew := box_posI (W := w.drewN nq) HB.out (p + what.size) (z := (p : Int) + (what.size : Int)) (by omega)
      unfold isS
      rw [Option.map_some, if_pos HH.out, ← Lib.size_eq]
      exact ⟨hroom, hnew⟩
    | false =>
      have hne : fz s p what.data.toList ≠ (p : Int) := fun e => by rw [(fz_at hp h0).1 e] at hh; cases hh
      obtain ⟨z, hz⟩ : ∃ z, fz s p what.data.toList = z := ⟨_, rfl⟩
      rw [hz] at hfd hne
      have hnb : (z == (p : Int)) = false := by simpa using hne
      have HH := mkHidT hh
      clear hh hz
      go_enter Tryz.func103, Tryz.ntmps103
      go_wp2_with fail
      go_quiet (first | (go_at_call 68; exact Calls.quiet_of_same (hc _ rfl)) | (go_at_call 33; exact Calls.quiet_of_same (hfd _)))
      go_wp2
      go_ret
      refine ⟨ret_bool HH.out.symm, ?_, gdrew5 _ nq _⟩
      unfold isS
      rw [Option.map_some, if_neg (by rw [HH.out]; simp)]
      exact ⟨hp, HB.out⟩
theorem gap_st (h : StBox w g s σ) (hs : s.size ≤ 1048576) : Calls Tryz.prog 127 #[.pointer (some ⟨g, 0, none⟩)] w fun e w' => e = .returned (.tuple #[]) ∧ StBox w' g s (σ.bind (gapO s)) ∧ w.grownBy w' (some g) := by
  have hc := ok_st h
  cases σ with
  | none =>
    have HB := mkHidT h
    clear h
    simp only [Option.isSome_none] at hc
    go_enter Tryz.func127, Tryz.ntmps127
    go_wp2_with (go_at_call 68; refine hc.mono ?_; rintro e w' ⟨rfl, rfl⟩)
    go_end0
    exact ⟨rfl, HB.out, gdrew5 _ 0 _⟩
  | some p =>
    simp only [Option.isSome_some] at hc
    obtain ⟨hp, hb⟩ := h
    have hwh := white_any w g s _ hb hs hp
    simp only at hwh
    clear hb
    by_cases hlt : p < whiteZ s p
    · rw [decide_eq_true hlt] at hwh
      have HL := mkHidT hlt
      clear hlt
      go_enter Tryz.func127, Tryz.ntmps127
      go_wp2_with (first | (go_at_call 68; refine hc.mono ?_; rintro e w' ⟨rfl, rfl⟩) | (go_at_call 66; refine hwh.mono ?_; rintro e w2 ⟨rfl, hb2, hg2⟩))
      go_end0
      refine ⟨rfl, ?_, hg2⟩
      rw [Option.bind_some]
      unfold gapO
      rw [if_pos HL.out]
      exact ⟨whiteZ_le hp, hb2⟩
    · rw [decide_eq_false hlt] at hwh
      have HL := mkHidT hlt
      clear hlt
      go_enter Tryz.func127, Tryz.ntmps127
      go_wp2_with (first | (go_at_call 68; refine hc.mono ?_; rintro e w' ⟨rfl, rfl⟩) | (go_at_call 66; refine hwh.mono ?_; rintro e w2 ⟨rfl, hb2, hg2⟩; obtain ⟨c0, c1, c2, c3, c4, f1, f2, f3, f4⟩ := block5 hb2; replace hb2 := mkHidT hb2; replace hg2 := mkHidT hg2))
      go_end0
      refine ⟨rfl, ?_, gtrans5 hg2.out (gset5 _)⟩
      rw [Option.bind_some]
      unfold gapO
      rw [if_neg HL.out]
      exact bad_of (box_bad hb2.out) (by simp) (whiteZ_le hp)
theorem ext_one (s : ByteArray) (p : Nat) (hp : p < s.size) : (s.extract p (p + 1)).data.toList = [u8 s p] := by
  rw [Plain25.ext_list]
  have := rest_cons hp
  unfold rest at this
  rw [this, show p + 1 - p = 1 by omega]
  rfl
theorem toList_one {t : ByteArray} {c : UInt8} (h : t.data.toList = [c]) (d : UInt8) : (t.toList == (ByteArray.mk #[d]).toList) = decide (c = d) := by
  rw [ByteArray.toList_eq, ByteArray.toList_eq, h]
  by_cases hc : c = d <;> simp [hc]
set_option maxHeartbeats 1000000 in
theorem quoted_st (h : StBox w g s σ) (hs : s.size ≤ 1048576) : Calls Tryz.prog 129 #[.pointer (some ⟨g, 0, none⟩)] w fun e w' => StrSt w g s (σ.bind (qtO s)) e w' := by
  have hc := ok_st h
  cases σ with
  | none =>
    have HB := mkHidT h
    clear h
    simp only [Option.isSome_none] at hc
    go_enter Tryz.func129, Tryz.ntmps129
    go_wp2_with (go_at_call 68; refine hc.mono ?_; rintro e w' ⟨rfl, rfl⟩)
    go_ret
    exact ⟨_, rfl, HB.out, fun v hv => (by cases hv), gdrew5 _ 0 _⟩
  | some p =>
    simp only [Option.isSome_some] at hc
    obtain ⟨hp, hb⟩ := h
    have hc2 := end_any w g s _ hb (by show p ≤ _; omega)
    simp only at hc2
    clear hb
    by_cases hlt : p < s.size
    · rw [decide_eq_false (by omega), ended_in hlt] at hc2
      have hsl : ∀ wx, (Instr.slice 9 (.string s) (some (.int .i64 (p : Int))) (some (.int .i64 ((p : Int) + 1))) none).run Tryz.prog wx = .ok (.string (s.extract p (p + 1))) wx := fun wx => sub_text wx _ s p (p + 1) _ _ rfl (by omega) (by omega) (by omega) Tryz.underlying9
      obtain ⟨q, hq⟩ : ∃ q, s.extract p (p + 1) = q := ⟨_, rfl⟩
      have hql : q.data.toList = [u8 s p] := by rw [← hq]; exact ext_one s p hlt
      rw [hq] at hsl
      have e39 := toList_one hql 39
      have e34 := toList_one hql 34
      have hqs : q.size ≤ 1048576 := by rw [Lib.size_eq, hql]; simp
      have HQL := mkHidT hql
      clear hq hql
      cases hqb : quoteB (byteAt s p) with
      | true =>
        have h2 : u8 s p = 39 ∨ u8 s p = 34 := by
          unfold quoteB at hqb
          have := of_decide_eq_true hqb
          rw [Plain27.u8_byte] at this
          rcases this with h | h
          · exact .inr (UInt8.toNat.inj (by simp only [show (34 : UInt8).toNat = 34 from rfl]; omega))
          · exact .inl (UInt8.toNat.inj (by simp only [show (39 : UInt8).toNat = 39 from rfl]; omega))
        have HQB := mkHidT hqb
        clear hqb
        have main : ∀ w2 : World, ScBox w2 g s ⟨p, 0⟩ → w.grownBy w2 (some g) → ∀ n, Calls Tryz.prog 93 #[.pointer (some ⟨g, 0, none⟩), .string q] ((w2.drewN n).setCell ⟨g, 1, none⟩ (.int .i64 ((p : Int) + 1))) fun e w' => StrSt w g s ((some p).bind (qtO s)) e w' := by
          intro w2 hb2 hg2 n
          have hnew := box_posI (W := w2.drewN n) hb2 (p + 1) (z := (p : Int) + 1) (by omega)
          refine (till_call _ g s q (p + 1) [u8 s p] HQL.out hnew hs (by omega) hqs (by simp)).mono ?_
          rintro e w' ⟨t, k, rfl, hb3, hk, hT, hg3⟩
          refine ⟨t, rfl, ?_, ?_, gtrans5 hg2 (gtrans5 (gdrew5 w2 n _) (gtrans5 (gset5 _) hg3))⟩
          · refine st_of hb3 hk (fun h0 => ?_) (fun h0 => ?_)
            · rw [Option.bind_some]; unfold qtO; rw [if_pos ⟨hlt, HQB.out, h0⟩, (hT h0).2]; rfl
            · rw [Option.bind_some]; unfold qtO; rw [if_neg (fun hh => h0 hh.2.2)]; rfl
          · intro v hv
            rw [Option.bind_some] at hv
            obtain ⟨_, _, h3, h4, _⟩ := qt_some hv
            rw [(hT h3).1, h4]
        have MAIN := mkHidT main
        clear main
        have hqq : q = ⟨#[39]⟩ ∨ q = ⟨#[34]⟩ := h2.imp (fun e => Plain25.ba_ext (by rw [HQL.out, e])) (fun e => Plain25.ba_ext (by rw [HQL.out, e]))
        clear e39 e34 h2
        rcases hqq with rfl | rfl
        all_goals
          go_enter Tryz.func129, Tryz.ntmps129
          go_wp2_with (first | (go_at_call 68; refine hc.mono ?_; rintro e w' ⟨rfl, rfl⟩) | (go_at_call 88; refine hc2.mono ?_; rintro e w2 ⟨rfl, hb2, hg2⟩; obtain ⟨c0, c1, c2, c3, c4, f1, f2, f3, f4⟩ := block5 hb2; replace hb2 := mkHidT hb2; replace hg2 := mkHidT hg2))
          go_quiet (fail)
          go_wp2_with (first | (go_at_call 93; refine (MAIN.out w2 hb2.out hg2.out nq).mono ?_; rintro e w3 ⟨t, rfl, H3⟩; replace H3 := mkHidT H3))
          go_ret
          exact ⟨t, rfl, H3.out⟩
      | false =>
        have h2 : q.toList ≠ [39] ∧ q.toList ≠ [34] := by
          rw [ByteArray.toList_eq, HQL.out]
          unfold quoteB at hqb
          have := of_decide_eq_false hqb
          rw [Plain27.u8_byte] at this
          constructor
          · intro e; rw [List.cons.inj e |>.1] at this; exact this (.inr rfl)
          · intro e; rw [List.cons.inj e |>.1] at this; exact this (.inl rfl)
        have n39 : (q.toList == [39]) = false := beq_eq_false_iff_ne.2 h2.1
        have n34 : (q.toList == [34]) = false := beq_eq_false_iff_ne.2 h2.2
        clear h2
        have HQB := mkHidT hqb
        clear hqb e39 e34
        go_enter Tryz.func129, Tryz.ntmps129
        go_wp2_with (first | (go_at_call 68; refine hc.mono ?_; rintro e w' ⟨rfl, rfl⟩) | (go_at_call 88; refine hc2.mono ?_; rintro e w2 ⟨rfl, hb2, hg2⟩; obtain ⟨c0, c1, c2, c3, c4, f1, f2, f3, f4⟩ := block5 hb2; replace hb2 := mkHidT hb2; replace hg2 := mkHidT hg2))
        go_quiet (fail)
        go_wp2
        go_ret
        refine ⟨_, rfl, ?_, fun v hv => ?_, gtrans5 hg2.out (gtrans5 (gdrew5 w2 nq _) (gset5 _))⟩
        · rw [Option.bind_some]; unfold qtO; rw [if_neg (fun hh => by rw [HQB.out] at hh; cases hh.2.1)]
          exact bad_of (box_bad (W := w2.drewN nq) hb2.out) (by simp) hp
        · rw [Option.bind_some] at hv; unfold qtO at hv; rw [if_neg (fun hh => by rw [HQB.out] at hh; cases hh.2.1)] at hv; cases hv
    · rw [decide_eq_true (by omega), ended_end (by show s.size ≤ p; omega) rfl] at hc2
      go_enter Tryz.func129, Tryz.ntmps129
      go_wp2_with (first | (go_at_call 68; refine hc.mono ?_; rintro e w' ⟨rfl, rfl⟩) | (go_at_call 88; refine hc2.mono ?_; rintro e w2 ⟨rfl, hb2, hg2⟩; replace hb2 := mkHidT hb2; replace hg2 := mkHidT hg2))
      go_ret
      have hno : qtO s p = none := by unfold qtO; rw [if_neg (fun hh => hlt hh.1)]
      refine ⟨_, rfl, ?_, fun v hv => ?_, hg2.out⟩
      · rw [Option.bind_some, hno]; exact bad_of hb2.out (by simp) hp
      · rw [Option.bind_some, hno] at hv; cases hv
end Go.Proofs.YteebdfcegndaoaaGreatDoor

namespace Go.Proofs.YteebdfcegndaoaaGreatDoor
open Go.RowKit Plain1 Strs Strs2 Lists Plain3 Plain5 Plain6 Plain9 Plain10 Plain11 Plain23 Plain24 Plain28
variable {w w' : World} {g : Nat} {s : ByteArray} {σ : Option Nat}

theorem till_fails (w : World) (g : Nat) (s what : ByteArray) (p : Nat) (sg : List UInt8) (hsg : what.data.toList = sg) (h : ScBox w g s ⟨p, 0⟩) (hs : s.size ≤ 1048576) (hp : p ≤ s.size) (hw : what.size ≤ 1048576) (hw0 : sg ≠ []) (hf : upF s p sg ≠ 0) :
    Calls Tryz.prog 93 #[.pointer (some ⟨g, 0, none⟩), .string what] w fun e w' => e = .returned (.string ⟨#[]⟩) ∧ ScBox w' g s ⟨s.size, 1⟩ ∧ w.grownBy w' (some g) := by
  subst hsg
  have hc := ok_any w g s _ h
  simp only [decide_true] at hc
  have hfind := fun wx => find_any s p what wx hs hw hp
  simp only [findZ_fz hw0] at hfind
  obtain ⟨c0, c1, c2, c3, c4, f1, f2, f3, f4⟩ := block0 h
  have HB := mkHidT h
  clear h hw0
  have hz : fz s p what.data.toList = -1 := by
    apply Decidable.byContradiction
    intro hh
    exact hf (by unfold upF; rw [if_neg hh])
  rw [hz] at hfind
  clear hz hf
  go_enter Tryz.func93, Tryz.ntmps93
  go_wp2_with (go_at_call 68; refine hc.mono ?_; rintro e w' ⟨rfl, hww⟩; obtain rfl := hww.symm)
  go_quiet ((go_at_call 33; exact Calls.quiet_of_same (hfind _)))
  go_wp2
  go_ret
  exact ⟨rfl, box_short (box_pos (W := w.drewN _) HB.out s.size), gtrans5 (gdrew5 w _ _) (gtrans5 (gset5 _) (gset5 _))⟩
/-- What quoted reads: of a fault the empty text. -/
def StrQ (w : World) (g : Nat) (s : ByteArray) (R : Option (ByteArray × Nat)) (e : Ending) (w' : World) : Prop :=
  ∃ t, e = .returned (.string t) ∧ StBox w' g s (R.map (·.2)) ∧ (∀ v, R = some v → t = v.1) ∧ (R = none → t = ⟨#[]⟩) ∧ w.grownBy w' (some g)
set_option maxHeartbeats 1000000 in
theorem quoted_sq (h : StBox w g s σ) (hs : s.size ≤ 1048576) : Calls Tryz.prog 129 #[.pointer (some ⟨g, 0, none⟩)] w fun e w' => StrQ w g s (σ.bind (qtO s)) e w' := by
  have hc := ok_st h
  cases σ with
  | none =>
    have HB := mkHidT h
    clear h
    simp only [Option.isSome_none] at hc
    go_enter Tryz.func129, Tryz.ntmps129
    go_wp2_with (go_at_call 68; refine hc.mono ?_; rintro e w' ⟨rfl, rfl⟩)
    go_ret
    exact ⟨_, rfl, HB.out, fun v hv => (by cases hv), fun _ => rfl, gdrew5 _ 0 _⟩
  | some p =>
    simp only [Option.isSome_some] at hc
    obtain ⟨hp, hb⟩ := h
    have hc2 := end_any w g s _ hb (by show p ≤ _; omega)
    simp only at hc2
    clear hb
    by_cases hlt : p < s.size
    · rw [decide_eq_false (by omega), ended_in hlt] at hc2
      have hsl : ∀ wx, (Instr.slice 9 (.string s) (some (.int .i64 (p : Int))) (some (.int .i64 ((p : Int) + 1))) none).run Tryz.prog wx = .ok (.string (s.extract p (p + 1))) wx := fun wx => sub_text wx _ s p (p + 1) _ _ rfl (by omega) (by omega) (by omega) Tryz.underlying9
      obtain ⟨q, hq⟩ : ∃ q, s.extract p (p + 1) = q := ⟨_, rfl⟩
      have hql : q.data.toList = [u8 s p] := by rw [← hq]; exact ext_one s p hlt
      rw [hq] at hsl
      have e39 := toList_one hql 39
      have e34 := toList_one hql 34
      have hqs : q.size ≤ 1048576 := by rw [Lib.size_eq, hql]; simp
      have HQL := mkHidT hql
      clear hq hql
      cases hqb : quoteB (byteAt s p) with
      | true =>
        have h2 : u8 s p = 39 ∨ u8 s p = 34 := by
          unfold quoteB at hqb
          have := of_decide_eq_true hqb
          rw [Plain27.u8_byte] at this
          rcases this with h | h
          · exact .inr (UInt8.toNat.inj (by simp only [show (34 : UInt8).toNat = 34 from rfl]; omega))
          · exact .inl (UInt8.toNat.inj (by simp only [show (39 : UInt8).toNat = 39 from rfl]; omega))
        have HQB := mkHidT hqb
        clear hqb
        have main : ∀ w2 : World, ScBox w2 g s ⟨p, 0⟩ → w.grownBy w2 (some g) → ∀ n, Calls Tryz.prog 93 #[.pointer (some ⟨g, 0, none⟩), .string q] ((w2.drewN n).setCell ⟨g, 1, none⟩ (.int .i64 ((p : Int) + 1))) fun e w' => StrQ w g s ((some p).bind (qtO s)) e w' := by
          intro w2 hb2 hg2 n
          have hnew := box_posI (W := w2.drewN n) hb2 (p + 1) (z := (p : Int) + 1) (by omega)
          by_cases hup : upF s (p + 1) [u8 s p] = 0
          · refine (till_call _ g s q (p + 1) [u8 s p] HQL.out hnew hs (by omega) hqs (by simp)).mono ?_
            rintro e w' ⟨t, k, rfl, hb3, hk, hT, hg3⟩
            have hqt : qtO s p = some (upT s (p + 1) [u8 s p], upP s (p + 1) [u8 s p]) := by unfold qtO; rw [if_pos ⟨hlt, HQB.out, hup⟩]
            refine ⟨t, rfl, ?_, ?_, ?_, gtrans5 hg2 (gtrans5 (gdrew5 w2 n _) (gtrans5 (gset5 _) hg3))⟩
            · rw [Option.bind_some, hqt]
              rw [hup] at hb3
              show StBox w' g s (some (upP s (p + 1) [u8 s p]))
              rw [← (hT hup).2]
              exact ⟨hk, hb3⟩
            · intro v hv
              rw [Option.bind_some, hqt] at hv
              cases hv
              exact (hT hup).1
            · intro hv; rw [Option.bind_some, hqt] at hv; cases hv
          · refine (till_fails _ g s q (p + 1) [u8 s p] HQL.out hnew hs (by omega) hqs (by simp) hup).mono ?_
            rintro e w' ⟨rfl, hb3, hg3⟩
            have hqt : qtO s p = none := by unfold qtO; rw [if_neg (fun hh => hup hh.2.2)]
            refine ⟨_, rfl, ?_, ?_, fun _ => rfl, gtrans5 hg2 (gtrans5 (gdrew5 w2 n _) (gtrans5 (gset5 _) hg3))⟩
            · rw [Option.bind_some, hqt]
              exact bad_of hb3 (by simp) (Nat.le_refl _)
            · intro v hv; rw [Option.bind_some, hqt] at hv; cases hv
        have MAIN := mkHidT main
        clear main
        have hqq : q = ⟨#[39]⟩ ∨ q = ⟨#[34]⟩ := h2.imp (fun e => Plain25.ba_ext (by rw [HQL.out, e])) (fun e => Plain25.ba_ext (by rw [HQL.out, e]))
        clear e39 e34 h2
        rcases hqq with rfl | rfl
        all_goals
          go_enter Tryz.func129, Tryz.ntmps129
          go_wp2_with (first | (go_at_call 68; refine hc.mono ?_; rintro e w' ⟨rfl, rfl⟩) | (go_at_call 88; refine hc2.mono ?_; rintro e w2 ⟨rfl, hb2, hg2⟩; obtain ⟨c0, c1, c2, c3, c4, f1, f2, f3, f4⟩ := block5 hb2; replace hb2 := mkHidT hb2; replace hg2 := mkHidT hg2))
          go_quiet (fail)
          go_wp2_with (first | (go_at_call 93; refine (MAIN.out w2 hb2.out hg2.out nq).mono ?_; rintro e w3 ⟨t, rfl, H3⟩; replace H3 := mkHidT H3))
          go_ret
          exact ⟨t, rfl, H3.out⟩
      | false =>
        have h2 : q.toList ≠ [39] ∧ q.toList ≠ [34] := by
          rw [ByteArray.toList_eq, HQL.out]
          unfold quoteB at hqb
          have := of_decide_eq_false hqb
          rw [Plain27.u8_byte] at this
          constructor
          · intro e; rw [List.cons.inj e |>.1] at this; exact this (.inr rfl)
          · intro e; rw [List.cons.inj e |>.1] at this; exact this (.inl rfl)
        have n39 : (q.toList == [39]) = false := beq_eq_false_iff_ne.2 h2.1
        have n34 : (q.toList == [34]) = false := beq_eq_false_iff_ne.2 h2.2
        clear h2
        have HQB := mkHidT hqb
        clear hqb e39 e34
        go_enter Tryz.func129, Tryz.ntmps129
        go_wp2_with (first | (go_at_call 68; refine hc.mono ?_; rintro e w' ⟨rfl, rfl⟩) | (go_at_call 88; refine hc2.mono ?_; rintro e w2 ⟨rfl, hb2, hg2⟩; obtain ⟨c0, c1, c2, c3, c4, f1, f2, f3, f4⟩ := block5 hb2; replace hb2 := mkHidT hb2; replace hg2 := mkHidT hg2))
        go_quiet (fail)
        go_wp2
        go_ret
        refine ⟨_, rfl, ?_, fun v hv => ?_, fun _ => rfl, gtrans5 hg2.out (gtrans5 (gdrew5 w2 nq _) (gset5 _))⟩
        · rw [Option.bind_some]; unfold qtO; rw [if_neg (fun hh => by rw [HQB.out] at hh; cases hh.2.1)]
          exact bad_of (box_bad (W := w2.drewN nq) hb2.out) (by simp) hp
        · rw [Option.bind_some] at hv; unfold qtO at hv; rw [if_neg (fun hh => by rw [HQB.out] at hh; cases hh.2.1)] at hv; cases hv
    · rw [decide_eq_true (by omega), ended_end (by show s.size ≤ p; omega) rfl] at hc2
      go_enter Tryz.func129, Tryz.ntmps129
      go_wp2_with (first | (go_at_call 68; refine hc.mono ?_; rintro e w' ⟨rfl, rfl⟩) | (go_at_call 88; refine hc2.mono ?_; rintro e w2 ⟨rfl, hb2, hg2⟩; replace hb2 := mkHidT hb2; replace hg2 := mkHidT hg2))
      go_ret
      have hno : qtO s p = none := by unfold qtO; rw [if_neg (fun hh => hlt hh.1)]
      refine ⟨_, rfl, ?_, fun v hv => ?_, fun _ => rfl, hg2.out⟩
      · rw [Option.bind_some, hno]; exact bad_of hb2.out (by simp) hp
      · rw [Option.bind_some, hno] at hv; cases hv
end Go.Proofs.YteebdfcegndaoaaGreatDoor

namespace Go.Proofs.YteebdfcegndaoaaGreatDoor
open Go.RowKit Plain1 Strs Strs2 Lists Plain3 Plain5 Plain6 Plain9 Plain10 Plain11 Plain23 Plain24 Plain27 Plain28

/-- Is there a character's number at a place? -/
def chB (s : ByteArray) (p : Nat) : Bool := hasAt s (p + 1) [35] && decide (numOk s (p + 2))
theorem has_oneT {s : ByteArray} {p : Nat} (hp : p < s.size) (c : UInt8) : hasAt s p [c] = decide (byteAt s p = (c.toNat : Int)) := by
  cases h : hasAt s p [c] with
  | true => exact (decide_eq_true (byteAt_of_cons h hp)).symm
  | false =>
    symm
    apply decide_eq_false
    intro e
    have : hasAt s p [c] = true := by
      unfold hasAt
      rw [rest_cons hp]
      rw [byteAt_head] at e
      have : s.data.toList.getD p 0 = c := UInt8.toNat.inj (by omega)
      rw [this]; simp
    rw [h] at this; cases this
theorem has_past {s : ByteArray} {p : Nat} (hp : s.size ≤ p) (c : UInt8) (sg : List UInt8) : hasAt s p (c :: sg) = false := by
  unfold hasAt; rw [rest_nil hp]; rfl
theorem num_past {s : ByteArray} {p : Nat} (hp : s.size ≤ p) : ¬ numOk s p := by
  rintro ⟨h1, _⟩
  unfold numD at h1
  have hl := digs_le (numBase s p) (rest s (numAt s p))
  have ha : p ≤ numAt s p := by unfold numAt; split <;> omega
  rw [rest_nil (by omega)] at hl
  simp only [List.length_nil] at hl
  rw [rest_nil (by omega)] at h1
  omega
theorem getD_rest (s : ByteArray) (p j : Nat) : (rest s p).getD j 0 = s.data.toList.getD (p + j) 0 := by
  unfold rest; simp only [List.getD, List.getElem?_drop]
set_option maxHeartbeats 8000000 in
set_option maxRecDepth 100000 in
theorem char_any (s : ByteArray) (p : Nat) (w : World) (hs : s.size ≤ 1048576) (hp : p < s.size) (h38 : byteAt s p = 38) :
    Calls Tryz.prog 145 #[.string s, .int .i64 p] w fun e w' => ∃ (n : Int) (q : Nat), e = .returned (.tuple #[.int .i64 n, .int .i64 q, .bool (chB s p)]) ∧ (chB s p = true → n = (numV s (p + 2) : Int) ∧ q = numAt s (p + 2) + (numD s (p + 2)).length + 1) ∧ ∃ m, w' = w.drewN m := by
  have hi0 : ∀ wx, (Instr.index 9 (.string s) (.int .i64 (p : Int))).run Tryz.prog wx = .ok (.int .u8 38) wx := fun wx => by rw [run_index_byte wx 9 s p hp Tryz.underlying9, h38]
  by_cases h2 : p + 2 < s.size
  · obtain ⟨b1, hb1⟩ : ∃ b, byteAt s (p + 1) = b := ⟨_, rfl⟩
    have hd1 := byteAt_bd s (p + 1)
    rw [hb1] at hd1
    have hi1 : ∀ wx, (Instr.index 9 (.string s) (.int .i64 ((p : Int) + 1))).run Tryz.prog wx = .ok (.int .u8 b1) wx := fun wx => by
      have := run_index_byte (P := Tryz.prog) wx 9 s (p + 1) (by omega) Tryz.underlying9
      rw [hb1] at this
      simpa using this
    by_cases h35 : b1 = 35
    · subst h35
      have hh1 : hasAt s (p + 1) [35] = true := by rw [has_oneT (by omega), hb1]; rfl
      have hcb : chB s p = decide (numOk s (p + 2)) := by unfold chB; rw [hh1]; rfl
      obtain ⟨b2, hb2⟩ : ∃ b, byteAt s (p + 2) = b := ⟨_, rfl⟩
      have hi2 : ∀ wx, (Instr.index 9 (.string s) (.int .i64 ((p : Int) + 2))).run Tryz.prog wx = .ok (.int .u8 b2) wx := fun wx => by
        have := run_index_byte (P := Tryz.prog) wx 9 s (p + 2) (by omega) Tryz.underlying9
        rw [hb2] at this
        simpa using this
      have key : (b2 = 120 ∧ numBase s (p + 2) = 16 ∧ numAt s (p + 2) = p + 3) ∨ (¬ b2 = 120 ∧ numBase s (p + 2) = 10 ∧ numAt s (p + 2) = p + 2) := by
        have := has_oneT h2 120
        rw [hb2] at this
        by_cases hx : b2 = 120
        · left
          have : hasAt s (p + 2) [120] = true := by rw [this, hx]; rfl
          unfold numBase numAt
          rw [if_pos this, if_pos this]; exact ⟨hx, rfl, rfl⟩
        · right
          have : hasAt s (p + 2) [120] = false := by rw [this]; exact decide_eq_false hx
          unfold numBase numAt
          rw [if_neg (by rw [this]; simp), if_neg (by rw [this]; simp)]; exact ⟨hx, rfl, rfl⟩
      obtain ⟨B, hB⟩ : ∃ B, numBase s (p + 2) = B := ⟨_, rfl⟩
      obtain ⟨F, hF⟩ : ∃ F, numAt s (p + 2) = F := ⟨_, rfl⟩
      obtain ⟨L, hL⟩ : ∃ L, rest s F = L := ⟨_, rfl⟩
      obtain ⟨D, hD⟩ : ∃ D, (digs B L).length = D := ⟨_, rfl⟩
      have hLs : L.length = s.size - F := by rw [← hL, rest_len]
      have hBs : B = 10 ∨ B = 16 := by rw [← hB]; exact base_two s (p + 2)
      have hnD : (numD s (p + 2)).length = D := by unfold numD; rw [hB, hF, hL, hD]
      have hnV : numV s (p + 2) = digX B (L.take D) := by rw [numV_take, hnD, hB, hF, hL]
      have hFs : F ≤ p + 3 := by rw [← hF]; unfold numAt; split <;> omega
      have hcb2 : chB s p = (decide (1 ≤ D) && (decide (D ≤ 8) && (hasAt s (F + D) [59] && charB (digX B (L.take D))))) := by
        rw [hcb]
        apply Bool.eq_iff_iff.2
        rw [decide_eq_true_iff]
        unfold numOk
        rw [hnD, hF, hnV]
        simp
      have hbyte : ∀ j, F + j < s.size → byteAt s (F + j) = ((L.getD j 0).toNat : Int) := by
        intro j _
        rw [byteAt_head, ← hL, getD_rest]
      have hend : D ≤ L.length := by rw [← hD]; exact digs_le B L
      have HF : Hid (numAt s (p + 2) = F) := hF
      have HV : Hid (numV s (p + 2) = digX B (L.take D)) := hnV
      have HN : Hid ((numD s (p + 2)).length = D) := hnD
      have HCB : Hid (chB s p = (decide (1 ≤ D) && (decide (D ≤ 8) && (hasAt s (F + D) [59] && charB (digX B (L.take D)))))) := hcb2
      have HD : Hid ((digs B L).length = D) := hD
      have HBY := mkHidT hbyte
      have HBS := mkHidT hBs
      rw [hB, hF] at key
      clear hcb hcb2 hnV hnD hF hB hL hD hbyte hh1 hb1 hb2 hd1 hBs
      rcases key with ⟨hx, hB, hF⟩ | ⟨hx, hB, hF⟩
      · subst hB hF
        go_enter Tryz.func145, Tryz.ntmps145
        go_wp2_with fail
        go_loopw [8, 10] (fun i n wr => ∃ j : Nat, j ≤ 9 ∧ j ≤ D ∧ i = .int .i64 ((p : Int) + 3 + j) ∧ n = .int .i64 (digX 16 (L.take j) : Int) ∧ wr = w) (fun i _ _ => s.size - (intOf i).toNat)
        case atStart => exact ⟨0, by omega, Nat.zero_le _, by go_num, by simp [digX], rfl⟩
        case round =>
          obtain ⟨j, hj9, hjD, rfl, rfl, hwr⟩ := hrel
          obtain rfl := hwr.symm
          have hX := digX_bound (j := j) (base := 16) (l := L) (by omega) (by rw [HD.out]; exact hjD) hj9
          obtain ⟨X, hXe⟩ : ∃ X, digX 16 (L.take j) = X := ⟨_, rfl⟩
          rw [hXe] at hX ⊢
          have HX := mkHidT hXe
          clear hXe
          by_cases hlt : p + 3 + j < s.size
          · obtain ⟨b, hb⟩ : ∃ b, byteAt s (p + 3 + j) = b := ⟨_, rfl⟩
            have hbd := byteAt_bd s (p + 3 + j)
            have hby := HBY.out j hlt
            rw [hb] at hbd hby
            obtain ⟨hb0, hb1⟩ := hbd
            have hix : ∀ wx, (Instr.index 9 (.string s) (.int .i64 ((p : Int) + 3 + j))).run Tryz.prog wx = .ok (.int .u8 b) wx := fun wx => by
              have := run_index_byte (P := Tryz.prog) wx 9 s (p + 3 + j) hlt Tryz.underlying9
              rw [hb] at this
              simpa using this
            have hdv := digV_byte (L.getD j 0)
            rw [← hby] at hdv
            obtain ⟨V, hV⟩ : ∃ V, digV (L.getD j 0) = V := ⟨_, rfl⟩
            rw [hV] at hdv
            have HV2 := mkHidT hV
            have HBB := mkHidT hb
            clear hV hby hb
            have hlti : (p : Int) + 3 + j < (s.size : Int) := by omega
            by_cases h8 : j ≤ 8
            · by_cases hvb : V < 16
              · have hon : j + 1 ≤ D := by
                  have := digs_on 16 L j (by rw [HD.out]; exact hjD) (by omega) (by rw [HV2.out]; exact hvb)
                  rw [HD.out] at this; exact this
                have HNX : Hid (digX 16 (L.take (j + 1)) = 16 * X + V) := mkHidT (by rw [digX_take (by omega), HX.out, HV2.out])
                have hr : (48 ≤ b ∧ b ≤ 57 ∧ (V : Int) = b - 48) ∨ (97 ≤ b ∧ b ≤ 102 ∧ (V : Int) = b - 97 + 10) ∨ (65 ≤ b ∧ b ≤ 70 ∧ (V : Int) = b - 65 + 10) := by
                  split at hdv
                  · omega
                  split at hdv
                  · omega
                  split at hdv
                  · omega
                  · omega
                clear hdv hvb
                rcases hr with ⟨r1, r2, r3⟩ | ⟨r1, r2, r3⟩ | ⟨r1, r2, r3⟩
                · have HR3 := mkHidT r3
                  clear r3
                  go_wp2
                  go_roundw
                  case rel => exact ⟨j + 1, by omega, hon, by go_num, by rw [HNX.out]; have := HR3.out; go_num, by first | rfl | trivial⟩
                  case measure => simp [intOf]; omega
                · have HR3 := mkHidT r3
                  clear r3
                  go_wp2
                  go_roundw
                  case rel => exact ⟨j + 1, by omega, hon, by go_num, by rw [HNX.out]; have := HR3.out; go_num, by first | rfl | trivial⟩
                  case measure => simp [intOf]; omega
                · have HR3 := mkHidT r3
                  clear r3
                  go_wp2
                  go_roundw
                  case rel => exact ⟨j + 1, by omega, hon, by go_num, by rw [HNX.out]; have := HR3.out; go_num, by first | rfl | trivial⟩
                  case measure => simp [intOf]; omega
              · have hst : j = D := by
                  have := digs_stop 16 L j (by rw [HD.out]; exact hjD) (by omega) (by rw [HV2.out]; exact hvb)
                  rw [HD.out] at this; exact this.symm
                subst hst
                have hiv : (b < 48) ∨ (58 ≤ b ∧ b ≤ 64) ∨ (71 ≤ b ∧ b ≤ 96) ∨ (103 ≤ b) := by
                  split at hdv
                  · omega
                  split at hdv
                  · omega
                  split at hdv
                  · omega
                  · omega
                clear hdv hvb
                rcases hiv with v1 | ⟨v1, v2⟩ | ⟨v1, v2⟩ | v1
                · by_cases hj1 : j < 1
                  · go_wp2
                    go_ret3
                    exact ⟨(X : Int), p + 3 + j + 1, by rw [HCB.out, decide_eq_false (by omega : ¬ 1 ≤ j)]; rfl, fun h => (by rw [HCB.out, decide_eq_false (by omega : ¬ 1 ≤ j)] at h; cases h), 0, rfl⟩
                  · have hns : hasAt s (p + 3 + j) [59] = false := by rw [has_oneT hlt, HBB.out]; exact decide_eq_false (by simp only [show ((59 : UInt8).toNat : Int) = 59 from rfl]; omega)
                    have HNS := mkHidT hns
                    clear hns
                    go_wp2
                    go_ret3
                    exact ⟨(X : Int), p + 3 + j + 1, by rw [HCB.out, HNS.out]; simp, fun h => (by rw [HCB.out, HNS.out] at h; simp at h), 0, rfl⟩
                · by_cases hj1 : j < 1
                  · go_wp2
                    go_ret3
                    exact ⟨(X : Int), p + 3 + j + 1, by rw [HCB.out, decide_eq_false (by omega : ¬ 1 ≤ j)]; rfl, fun h => (by rw [HCB.out, decide_eq_false (by omega : ¬ 1 ≤ j)] at h; cases h), 0, rfl⟩
                  · by_cases h59 : b = 59
                    · obtain rfl := h59
                      have hns : hasAt s (p + 3 + j) [59] = true := by rw [has_oneT hlt, HBB.out]; rfl
                      have HNS := mkHidT hns
                      clear hns
                      go_wp2_with (go_at_call 86; refine (specChar_any _ _).mono ?_; rintro e w' ⟨rfl, rfl⟩)
                      go_ret3
                      refine ⟨(X : Int), p + 3 + j + 1, by rw [HCB.out, HNS.out, HX.out, decide_eq_true (by omega : 1 ≤ j), decide_eq_true h8]; first | rfl | simp, fun _ => ⟨by rw [HV.out, HX.out], by rw [HF.out, HN.out]⟩, 0, rfl⟩
                    · have h59b : (b == 59) = false := by simpa using h59
                      have hns : hasAt s (p + 3 + j) [59] = false := by rw [has_oneT hlt, HBB.out]; exact decide_eq_false (by simp only [show ((59 : UInt8).toNat : Int) = 59 from rfl]; omega)
                      clear h59
                      have HNS := mkHidT hns
                      clear hns
                      go_wp2
                      go_ret3
                      exact ⟨(X : Int), p + 3 + j + 1, by rw [HCB.out, HNS.out]; simp, fun h => (by rw [HCB.out, HNS.out] at h; simp at h), 0, rfl⟩
                · by_cases hj1 : j < 1
                  · go_wp2
                    go_ret3
                    exact ⟨(X : Int), p + 3 + j + 1, by rw [HCB.out, decide_eq_false (by omega : ¬ 1 ≤ j)]; rfl, fun h => (by rw [HCB.out, decide_eq_false (by omega : ¬ 1 ≤ j)] at h; cases h), 0, rfl⟩
                  · have hns : hasAt s (p + 3 + j) [59] = false := by rw [has_oneT hlt, HBB.out]; exact decide_eq_false (by simp only [show ((59 : UInt8).toNat : Int) = 59 from rfl]; omega)
                    have HNS := mkHidT hns
                    clear hns
                    go_wp2
                    go_ret3
                    exact ⟨(X : Int), p + 3 + j + 1, by rw [HCB.out, HNS.out]; simp, fun h => (by rw [HCB.out, HNS.out] at h; simp at h), 0, rfl⟩
                · by_cases hj1 : j < 1
                  · go_wp2
                    go_ret3
                    exact ⟨(X : Int), p + 3 + j + 1, by rw [HCB.out, decide_eq_false (by omega : ¬ 1 ≤ j)]; rfl, fun h => (by rw [HCB.out, decide_eq_false (by omega : ¬ 1 ≤ j)] at h; cases h), 0, rfl⟩
                  · have hns : hasAt s (p + 3 + j) [59] = false := by rw [has_oneT hlt, HBB.out]; exact decide_eq_false (by simp only [show ((59 : UInt8).toNat : Int) = 59 from rfl]; omega)
                    have HNS := mkHidT hns
                    clear hns
                    go_wp2
                    go_ret3
                    exact ⟨(X : Int), p + 3 + j + 1, by rw [HCB.out, HNS.out]; simp, fun h => (by rw [HCB.out, HNS.out] at h; simp at h), 0, rfl⟩
            · have hD9 : ¬ D ≤ 8 := by omega
              have hj9e : 8 < j := by omega
              clear hdv
              go_wp2
              go_ret3
              exact ⟨(X : Int), p + 3 + j + 1, by rw [HCB.out, decide_eq_false hD9]; simp, fun h => (by rw [HCB.out, decide_eq_false hD9] at h; simp at h), 0, rfl⟩
          · have hst : j = D := by omega
            subst hst
            have hns : hasAt s (p + 3 + j) [59] = false := has_past (by omega) 59 []
            have HNS := mkHidT hns
            clear hns
            have hlti : ¬ (p : Int) + 3 + j < (s.size : Int) := by omega
            by_cases hj1 : j < 1
            · go_wp2
              go_ret3
              exact ⟨(X : Int), p + 3 + j + 1, by rw [HCB.out, decide_eq_false (by omega : ¬ 1 ≤ j)]; rfl, fun h => (by rw [HCB.out, decide_eq_false (by omega : ¬ 1 ≤ j)] at h; cases h), 0, rfl⟩
            · by_cases h8 : j ≤ 8
              · go_wp2
                go_ret3
                exact ⟨(X : Int), p + 3 + j + 1, by rw [HCB.out, HNS.out]; simp, fun h => (by rw [HCB.out, HNS.out] at h; simp at h), 0, rfl⟩
              · go_wp2
                go_ret3
                exact ⟨(X : Int), p + 3 + j + 1, by rw [HCB.out, HNS.out]; simp, fun h => (by rw [HCB.out, HNS.out] at h; simp at h), 0, rfl⟩
      · subst hB hF
        go_enter Tryz.func145, Tryz.ntmps145
        go_wp2_with fail
        go_loopw [8, 10] (fun i n wr => ∃ j : Nat, j ≤ 9 ∧ j ≤ D ∧ i = .int .i64 ((p : Int) + 2 + j) ∧ n = .int .i64 (digX 10 (L.take j) : Int) ∧ wr = w) (fun i _ _ => s.size - (intOf i).toNat)
        case atStart => exact ⟨0, by omega, Nat.zero_le _, by go_num, by simp [digX], rfl⟩
        case round =>
          obtain ⟨j, hj9, hjD, rfl, rfl, hwr⟩ := hrel
          obtain rfl := hwr.symm
          have hX := digX_bound (j := j) (base := 10) (l := L) (by omega) (by rw [HD.out]; exact hjD) hj9
          obtain ⟨X, hXe⟩ : ∃ X, digX 10 (L.take j) = X := ⟨_, rfl⟩
          rw [hXe] at hX ⊢
          have HX := mkHidT hXe
          clear hXe
          by_cases hlt : p + 2 + j < s.size
          · obtain ⟨b, hb⟩ : ∃ b, byteAt s (p + 2 + j) = b := ⟨_, rfl⟩
            have hbd := byteAt_bd s (p + 2 + j)
            have hby := HBY.out j hlt
            rw [hb] at hbd hby
            obtain ⟨hb0, hb1⟩ := hbd
            have hix : ∀ wx, (Instr.index 9 (.string s) (.int .i64 ((p : Int) + 2 + j))).run Tryz.prog wx = .ok (.int .u8 b) wx := fun wx => by
              have := run_index_byte (P := Tryz.prog) wx 9 s (p + 2 + j) hlt Tryz.underlying9
              rw [hb] at this
              simpa using this
            have hdv := digV_byte (L.getD j 0)
            rw [← hby] at hdv
            obtain ⟨V, hV⟩ : ∃ V, digV (L.getD j 0) = V := ⟨_, rfl⟩
            rw [hV] at hdv
            have HV2 := mkHidT hV
            have HBB := mkHidT hb
            clear hV hby hb
            have hlti : (p : Int) + 2 + j < (s.size : Int) := by omega
            by_cases h8 : j ≤ 8
            · by_cases hvb : V < 10
              · have hon : j + 1 ≤ D := by
                  have := digs_on 10 L j (by rw [HD.out]; exact hjD) (by omega) (by rw [HV2.out]; exact hvb)
                  rw [HD.out] at this; exact this
                have HNX : Hid (digX 10 (L.take (j + 1)) = 10 * X + V) := mkHidT (by rw [digX_take (by omega), HX.out, HV2.out])
                have hr : (48 ≤ b ∧ b ≤ 57 ∧ (V : Int) = b - 48) := by
                  split at hdv
                  · omega
                  split at hdv
                  · omega
                  split at hdv
                  · omega
                  · omega
                clear hdv hvb
                obtain ⟨r1, r2, r3⟩ := hr
                have HR3 := mkHidT r3
                clear r3
                go_wp2
                go_roundw
                case rel => exact ⟨j + 1, by omega, hon, by go_num, by rw [HNX.out]; have := HR3.out; go_num, by first | rfl | trivial⟩
                case measure => simp [intOf]; omega
              · have hst : j = D := by
                  have := digs_stop 10 L j (by rw [HD.out]; exact hjD) (by omega) (by rw [HV2.out]; exact hvb)
                  rw [HD.out] at this; exact this.symm
                subst hst
                have hiv : (b < 48) ∨ (58 ≤ b ∧ b ≤ 64) ∨ (71 ≤ b ∧ b ≤ 96) ∨ (103 ≤ b) ∨ (97 ≤ b ∧ b ≤ 102) ∨ (65 ≤ b ∧ b ≤ 70) := by
                  split at hdv
                  · omega
                  split at hdv
                  · omega
                  split at hdv
                  · omega
                  · omega
                clear hdv hvb
                rcases hiv with v1 | ⟨v1, v2⟩ | ⟨v1, v2⟩ | v1 | ⟨v1, v2⟩ | ⟨v1, v2⟩
                · by_cases hj1 : j < 1
                  · go_wp2
                    go_ret3
                    exact ⟨(X : Int), p + 2 + j + 1, by rw [HCB.out, decide_eq_false (by omega : ¬ 1 ≤ j)]; rfl, fun h => (by rw [HCB.out, decide_eq_false (by omega : ¬ 1 ≤ j)] at h; cases h), 0, rfl⟩
                  · have hns : hasAt s (p + 2 + j) [59] = false := by rw [has_oneT hlt, HBB.out]; exact decide_eq_false (by simp only [show ((59 : UInt8).toNat : Int) = 59 from rfl]; omega)
                    have HNS := mkHidT hns
                    clear hns
                    go_wp2
                    go_ret3
                    exact ⟨(X : Int), p + 2 + j + 1, by rw [HCB.out, HNS.out]; simp, fun h => (by rw [HCB.out, HNS.out] at h; simp at h), 0, rfl⟩
                · by_cases hj1 : j < 1
                  · go_wp2
                    go_ret3
                    exact ⟨(X : Int), p + 2 + j + 1, by rw [HCB.out, decide_eq_false (by omega : ¬ 1 ≤ j)]; rfl, fun h => (by rw [HCB.out, decide_eq_false (by omega : ¬ 1 ≤ j)] at h; cases h), 0, rfl⟩
                  · by_cases h59 : b = 59
                    · obtain rfl := h59
                      have hns : hasAt s (p + 2 + j) [59] = true := by rw [has_oneT hlt, HBB.out]; rfl
                      have HNS := mkHidT hns
                      clear hns
                      go_wp2_with (go_at_call 86; refine (specChar_any _ _).mono ?_; rintro e w' ⟨rfl, rfl⟩)
                      go_ret3
                      refine ⟨(X : Int), p + 2 + j + 1, by rw [HCB.out, HNS.out, HX.out, decide_eq_true (by omega : 1 ≤ j), decide_eq_true h8]; first | rfl | simp, fun _ => ⟨by rw [HV.out, HX.out], by rw [HF.out, HN.out]⟩, 0, rfl⟩
                    · have h59b : (b == 59) = false := by simpa using h59
                      have hns : hasAt s (p + 2 + j) [59] = false := by rw [has_oneT hlt, HBB.out]; exact decide_eq_false (by simp only [show ((59 : UInt8).toNat : Int) = 59 from rfl]; omega)
                      clear h59
                      have HNS := mkHidT hns
                      clear hns
                      go_wp2
                      go_ret3
                      exact ⟨(X : Int), p + 2 + j + 1, by rw [HCB.out, HNS.out]; simp, fun h => (by rw [HCB.out, HNS.out] at h; simp at h), 0, rfl⟩
                · by_cases hj1 : j < 1
                  · go_wp2
                    go_ret3
                    exact ⟨(X : Int), p + 2 + j + 1, by rw [HCB.out, decide_eq_false (by omega : ¬ 1 ≤ j)]; rfl, fun h => (by rw [HCB.out, decide_eq_false (by omega : ¬ 1 ≤ j)] at h; cases h), 0, rfl⟩
                  · have hns : hasAt s (p + 2 + j) [59] = false := by rw [has_oneT hlt, HBB.out]; exact decide_eq_false (by simp only [show ((59 : UInt8).toNat : Int) = 59 from rfl]; omega)
                    have HNS := mkHidT hns
                    clear hns
                    go_wp2
                    go_ret3
                    exact ⟨(X : Int), p + 2 + j + 1, by rw [HCB.out, HNS.out]; simp, fun h => (by rw [HCB.out, HNS.out] at h; simp at h), 0, rfl⟩
                · by_cases hj1 : j < 1
                  · go_wp2
                    go_ret3
                    exact ⟨(X : Int), p + 2 + j + 1, by rw [HCB.out, decide_eq_false (by omega : ¬ 1 ≤ j)]; rfl, fun h => (by rw [HCB.out, decide_eq_false (by omega : ¬ 1 ≤ j)] at h; cases h), 0, rfl⟩
                  · have hns : hasAt s (p + 2 + j) [59] = false := by rw [has_oneT hlt, HBB.out]; exact decide_eq_false (by simp only [show ((59 : UInt8).toNat : Int) = 59 from rfl]; omega)
                    have HNS := mkHidT hns
                    clear hns
                    go_wp2
                    go_ret3
                    exact ⟨(X : Int), p + 2 + j + 1, by rw [HCB.out, HNS.out]; simp, fun h => (by rw [HCB.out, HNS.out] at h; simp at h), 0, rfl⟩
                · by_cases hj1 : j < 1
                  · go_wp2
                    go_ret3
                    exact ⟨(X : Int), p + 2 + j + 1, by rw [HCB.out, decide_eq_false (by omega : ¬ 1 ≤ j)]; rfl, fun h => (by rw [HCB.out, decide_eq_false (by omega : ¬ 1 ≤ j)] at h; cases h), 0, rfl⟩
                  · have hns : hasAt s (p + 2 + j) [59] = false := by rw [has_oneT hlt, HBB.out]; exact decide_eq_false (by simp only [show ((59 : UInt8).toNat : Int) = 59 from rfl]; omega)
                    have HNS := mkHidT hns
                    clear hns
                    go_wp2
                    go_ret3
                    exact ⟨(X : Int), p + 2 + j + 1, by rw [HCB.out, HNS.out]; simp, fun h => (by rw [HCB.out, HNS.out] at h; simp at h), 0, rfl⟩
                · by_cases hj1 : j < 1
                  · go_wp2
                    go_ret3
                    exact ⟨(X : Int), p + 2 + j + 1, by rw [HCB.out, decide_eq_false (by omega : ¬ 1 ≤ j)]; rfl, fun h => (by rw [HCB.out, decide_eq_false (by omega : ¬ 1 ≤ j)] at h; cases h), 0, rfl⟩
                  · have hns : hasAt s (p + 2 + j) [59] = false := by rw [has_oneT hlt, HBB.out]; exact decide_eq_false (by simp only [show ((59 : UInt8).toNat : Int) = 59 from rfl]; omega)
                    have HNS := mkHidT hns
                    clear hns
                    go_wp2
                    go_ret3
                    exact ⟨(X : Int), p + 2 + j + 1, by rw [HCB.out, HNS.out]; simp, fun h => (by rw [HCB.out, HNS.out] at h; simp at h), 0, rfl⟩
            · have hD9 : ¬ D ≤ 8 := by omega
              have hj9e : 8 < j := by omega
              clear hdv
              go_wp2
              go_ret3
              exact ⟨(X : Int), p + 2 + j + 1, by rw [HCB.out, decide_eq_false hD9]; simp, fun h => (by rw [HCB.out, decide_eq_false hD9] at h; simp at h), 0, rfl⟩
          · have hst : j = D := by omega
            subst hst
            have hns : hasAt s (p + 2 + j) [59] = false := has_past (by omega) 59 []
            have HNS := mkHidT hns
            clear hns
            have hlti : ¬ (p : Int) + 2 + j < (s.size : Int) := by omega
            by_cases hj1 : j < 1
            · exfalso; omega
            · by_cases h8 : j ≤ 8
              · go_wp2
                go_ret3
                exact ⟨(X : Int), p + 2 + j + 1, by rw [HCB.out, HNS.out]; simp, fun h => (by rw [HCB.out, HNS.out] at h; simp at h), 0, rfl⟩
              · go_wp2
                go_ret3
                exact ⟨(X : Int), p + 2 + j + 1, by rw [HCB.out, HNS.out]; simp, fun h => (by rw [HCB.out, HNS.out] at h; simp at h), 0, rfl⟩
    · have hcb : chB s p = false := by unfold chB; rw [has_oneT (by omega), hb1]; simp [h35]
      have HCB := mkHidT hcb
      have h35b : (b1 != 35) = true := by simpa using h35
      clear hcb hb1 h35
      go_enter Tryz.func145, Tryz.ntmps145
      go_wp2
      go_ret3
      exact ⟨0, p, (by rw [HCB.out] <;> rfl), fun h => (by rw [HCB.out] at h; cases h), 0, rfl⟩
  · have hcb : chB s p = false := by unfold chB; rw [decide_eq_false (num_past (by omega)), Bool.and_false]
    have HCB := mkHidT hcb
    clear hcb
    have h2i : ¬ (p : Int) + 2 < (s.size : Int) := by omega
    go_enter Tryz.func145, Tryz.ntmps145
    go_wp2
    go_ret3
    exact ⟨0, p, (by rw [HCB.out] <;> rfl), fun h => (by rw [HCB.out] at h; cases h), 0, rfl⟩
end Go.Proofs.YteebdfcegndaoaaGreatDoor
