import Derived.Test.YtocnfoeaikiecaaGreatDoorTkA
import Derived.Test.YtocnfoeaikiecaaGreatDoorEaS
set_option maxHeartbeats 4000000
set_option maxRecDepth 100000
namespace Go.Proofs.YtocnfoeaikiecaaGreatDoor
open Go.RowKit Strs Strs2 Plain6 Plain9 Plain10 Plain11 Plain23 Tryz
theorem hasOne {s : ByteArray} {p : Nat} (hp : p < s.size) (c : UInt8) : aQa s p [c] = (aQ1 s p == (c.toNat : Int)) := by
 cases h : aQa s p [c] with
 | true => rw [aX6 h hp]; simp
 | false =>
  symm
  rw [beq_eq_false_iff_ne]
  intro e
  have : aQa s p [c] = true := by
   unfold aQa
   rw [aXs hp]
   rw [aZ0] at e
   have : s.data.toList.getD p 0 = c := UInt8.toNat.inj (by omega)
   rw [this]; simp
  rw [h] at this; cases this
theorem bJb (s : ByteArray) (p : Nat) (w : World) (hs : s.size ≤ 1048576) (hp : p < s.size) :
 Calls prog 95 #[.string s, .int .i64 p] w fun e w' => ∃ (t : ByteArray) (q : Nat), e = .returned (.tuple #[.string t, .int .i64 q, .bool (aVw s (p + 1)).isSome]) ∧ (∀ x, aVw s (p + 1) = some x → t = x.1 ∧ q = x.2) ∧ Below w.heap.size w w' := by
 obtain ⟨n, hn⟩ := nmE (nameZ s (p + 1))
 have hname := bQk s (p + 1) w hs (by omega)
 rw [hn] at hname
 rw [show ((p + 1 : Nat) : Int) = (p : Int) + 1 by omega] at hname
 have hle : p + 1 + n ≤ s.size := by rw [← hn]; exact Plain14.cX8 (by omega)
 have hsl : ∀ wx, (Instr.slice 9 (.string s) (some (.int .i64 ((p : Int) + 1))) (some (.int .i64 ((p : Int) + 1 + n))) none).run prog wx = .ok (.string (s.extract (p + 1) (p + 1 + n))) wx := fun wx => aKx wx _ s (p + 1) (p + 1 + n) _ _ (by omega) (by omega) (by omega) hle underlying9
 have hZ : aVw s (p + 1) = if 0 < n ∧ n ≤ 60 ∧ p + 1 + n < s.size ∧ aQa s (p + 1 + n) [59] = true then some (s.extract (p + 1) (p + 1 + n), p + 1 + n + 1) else none := by
  unfold aVw nmF nmT nmP
  rw [hn]
  by_cases h1 : 60 < n
  · rw [if_pos h1, if_neg (by omega), if_neg (by omega)]
  · rw [if_neg h1]
    by_cases h2 : s.size ≤ p + 1 + n
    · rw [if_pos h2, if_neg (by omega), if_neg (by omega)]
    · rw [if_neg h2]
      by_cases h3 : n = 0
      · rw [if_pos h3, if_neg (by omega), if_neg (by omega)]
      · rw [if_neg h3]
        by_cases h4 : aQa s (p + 1 + n) [59] = true
        · rw [if_pos ⟨rfl, h4⟩, if_pos ⟨by omega, by omega, by omega, h4⟩]
        · rw [if_neg (fun hh => h4 hh.2), if_neg (fun hh => h4 hh.2.2.2)]
 have HZ := aQ0 hZ
 clear hZ hn
 have hw1 : IntKind.i64.wrap ((p : Int) + 1) = (p : Int) + 1 := aXt (by omega) (by omega)
 have hw2 : IntKind.i64.wrap ((p : Int) + 1 + n + 1) = (p : Int) + 1 + n + 1 := aXt (by omega) (by omega)
 by_cases hin : p + 1 + n < s.size
 · obtain ⟨b, hb⟩ := nmE (aQ1 s (p + 1 + n))
   have hix : ∀ wx, (Instr.index 9 (.string s) (.int .i64 ((p : Int) + 1 + n))).run prog wx = .ok (.int .u8 b) wx := fun wx => by
    have := aQ8 (P := prog) wx 9 s (p + 1 + n) hin underlying9
    rw [hb] at this
    simpa using this
   have h59 := hasOne hin 59
   rw [hb] at h59
   have H59 := aQ0 h59
   have hdi : decide ((p : Int) + 1 + n < (s.size : Int)) = true := decide_eq_true (by omega)
   clear hb h59
   by_cases hn0 : n < 1
   · have hd0 : decide (0 < n) = false := decide_eq_false (by omega)
     go_enter func95, ntmps95
     go_wp2_with (go_at_call 61; refine hname.mono ?_; rintro e w2 ⟨rfl, hb2⟩)
     go_quiet (fail)
     go_wp2
     go_ret3
     refine ⟨s.extract (p + 1) (p + 1 + n), p + 1 + n + 1, ?_, ?_, ⟨hb2.os, hb2.tape, hb2.output, hb2.size, hb2.block⟩⟩
     · rw [HZ.out, if_neg (by omega)]; first | rfl | simp
     · intro x hx; rw [HZ.out, if_neg (by omega)] at hx; cases hx
   have hd1 : decide (0 < n) = true := decide_eq_true (by omega)
   by_cases hn6 : n ≤ 60
   · have hd6 : decide ((n : Int) ≤ 60) = true := decide_eq_true (by omega)
     go_enter func95, ntmps95
     go_wp2_with (go_at_call 61; refine hname.mono ?_; rintro e w2 ⟨rfl, hb2⟩)
     go_quiet (fail)
     go_wp2
     go_ret3
     refine ⟨s.extract (p + 1) (p + 1 + n), p + 1 + n + 1, ?_, ?_, ⟨hb2.os, hb2.tape, hb2.output, hb2.size, hb2.block⟩⟩
     · rw [HZ.out]
       cases hb : (b == 59) with
       | true => rw [if_pos ⟨by omega, by omega, hin, by rw [H59.out]; exact hb⟩]; first | rfl | simp
       | false => rw [if_neg (fun hh => by rw [H59.out] at hh; have := hh.2.2.2; simp only [show ((59 : UInt8).toNat : Int) = 59 from rfl, hb] at this; cases this)]; first | rfl | simp
     · intro x hx; rw [HZ.out] at hx
       split at hx
       · cases hx; exact ⟨rfl, rfl⟩
       · cases hx
   · have hd6 : decide ((n : Int) ≤ 60) = false := decide_eq_false (by omega)
     go_enter func95, ntmps95
     go_wp2_with (go_at_call 61; refine hname.mono ?_; rintro e w2 ⟨rfl, hb2⟩)
     go_quiet (fail)
     go_wp2
     go_ret3
     refine ⟨s.extract (p + 1) (p + 1 + n), p + 1 + n + 1, ?_, ?_, ⟨hb2.os, hb2.tape, hb2.output, hb2.size, hb2.block⟩⟩
     · rw [HZ.out, if_neg (by omega)]; first | rfl | simp
     · intro x hx; rw [HZ.out, if_neg (by omega)] at hx; cases hx
 · have hdi : decide ((p : Int) + 1 + n < (s.size : Int)) = false := decide_eq_false (by omega)
   by_cases hn0 : n < 1
   · have hd0 : decide (0 < n) = false := decide_eq_false (by omega)
     go_enter func95, ntmps95
     go_wp2_with (go_at_call 61; refine hname.mono ?_; rintro e w2 ⟨rfl, hb2⟩)
     go_quiet (fail)
     go_wp2
     go_ret3
     refine ⟨s.extract (p + 1) (p + 1 + n), p + 1 + n + 1, ?_, ?_, ⟨hb2.os, hb2.tape, hb2.output, hb2.size, hb2.block⟩⟩
     · rw [HZ.out, if_neg (by omega)]; first | rfl | simp
     · intro x hx; rw [HZ.out, if_neg (by omega)] at hx; cases hx
   have hd1 : decide (0 < n) = true := decide_eq_true (by omega)
   by_cases hn6 : n ≤ 60
   · have hd6 : decide ((n : Int) ≤ 60) = true := decide_eq_true (by omega)
     go_enter func95, ntmps95
     go_wp2_with (go_at_call 61; refine hname.mono ?_; rintro e w2 ⟨rfl, hb2⟩)
     go_quiet (fail)
     go_wp2
     go_ret3
     refine ⟨s.extract (p + 1) (p + 1 + n), p + 1 + n + 1, ?_, ?_, ⟨hb2.os, hb2.tape, hb2.output, hb2.size, hb2.block⟩⟩
     · rw [HZ.out, if_neg (by omega)]; first | rfl | simp
     · intro x hx; rw [HZ.out, if_neg (by omega)] at hx; cases hx
   · have hd6 : decide ((n : Int) ≤ 60) = false := decide_eq_false (by omega)
     go_enter func95, ntmps95
     go_wp2_with (go_at_call 61; refine hname.mono ?_; rintro e w2 ⟨rfl, hb2⟩)
     go_quiet (fail)
     go_wp2
     go_ret3
     refine ⟨s.extract (p + 1) (p + 1 + n), p + 1 + n + 1, ?_, ?_, ⟨hb2.os, hb2.tape, hb2.output, hb2.size, hb2.block⟩⟩
     · rw [HZ.out, if_neg (by omega)]; first | rfl | simp
     · intro x hx; rw [HZ.out, if_neg (by omega)] at hx; cases hx
open Go.RowKit Plain1 Plain2 Strs Strs2 Bytes Plain3 Plain6 Plain9 Plain10 Plain11 Plain23 Plain24 Plain27 Plain29 Go.Lib
theorem dXt {s : ByteArray} {p : Nat} (h : aQa s p [35] = true) : aVw s p = none := by
 have hp := bJr h
 have hb := aX6 h hp
 have hz : nameZ s p = 0 := by
  unfold nameZ
  refine aZm (by omega) ?_
  unfold aVy
  right; left
  refine ⟨rfl, ?_⟩
  by_cases hr : (aQm s (p + 0)).2 = 0
  · unfold aQm at hr ⊢
    rw [Nat.add_zero, hb, if_pos (by decide)] at hr ⊢
    unfold fin at hr ⊢
    split at hr
    · cases hr
    · rename_i hh; rw [if_neg hh]; decide
  · unfold aQm at hr ⊢
    rw [Nat.add_zero, hb, if_pos (by decide)] at hr ⊢
    unfold fin at hr ⊢
    split at hr
    · rename_i hh; rw [if_pos hh]; show aJ2 35 = false; decide
    · exact absurd rfl hr
 unfold aVw nmF
 rw [hz, if_neg (by omega : ¬ 60 < 0), if_neg (by omega : ¬ s.size ≤ p + 0), if_pos rfl, if_neg (by omega)]
theorem cX0 {s : ByteArray} {p : Nat} (h : chB s p = true) : refZ s p = some (.inl (numV s (p + 2) : Int), aZu s (p + 2) + (numD s (p + 2)).length + 1) ∧ aZ5 (numV s (p + 2) : Int) = true ∧ p + 4 ≤ aZu s (p + 2) + (numD s (p + 2)).length + 1 ∧ aZu s (p + 2) + (numD s (p + 2)).length + 1 ≤ s.size := by
 unfold chB at h
 rw [Bool.and_eq_true, decide_eq_true_iff] at h
 have hz : numZ s (p + 2) = some ((numV s (p + 2) : Int), aZu s (p + 2) + (numD s (p + 2)).length + 1) := by unfold numZ; rw [if_pos h.2]
 refine ⟨by unfold refZ; rw [if_pos h.1, hz]; rfl, h.2.2.2.2, ?_, ?_⟩
 · have h1 := h.2.1
   have : p + 2 ≤ aZu s (p + 2) := by unfold aZu; split <;> omega
   omega
 · have := bJr h.2.2.2.1; omega
theorem cW9 {s : ByteArray} {p : Nat} {x : ByteArray × Nat} (h : aVw s (p + 1) = some x) : refZ s p = some (.inr x.1, x.2) := by
 unfold refZ
 by_cases h1 : aQa s (p + 1) [35] = true
 · rw [dXt h1] at h; cases h
 · rw [if_neg h1, h]; rfl
theorem dXe {s : ByteArray} {p : Nat} (h : chB s p = false) (h2 : aVw s (p + 1) = none) : refZ s p = none := by
 unfold refZ
 by_cases h1 : aQa s (p + 1) [35] = true
 · rw [if_pos h1]
   unfold chB at h
   rw [h1, Bool.true_and, decide_eq_false_iff_not] at h
   unfold numZ
   rw [if_neg h]; rfl
 · rw [if_neg h1, h2]; rfl
def entS (R : Option (List Int)) : ByteArray := match R with | some l => strOfNums l | none => ⟨#[]⟩
theorem dX1 (s : ByteArray) (w : World) (hs : s.size ≤ 1048576) :
 Calls prog 118 #[.string s] w fun e w' => e = .returned (.tuple #[.string (entS (entO s)), .bool (entO s).isSome]) ∧ Below w.heap.size w w' := by
 obtain ⟨R, hR⟩ := nmE (entO s)
 rw [hR]
 have HR : Hid (aK6 s (s.size + 1) 0 [] = R) := hR
 clear hR
 obtain ⟨i0, hi, hz0, hz1, hz2⟩ := info_parts bQz
 go_enter func118, ntmps118
 go_wp2
 go_loopw [4, 5] (fun v i wr => ∃ (f k : Nat) (acc : List Int), k ≤ s.size ∧ i = .int .i64 k ∧ acc.length ≤ k ∧ wr.ownsRow w.heap.size 5 1 v acc.length (acc.map (Value.int .u8)) ∧ Below w.heap.size w wr ∧ aK6 s f k acc = R ∧ s.size < k + f) (fun _ i _ => s.size - (RowKit.intOf i).toNat)
 case atStart => exact ⟨s.size + 1, 0, [], Nat.zero_le _, rfl, Nat.le_refl _, World.ownsRow_lit w _ 0 (Nat.le_refl _) (by unfold maxLen; omega) (by simp), bAl, HR.out, by omega⟩
 case round =>
  obtain ⟨f, k, acc, hk, rfl, hacc, hown, hb, hf, hfu⟩ := hrel
  have HF := aQ0 hf
  clear hf
  by_cases hlt : k < s.size
  · obtain ⟨f', rfl⟩ : ∃ f', f = f' + 1 := ⟨f - 1, by omega⟩
    obtain ⟨b, hbe⟩ := nmE (aQ1 s k)
    have hbd := aXn s k
    rw [hbe] at hbd
    have hix : ∀ wx, (Instr.index 9 (.string s) (.int .i64 (k : Int))).run prog wx = .ok (.int .u8 b) wx := fun wx => by rw [aQ8 wx 9 s k hlt underlying9, hbe]
    have hlti : (k : Int) < (s.size : Int) := by omega
    have HBE := aQ0 hbe
    clear hbe
    have hsz := hb.size
    by_cases h37 : b = 37
    · have hn := cYo (f := f') (acc := acc) hlt (by rw [HBE.out]; exact h37)
      rw [HF.out] at hn
      subst hn
      subst h37
      clear hown
      go_wp2
      go_ret2
      exact ⟨rfl, hb⟩
    by_cases h38 : b = 38
    · subst h38
      have hch := bWe s k wr hs hlt HBE.out
      have hnm := fun W => bJb s k W hs hlt
      have HB := aQ0 hb
      have HOW := aQ0 hown
      cases hcb : chB s k with
      | true =>
       obtain ⟨r1, r2, r3, r4⟩ := cX0 hcb
       have hn := cYr (f := f') (acc := acc) hlt HBE.out r1
       rw [HF.out] at hn
       have HN := aQ0 hn
       obtain ⟨Q, hQ⟩ := nmE (aZu s (k + 2) + (numD s (k + 2)).length + 1)
       obtain ⟨c, hc⟩ := nmE ((numV s (k + 2) : Int))
       rw [hQ, hc] at HN
       rw [hQ] at r3 r4 hch
       rw [hc] at r2 hch
       rw [hcb] at hch
       clear hn hcb r1 hQ hc hown hb
       have hel := aJb c
       go_wp2_with (first | (go_at_call 94; refine hch.mono ?_; rintro e w2 ⟨n2, q2, rfl, hq2, m2, hw2⟩; obtain ⟨rfl, rfl⟩ := hq2 rfl; replace hw2 := aQ0 hw2) | (go_at_call 95; refine (hnm _).mono ?_; rintro e w3 ⟨t3, q3, rfl, _, hb3⟩; replace hb3 := aQ0 hb3; have hg3 : Hid (wr.grownBy w3 none) := aQ0 (aQ6 (by rw [hw2.out]; exact aQs wr m2 none) (bQl hb3.out)); have hown3 := aQ0 (bQv HOW.out hg3.out); have hsz3 : w.heap.size ≤ w3.heap.size := Nat.le_trans hsz (Nat.le_trans (by rw [hw2.out]; exact Nat.le_refl _) hb3.out.size)) | (go_at_call 97; refine (dVc w.heap.size _ _ _ _ r2 w3 hown3.out (by omega) hsz3).mono ?_; rintro e w4 ⟨v', rfl, ho', hb'⟩; replace ho' := aQ0 ho'; replace hb' := aQ0 hb'))
       go_roundw
       case rel =>
        refine ⟨f', q2, acc ++ encodeRuneZ n2, r4, rfl, by simp; omega, ?_, ?_, HN.out.symm, by omega⟩
        · rw [List.length_append, List.map_append]; exact ho'.out
        · exact (HB.out.grown hg3.out hsz (by simp)).trans hb'.out
       case measure => simp [RowKit.intOf]; omega
      | false =>
       rw [hcb] at hch
       have HCB := aQ0 hcb
       clear hcb
       cases hnz : aVw s (k + 1) with
       | some x =>
        have hn := cYp (f := f') (acc := acc) hlt HBE.out (cW9 hnz)
        rw [HF.out] at hn
        have HN := aQ0 hn
        obtain ⟨hr1, hr2, _⟩ := cZo hlt (cW9 hnz)
        have hXs : (s.extract k x.2).size = x.2 - k := aXy hr2
        rw [hnz] at hnm
        clear hn hown hb hnz
        obtain ⟨X, hX⟩ := nmE (s.extract k x.2)
        have hsl : ∀ wx, (Instr.slice 9 (.string s) (some (.int .i64 (k : Int))) (some (.int .i64 (x.2 : Int))) none).run prog wx = .ok (.string X) wx := fun wx => by rw [← hX]; exact aKx wx _ s k x.2 _ _ rfl rfl (by omega) hr2 underlying9
        rw [hX] at hXs HN
        have hXle : X.size ≤ s.size := by omega
        have HXS := aQ0 hXs
        clear hX hXs
        go_wp2_with (first | (go_at_call 94; refine hch.mono ?_; rintro e w2 ⟨n2, q2, rfl, _, m2, hw2⟩; replace hw2 := aQ0 hw2) | (go_at_call 95; refine (hnm _).mono ?_; rintro e w3 ⟨t3, q3, rfl, hq3, hb3⟩; obtain ⟨rfl, rfl⟩ := hq3 x rfl; replace hb3 := aQ0 hb3; have hg3 : Hid (wr.grownBy w3 none) := aQ0 (aQ6 (by rw [hw2.out]; exact aQs wr m2 none) (bQl hb3.out)); have hown3 := aQ0 (bQv HOW.out hg3.out); have hsz3 : w.heap.size ≤ w3.heap.size := Nat.le_trans hsz (Nat.le_trans (by rw [hw2.out]; exact Nat.le_refl _) hb3.out.size)) | (at_builtin; refine wpList_append_own_string _ rfl _ _ 22 9 rfl w.heap.size 5 i0 underlying22 underlying9 hi hz0 hz1 hz2 _ _ _ rfl hown3.out X rfl ?d1 ?d2 ?d3 ?d4))
        case d1 => unfold maxLen; omega
        case d2 => omega
        case d3 => omega
        intro v' w4 hown4 hgrow _
        have HO4 := aQ0 hown4
        have HG4 := aQ0 hgrow
        clear hown4 hgrow
        go_wp2
        go_roundw
        case rel =>
         refine ⟨f', x.2, acc ++ nums X, hr2, rfl, by rw [List.length_append, aK1, HXS.out]; omega, ?_, ?_, HN.out.symm, by omega⟩
         · rw [List.length_append, aK1, List.map_append, ← bQ0]; exact HO4.out
         · exact (HB.out.grown hg3.out hsz (by simp)).grown HG4.out hsz3 (fun j hj => (hown3.out.lt j hj).1)
        case measure => simp [RowKit.intOf]; omega
       | none =>
        have hn := cYs (f := f') (acc := acc) hlt HBE.out (dXe HCB.out hnz)
        rw [HF.out] at hn
        subst hn
        rw [hnz] at hnm
        clear hown hb hnz
        go_wp2_with (first | (go_at_call 94; refine hch.mono ?_; rintro e w2 ⟨n2, q2, rfl, _, m2, hw2⟩; replace hw2 := aQ0 hw2) | (go_at_call 95; refine (hnm _).mono ?_; rintro e w3 ⟨t3, q3, rfl, _, hb3⟩; replace hb3 := aQ0 hb3))
        go_ret2
        exact ⟨rfl, HB.out.grown (aQ6 (by rw [hw2.out]; exact aQs wr m2 none) (bQl hb3.out)) hsz (by simp)⟩
    · have hn := dJi (f := f') (acc := acc) hlt (by rw [HBE.out]; exact h37) (by rw [HBE.out]; exact h38)
      rw [HF.out, HBE.out] at hn
      have HN := aQ0 hn
      have h37b : (b == 37) = false := by simpa using h37
      have h38b : (b == 38) = false := by simpa using h38
      have HB := aQ0 hb
      clear hn h37 h38 hb
      go_wp2_with (at_builtin; refine wpList_append_own _ rfl _ _ 22 rfl w.heap.size 5 i0 (.int .u8 0) 1 1 underlying22 hi hz0 hz1 hz2 rfl (by decide) _ _ _ rfl (hown.alloc _) ⟨wr.heap.size, 0, none⟩ 1 1 [.int .u8 b] rfl rfl ?c1 ?c2 ?c3 ?c4 ?c5 ?c6)
      case c1 =>
       intro j u hj
       match j, hj with
       | 0, hj => simp at hj; subst hj; simp [Addr.add]
       | (j + 1), hj => simp at hj
      case c2 => intro u hu; simp at hu; subst hu; rfl
      case c3 => unfold maxLen; omega
      case c4 => omega
      case c5 => simp; omega
      intro v' w2 hown' hgrow _
      go_wp2
      go_roundw
      case rel => exact ⟨f', k + 1, acc ++ [b], by omega, by go_num, by simp; omega, by simpa using hown', HB.out.trans (((Below.refl _ _).alloc hsz _).grown hgrow (by simp; omega) (fun j hj => (hown.lt j hj).1)), HN.out.symm, by omega⟩
      case measure => simp [RowKit.intOf]; omega
  · have hn := cXq (f := f) (acc := acc) hlt
    rw [HF.out] at hn
    subst hn
    have hlti : ¬ (k : Int) < (s.size : Int) := by omega
    have hconv := bZj (P := prog) (src := 22) (dst := 9) underlying22 underlying5 underlying9 hown
    clear hown
    go_wp2
    go_ret2
    exact ⟨rfl, hb⟩
end Go.Proofs.YtocnfoeaikiecaaGreatDoor
