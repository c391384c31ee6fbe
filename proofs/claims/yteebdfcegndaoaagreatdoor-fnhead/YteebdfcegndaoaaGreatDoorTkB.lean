/- The model's l03Named: a name between two signs. -/
/- The model's l03Text: the text of an entity, out of a value. -/
/- The model's reader of a head in memory. -/
import Derived.Test.YteebdfcegndaoaaGreatDoorTkA
import Derived.Test.YteebdfcegndaoaaGreatDoorMdA
import Derived.Test.YteebdfcegndaoaaGreatDoorFrB
import Derived.Test.YteebdfcegndaoaaGreatDoorEaS
import Derived.Test.YteebdfcegndaoaaGreatDoorPlF
import Derived.Lib.AppendStr
import Derived.Test.YteebdfcegndaoaaGreatDoorMdC
namespace Go.Proofs.YteebdfcegndaoaaGreatDoor
open Go.RowKit Plain1 Strs Strs2 Lists Plain3 Plain5 Plain6 Plain9 Plain10 Plain11 Plain23 Plain24 Plain27 Plain28

theorem hasOne {s : ByteArray} {p : Nat} (hp : p < s.size) (c : UInt8) : hasAt s p [c] = (byteAt s p == (c.toNat : Int)) := by
  cases h : hasAt s p [c] with
  | true => rw [byteAt_of_cons h hp]; simp
  | false =>
    symm
    rw [beq_eq_false_iff_ne]
    intro e
    have : hasAt s p [c] = true := by
      unfold hasAt
      rw [rest_cons hp]
      rw [byteAt_head] at e
      have : s.data.toList.getD p 0 = c := UInt8.toNat.inj (by omega)
      rw [this]; simp
    rw [h] at this; cases this
set_option maxHeartbeats 4000000 in
theorem named_any (s : ByteArray) (p : Nat) (w : World) (hs : s.size ≤ 1048576) (hp : p < s.size) :
    Calls Tryz.prog 146 #[.string s, .int .i64 p] w fun e w' => ∃ (t : ByteArray) (q : Nat), e = .returned (.tuple #[.string t, .int .i64 q, .bool (namedZ s (p + 1)).isSome]) ∧ (∀ x, namedZ s (p + 1) = some x → t = x.1 ∧ q = x.2) ∧ Below w.heap.size w w' := by
  obtain ⟨n, hn⟩ : ∃ n, nameZ s (p + 1) = n := ⟨_, rfl⟩
  have hname := l01Name_any s (p + 1) w hs (by omega)
  rw [hn] at hname
  rw [show ((p + 1 : Nat) : Int) = (p : Int) + 1 by omega] at hname
  have hle : p + 1 + n ≤ s.size := by rw [← hn]; exact Plain14.nameZ_roomI (by omega)
  have hsl : ∀ wx, (Instr.slice 9 (.string s) (some (.int .i64 ((p : Int) + 1))) (some (.int .i64 ((p : Int) + 1 + n))) none).run Tryz.prog wx = .ok (.string (s.extract (p + 1) (p + 1 + n))) wx := fun wx => sub_text wx _ s (p + 1) (p + 1 + n) _ _ (by omega) (by omega) (by omega) hle Tryz.underlying9
  have hZ : namedZ s (p + 1) = if 0 < n ∧ n ≤ 60 ∧ p + 1 + n < s.size ∧ hasAt s (p + 1 + n) [59] = true then some (s.extract (p + 1) (p + 1 + n), p + 1 + n + 1) else none := by
    unfold namedZ nmF nmT nmP
    rw [hn]
    by_cases h1 : 60 < n
    · rw [if_pos h1, if_neg (by omega), if_neg (by omega)]
    · rw [if_neg h1]
      by_cases h2 : s.size ≤ p + 1 + n
      · rw [if_pos h2, if_neg (by omega), if_neg (by omega)]
      · rw [if_neg h2]
        by_cases h3 : n = 0
        · rw [if_pos h3, if_neg (by omega), if_neg (by omega)]
        · rw [if_neg h3]
          by_cases h4 : hasAt s (p + 1 + n) [59] = true
          · rw [if_pos ⟨rfl, h4⟩, if_pos ⟨by omega, by omega, by omega, h4⟩]
          · rw [if_neg (fun hh => h4 hh.2), if_neg (fun hh => h4 hh.2.2.2)]
  have HZ := mkHidT hZ
  clear hZ hn
  have hw1 : IntKind.i64.wrap ((p : Int) + 1) = (p : Int) + 1 := wrapSm (by omega) (by omega)
  have hw2 : IntKind.i64.wrap ((p : Int) + 1 + n + 1) = (p : Int) + 1 + n + 1 := wrapSm (by omega) (by omega)
  by_cases hin : p + 1 + n < s.size
  · obtain ⟨b, hb⟩ : ∃ b, byteAt s (p + 1 + n) = b := ⟨_, rfl⟩
    have hix : ∀ wx, (Instr.index 9 (.string s) (.int .i64 ((p : Int) + 1 + n))).run Tryz.prog wx = .ok (.int .u8 b) wx := fun wx => by
      have := run_index_byte (P := Tryz.prog) wx 9 s (p + 1 + n) hin Tryz.underlying9
      rw [hb] at this
      simpa using this
    have h59 := hasOne hin 59
    rw [hb] at h59
    have H59 := mkHidT h59
    have hdi : decide ((p : Int) + 1 + n < (s.size : Int)) = true := decide_eq_true (by omega)
    clear hb h59
    by_cases hn0 : n < 1
    · have hd0 : decide (0 < n) = false := decide_eq_false (by omega)
      go_enter Tryz.func146, Tryz.ntmps146
      go_wp2_with (go_at_call 117; refine hname.mono ?_; rintro e w2 ⟨rfl, hb2⟩)
      go_quiet (fail)
      go_wp2
      go_ret3
      refine ⟨s.extract (p + 1) (p + 1 + n), p + 1 + n + 1, ?_, ?_, ⟨hb2.os, hb2.tape, hb2.output, hb2.size, hb2.block⟩⟩
      · rw [HZ.out, if_neg (by omega)]; first | rfl | simp
      · intro x hx; rw [HZ.out, if_neg (by omega)] at hx; cases hx
    have hd1 : decide (0 < n) = true := decide_eq_true (by omega)
    by_cases hn6 : n ≤ 60
    · have hd6 : decide ((n : Int) ≤ 60) = true := decide_eq_true (by omega)
      go_enter Tryz.func146, Tryz.ntmps146
      go_wp2_with (go_at_call 117; refine hname.mono ?_; rintro e w2 ⟨rfl, hb2⟩)
      go_quiet (fail)
      go_wp2
      go_ret3
      refine ⟨s.extract (p + 1) (p + 1 + n), p + 1 + n + 1, ?_, ?_, ⟨hb2.os, hb2.tape, hb2.output, hb2.size, hb2.block⟩⟩
      · rw [HZ.out]
        cases hb : (b == 59) with
        | true => rw [if_pos ⟨by omega, by omega, hin, by rw [H59.out]; exact hb⟩]; first | rfl | simp
        | false => rw [if_neg (fun hh => by rw [H59.out] at hh; have := hh.2.2.2; simp only [show ((59 : UInt8).toNat : Int) = 59 from rfl, hb] at this; cases this)]; first | rfl | simp
      · intro x hx; rw [HZ.out] at hx
        split at hx
        · cases hx; exact ⟨rfl, rfl⟩
        · cases hx
    · have hd6 : decide ((n : Int) ≤ 60) = false := decide_eq_false (by omega)
      go_enter Tryz.func146, Tryz.ntmps146
      go_wp2_with (go_at_call 117; refine hname.mono ?_; rintro e w2 ⟨rfl, hb2⟩)
      go_quiet (fail)
      go_wp2
      go_ret3
      refine ⟨s.extract (p + 1) (p + 1 + n), p + 1 + n + 1, ?_, ?_, ⟨hb2.os, hb2.tape, hb2.output, hb2.size, hb2.block⟩⟩
      · rw [HZ.out, if_neg (by omega)]; first | rfl | simp
      · intro x hx; rw [HZ.out, if_neg (by omega)] at hx; cases hx
  · have hdi : decide ((p : Int) + 1 + n < (s.size : Int)) = false := decide_eq_false (by omega)
    by_cases hn0 : n < 1
    · have hd0 : decide (0 < n) = false := decide_eq_false (by omega)
      go_enter Tryz.func146, Tryz.ntmps146
      go_wp2_with (go_at_call 117; refine hname.mono ?_; rintro e w2 ⟨rfl, hb2⟩)
      go_quiet (fail)
      go_wp2
      go_ret3
      refine ⟨s.extract (p + 1) (p + 1 + n), p + 1 + n + 1, ?_, ?_, ⟨hb2.os, hb2.tape, hb2.output, hb2.size, hb2.block⟩⟩
      · rw [HZ.out, if_neg (by omega)]; first | rfl | simp
      · intro x hx; rw [HZ.out, if_neg (by omega)] at hx; cases hx
    have hd1 : decide (0 < n) = true := decide_eq_true (by omega)
    by_cases hn6 : n ≤ 60
    · have hd6 : decide ((n : Int) ≤ 60) = true := decide_eq_true (by omega)
      go_enter Tryz.func146, Tryz.ntmps146
      go_wp2_with (go_at_call 117; refine hname.mono ?_; rintro e w2 ⟨rfl, hb2⟩)
      go_quiet (fail)
      go_wp2
      go_ret3
      refine ⟨s.extract (p + 1) (p + 1 + n), p + 1 + n + 1, ?_, ?_, ⟨hb2.os, hb2.tape, hb2.output, hb2.size, hb2.block⟩⟩
      · rw [HZ.out, if_neg (by omega)]; first | rfl | simp
      · intro x hx; rw [HZ.out, if_neg (by omega)] at hx; cases hx
    · have hd6 : decide ((n : Int) ≤ 60) = false := decide_eq_false (by omega)
      go_enter Tryz.func146, Tryz.ntmps146
      go_wp2_with (go_at_call 117; refine hname.mono ?_; rintro e w2 ⟨rfl, hb2⟩)
      go_quiet (fail)
      go_wp2
      go_ret3
      refine ⟨s.extract (p + 1) (p + 1 + n), p + 1 + n + 1, ?_, ?_, ⟨hb2.os, hb2.tape, hb2.output, hb2.size, hb2.block⟩⟩
      · rw [HZ.out, if_neg (by omega)]; first | rfl | simp
      · intro x hx; rw [HZ.out, if_neg (by omega)] at hx; cases hx
end Go.Proofs.YteebdfcegndaoaaGreatDoor

namespace Go.Proofs.YteebdfcegndaoaaGreatDoor
open Go.RowKit Plain1 Plain2 Strs Strs2 Lists Bytes Plain3 Plain5 Plain6 Plain9 Plain10 Plain11 Plain23 Plain24 Plain27 Plain28 Plain29 Go.Lib

theorem named_no {s : ByteArray} {p : Nat} (h : hasAt s p [35] = true) : namedZ s p = none := by
  have hp := has_lt h
  have hb := byteAt_of_cons h hp
  have hz : nameZ s p = 0 := by
    unfold nameZ
    refine nameGo_stop (by omega) ?_
    unfold stops
    right; left
    refine ⟨rfl, ?_⟩
    by_cases hr : (runeZ s (p + 0)).2 = 0
    · unfold runeZ at hr ⊢
      rw [Nat.add_zero, hb, if_pos (by decide)] at hr ⊢
      unfold fin at hr ⊢
      split at hr
      · cases hr
      · rename_i hh; rw [if_neg hh]; decide
    · unfold runeZ at hr ⊢
      rw [Nat.add_zero, hb, if_pos (by decide)] at hr ⊢
      unfold fin at hr ⊢
      split at hr
      · rename_i hh; rw [if_pos hh]; show startB 35 = false; decide
      · exact absurd rfl hr
  unfold namedZ nmF
  rw [hz, if_neg (by omega : ¬ 60 < 0), if_neg (by omega : ¬ s.size ≤ p + 0), if_pos rfl, if_neg (by omega)]
theorem ref_chr {s : ByteArray} {p : Nat} (h : chB s p = true) : refZ s p = some (.inl (numV s (p + 2) : Int), numAt s (p + 2) + (numD s (p + 2)).length + 1) ∧ charB (numV s (p + 2) : Int) = true ∧ p + 4 ≤ numAt s (p + 2) + (numD s (p + 2)).length + 1 ∧ numAt s (p + 2) + (numD s (p + 2)).length + 1 ≤ s.size := by
  unfold chB at h
  rw [Bool.and_eq_true, decide_eq_true_iff] at h
  have hz : numZ s (p + 2) = some ((numV s (p + 2) : Int), numAt s (p + 2) + (numD s (p + 2)).length + 1) := by unfold numZ; rw [if_pos h.2]
  refine ⟨by unfold refZ; rw [if_pos h.1, hz]; rfl, h.2.2.2.2, ?_, ?_⟩
  · have h1 := h.2.1
    have : p + 2 ≤ numAt s (p + 2) := by unfold numAt; split <;> omega
    omega
  · have := has_lt h.2.2.2.1; omega
theorem ref_nam {s : ByteArray} {p : Nat} {x : ByteArray × Nat} (h : namedZ s (p + 1) = some x) : refZ s p = some (.inr x.1, x.2) := by
  unfold refZ
  by_cases h1 : hasAt s (p + 1) [35] = true
  · rw [named_no h1] at h; cases h
  · rw [if_neg h1, h]; rfl
theorem ref_none {s : ByteArray} {p : Nat} (h : chB s p = false) (h2 : namedZ s (p + 1) = none) : refZ s p = none := by
  unfold refZ
  by_cases h1 : hasAt s (p + 1) [35] = true
  · rw [if_pos h1]
    unfold chB at h
    rw [h1, Bool.true_and, decide_eq_false_iff_not] at h
    unfold numZ
    rw [if_neg h]; rfl
  · rw [if_neg h1, h2]; rfl
def entS (R : Option (List Int)) : ByteArray := match R with | some l => strOfNums l | none => ⟨#[]⟩
set_option maxHeartbeats 4000000 in
set_option maxRecDepth 100000 in
theorem text_any (s : ByteArray) (w : World) (hs : s.size ≤ 1048576) :
    Calls Tryz.prog 128 #[.string s] w fun e w' => e = .returned (.tuple #[.string (entS (entO s)), .bool (entO s).isSome]) ∧ Below w.heap.size w w' := by
  obtain ⟨R, hR⟩ : ∃ R, entO s = R := ⟨_, rfl⟩
  rw [hR]
  have HR : Hid (entGo s (s.size + 1) 0 [] = R) := hR
  clear hR
  obtain ⟨i0, hi, hz0, hz1, hz2⟩ := info_parts info8p
  go_enter Tryz.func128, Tryz.ntmps128
  go_wp2
  go_loopw [4, 5] (fun v i wr => ∃ (f k : Nat) (acc : List Int), k ≤ s.size ∧ i = .int .i64 k ∧ acc.length ≤ k ∧ wr.ownsRow w.heap.size 5 1 v acc.length (acc.map (Value.int .u8)) ∧ Below w.heap.size w wr ∧ entGo s f k acc = R ∧ s.size < k + f) (fun _ i _ => s.size - (RowKit.intOf i).toNat)
  case atStart => exact ⟨s.size + 1, 0, [], Nat.zero_le _, rfl, Nat.le_refl _, World.ownsRow_lit w _ 0 (Nat.le_refl _) (by unfold maxLen; omega) (by simp), (Below.refl _ _).alloc (Nat.le_refl _) _, HR.out, by omega⟩
  case round =>
    obtain ⟨f, k, acc, hk, rfl, hacc, hown, hb, hf, hfu⟩ := hrel
    have HF := mkHidT hf
    clear hf
    by_cases hlt : k < s.size
    · obtain ⟨f', rfl⟩ : ∃ f', f = f' + 1 := ⟨f - 1, by omega⟩
      obtain ⟨b, hbe⟩ : ∃ b, byteAt s k = b := ⟨_, rfl⟩
      have hbd := byteAt_bd s k
      rw [hbe] at hbd
      have hix : ∀ wx, (Instr.index 9 (.string s) (.int .i64 (k : Int))).run Tryz.prog wx = .ok (.int .u8 b) wx := fun wx => by rw [run_index_byte wx 9 s k hlt Tryz.underlying9, hbe]
      have hlti : (k : Int) < (s.size : Int) := by omega
      have HBE := mkHidT hbe
      clear hbe
      have hsz := hb.size
      by_cases h37 : b = 37
      · have hn := ent_pct (f := f') (acc := acc) hlt (by rw [HBE.out]; exact h37)
        rw [HF.out] at hn
        subst hn
        subst h37
        clear hown
        go_wp2
        go_ret2
        exact ⟨rfl, hb⟩
      by_cases h38 : b = 38
      · subst h38
        have hch := char_any s k wr hs hlt HBE.out
        have hnm := fun W => named_any s k W hs hlt
        have HB := mkHidT hb
        have HOW := mkHidT hown
        cases hcb : chB s k with
        | true =>
          obtain ⟨r1, r2, r3, r4⟩ := ref_chr hcb
          have hn := ent_chr (f := f') (acc := acc) hlt HBE.out r1
          rw [HF.out] at hn
          have HN := mkHidT hn
          obtain ⟨Q, hQ⟩ : ∃ Q, numAt s (k + 2) + (numD s (k + 2)).length + 1 = Q := ⟨_, rfl⟩
          obtain ⟨c, hc⟩ : ∃ c, (numV s (k + 2) : Int) = c := ⟨_, rfl⟩
          rw [hQ, hc] at HN
          rw [hQ] at r3 r4 hch
          rw [hc] at r2 hch
          rw [hcb] at hch
          clear hn hcb r1 hQ hc hown hb
          have hel := encodeRuneZ_len c
          go_wp2_with (first | (go_at_call 145; refine hch.mono ?_; rintro e w2 ⟨n2, q2, rfl, hq2, m2, hw2⟩; obtain ⟨rfl, rfl⟩ := hq2 rfl; replace hw2 := mkHidT hw2) | (go_at_call 146; refine (hnm _).mono ?_; rintro e w3 ⟨t3, q3, rfl, _, hb3⟩; replace hb3 := mkHidT hb3; have hg3 : Hid (wr.grownBy w3 none) := mkHidT (gtrans5 (by rw [hw2.out]; exact gdrew5 wr m2 none) (gbelow5 hb3.out)); have hown3 := mkHidT (own_grown HOW.out hg3.out); have hsz3 : w.heap.size ≤ w3.heap.size := Nat.le_trans hsz (Nat.le_trans (by rw [hw2.out]; exact Nat.le_refl _) hb3.out.size)) | (go_at_call 147; refine (put_any w.heap.size _ _ _ _ r2 w3 hown3.out (by omega) hsz3).mono ?_; rintro e w4 ⟨v', rfl, ho', hb'⟩; replace ho' := mkHidT ho'; replace hb' := mkHidT hb'))
          go_roundw
          case rel =>
            refine ⟨f', q2, acc ++ encodeRuneZ n2, r4, rfl, by simp; omega, ?_, ?_, HN.out.symm, by omega⟩
            · rw [List.length_append, List.map_append]; exact ho'.out
            · exact (HB.out.grown hg3.out hsz (by simp)).trans hb'.out
          case measure => simp [RowKit.intOf]; omega
        | false =>
          rw [hcb] at hch
          have HCB := mkHidT hcb
          clear hcb
          cases hnz : namedZ s (k + 1) with
          | some x =>
            have hn := ent_nam (f := f') (acc := acc) hlt HBE.out (ref_nam hnz)
            rw [HF.out] at hn
            have HN := mkHidT hn
            obtain ⟨hr1, hr2, _⟩ := ref_some hlt (ref_nam hnz)
            have hXs : (s.extract k x.2).size = x.2 - k := ext_size hr2
            rw [hnz] at hnm
            clear hn hown hb hnz
            obtain ⟨X, hX⟩ : ∃ X, s.extract k x.2 = X := ⟨_, rfl⟩
            have hsl : ∀ wx, (Instr.slice 9 (.string s) (some (.int .i64 (k : Int))) (some (.int .i64 (x.2 : Int))) none).run Tryz.prog wx = .ok (.string X) wx := fun wx => by rw [← hX]; exact sub_text wx _ s k x.2 _ _ rfl rfl (by omega) hr2 Tryz.underlying9
            rw [hX] at hXs HN
            have hXle : X.size ≤ s.size := by omega
            have HXS := mkHidT hXs
            clear hX hXs
            go_wp2_with (first | (go_at_call 145; refine hch.mono ?_; rintro e w2 ⟨n2, q2, rfl, _, m2, hw2⟩; replace hw2 := mkHidT hw2) | (go_at_call 146; refine (hnm _).mono ?_; rintro e w3 ⟨t3, q3, rfl, hq3, hb3⟩; obtain ⟨rfl, rfl⟩ := hq3 x rfl; replace hb3 := mkHidT hb3; have hg3 : Hid (wr.grownBy w3 none) := mkHidT (gtrans5 (by rw [hw2.out]; exact gdrew5 wr m2 none) (gbelow5 hb3.out)); have hown3 := mkHidT (own_grown HOW.out hg3.out); have hsz3 : w.heap.size ≤ w3.heap.size := Nat.le_trans hsz (Nat.le_trans (by rw [hw2.out]; exact Nat.le_refl _) hb3.out.size)) | (at_builtin; refine wpList_append_own_string _ rfl _ _ 22 9 rfl w.heap.size 5 i0 Tryz.underlying22 Tryz.underlying9 hi hz0 hz1 hz2 _ _ _ rfl hown3.out X rfl ?d1 ?d2 ?d3 ?d4))
            case d1 => unfold maxLen; omega
            case d2 => omega
            case d3 => omega
            intro v' w4 hown4 hgrow _
            have HO4 := mkHidT hown4
            have HG4 := mkHidT hgrow
            clear hown4 hgrow
            go_wp2
            go_roundw
            case rel =>
              refine ⟨f', x.2, acc ++ nums X, hr2, rfl, by rw [List.length_append, nums_len, HXS.out]; omega, ?_, ?_, HN.out.symm, by omega⟩
              · rw [List.length_append, nums_len, List.map_append, ← nums_cells]; exact HO4.out
              · exact (HB.out.grown hg3.out hsz (by simp)).grown HG4.out hsz3 (fun j hj => (hown3.out.lt j hj).1)
            case measure => simp [RowKit.intOf]; omega
          | none =>
            have hn := ent_bad (f := f') (acc := acc) hlt HBE.out (ref_none HCB.out hnz)
            rw [HF.out] at hn
            subst hn
            rw [hnz] at hnm
            clear hown hb hnz
            go_wp2_with (first | (go_at_call 145; refine hch.mono ?_; rintro e w2 ⟨n2, q2, rfl, _, m2, hw2⟩; replace hw2 := mkHidT hw2) | (go_at_call 146; refine (hnm _).mono ?_; rintro e w3 ⟨t3, q3, rfl, _, hb3⟩; replace hb3 := mkHidT hb3))
            go_ret2
            exact ⟨rfl, HB.out.grown (gtrans5 (by rw [hw2.out]; exact gdrew5 wr m2 none) (gbelow5 hb3.out)) hsz (by simp)⟩
      · have hn := ent_on (f := f') (acc := acc) hlt (by rw [HBE.out]; exact h37) (by rw [HBE.out]; exact h38)
        rw [HF.out, HBE.out] at hn
        have HN := mkHidT hn
        have h37b : (b == 37) = false := by simpa using h37
        have h38b : (b == 38) = false := by simpa using h38
        have HB := mkHidT hb
        clear hn h37 h38 hb
        go_wp2_with (at_builtin; refine wpList_append_own _ rfl _ _ 22 rfl w.heap.size 5 i0 (.int .u8 0) 1 1 Tryz.underlying22 hi hz0 hz1 hz2 rfl (by decide) _ _ _ rfl (hown.alloc _) ⟨wr.heap.size, 0, none⟩ 1 1 [.int .u8 b] rfl rfl ?c1 ?c2 ?c3 ?c4 ?c5 ?c6)
        case c1 =>
          intro j u hj
          match j, hj with
          | 0, hj => simp at hj; subst hj; simp [Addr.add]
          | (j + 1), hj => simp at hj
        case c2 => intro u hu; simp at hu; subst hu; rfl
        case c3 => unfold maxLen; omega
        case c4 => omega
        case c5 => simp; omega
        intro v' w2 hown' hgrow _
        go_wp2
        go_roundw
        case rel => exact ⟨f', k + 1, acc ++ [b], by omega, by go_num, by simp; omega, by simpa using hown', HB.out.trans (((Below.refl _ _).alloc hsz _).grown hgrow (by simp; omega) (fun j hj => (hown.lt j hj).1)), HN.out.symm, by omega⟩
        case measure => simp [RowKit.intOf]; omega
    · have hn := ent_end (f := f) (acc := acc) hlt
      rw [HF.out] at hn
      subst hn
      have hlti : ¬ (k : Int) < (s.size : Int) := by omega
      have hconv := conv_own (P := Tryz.prog) (src := 22) (dst := 9) Tryz.underlying22 Tryz.underlying5 Tryz.underlying9 hown
      clear hown
      go_wp2
      go_ret2
      exact ⟨rfl, hb⟩
end Go.Proofs.YteebdfcegndaoaaGreatDoor

namespace Go.Proofs.YteebdfcegndaoaaGreatDoor
open Go.RowKit Plain1 Strs Strs2 Lists Ents Plain3 Plain5 Plain6 Plain9 Plain10 Plain11 Plain23 Plain24

def RdBox (w : World) (k g : Nat) (ve va : Value) : Prop := w.heap[k]? = some (.cells #[.pointer (some ⟨g, 0, none⟩), ve, va] 133)
theorem rdcells {w : World} {k g : Nat} {ve va : Value} (h : RdBox w k g ve va) :
    w.cell? ⟨k, 0, none⟩ = some (.pointer (some ⟨g, 0, none⟩)) ∧ w.cell? ⟨k, 1, none⟩ = some ve ∧ w.cell? ⟨k, 2, none⟩ = some va ∧ w.frozen? ⟨k, 1, none⟩ = false ∧ w.frozen? ⟨k, 2, none⟩ = false := by
  unfold RdBox at h
  simp [World.cell?, World.frozen?, h]
theorem st_cells {W : World} {g : Nat} {s : ByteArray} {σ : Option Nat} (h : StBox W g s σ) : ∃ c, W.heap[g]? = some (.cells c 114 (0, 0)) := by
  cases σ with
  | some p => exact ⟨_, h.2⟩
  | none => obtain ⟨_, _, _, _, _, _, hb⟩ := h; exact ⟨_, hb⟩
/-- The reader, its scanner, and what it has read. -/
structure Rd (B : Nat) (w W : World) (k g : Nat) (s : ByteArray) (σ : Option Nat) (d : Dt) : Prop where
  st : StBox W g s σ
  gB : B ≤ g
  kB : B ≤ k
  box : ∃ ve va, RdBox W k g ve va ∧ W.ownsRow B 50 2 ve d.ents.length (acells d.ents) ∧ W.ownsRow B 53 5 va d.atts.length (tcells d.atts)
  bel : Below B w W
variable {B : Nat} {w W W' : World} {k g : Nat} {s : ByteArray} {σ σ' : Option Nat} {d : Dt}
theorem Rd.sz (h : Rd B w W k g s σ d) : B ≤ W.heap.size := Nat.le_of_lt (Nat.lt_of_le_of_lt h.gB (st_block h.st))
theorem Rd.kg (h : Rd B w W k g s σ d) : k ≠ g := by
  obtain ⟨ve, va, hb, _, _⟩ := h.box
  obtain ⟨c, hc⟩ := st_cells h.st
  intro e
  subst e
  unfold RdBox at hb
  rw [hc] at hb
  cases hb
theorem Rd.keep (h : Rd B w W k g s σ d) (hg : W.grownBy W' none) : Rd B w W' k g s σ d := by
  obtain ⟨ve, va, hb, h1, h2⟩ := h.box
  exact ⟨st_grown h.st hg (by simp), h.gB, h.kB, ⟨ve, va, by unfold RdBox; rw [hg.block k (Array.getElem?_eq_some_iff.1 hb).1 (by simp)]; exact hb, h1.kept hg (by cases ve.ownBlock with | none => exact .inl rfl | some _ => exact .inr (by simp)), h2.kept hg (by cases va.ownBlock with | none => exact .inl rfl | some _ => exact .inr (by simp))⟩, h.bel.grown hg h.sz (by simp)⟩
theorem Rd.step (h : Rd B w W k g s σ d) (hs : StBox W' g s σ') (hg : W.grownBy W' (some g)) : Rd B w W' k g s σ' d := by
  have hkg := h.kg
  have hsz := h.sz
  obtain ⟨ve, va, hb, h1, h2⟩ := h.box
  obtain ⟨c, hc⟩ := st_cells h.st
  exact ⟨hs, h.gB, h.kB, ⟨ve, va, by unfold RdBox; rw [hg.block k (Array.getElem?_eq_some_iff.1 hb).1 (fun e => hkg (Option.some.inj e))]; exact hb, h1.kept hg (.inr (row_ne h1 hc (by decide))), h2.kept hg (.inr (row_ne h2 hc (by decide)))⟩, h.bel.grown hg hsz (fun j hj => by cases hj; exact h.gB)⟩
theorem Rd.alloc (h : Rd B w W k g s σ d) (o : Obj) : Rd B w (W.alloc o) k g s σ d := h.keep (galloc5 W o none)
/-- A block of one's own beside the reader. -/
def EBox (W : World) (E : Nat) (nm tx : ByteArray) : Prop := W.heap[E]? = some (.cells #[.string nm, .string tx] 50)
theorem ecells {W : World} {E : Nat} {nm tx : ByteArray} (h : EBox W E nm tx) : W.cell? ⟨E, 0, none⟩ = some (.string nm) ∧ W.cell? ⟨E, 1, none⟩ = some (.string tx) ∧ W.frozen? ⟨E, 0, none⟩ = false ∧ W.frozen? ⟨E, 1, none⟩ = false := by
  unfold EBox at h
  simp [World.cell?, World.frozen?, h]
theorem EBox.keep {E : Nat} {nm tx : ByteArray} {r : Option Nat} (h : EBox W E nm tx) (hg : W.grownBy W' r) (hr : some E ≠ r) : EBox W' E nm tx := by
  unfold EBox; rw [hg.block E (Array.getElem?_eq_some_iff.1 h).1 hr]; exact h
theorem EBox.ng {E : Nat} {nm tx : ByteArray} (h : EBox W E nm tx) (hs : StBox W g s σ) : E ≠ g := by
  obtain ⟨c, hc⟩ := st_cells hs
  intro e
  subst e
  unfold EBox at h
  rw [hc] at h
  cases h
end Go.Proofs.YteebdfcegndaoaaGreatDoor
