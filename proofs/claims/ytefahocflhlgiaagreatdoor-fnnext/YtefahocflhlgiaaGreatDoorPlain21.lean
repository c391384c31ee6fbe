/- Plain mathematics: Next, of a text and of one that goes on with plain bytes. -/
import Derived.Test.YtefahocflhlgiaaGreatDoorPlain20
import Derived.Lib.IndexMore
namespace Go.Proofs.YtefahocflhlgiaaGreatDoor.Plain21
open Plain1 Plain2 Strs Plain3 Plain4 Plain5 Plain6 Plain9 Plain10 Plain11 Plain12 Plain14 Plain15 Plain16 Plain18 Plain19 Plain20
variable {s u : ByteArray} {t : List UInt8}

theorem scanR_some : ∀ (f p : Nat), VB s p → scanR s f p ≠ none
  | 0, p, _ => by simp [scanR]
  | f + 1, p, h => by
    unfold scanR
    by_cases hp : p < s.size
    · obtain ⟨hr, hv⟩ := VB_step h hp
      rw [if_pos hp, if_neg hr]
      have := scanR_some f _ hv
      intro e
      exact this (Option.map_eq_none_iff.1 e)
    · rw [if_neg hp]; simp
theorem VB_of {p : Nat} (hp : p < s.size) (hr : (runeZ s p).2 ≠ 0) (h : VB s (p + (runeZ s p).2)) : VB s p := by
  cases hl : scanR s s.size (p + (runeZ s p).2) with
  | none => exact absurd hl (scanR_some _ _ h)
  | some l =>
    refine ⟨s.size + 1, (runeZ s p).1 :: l, by omega, ?_⟩
    unfold scanR; rw [if_pos hp, if_neg hr, hl]; rfl
theorem scan_of_VB (h : VB s 0) : (scanAll s).2 < 0 := by
  rcases scan_R (s := s) (s.size + 1) 0 [] with ⟨l, _, h2⟩ | ⟨h1, _⟩
  · unfold scanAll; rw [h2]; simp
  · exact absurd h1 (scanR_some _ _ h)
theorem e_tail (h : Ext s u t) (j : Nat) : byteAt u (s.size + j) = ((t.getD j 0).toNat : Int) := by
  unfold byteAt
  rw [h]
  congr 2
  rw [List.getD_eq_getElem?_getD, List.getD_eq_getElem?_getD, List.getElem?_append_right (by rw [sz_list]; omega), sz_list, Nat.add_sub_cancel_left]
def Tame (t : List UInt8) : Prop := ∀ j, j < t.length → 32 ≤ (t.getD j 0).toNat ∧ (t.getD j 0).toNat < 127
theorem rune_plain {p : Nat} (hp : p < s.size) (h1 : 32 ≤ byteAt s p) (h2 : byteAt s p < 127) : (runeZ s p).2 = 1 := by
  unfold runeZ
  rw [if_pos (by omega), fin_good (by omega) (conts_one s p) (by show 0 ≤ byteAt s p; omega) (charB_yes (by show _; have : vz s p (byteAt s p) (1 - 1) = byteAt s p := rfl; rw [this]; omega))]
theorem VB_tail (h : Ext s u t) (ht : Tame t) : ∀ (n j : Nat), t.length ≤ j + n → VB u (s.size + j)
  | 0, j, hn => VB_end (by rw [e_size h]; omega)
  | n + 1, j, hn => by
    by_cases hj : j < t.length
    · have hb := e_tail h j
      obtain ⟨a, b⟩ := ht j hj
      have hp : s.size + j < u.size := by rw [e_size h]; omega
      have hr := rune_plain hp (by omega) (by omega)
      refine VB_of hp (by omega) ?_
      rw [hr, Nat.add_assoc]
      exact VB_tail h ht n (j + 1) (by omega)
    · exact VB_end (by rw [e_size h]; omega)
theorem e_VB (h : Ext s u t) (ht : Tame t) : ∀ (n i : Nat), s.size ≤ i + n → i ≤ s.size → VB s i → VB u i
  | 0, i, hn, hi, _ => by
    have := VB_tail h ht t.length 0 (by omega)
    rwa [show s.size + 0 = i by omega] at this
  | n + 1, i, hn, hi, hv => by
    by_cases hl : i < s.size
    · obtain ⟨hr, hv'⟩ := VB_step hv hl
      have hle := rune_le hr
      have er := e_rune h hl hr
      refine VB_of (by have := e_le h; omega) (by rw [er]; exact hr) ?_
      rw [er]
      exact e_VB h ht n _ (by omega) hle hv'
    · have := VB_tail h ht t.length 0 (by omega)
      rwa [show s.size + 0 = i by omega] at this
theorem e_scan (h : Ext s u t) (ht : Tame t) (hs : (scanAll s).2 < 0) : (scanAll u).2 < 0 := scan_of_VB (e_VB h ht s.size 0 (by omega) (Nat.zero_le _) (VB_all hs))
theorem no13 (hz : fz s 0 [13] = -1) {i : Nat} (hi : i < s.size) : byteAt s i ≠ 13 := by
  intro hb
  have hx := (fz_index s 0 [13]).1 hz
  rcases Lib.index_spec (rest s 0) [13] with ⟨_, h2⟩ | ⟨j, h1, _⟩
  · have := h2 i (by rw [rest_len]; omega)
    have e : Lib.occAt (rest s 0) [13] i = hasAt s i [13] := by
      rw [← has_occ]; unfold rest; rfl
    rw [e, one_sign hi 13 13 rfl] at this
    exact of_decide_eq_false this hb
  · omega
theorem e_13 (h : Ext s u t) (ht : Tame t) (hz : fz s 0 [13] = -1) : fz u 0 [13] = -1 := by
  rcases fz_spec u 0 [13] (Nat.zero_le _) with h1 | ⟨i, _, _, h2, h3, _⟩
  · exact h1
  · exfalso
    simp at h2
    have hi : i < u.size := by omega
    have hb : byteAt u i = 13 := by
      rw [one_sign hi 13 13 rfl] at h3
      exact of_decide_eq_true h3
    by_cases hl : i < s.size
    · exact no13 hz hl (by rw [← e_byte h hl]; exact hb)
    · obtain ⟨j, rfl⟩ : ∃ j, i = s.size + j := ⟨i - s.size, by omega⟩
      have hj : j < t.length := by rw [e_size h] at hi; omega
      rw [e_tail h j] at hb
      have := ht j hj
      omega
theorem text_E {p : Nat} (hp : p ≤ s.size) : p ≤ textE s p ∧ textE s p ≤ s.size ∧ (textE s p ≠ s.size → fz s p [60] ≠ -1 ∧ textE s p = (fz s p [60]).toNat) := by
  unfold textE
  rcases fz_spec s p [60] hp with h | ⟨i, h, h1, h2, _⟩
  · rw [if_pos h]; exact ⟨hp, Nat.le_refl _, fun e => absurd rfl e⟩
  · rw [if_neg (by omega), h]; simp at h2 ⊢; omega
theorem idx_app {A B sg : List UInt8} (h : Lib.index A sg ≠ -1) : Lib.index (A ++ B) sg ≠ -1 := by
  intro e
  rcases Lib.index_spec A sg with ⟨h1, _⟩ | ⟨i, h1, h2, h3, _⟩
  · exact h h1
  rcases Lib.index_spec (A ++ B) sg with ⟨_, k2⟩ | ⟨j, k1, _⟩
  · have := k2 i (by rw [List.length_append]; omega)
    unfold Lib.occAt at this h3
    rw [List.drop_append_of_le_length h2, pre_app h3] at this
    cases this
  · omega
theorem e_text (h : Ext s u t) {p : Nat} (hp : p ≤ s.size) (closed : Bool) (hf : (textZ s p false).fl ≠ 1) : textZ u p closed = textZ s p false ∧ textZ s p closed = textZ s p false := by
  obtain ⟨a, b, c⟩ := text_E hp
  have hsz := e_le h
  by_cases c1 : Lib.index (s.extract p (textE s p)).data.toList [93, 93, 62] ≠ -1
  · have e1 : textZ s p false = failT 2 := by unfold textZ; rw [if_pos c1]
    have e2 : textZ s p closed = failT 2 := by unfold textZ; rw [if_pos c1]
    refine ⟨?_, by rw [e1, e2]⟩
    rw [e1]
    unfold textZ
    rw [if_pos ?_]
    by_cases hE : textE s p = s.size
    · obtain ⟨a', b', c'⟩ := text_E (s := u) (p := p) (by omega)
      have hge : s.size ≤ textE u p := by
        refine Decidable.byContradiction fun hn => ?_
        obtain ⟨d1, d2⟩ := c' (by omega)
        rcases fz_spec u p [60] (by omega) with hz | ⟨i, hz, h1, h2, h3, _⟩
        · exact d1 hz
        · have hi : i < s.size := by rw [d2, hz] at hn; simp at hn; exact hn
          have hhs : hasAt s i [60] = true := by rw [← e_one h hi]; exact h3
          have hfs : fz s p [60] = -1 := by
            rcases fz_spec s p [60] hp with hz' | ⟨k, hz', k1, k2, k3, _⟩
            · exact hz'
            · exfalso
              have : textE s p = k := by unfold textE; rw [if_neg (by omega), hz']; rfl
              simp at k2; omega
          rcases Lib.index_spec (rest s p) [60] with ⟨_, q2⟩ | ⟨k, q1, _⟩
          · have := q2 (i - p) (by rw [rest_len]; omega)
            have e : Lib.occAt (rest s p) [60] (i - p) = hasAt s i [60] := by
              unfold Lib.occAt hasAt; rw [rest_rest, show p + (i - p) = i by omega]
            rw [e, hhs] at this; cases this
          · have := (fz_index s p [60]).1 hfs; omega
      have ex : (u.extract p (textE u p)).data.toList = (s.extract p (textE s p)).data.toList ++ ((u.extract p (textE u p)).data.toList.drop (s.size - p)) := by
        have hl : (s.extract p (textE s p)).data.toList = (u.extract p (textE u p)).data.toList.take (s.size - p) := by
          rw [hE, ByteArray.data_extract, ByteArray.data_extract, Array.toList_extract, Array.toList_extract, List.extract_eq_take_drop, List.extract_eq_take_drop, h, List.drop_append_of_le_length (by rw [sz_list]; exact hp), List.take_take, Nat.min_eq_left (by omega), List.take_append_of_le_length (by rw [List.length_drop, sz_list]; omega)]
        rw [hl, List.take_append_drop]
      rw [ex]
      exact idx_app c1
    · obtain ⟨d1, d2⟩ := c hE
      have ef := e_fz h (sg := [60]) (by simp) _ p (Nat.le_add_left _ _) hp d1
      have eE : textE u p = textE s p := by unfold textE; rw [ef, if_neg d1, if_neg d1]
      rw [eE, e_ext h b]
      exact c1
  · have c1' : Lib.index (s.extract p (textE s p)).data.toList [93, 93, 62] = -1 := by simpa using c1
    by_cases hE : textE s p = s.size
    · exact absurd (by unfold textZ; rw [if_neg c1, if_pos ⟨hE, rfl⟩]; rfl) hf
    · obtain ⟨d1, d2⟩ := c hE
      have ef := e_fz h (sg := [60]) (by simp) _ p (Nat.le_add_left _ _) hp d1
      have eE : textE u p = textE s p := by unfold textE; rw [ef, if_neg d1, if_neg d1]
      have e1 : textZ s p false = ⟨0, 4, ByteArray.empty, s.extract p (textE s p), [], textE s p⟩ := by unfold textZ; rw [if_neg c1, if_neg (fun hh => hE hh.1)]
      have e2 : textZ s p closed = ⟨0, 4, ByteArray.empty, s.extract p (textE s p), [], textE s p⟩ := by unfold textZ; rw [if_neg c1, if_neg (fun hh => hE hh.1)]
      refine ⟨?_, by rw [e1, e2]⟩
      rw [e1]
      unfold textZ
      rw [eE, e_ext h b, if_neg c1, if_neg (fun hh => hE (by omega))]
end Go.Proofs.YtefahocflhlgiaaGreatDoor.Plain21
