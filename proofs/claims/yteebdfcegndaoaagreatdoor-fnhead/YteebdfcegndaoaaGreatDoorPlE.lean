/- Plain mathematics of the head: what a head tells begins what it tells with another one behind it; program's and model's way agree of short heads. Nothing of the program is named here. -/
/- Plain mathematics of the head: values between signs in which a byte is barred; a part of a text of characters is one; no reference has a byte 37. Nothing of the program is named here. -/
/- Plain mathematics of the head: digits one by one. Nothing of the program is named here. -/
import Derived.Test.YteebdfcegndaoaaGreatDoorPlD
namespace Go.Proofs.YteebdfcegndaoaaGreatDoor.Plain26
open Go.RowKit Plain1 Strs Strs2 Lists Bytes Ents Plain3 Plain5 Plain6 Plain9 Plain10 Plain11 Plain12 Plain18 Plain19 Plain20 Plain21 Plain22 Plain23 Plain24 Plain25 Go.Lib
variable {s u v : ByteArray}

/-- All definitions of a head, if it is right. -/
def okGo (s : ByteArray) : Nat → Nat → Option (List Df)
  | 0, _ => none
  | f + 1, p =>
    if whiteZ s p < s.size then
      match markO s (whiteZ s p) with
      | none => none
      | some (l, q) => (okGo s f q).map (l ++ ·)
    else some []
theorem self_ext (s : ByteArray) : Ext s s [] := by unfold Ext; simp
theorem mark_end (h0 : VB s 0) {p : Nat} {r : List Df × Nat} (hp : p ≤ s.size) (hr : markO s p = some r) : VB s r.2 ∧ p < r.2 ∧ r.2 ≤ s.size := (e_markO (self_ext s) h0 hp hr).2
theorem addD_len (d : Dt) (x : Df) : (∃ a, (addD d x).ents = d.ents ++ a) ∧ ∃ b, (addD d x).atts = d.atts ++ b := by
  cases x with
  | inl e =>
    show (∃ a, (if (d.ents.find? (isEnt e.1)).isSome = true then d else ⟨d.ents ++ [e], d.atts⟩ : Dt).ents = d.ents ++ a) ∧ ∃ b, (if (d.ents.find? (isEnt e.1)).isSome = true then d else ⟨d.ents ++ [e], d.atts⟩ : Dt).atts = d.atts ++ b
    by_cases h : (d.ents.find? (isEnt e.1)).isSome = true
    · rw [if_pos h]; exact ⟨⟨[], by simp⟩, [], by simp⟩
    · rw [if_neg h]; exact ⟨⟨[e], rfl⟩, [], by simp⟩
  | inr a =>
    show (∃ b, (if (d.atts.find? (isAtt a.of a.nm)).isSome = true then d else ⟨d.ents, d.atts ++ [a]⟩ : Dt).ents = d.ents ++ b) ∧ ∃ b, (if (d.atts.find? (isAtt a.of a.nm)).isSome = true then d else ⟨d.ents, d.atts ++ [a]⟩ : Dt).atts = d.atts ++ b
    by_cases h : (d.atts.find? (isAtt a.of a.nm)).isSome = true
    · rw [if_pos h]; exact ⟨⟨[], by simp⟩, [], by simp⟩
    · rw [if_neg h]; exact ⟨⟨[], by simp⟩, [a], rfl⟩
theorem addAll_more : ∀ (l : List Df) (d : Dt), (∃ a, (addAll d l).ents = d.ents ++ a) ∧ ∃ b, (addAll d l).atts = d.atts ++ b
  | [], d => ⟨⟨[], by simp [addAll]⟩, [], by simp [addAll]⟩
  | x :: l, d => by
    obtain ⟨⟨a, ha⟩, b, hb⟩ := addD_len d x
    obtain ⟨⟨a', ha'⟩, b', hb'⟩ := addAll_more l (addD d x)
    exact ⟨⟨a ++ a', by show (addAll (addD d x) l).ents = _; rw [ha', ha, List.append_assoc]⟩, b ++ b', by show (addAll (addD d x) l).atts = _; rw [hb', hb, List.append_assoc]⟩
theorem addAll_app (d : Dt) (l m : List Df) : addAll d (l ++ m) = addAll (addAll d l) m := by unfold addAll; rw [List.foldl_append]
theorem full_more {d : Dt} (l : List Df) (h : fullB d = true) : fullB (addAll d l) = true := by
  obtain ⟨⟨a, ha⟩, b, hb⟩ := addAll_more l d
  unfold fullB at h ⊢
  have := of_decide_eq_true h
  apply decide_eq_true
  rw [ha, hb, List.length_append, List.length_append]
  omega
theorem impl_ok : ∀ (f p : Nat) (d : Dt) (fu : Int) (L : List Df), (fu < 0 → fullB d = false) → okGo s f p = some L → (fu < 0 ∧ fullB (addAll d L) = false ∧ implGo s f p d fu = ⟨addAll d L, 0, 0⟩) ∨ (¬ (fu < 0 ∧ fullB (addAll d L) = false) ∧ (implGo s f p d fu).code = 7)
  | 0, _, _, _, _, _, h => by cases h
  | f + 1, p, d, fu, L, hd, h => by
    unfold okGo at h
    unfold implGo
    split at h
    · rename_i hw
      rw [if_pos hw]
      split at h
      · cases h
      · rename_i l q hm
        obtain ⟨M, hM, rfl⟩ := Option.map_eq_some_iff.1 h
        simp only [hm]
        rw [addAll_app]
        by_cases hfu : fu < 0 ∧ fullB (addAll d l) = true
        · rw [if_pos hfu]
          right
          rcases impl_ok f q (addAll d l) (whiteZ s p : Int) M (by omega) hM with h1 | h1
          · omega
          · refine ⟨fun hh => ?_, h1.2⟩
            rw [full_more M hfu.2] at hh
            cases hh.2
        · rw [if_neg hfu]
          exact impl_ok f q (addAll d l) fu M (fun hh => by cases hc : fullB (addAll d l) with | false => rfl | true => exact absurd ⟨hh, hc⟩ hfu) hM
    · rename_i hw
      cases h
      rw [if_neg hw]
      show (fu < 0 ∧ fullB d = false ∧ _) ∨ _
      by_cases hfu : fu < 0
      · rw [if_pos hfu]; exact .inl ⟨hfu, hd hfu, rfl⟩
      · rw [if_neg hfu]; exact .inr ⟨fun hh => hfu hh.1, rfl⟩
theorem impl_bad : ∀ (f p : Nat) (d : Dt) (fu : Int), VB s 0 → p ≤ s.size → s.size < p + f → okGo s f p = none → (implGo s f p d fu).code = 3
  | 0, p, _, _, _, h1, h2, _ => by omega
  | f + 1, p, d, fu, h0, h1, h2, h => by
    unfold okGo at h
    unfold implGo
    split at h
    · rename_i hw
      rw [if_pos hw]
      split at h
      · rename_i hm; simp only [hm]; rfl
      · rename_i l q hm
        simp only [hm]
        have hge := whiteZ_ge s p
        have he := mark_end h0 (Nat.le_of_lt hw) hm
        exact impl_bad f q _ _ h0 he.2.2 (by simp only at he; omega) (Option.map_eq_none_iff.1 h)
    · cases h
/-- A head that is told is right, and it tells its definitions. -/
theorem impl_told (h : (implDtd s).code = 0) : s.size ≤ 4000 ∧ headOk s ∧ ∃ L, okGo s (s.size + 1) 0 = some L ∧ fullB (addAll ⟨[], []⟩ L) = false ∧ implDtd s = ⟨addAll ⟨[], []⟩ L, 0, 0⟩ := by
  unfold implDtd at h ⊢
  by_cases h4 : 4000 < s.size
  · rw [if_pos h4] at h; cases h
  rw [if_neg h4] at h ⊢
  by_cases hk : headOk s
  · rw [if_pos hk] at h ⊢
    refine ⟨by omega, hk, ?_⟩
    cases hL : okGo s (s.size + 1) 0 with
    | none => rw [impl_bad _ _ _ _ (VB_all hk.1) (Nat.zero_le _) (by omega) hL] at h; cases h
    | some L =>
      rcases impl_ok _ _ ⟨[], []⟩ (-1) L (fun _ => rfl) hL with h1 | h1
      · exact ⟨L, rfl, h1.2.1, h1.2.2⟩
      · rw [h1.2] at h; cases h
  · rw [if_neg hk] at h; cases h
theorem h_VB (h : Sh s u v) : ∀ (n p : Nat), u.size ≤ p + n → VB u p → VB v (s.size + p)
  | 0, p, hn, _ => VB_end (by have := h_size h; omega)
  | n + 1, p, hn, hv => by
    have hz := h_size h
    by_cases hp : p < u.size
    · obtain ⟨h1, h2⟩ := VB_step hv hp
      refine VB_of (by omega) (by rw [h_rune h]; exact h1) ?_
      rw [h_rune h, Nat.add_assoc]
      exact h_VB h n _ (by omega) h2
    · exact VB_end (by omega)
theorem both_VB (h : Sh s u v) (hu : VB u 0) : ∀ (n p : Nat), s.size ≤ p + n → p ≤ s.size → VB s p → VB v p
  | 0, p, hn, hp, _ => by
    have : p = s.size + 0 := by omega
    rw [this]; exact h_VB h u.size 0 (by omega) hu
  | n + 1, p, hn, hp, hv => by
    have hz := h_size h
    by_cases hps : p < s.size
    · obtain ⟨h1, h2⟩ := VB_step hv hps
      have hr := e_rune h.ext hps h1
      refine VB_of (by omega) (by rw [hr]; exact h1) ?_
      rw [hr]
      by_cases hle : p + (runeZ s p).2 ≤ s.size
      · exact both_VB h hu n _ (by omega) hle h2
      · exfalso
        have := rune_le h1
        omega
    · have : p = s.size + 0 := by omega
      rw [this]; exact h_VB h u.size 0 (by omega) hu
theorem both_head (h : Sh s u v) (hs : headOk s) (hu : headOk u) : headOk v := by
  have hz := h_size h
  refine ⟨scan_of_VB (both_VB h (VB_all hu.1) s.size 0 (by omega) (Nat.zero_le _) (VB_all hs.1)), ?_⟩
  rcases fz_spec v 0 [13] (Nat.zero_le _) with h1 | ⟨i, h1, _, h3, h4, _⟩
  · exact h1
  exfalso
  simp only [List.length_cons, List.length_nil] at h3
  have hb := byteAt_of_cons h4 (by omega)
  by_cases hi : i < s.size
  · rw [e_byte h.ext hi] at hb
    exact no13 hs.2 hi hb
  · obtain ⟨j, rfl⟩ : ∃ j, i = s.size + j := ⟨i - s.size, by omega⟩
    rw [h_byte h] at hb
    exact no13 hu.2 (by omega) hb
theorem h_ok (h : Sh s u v) (h0 : VB u 0) : ∀ (f f' p : Nat), p ≤ u.size → u.size < p + f → u.size < p + f' → okGo v f (s.size + p) = okGo u f' p
  | 0, _, _, h1, h2, _ => by omega
  | _ + 1, 0, _, h1, _, h3 => by omega
  | f + 1, f' + 1, p, h1, h2, h3 => by
    have hz := h_size h
    unfold okGo
    rw [h_white h]
    by_cases hw : whiteZ u p < u.size
    · rw [if_pos hw, if_pos (by omega), h_mark h h0 (Nat.le_of_lt hw)]
      cases hm : markO u (whiteZ u p) with
      | none => rfl
      | some r =>
        have hge := whiteZ_ge u p
        have he := mark_end h0 (Nat.le_of_lt hw) hm
        show (okGo v f (s.size + r.2)).map (r.1 ++ ·) = (okGo u f' r.2).map (r.1 ++ ·)
        rw [h_ok h h0 f f' r.2 he.2.2 (by omega) (by omega)]
    · rw [if_neg hw, if_neg (by omega)]
theorem ok_white {f p q : Nat} (h : whiteZ s p = whiteZ s q) : okGo s (f + 1) p = okGo s (f + 1) q := by
  unfold okGo; rw [h]
theorem ok_fuel (h0 : VB s 0) : ∀ (f f' p : Nat), p ≤ s.size → s.size < p + f → s.size < p + f' → okGo s f p = okGo s f' p
  | 0, _, _, h1, h2, _ => by omega
  | _ + 1, 0, _, h1, _, h3 => by omega
  | f + 1, f' + 1, p, h1, h2, h3 => by
    unfold okGo
    by_cases hw : whiteZ s p < s.size
    · rw [if_pos hw, if_pos hw]
      cases hm : markO s (whiteZ s p) with
      | none => rfl
      | some r =>
        have hge := whiteZ_ge s p
        have he := mark_end h0 (Nat.le_of_lt hw) hm
        show (okGo s f r.2).map (r.1 ++ ·) = (okGo s f' r.2).map (r.1 ++ ·)
        rw [ok_fuel h0 f f' r.2 he.2.2 (by omega) (by omega)]
    · rw [if_neg hw, if_neg hw]
theorem white_on (h : Sh s u v) : ∀ (f g i : Nat), s.size < i + f → v.size < i + g → i ≤ s.size → whiteGo s f i = s.size → whiteGo v g i = s.size + whiteZ u 0
  | 0, _, _, h1, _, h3, _ => by omega
  | f + 1, 0, i, h1, h2, h3, _ => by have := h_size h; omega
  | f + 1, g + 1, i, h1, h2, h3, h4 => by
    have hz := h_size h
    by_cases hi : i < s.size
    · by_cases hw : whiteB (byteAt s i) = true
      · rw [whiteGo_on ⟨hi, hw⟩] at h4
        rw [whiteGo_on ⟨by omega, by rw [e_byte h.ext hi]; exact hw⟩]
        exact white_on h f g (i + 1) (by omega) (by omega) (by omega) h4
      · rw [whiteGo_stop (fun hh => hw hh.2)] at h4; omega
    · have : i = s.size + 0 := by omega
      subst this
      exact h_whiteGo h (g + 1) (u.size + 1) 0 (by omega) (by omega)
theorem white_meets (h : Sh s u v) {p : Nat} (hp : p ≤ s.size) (hw : whiteZ s p = s.size) : whiteZ v p = whiteZ v (s.size + 0) := by
  rw [h_white h]
  exact white_on h (s.size + 1) (v.size + 1) p (by omega) (by omega) hp hw
/-- Definitions of a text, and those of one behind it. -/
theorem both_ok (h : Sh s u v) (hs0 : VB s 0) (hu0 : VB u 0) {M : List Df} (hM : okGo u (u.size + 1) 0 = some M) : ∀ (f g p : Nat) (L : List Df), p ≤ s.size → s.size < p + f → v.size < p + g → okGo s f p = some L → okGo v g p = some (L ++ M)
  | 0, _, _, _, h1, h2, _, _ => by omega
  | _ + 1, 0, _, _, h1, _, h3, _ => by have := h_size h; omega
  | f + 1, g + 1, p, L, h1, h2, h3, hL => by
    have hz := h_size h
    unfold okGo at hL
    split at hL
    · rename_i hw
      split at hL
      · cases hL
      · rename_i l q hm
        obtain ⟨L', hL', rfl⟩ := Option.map_eq_some_iff.1 hL
        have hge := whiteZ_ge s p
        have he := e_markO h.ext hs0 (Nat.le_of_lt hw) hm
        unfold okGo
        rw [e_white h.ext hw, if_pos (by omega), he.1]
        simp only at he ⊢
        rw [both_ok h hs0 hu0 hM f g q L' he.2.2.2 (by omega) (by omega) hL', Option.map_some, List.append_assoc]
    · rename_i hw
      cases hL
      have hws : whiteZ s p = s.size := by have := whiteZ_le h1; omega
      rw [List.nil_append, ok_white (white_meets h h1 hws), ← hM]
      have hv0 : VB v 0 := both_VB h hu0 s.size 0 (by omega) (Nat.zero_le _) hs0
      rw [ok_fuel hv0 (g + 1) (v.size + 1) (s.size + 0) (by omega) (by omega) (by omega)]
      exact h_ok h hu0 (v.size + 1) (u.size + 1) 0 (Nat.zero_le _) (by omega) (by omega)
theorem head_on (h : Sh s u v) (h4 : v.size ≤ 4000) (hs : (implDtd s).code = 0) (hu : (implDtd u).code = 0) :
    ∃ L M, implDtd s = ⟨addAll ⟨[], []⟩ L, 0, 0⟩ ∧ okGo u (u.size + 1) 0 = some M ∧ okGo s (s.size + 1) 0 = some L ∧
      ((implDtd v).code = 7 ∧ fullB (addAll (addAll ⟨[], []⟩ L) M) = true ∨ implDtd v = ⟨addAll (addAll ⟨[], []⟩ L) M, 0, 0⟩) := by
  obtain ⟨_, hks, L, hL, hf, heq⟩ := impl_told hs
  obtain ⟨_, hku, M, hM, _, _⟩ := impl_told hu
  have hkv := both_head h hks hku
  have hok := both_ok h (VB_all hks.1) (VB_all hku.1) hM (s.size + 1) (v.size + 1) 0 L (Nat.zero_le _) (by omega) (by omega) hL
  refine ⟨L, M, heq, hM, hL, ?_⟩
  unfold implDtd
  rw [if_neg (by omega), if_pos hkv, ← addAll_app]
  rcases impl_ok (v.size + 1) 0 ⟨[], []⟩ (-1) (L ++ M) (fun _ => rfl) hok with h1 | h1
  · exact .inr h1.2.2
  · left
    refine ⟨h1.2, ?_⟩
    cases hc : fullB (addAll ⟨[], []⟩ (L ++ M)) with
    | true => rfl
    | false => exact absurd ⟨by omega, hc⟩ h1.1
/-- Behind definitions that are there nothing is told. -/
def There (d : Dt) : Df → Prop
  | .inl e => (d.ents.find? (isEnt e.1)).isSome = true
  | .inr a => (d.atts.find? (isAtt a.of a.nm)).isSome = true
theorem addD_there {d : Dt} {x : Df} (h : There d x) : addD d x = d := by
  cases x with
  | inl e => exact if_pos h
  | inr a => exact if_pos h
theorem isEnt_self (e : ByteArray × ByteArray) : isEnt e.1 e = true := by unfold isEnt; exact beq_self_eq_true _
theorem isAtt_self (a : At5) : isAtt a.of a.nm a = true := by unfold isAtt; rw [beq_self_eq_true, beq_self_eq_true]; rfl
theorem there_now (d : Dt) (x : Df) : There (addD d x) x := by
  cases x with
  | inl e =>
    show ((if (d.ents.find? (isEnt e.1)).isSome = true then d else ⟨d.ents ++ [e], d.atts⟩ : Dt).ents.find? (isEnt e.1)).isSome = true
    by_cases h : (d.ents.find? (isEnt e.1)).isSome = true
    · rw [if_pos h]; exact h
    · rw [if_neg h]
      rw [List.find?_isSome]
      exact ⟨e, by simp, isEnt_self e⟩
  | inr a =>
    show ((if (d.atts.find? (isAtt a.of a.nm)).isSome = true then d else ⟨d.ents, d.atts ++ [a]⟩ : Dt).atts.find? (isAtt a.of a.nm)).isSome = true
    by_cases h : (d.atts.find? (isAtt a.of a.nm)).isSome = true
    · rw [if_pos h]; exact h
    · rw [if_neg h]
      rw [List.find?_isSome]
      exact ⟨a, by simp, isAtt_self a⟩
theorem there_more {d : Dt} {x : Df} (l : List Df) (h : There d x) : There (addAll d l) x := by
  obtain ⟨⟨a, ha⟩, b, hb⟩ := addAll_more l d
  cases x with
  | inl e =>
    unfold There at h ⊢
    simp only at h ⊢
    rw [List.find?_isSome] at h ⊢
    obtain ⟨y, hy, hy2⟩ := h
    exact ⟨y, by rw [ha]; simp [hy], hy2⟩
  | inr e =>
    unfold There at h ⊢
    simp only at h ⊢
    rw [List.find?_isSome] at h ⊢
    obtain ⟨y, hy, hy2⟩ := h
    exact ⟨y, by rw [hb]; simp [hy], hy2⟩
theorem all_there : ∀ (l : List Df) (d : Dt), ∀ x ∈ l, There (addAll d l) x
  | [], _, _, h => by cases h
  | y :: l, d, x, h => by
    show There (addAll (addD d y) l) x
    rcases List.mem_cons.1 h with rfl | h
    · exact there_more l (there_now d x)
    · exact all_there l _ x h
theorem add_none : ∀ (l : List Df) (d : Dt), (∀ x ∈ l, There d x) → addAll d l = d
  | [], _, _ => rfl
  | x :: l, d, h => by
    show addAll (addD d x) l = d
    rw [addD_there (h x (by simp))]
    exact add_none l d fun y hy => h y (by simp [hy])
theorem add_twice (d : Dt) (l : List Df) : addAll (addAll d l) l = addAll d l := add_none l _ (all_there l d)
/-- A head that is read twice tells the same. -/
theorem head_twice (h : Sh s s v) (h4 : v.size ≤ 4000) (hs : (implDtd s).code = 0) : implDtd v = implDtd s := by
  obtain ⟨L, M, h1, h2, h3, h5⟩ := head_on h h4 hs hs
  have : M = L := by rw [h2] at h3; exact Option.some.inj h3
  subst this
  rw [add_twice] at h5
  obtain ⟨_, _, L', h6, h7, _⟩ := impl_told hs
  rw [h2] at h6
  cases h6
  rcases h5 with h5 | h5
  · rw [h7] at h5; cases h5.2
  · rw [h5, h1]
theorem atts_len {o : ByteArray} : ∀ (f p : Nat) (acc : List At5) (r : List At5 × Nat), attsGo s o f p acc = some r → p + 8 * r.1.length ≤ r.2 + 8 * acc.length
  | 0, _, _, _, h => by cases h
  | f + 1, p, acc, r, h => by
    have hge := whiteZ_ge s p
    unfold attsGo at h
    split at h
    · cases h; simp only; omega
    split at h
    · cases h
    · rename_i hne
      split at h
      · cases h
      · rename_i a q hm
        have hpos := (att_pos hm).1
        have := atts_len f q (acc ++ [a]) r h
        simp only [List.length_append, List.length_cons, List.length_nil] at this
        simp only at hpos
        omega
theorem mark_len (h0 : VB s 0) {p : Nat} {r : List Df × Nat} (hp : p ≤ s.size) (hr : markO s p = some r) : p + 8 * r.1.length ≤ r.2 := by
  have hend := mark_end h0 hp hr
  unfold markO at hr
  split at hr
  · split at hr
    · cases hr; simp only [List.length_nil]; simp only at hend; omega
    · cases hr
  split at hr
  · split at hr
    · cases hr; simp only [List.length_nil]; simp only at hend; omega
    · cases hr
  split at hr
  · rename_i h1
    have hv : VB s (p + 8) := VB_sign h0 h1 hp (by simp [entL]) (by simp [entL])
    have := (e_entity (self_ext s) h0 hv hr).2.2.1
    unfold entityZ at hr
    obtain ⟨a, ha, hr⟩ := Option.bind_eq_some_iff.1 hr
    obtain ⟨n, hn, hr⟩ := Option.bind_eq_some_iff.1 hr
    obtain ⟨b, hb, hr⟩ := Option.bind_eq_some_iff.1 hr
    obtain ⟨v, hq, hr⟩ := Option.bind_eq_some_iff.1 hr
    obtain ⟨x, hx, hr⟩ := Option.bind_eq_some_iff.1 hr
    obtain ⟨q, hm, hr⟩ := Option.bind_eq_some_iff.1 hr
    cases hr
    simp only [List.length_cons, List.length_nil]
    simp only at this
    omega
  split at hr
  · unfold attlistZ at hr
    obtain ⟨a, ha, hr⟩ := Option.bind_eq_some_iff.1 hr
    obtain ⟨n, hn, hr⟩ := Option.bind_eq_some_iff.1 hr
    obtain ⟨l, hl, hr⟩ := Option.bind_eq_some_iff.1 hr
    cases hr
    have := atts_len _ _ _ _ hl
    have h1 := (gap_some ha).1
    have h2 := (name_some hn).2.2.2.1
    simp only [List.length_map]
    simp only [List.length_nil] at this
    omega
  split at hr
  · unfold elementZ at hr
    obtain ⟨a, ha, hr⟩ := Option.bind_eq_some_iff.1 hr
    obtain ⟨n, hn, hr⟩ := Option.bind_eq_some_iff.1 hr
    obtain ⟨b, hb, hr⟩ := Option.bind_eq_some_iff.1 hr
    split at hr
    · cases hr; simp only [List.length_nil]; simp only at hend; omega
    · cases hr
  · cases hr
theorem addD_count (d : Dt) (x : Df) : (addD d x).ents.length ≤ d.ents.length + 1 ∧ (addD d x).atts.length ≤ d.atts.length + 1 := by
  cases x with
  | inl e =>
    show (if (d.ents.find? (isEnt e.1)).isSome = true then d else ⟨d.ents ++ [e], d.atts⟩ : Dt).ents.length ≤ _ ∧ (if (d.ents.find? (isEnt e.1)).isSome = true then d else ⟨d.ents ++ [e], d.atts⟩ : Dt).atts.length ≤ _
    by_cases h : (d.ents.find? (isEnt e.1)).isSome = true
    · rw [if_pos h]; omega
    · rw [if_neg h]; simp
  | inr a =>
    show (if (d.atts.find? (isAtt a.of a.nm)).isSome = true then d else ⟨d.ents, d.atts ++ [a]⟩ : Dt).ents.length ≤ _ ∧ (if (d.atts.find? (isAtt a.of a.nm)).isSome = true then d else ⟨d.ents, d.atts ++ [a]⟩ : Dt).atts.length ≤ _
    by_cases h : (d.atts.find? (isAtt a.of a.nm)).isSome = true
    · rw [if_pos h]; omega
    · rw [if_neg h]; simp
theorem addAll_count : ∀ (l : List Df) (d : Dt), (addAll d l).ents.length ≤ d.ents.length + l.length ∧ (addAll d l).atts.length ≤ d.atts.length + l.length
  | [], _ => ⟨Nat.le_refl _, Nat.le_refl _⟩
  | x :: l, d => by
    have h1 := addD_count d x
    have h2 := addAll_count l (addD d x)
    show (addAll (addD d x) l).ents.length ≤ _ ∧ (addAll (addD d x) l).atts.length ≤ _
    simp only [List.length_cons]
    omega
/-- In a text of at most 320 bytes there are never more than forty. -/
theorem spec_impl (h0 : VB s 0) (hs : s.size ≤ 320) : ∀ (f p : Nat) (d : Dt), p ≤ s.size → 8 * d.ents.length ≤ p → 8 * d.atts.length ≤ p → specGo s f p d = implGo s f p d (-1)
  | 0, _, _, _, _, _ => rfl
  | f + 1, p, d, hp, h1, h2 => by
    unfold specGo implGo
    by_cases hw : whiteZ s p < s.size
    · rw [if_pos hw, if_pos hw]
      cases hm : markO s (whiteZ s p) with
      | none => rfl
      | some r =>
        have hge := whiteZ_ge s p
        have hl := mark_len h0 (Nat.le_of_lt hw) hm
        have he := mark_end h0 (Nat.le_of_lt hw) hm
        have hc := addAll_count r.1 d
        have hf : fullB (addAll d r.1) = false := by
          unfold fullB
          apply decide_eq_false
          omega
        show (if fullB (addAll d r.1) = true then dFail (whiteZ s p : Int) 7 else specGo s f r.2 (addAll d r.1)) = implGo s f r.2 (addAll d r.1) (if (-1 : Int) < 0 ∧ fullB (addAll d r.1) = true then (whiteZ s p : Int) else -1)
        rw [hf, if_neg (by simp), if_neg (by simp)]
        exact spec_impl h0 hs f r.2 _ he.2.2 (by omega) (by omega)
    · rw [if_neg hw, if_neg hw, if_pos (by omega)]
theorem dtd_same (hs : s.size ≤ 320) : specDtd s = implDtd s := by
  have h4 : ¬ 4000 < s.size := by omega
  unfold specDtd implDtd
  rw [if_neg h4, if_neg h4]
  by_cases hk : headOk s
  · rw [if_pos hk, if_pos hk]
    exact spec_impl (VB_all hk.1) hs _ _ _ (Nat.zero_le _) (Nat.le_refl _) (Nat.le_refl _)
  · rw [if_neg hk, if_neg hk]
end Go.Proofs.YteebdfcegndaoaaGreatDoor.Plain26

namespace Go.Proofs.YteebdfcegndaoaaGreatDoor.Plain27
open Go.RowKit Plain1 Plain2 Strs Strs2 Lists Bytes Ents Plain3 Plain5 Plain6 Plain9 Plain10 Plain11 Plain12 Plain18 Plain19 Plain20 Plain21 Plain22 Plain23 Plain24 Plain25 Plain26 Go.Lib
variable {s u v : ByteArray}

theorem r_fin {t : List UInt8} (h : Ext s u t) {pos n : Nat} {x0 low : Int} (hn : 1 ≤ n) (hp : pos + n ≤ s.size) (hf : (fin u pos x0 n low).2 ≠ 0) : fin s pos x0 n low = fin u pos x0 n low := by
  have hc : pos + n ≤ u.size ∧ conts u pos n ∧ low ≤ vz u pos x0 (n - 1) ∧ charB (vz u pos x0 (n - 1)) = true := Decidable.byContradiction fun hc => hf (by unfold fin; rw [if_neg hc])
  obtain ⟨c1, c2, c3, c4⟩ := hc
  have ev := e_vz h (pos := pos) x0 (n - 1) (.inl (by omega))
  rw [fin_good c1 c2 c3 c4, fin_good hp (conts_iff.2 fun k hk h1 => by
    have := conts_iff.1 c2 k hk h1
    unfold goesOn at this ⊢; rw [e_byte h (by omega)] at this; exact this) (by rw [← ev]; exact c3) (by rw [← ev]; exact c4), ev]
theorem r_rune {t : List UInt8} (h : Ext s u t) {p : Nat} (hp : p + (runeZ u p).2 ≤ s.size) (hr : (runeZ u p).2 ≠ 0) : runeZ s p = runeZ u p := by
  have hb := e_byte h (i := p) (by omega)
  unfold runeZ at hr hp ⊢
  rw [hb] at hr hp ⊢
  by_cases h1 : byteAt s p < 128
  · rw [if_pos h1] at hr hp ⊢; rw [if_pos h1]; exact r_fin h (by omega) (by rw [← (fin_two hr).1]; exact hp) hr
  rw [if_neg h1] at hr hp ⊢; rw [if_neg h1]
  by_cases h2 : 192 ≤ byteAt s p ∧ byteAt s p < 224
  · rw [if_pos h2] at hr hp ⊢; rw [if_pos h2]; exact r_fin h (by omega) (by rw [← (fin_two hr).1]; exact hp) hr
  rw [if_neg h2] at hr hp ⊢; rw [if_neg h2]
  by_cases h3 : 224 ≤ byteAt s p ∧ byteAt s p < 240
  · rw [if_pos h3] at hr hp ⊢; rw [if_pos h3]; exact r_fin h (by omega) (by rw [← (fin_two hr).1]; exact hp) hr
  rw [if_neg h3] at hr hp ⊢; rw [if_neg h3]
  by_cases h4 : 240 ≤ byteAt s p ∧ byteAt s p < 248
  · rw [if_pos h4] at hr hp ⊢; rw [if_pos h4]; exact r_fin h (by omega) (by rw [← (fin_two hr).1]; exact hp) hr
  · rw [if_neg h4] at hr; exact absurd rfl hr
/-- The beginning of a text of characters, up to a byte with which one may begin, or to its end. -/
theorem pre_VB {t : List UInt8} (h : Ext s u t) (he : u.size = s.size ∨ ¬ goesOn u s.size) : ∀ (n p : Nat), s.size ≤ p + n → VB u p → VB s p
  | 0, p, hn, _ => VB_end (by omega)
  | n + 1, p, hn, hv => by
    have hle := e_le h
    by_cases hp : p < s.size
    · obtain ⟨h1, h2⟩ := VB_step hv (by omega)
      have hin : p + (runeZ u p).2 ≤ s.size := by
        apply Decidable.byContradiction
        intro hc
        have hl := rune_le h1
        rcases he with he | he
        · omega
        · have := ((rune_bytes h1).2 (s.size - p) (by omega) (by omega)).1
          rw [show p + (s.size - p) = s.size by omega] at this
          exact he this
      have hr := r_rune h hin h1
      refine VB_of hp (by rw [hr]; exact h1) ?_
      rw [hr]
      exact pre_VB h he n _ (by omega) h2
    · exact VB_end (by omega)
theorem cut_ext {a b : Nat} (hb : b ≤ s.size) (ha : a ≤ b) : Ext (s.extract a b) (s.extract a s.size) (rest s b) := by
  unfold Ext
  rw [ext_list, ext_list]
  unfold rest
  rw [← List.take_append_drop (b - a) ((s.data.toList.drop a).take (s.size - a))]
  congr 1
  · rw [List.take_take, Nat.min_eq_left (by omega)]
  · rw [List.take_of_length_le (by rw [List.length_drop, sz_list]; omega), List.drop_drop, show a + (b - a) = b by omega]
theorem cut_sh (s : ByteArray) (a : Nat) : Sh (s.extract 0 a) (s.extract a s.size) s := by
  unfold Sh
  rw [ext_list, ext_list]
  simp only [List.drop_zero, Nat.sub_zero]
  rw [List.take_of_length_le (l := s.data.toList.drop a) (by rw [List.length_drop, sz_list]; omega), List.take_append_drop]
theorem cut0_size {a : Nat} (ha : a ≤ s.size) : (s.extract 0 a).size = a := by rw [ext_size ha]; omega
theorem suf_VB {a : Nat} (ha : a ≤ s.size) : ∀ (n p : Nat), (s.extract a s.size).size ≤ p + n → VB s (a + p) → VB (s.extract a s.size) p
  | 0, p, hn, _ => VB_end (by omega)
  | n + 1, p, hn, hv => by
    have h := cut_sh s a
    have hz : (s.extract a s.size).size = s.size - a := ext_sz s a
    by_cases hp : p < (s.extract a s.size).size
    · obtain ⟨h1, h2⟩ := VB_step hv (by omega)
      have hr := h_rune h p
      rw [cut0_size ha] at hr
      refine VB_of hp (by rw [← hr]; exact h1) ?_
      rw [← hr]
      exact suf_VB ha n _ (by omega) (by rw [← Nat.add_assoc]; exact h2)
    · exact VB_end (by omega)
/-- A part of a text of characters. -/
theorem cut_VB {a b : Nat} (hb : b ≤ s.size) (ha : a ≤ b) (hv : VB s a) (he : b = s.size ∨ ¬ goesOn s b) : VB (s.extract a b) 0 := by
  have hz : (s.extract a b).size = b - a := ext_size hb
  refine pre_VB (cut_ext hb ha) ?_ (s.extract a b).size 0 (by omega) (suf_VB (a := a) (by omega) (s.extract a s.size).size 0 (by omega) hv)
  rw [ext_sz, hz]
  rcases he with he | he
  · exact .inl (by omega)
  · by_cases hbs : b < s.size
    · refine .inr fun hg => he ?_
      unfold goesOn at hg ⊢
      rw [byteAt_ext (by omega), show a + (b - a) = b by omega] at hg
      exact hg
    · exact .inl (by omega)
theorem name_no37 {p : Nat} : ∀ (f n : Nat), (∀ k, k < n → byteAt s (p + k) ≠ 37) → ∀ k, k < nameGo s p f n → byteAt s (p + k) ≠ 37
  | 0, _, h => h
  | f + 1, n, h => by
    by_cases hp : p + n < s.size
    · by_cases hst : stops s p n
      · rw [nameGo_stop hp hst]; exact h
      · rw [nameGo_on hp hst]
        refine name_no37 f _ fun k hk => ?_
        by_cases hkn : k < n
        · exact h k hkn
        have h1 : (runeZ s (p + n)).2 ≠ 0 := fun hh => hst (.inl hh)
        by_cases hk0 : k = n
        · subst hk0
          intro hb
          refine hst (.inr (.inr ?_))
          have hr1 : (runeZ s (p + k)).1 = 37 := by
            unfold runeZ at h1 ⊢
            rw [hb, if_pos (by omega)] at h1 ⊢
            unfold fin at h1 ⊢
            split at h1
            · rename_i hh; rw [if_pos hh]; rfl
            · exact absurd rfl h1
          rw [hr1]; decide
        · have := ((rune_bytes h1).2 (k - n) (by omega) (by omega)).1
          unfold goesOn at this
          rw [show p + n + (k - n) = p + k by omega] at this
          omega
    · rw [nameGo_end (by omega)]; exact h
theorem dig_no37 {c : UInt8} {base : Nat} (h : digV c < base) (hb : base ≤ 16) : (c.toNat : Int) ≠ 37 := by
  intro hc
  have : c.toNat = 37 := by omega
  unfold digV at h
  rw [this] at h
  simp at h
  omega
theorem numBase_le (s : ByteArray) (p : Nat) : numBase s p ≤ 16 := by unfold numBase; split <;> omega
theorem digs_at {base : Nat} {l : List UInt8} {k : Nat} (h : k < (digs base l).length) : digV (l.getD k 0) < base := by
  unfold digs at h
  induction l generalizing k with
  | nil => simp at h
  | cons c l ih =>
    rw [List.takeWhile_cons] at h
    split at h
    · rename_i hc
      cases k with
      | zero => simpa using hc
      | succ k => exact ih (by simpa using h)
    · simp at h
theorem digs_le (base : Nat) (l : List UInt8) : (digs base l).length ≤ l.length := by unfold digs; exact (List.takeWhile_prefix _).length_le
theorem num_some {p : Nat} {r : Int × Nat} (h : numZ s p = some r) : numOk s p ∧ r = ((numV s p : Int), numAt s p + (numD s p).length + 1) := by
  unfold numZ at h
  split at h
  · rename_i h0; cases h; exact ⟨h0, rfl⟩
  · cases h
theorem num_end {p : Nat} {r : Int × Nat} (hp : p ≤ s.size) (h : numZ s p = some r) : p < r.2 ∧ r.2 ≤ s.size ∧ charB r.1 = true ∧ ∀ k, p ≤ k → k < r.2 → byteAt s k ≠ 37 := by
  obtain ⟨⟨n1, n2, n3, n4⟩, rfl⟩ := num_some h
  have ha : p ≤ numAt s p ∧ numAt s p ≤ p + 1 ∧ (numAt s p = p + 1 → hasAt s p [120] = true) := by
    unfold numAt
    split
    · rename_i hx; exact ⟨by omega, by omega, fun _ => hx⟩
    · exact ⟨by omega, by omega, fun hh => by omega⟩
  have hlt : numAt s p + (numD s p).length < s.size := has_lt n3
  refine ⟨by simp only; omega, by simp only; omega, n4, ?_⟩
  intro k hk1 hk2
  simp only at hk2
  by_cases hx : k < numAt s p
  · have : k = p := by omega
    subst this
    have hb := byteAt_of_cons (ha.2.2 (by omega)) (by omega)
    rw [hb]; decide
  by_cases hs : k = numAt s p + (numD s p).length
  · have hb := byteAt_of_cons n3 hlt
    rw [hs, hb]; decide
  · have hd := digs_at (base := numBase s p) (l := rest s (numAt s p)) (k := k - numAt s p) (by unfold numD at hs hk2; omega)
    have hg : (rest s (numAt s p)).getD (k - numAt s p) 0 = s.data.toList.getD k 0 := by
      unfold rest
      simp only [List.getD, List.getElem?_drop]
      rw [show numAt s p + (k - numAt s p) = k by omega]
    rw [hg] at hd
    rw [byteAt_head]
    exact dig_no37 hd (numBase_le s p)
theorem ref_some {p q : Nat} {r : Rf} (hp : p < s.size) (h : refZ s p = some (r, q)) : p < q ∧ q ≤ s.size ∧ (∀ n, r = .inl n → charB n = true) ∧ ∀ k, p < k → k < q → byteAt s k ≠ 37 := by
  unfold refZ at h
  split at h
  · rename_i h1
    obtain ⟨x, hx, he⟩ := Option.map_eq_some_iff.1 h
    cases he
    have hr := has_room h1 (by omega)
    simp only [List.length_cons, List.length_nil] at hr
    obtain ⟨a, b, c, d⟩ := num_end (show p + 2 ≤ s.size by omega) hx
    refine ⟨by omega, b, fun n hn => by cases hn; exact c, ?_⟩
    intro k hk1 hk2
    by_cases hk : k = p + 1
    · rw [hk, byteAt_of_cons h1 (by omega)]; decide
    · exact d k (by omega) hk2
  · obtain ⟨x, hx, he⟩ := Option.map_eq_some_iff.1 h
    cases he
    unfold namedZ at hx
    split at hx
    · rename_i h1
      cases hx
      have hs := nm_spec h1.1
      refine ⟨by simp only; omega, by simp only; omega, fun n hn => (by cases hn), ?_⟩
      intro k hk1 hk2
      simp only at hk2
      by_cases hk : k = nmP s (p + 1)
      · rw [hk, byteAt_of_cons h1.2 (by omega)]; decide
      · have := name_no37 (s := s) (p := p + 1) (s.size + 1) 0 (fun _ hh => by omega) (k - (p + 1)) (by show k - (p + 1) < nameZ s (p + 1); omega)
        rw [show p + 1 + (k - (p + 1)) = k by omega] at this
        exact this
    · cases hx
theorem ent_no37 {k : Nat} (hk : k < s.size) (hb : byteAt s k = 37) : ∀ (f i : Nat) (acc : List Int), s.size < i + f → i ≤ k → entGo s f i acc = none
  | 0, i, _, h1, h2 => by omega
  | f + 1, i, acc, h1, h2 => by
    unfold entGo
    rw [if_pos (by omega)]
    by_cases h37 : byteAt s i = 37
    · rw [if_pos h37]
    rw [if_neg h37]
    have hne : i ≠ k := fun e => h37 (e ▸ hb)
    split
    · split
      · rfl
      · rename_i n q hr
        obtain ⟨a, b, c, d⟩ := ref_some (by omega) hr
        have : q ≤ k := Decidable.byContradiction fun hh => d k (by omega) (by omega) hb
        exact ent_no37 hk hb f q _ (by omega) this
      · rename_i n q hr
        obtain ⟨a, b, c, d⟩ := ref_some (by omega) hr
        have : q ≤ k := Decidable.byContradiction fun hh => d k (by omega) (by omega) hb
        exact ent_no37 hk hb f q _ (by omega) this
    · exact ent_no37 hk hb f (i + 1) _ (by omega) (by omega)
/-- A value in which a byte is barred. -/
def vbGo (s : ByteArray) (c q : Int) : Nat → Nat → Nat × Nat
  | 0, i => (1, i)
  | f + 1, i => if i < s.size then (if byteAt s i = c then (2, i) else if byteAt s i = q then (0, i) else vbGo s c q f (i + 1)) else (1, i)
def vbF (s : ByteArray) (c : Int) (p : Nat) : Nat := if s.size ≤ p then 1 else if quoteB (byteAt s p) = true then (vbGo s c (byteAt s p) (s.size + 1) (p + 1)).1 else 2
def vbE (s : ByteArray) (c : Int) (p : Nat) : Nat := (vbGo s c (byteAt s p) (s.size + 1) (p + 1)).2
def vbT (s : ByteArray) (c : Int) (p : Nat) : ByteArray := s.extract (p + 1) (vbE s c p)
def vbP (s : ByteArray) (c : Int) (p : Nat) : Nat := vbE s c p + 1
theorem vb_end {c q : Int} {f i : Nat} (h : ¬ i < s.size) : vbGo s c q f i = (1, i) := by
  cases f with
  | zero => rfl
  | succ f => unfold vbGo; rw [if_neg h]
theorem vb_bad {c q : Int} {f i : Nat} (h : i < s.size) (hb : byteAt s i = c) : vbGo s c q (f + 1) i = (2, i) := by
  unfold vbGo; rw [if_pos h, if_pos hb]
theorem vb_hit {c q : Int} {f i : Nat} (h : i < s.size) (hb : byteAt s i ≠ c) (hq : byteAt s i = q) : vbGo s c q (f + 1) i = (0, i) := by
  unfold vbGo; rw [if_pos h, if_neg hb, if_pos hq]
theorem vb_on {c q : Int} {f i : Nat} (h : i < s.size) (hb : byteAt s i ≠ c) (hq : byteAt s i ≠ q) : vbGo s c q (f + 1) i = vbGo s c q f (i + 1) := by
  conv => lhs; unfold vbGo
  rw [if_pos h, if_neg hb, if_neg hq]
theorem vb60 : ∀ (f i : Nat) (q : Int), vbGo s 60 q f i = valGo s q f i
  | 0, _, _ => rfl
  | f + 1, i, q => by unfold vbGo valGo; rw [vb60 f]
theorem vbGo_spec {c q : Int} : ∀ (f i : Nat), i ≤ s.size → s.size < i + f → let r := vbGo s c q f i
    i ≤ r.2 ∧ r.2 ≤ s.size ∧ (∀ k, i ≤ k → k < r.2 → byteAt s k ≠ q ∧ byteAt s k ≠ c) ∧ (r.1 = 0 → r.2 < s.size ∧ byteAt s r.2 = q) ∧ (r.1 = 2 → r.2 < s.size ∧ byteAt s r.2 = c) ∧ (r.1 = 1 → r.2 = s.size) ∧ r.1 ≤ 2
  | 0, i, h1, h2 => by omega
  | f + 1, i, h1, h2 => by
    intro r
    by_cases hi : i < s.size
    · by_cases hb : byteAt s i = c
      · have : r = (2, i) := vb_bad hi hb
        rw [this]; simp only; exact ⟨by omega, by omega, fun k a b => by omega, fun h => (by cases h), fun _ => ⟨hi, hb⟩, fun h => (by cases h), by omega⟩
      · by_cases hq : byteAt s i = q
        · have : r = (0, i) := vb_hit hi hb hq
          rw [this]; simp only; exact ⟨by omega, by omega, fun k a b => by omega, fun _ => ⟨hi, hq⟩, fun h => (by cases h), fun h => (by cases h), by omega⟩
        · have : r = vbGo s c q f (i + 1) := vb_on hi hb hq
          rw [this]
          obtain ⟨a1, a2, a3, a4⟩ := vbGo_spec (c := c) (q := q) f (i + 1) (by omega) (by omega)
          refine ⟨by omega, a2, fun k hk1 hk2 => ?_, a4⟩
          by_cases hk : k = i
          · subst hk; exact ⟨hq, hb⟩
          · exact a3 k (by omega) hk2
    · have : r = (1, i) := vb_end hi
      rw [this]; simp only; exact ⟨by omega, by omega, fun k a b => by omega, fun h => (by cases h), fun h => (by cases h), fun _ => by omega, by omega⟩
/-- The first place of a byte. -/
theorem fz_first {c : UInt8} {p e : Nat} (hp : p ≤ e) (he : e < s.size) (hb : byteAt s e = (c.toNat : Int)) (hno : ∀ k, p ≤ k → k < e → byteAt s k ≠ (c.toNat : Int)) : fz s p [c] = (e : Int) := by
  have hone : ∀ k, k < s.size → (hasAt s k [c] = true ↔ byteAt s k = (c.toNat : Int)) := by
    intro k hk
    constructor
    · intro h; exact byteAt_of_cons h hk
    · intro h
      unfold hasAt
      rw [rest_cons hk]
      rw [byteAt_head] at h
      have : s.data.toList.getD k 0 = c := UInt8.toNat.inj (by omega)
      rw [this]; simp
  induction hd : e - p generalizing p with
  | zero =>
    have : p = e := by omega
    subst this
    exact fz_hit he ((hone p he).2 hb)
  | succ n ih =>
    have hh : hasAt s p [c] = false := by
      cases hc : hasAt s p [c] with
      | false => rfl
      | true => exact absurd ((hone p (by omega)).1 hc) (hno p (Nat.le_refl _) (by omega))
    rw [fz_miss (by omega) hh]
    exact ih (by omega) (fun k hk1 hk2 => hno k (by omega) hk2) (by omega)
theorem u8_byte (s : ByteArray) (p : Nat) : byteAt s p = ((u8 s p).toNat : Int) := rfl
/-- The program's way to an entity's value, and the model's. -/
theorem qt_vb (p : Nat) (hp : p ≤ s.size) :
    (vbF s 37 p = 0 ∧ qtO s p = some (vbT s 37 p, vbP s 37 p) ∧ (∀ k, k < (vbT s 37 p).size → byteAt (vbT s 37 p) k ≠ 37) ∧ p + 1 ≤ vbE s 37 p ∧ vbE s 37 p < s.size ∧ quoteB (byteAt s (vbE s 37 p)) = true) ∨
      (vbF s 37 p ≠ 0 ∧ vbF s 37 p ≤ 2 ∧ ∀ {α : Type} (g : ByteArray × Nat → List Int → Option α), ((qtO s p).bind fun v => (entO v.1).bind (g v)) = none) := by
  unfold vbF
  by_cases hs : s.size ≤ p
  · rw [if_pos hs]
    refine .inr ⟨by omega, by omega, fun g => ?_⟩
    unfold qtO; rw [if_neg (by omega)]; rfl
  rw [if_neg hs]
  by_cases hq : quoteB (byteAt s p) = true
  · rw [if_pos hq]
    have hsp := vbGo_spec (s := s) (c := 37) (q := byteAt s p) (s.size + 1) (p + 1) (by omega) (by omega)
    simp only at hsp
    obtain ⟨a1, a2, a3, a4, a5, a6, a7⟩ := hsp
    have hE : vbE s 37 p = (vbGo s 37 (byteAt s p) (s.size + 1) (p + 1)).2 := rfl
    rw [← hE] at a1 a2 a3 a4 a5 a6
    generalize (vbGo s 37 (byteAt s p) (s.size + 1) (p + 1)).1 = F at *
    by_cases h0 : F = 0
    · left
      obtain ⟨b1, b2⟩ := a4 h0
      have hfz := fz_first (c := u8 s p) a1 b1 b2 (fun k hk1 hk2 => (a3 k hk1 hk2).1)
      have hup : upF s (p + 1) [u8 s p] = 0 := by unfold upF; rw [hfz, if_neg (by omega)]
      refine ⟨h0, ?_, ?_, a1, b1, by rw [b2]; exact hq⟩
      · unfold qtO
        rw [if_pos ⟨by omega, hq, hup⟩]
        unfold upT upP
        rw [hfz]
        rfl
      · intro k hk
        unfold vbT at hk ⊢
        rw [ext_size (by omega)] at hk
        have hx : byteAt (s.extract (p + 1) (vbE s 37 p)) k = byteAt s (p + 1 + k) := by
          rw [byteAt_head, byteAt_head, ext_list]
          simp only [List.getD, List.getElem?_take, List.getElem?_drop]
          rw [if_pos (by omega)]
        rw [hx]
        exact (a3 (p + 1 + k) (by omega) (by omega)).2
    · refine .inr ⟨h0, a7, fun g => ?_⟩
      cases hqt : qtO s p with
      | none => rfl
      | some r =>
        obtain ⟨q1, q2, q3, q4, q5, q6, q7⟩ := qt_some hqt
        rcases fz_spec s (p + 1) [u8 s p] (by omega) with hf | ⟨i, hi, hi2, hi3, hi4, _⟩
        · unfold upF at q3; rw [if_pos hf] at q3; cases q3
        have hib := byteAt_of_cons hi4 (by simp only [List.length_cons, List.length_nil] at hi3; omega)
        simp only [List.length_cons, List.length_nil] at hi3
        have h2 : F = 2 := by
          apply Decidable.byContradiction
          intro hn
          have h1 : F = 1 := by omega
          have := a6 h1
          exact (a3 i hi2 (by omega)).1 hib
        obtain ⟨b1, b2⟩ := a5 h2
        have hlt : vbE s 37 p < i := by
          apply Decidable.byContradiction
          intro hn
          by_cases hie : i = vbE s 37 p
          · rw [hie, b2] at hib
            rw [← u8_byte] at hib
            rw [← hib] at hq
            revert hq; decide
          · exact (a3 i hi2 (by omega)).1 hib
        have hr1 : r.1 = s.extract (p + 1) i := by rw [q4]; unfold upT; rw [hi]; rfl
        have : entO r.1 = none := by
          unfold entO
          have hsz : r.1.size = i - (p + 1) := by rw [hr1, ext_size (by omega)]
          refine ent_no37 (k := vbE s 37 p - (p + 1)) (by omega) ?_ _ 0 [] (by omega) (Nat.zero_le _)
          rw [hr1, byteAt_head, ext_list]
          simp only [List.getD, List.getElem?_take, List.getElem?_drop]
          rw [if_pos (by omega), show p + 1 + (vbE s 37 p - (p + 1)) = vbE s 37 p by omega]
          exact b2
        simp only [Option.bind_some]
        rw [this]; rfl
  · rw [if_neg hq]
    refine .inr ⟨by omega, by omega, fun g => ?_⟩
    unfold qtO; rw [if_neg (fun hh => hq hh.2.1)]; rfl
end Go.Proofs.YteebdfcegndaoaaGreatDoor.Plain27

namespace Go.Proofs.YteebdfcegndaoaaGreatDoor.Plain28
open Go.RowKit Plain1 Plain2 Strs Strs2 Lists Bytes Ents Plain3 Plain5 Plain6 Plain9 Plain10 Plain11 Plain12 Plain23 Plain24 Plain25 Plain26 Plain27 Go.Lib
variable {s : ByteArray}

theorem digs_cons (base : Nat) (c : UInt8) (l : List UInt8) : digs base (c :: l) = if digV c < base then c :: digs base l else [] := by
  unfold digs
  rw [List.takeWhile_cons]
  by_cases h : digV c < base
  · rw [if_pos (decide_eq_true h), if_pos h]
  · rw [if_neg (by simpa using h), if_neg h]
theorem digs_take (base : Nat) : ∀ (l : List UInt8) (j : Nat), j ≤ (digs base l).length → (digs base l).take j = l.take j
  | [], _, _ => by simp [digs]
  | c :: l, j, h => by
    rw [digs_cons] at h ⊢
    split at h
    · rename_i hc
      rw [if_pos hc]
      cases j with
      | zero => rfl
      | succ j => rw [List.take_succ_cons, List.take_succ_cons, digs_take base l j (by simpa using h)]
    · have : j = 0 := by simpa using h
      subst this; rfl
theorem digs_stop (base : Nat) : ∀ (l : List UInt8) (j : Nat), j ≤ (digs base l).length → j < l.length → ¬ digV (l.getD j 0) < base → (digs base l).length = j
  | [], _, _, h, _ => by simp at h
  | c :: l, 0, _, _, hn => by rw [digs_cons, if_neg (by simpa using hn)]; rfl
  | c :: l, j + 1, h, h1, hn => by
    rw [digs_cons] at h ⊢
    split at h
    · rename_i hc
      rw [if_pos hc, List.length_cons, digs_stop base l j (by simpa using h) (by simpa using h1) (by simpa using hn)]
    · simp at h
theorem digs_on (base : Nat) : ∀ (l : List UInt8) (j : Nat), j ≤ (digs base l).length → j < l.length → digV (l.getD j 0) < base → j + 1 ≤ (digs base l).length
  | [], _, _, h, _ => by simp at h
  | c :: l, 0, _, _, hn => by rw [digs_cons, if_pos (by simpa using hn)]; simp
  | c :: l, j + 1, h, h1, hn => by
    rw [digs_cons] at h ⊢
    split at h
    · rename_i hc
      have := digs_on base l j (by simpa using h) (by simpa using h1) (by simpa using hn)
      rw [if_pos hc, List.length_cons]; omega
    · simp at h
theorem digs_all (base : Nat) (l : List UInt8) (j : Nat) (h : j ≤ (digs base l).length) (h1 : l.length ≤ j) : (digs base l).length = j := by
  have := digs_le base l; omega
theorem digX_snoc (base : Nat) (l : List UInt8) (c : UInt8) : digX base (l ++ [c]) = base * digX base l + digV c := by unfold digX; rw [List.foldl_append]; rfl
theorem digX_take {base j : Nat} {l : List UInt8} (h : j < l.length) : digX base (l.take (j + 1)) = base * digX base (l.take j) + digV (l.getD j 0) := by
  rw [List.take_succ_eq_append_getElem h, digX_snoc]
  simp [List.getD, h]
theorem digX_lt {base : Nat} (hb : 1 ≤ base) : ∀ (j : Nat) (l : List UInt8), j ≤ (digs base l).length → digX base (l.take j) < base ^ j
  | 0, _, _ => by simp [digX]
  | j + 1, l, h => by
    have hl := digs_le base l
    have ih := digX_lt hb j l (by omega)
    have hd := digs_at (base := base) (l := l) (k := j) (by omega)
    rw [digX_take (by omega), Nat.pow_succ]
    have : base * (digX base (l.take j) + 1) ≤ base * base ^ j := Nat.mul_le_mul_left _ ih
    rw [Nat.mul_add] at this
    rw [Nat.mul_comm (base ^ j) base]
    omega
theorem digX_bound {base j : Nat} {l : List UInt8} (hb : base = 10 ∨ base = 16) (h : j ≤ (digs base l).length) (hj : j ≤ 9) : digX base (l.take j) < 68719476736 := by
  have h1 := digX_lt (base := base) (by omega) j l h
  have h2 : base ^ j ≤ 16 ^ j := Nat.pow_le_pow_left (by omega) j
  have h3 : (16 : Nat) ^ j ≤ 16 ^ 9 := Nat.pow_le_pow_right (by omega) hj
  have : (16 : Nat) ^ 9 = 68719476736 := by decide
  omega
theorem digs_self {base : Nat} {l : List UInt8} : (digs base l).take (digs base l).length = l.take (digs base l).length := digs_take base l _ (Nat.le_refl _)
theorem numV_take (s : ByteArray) (p : Nat) : numV s p = digX (numBase s p) ((rest s (numAt s p)).take (numD s p).length) := by
  unfold numV numD
  rw [← digs_self, List.take_length]
theorem base_two (s : ByteArray) (p : Nat) : numBase s p = 10 ∨ numBase s p = 16 := by unfold numBase; split <;> simp
theorem digV_byte (c : UInt8) : (digV c : Int) = if 48 ≤ (c.toNat : Int) ∧ (c.toNat : Int) ≤ 57 then (c.toNat : Int) - 48 else if 97 ≤ (c.toNat : Int) ∧ (c.toNat : Int) ≤ 102 then (c.toNat : Int) - 97 + 10 else if 65 ≤ (c.toNat : Int) ∧ (c.toNat : Int) ≤ 70 then (c.toNat : Int) - 65 + 10 else 99 := by
  unfold digV
  split
  · rw [if_pos (by omega)]; omega
  split
  · rw [if_neg (by omega), if_pos (by omega)]; omega
  split
  · rw [if_neg (by omega), if_neg (by omega), if_pos (by omega)]; omega
  · rw [if_neg (by omega), if_neg (by omega), if_neg (by omega)]; rfl
/-- What is trimmed off a text's beginning are its digits. -/
theorem trim_digs (base : Nat) (set : List UInt8) (hset : ∀ c : UInt8, set.contains c = decide (digV c < base)) (l : List UInt8) : (Lib.trimLeftS l set).length + (digs base l).length = l.length := by
  induction l with
  | nil => simp [Lib.trimLeftS, digs]
  | cons c l ih =>
    rw [digs_cons]
    unfold Lib.trimLeftS at ih ⊢
    rw [List.dropWhile_cons, hset c]
    by_cases h : digV c < base
    · rw [if_pos (by simpa using h), if_pos h, List.length_cons, List.length_cons]; omega
    · rw [if_neg (by simpa using h), if_neg h]; simp
theorem u8_all {p : UInt8 → Prop} (h : ∀ n : Nat, n < 256 → p (UInt8.ofNat n)) (c : UInt8) : p c := by
  have := h c.toNat c.toNat_lt
  simpa using this
def set10 : List UInt8 := [48, 49, 50, 51, 52, 53, 54, 55, 56, 57]
def set16 : List UInt8 := [48, 49, 50, 51, 52, 53, 54, 55, 56, 57, 97, 98, 99, 100, 101, 102, 65, 66, 67, 68, 69, 70]
set_option maxRecDepth 100000 in
theorem set10_digs (c : UInt8) : set10.contains c = decide (digV c < 10) := by
  refine u8_all (p := fun c => set10.contains c = decide (digV c < 10)) ?_ c
  decide
set_option maxRecDepth 100000 in
theorem set16_digs (c : UInt8) : set16.contains c = decide (digV c < 16) := by
  refine u8_all (p := fun c => set16.contains c = decide (digV c < 16)) ?_ c
  decide
theorem fz_at {p : Nat} {sg : List UInt8} (hp : p ≤ s.size) (h0 : sg ≠ []) : fz s p sg = (p : Int) ↔ hasAt s p sg = true := by
  constructor
  · intro h
    rcases fz_spec s p sg hp with h1 | ⟨i, h1, _, _, h4, _⟩
    · rw [h] at h1; omega
    · have : i = p := by rw [h] at h1; omega
      exact this ▸ h4
  · intro h
    cases sg with
    | nil => exact absurd rfl h0
    | cons c sg => exact fz_hit (has_lt h) h
end Go.Proofs.YteebdfcegndaoaaGreatDoor.Plain28
