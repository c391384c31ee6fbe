/- Plain mathematics: what is told of a text, and not short, is told alike of every text that goes on behind it: searches, white, signs, characters, names. -/
import Derived.Test.YtefahocflhlgiaaGreatDoorPlain16
import Derived.Test.YtefahocflhlgiaaGreatDoorPlain12
import Derived.Test.YtefahocflhlgiaaGreatDoorPlain14
namespace Go.Proofs.YtefahocflhlgiaaGreatDoor.Plain18
open Plain1 Plain2 Strs Plain3 Plain4 Plain5 Plain6 Plain9 Plain10 Plain11 Plain12 Plain14 Plain16

/-- The text u is s, and more behind it. -/
def Ext (s u : ByteArray) (t : List UInt8) : Prop := u.data.toList = s.data.toList ++ t
variable {s u : ByteArray} {t : List UInt8}
theorem sz_list (s : ByteArray) : s.data.toList.length = s.size := rfl
theorem e_size (h : Ext s u t) : u.size = s.size + t.length := by
  rw [← sz_list u, ← sz_list s, h, List.length_append]
theorem e_le (h : Ext s u t) : s.size ≤ u.size := by rw [e_size h]; omega
theorem e_rest (h : Ext s u t) {p : Nat} (hp : p ≤ s.size) : rest u p = rest s p ++ t := by
  unfold rest; rw [h, List.drop_append_of_le_length (by rw [sz_list]; exact hp)]
theorem e_byte (h : Ext s u t) {i : Nat} (hi : i < s.size) : byteAt u i = byteAt s i := by
  unfold byteAt
  rw [h]
  congr 2
  rw [List.getD_eq_getElem?_getD, List.getD_eq_getElem?_getD, List.getElem?_append_left (by rw [sz_list]; exact hi)]
theorem e_u8 (h : Ext s u t) {i : Nat} (hi : i < s.size) : u8At u i = u8At s i := (u8At_eq (s := u) (p := i)).1 (by rw [e_byte h hi]; exact (u8At_eq (s := s) (p := i)).2 rfl)
theorem e_ext (h : Ext s u t) {p q : Nat} (hq : q ≤ s.size) : u.extract p q = s.extract p q := by
  have : (u.extract p q).data.toList = (s.extract p q).data.toList := by
    rw [ByteArray.data_extract, ByteArray.data_extract, Array.toList_extract, Array.toList_extract, List.extract_eq_take_drop, List.extract_eq_take_drop, h]
    by_cases hp : p ≤ s.size
    · rw [List.drop_append_of_le_length (by rw [sz_list]; exact hp), List.take_append_of_le_length (by rw [List.length_drop, sz_list]; omega)]
    · rw [show q - p = 0 by omega]; rfl
  exact ByteArray.ext (Array.toList_inj.1 this)
theorem pre_app {A sg t : List UInt8} (h : sg.isPrefixOf A = true) : sg.isPrefixOf (A ++ t) = true := by
  rw [List.isPrefixOf_iff_prefix] at h ⊢
  exact h.trans (List.prefix_append _ _)
theorem pre_no : ∀ {A sg t : List UInt8}, sg.isPrefixOf A = false → A.isPrefixOf sg = false → sg.isPrefixOf (A ++ t) = false ∧ (A ++ t).isPrefixOf sg = false
  | [], sg, t, _, h2 => by simp [List.isPrefixOf] at h2
  | a :: A, [], t, h1, _ => by simp [List.isPrefixOf] at h1
  | a :: A, b :: sg, t, h1, h2 => by
    simp only [List.cons_append, List.isPrefixOf] at h1 h2 ⊢
    by_cases he : a = b
    · subst he
      simp only [beq_self_eq_true, Bool.true_and] at h1 h2 ⊢
      exact pre_no h1 h2
    · have e1 : (a == b) = false := by simpa using he
      have e2 : (b == a) = false := by simpa using fun e => he e.symm
      simp [e1, e2]
theorem e_has (h : Ext s u t) {p : Nat} {sg : List UInt8} (hp : p ≤ s.size) (hh : hasAt s p sg = true) : hasAt u p sg = true := by
  unfold hasAt at hh ⊢; rw [e_rest h hp]; exact pre_app hh
theorem e_hasNo (h : Ext s u t) {p : Nat} {sg : List UInt8} (hp : p ≤ s.size) (hh : hasAt s p sg = false) (h2 : (rest s p).isPrefixOf sg = false) : hasAt u p sg = false ∧ (rest u p).isPrefixOf sg = false := by
  unfold hasAt at hh ⊢; rw [e_rest h hp]; exact pre_no hh h2
theorem pre_len {A sg : List UInt8} (h : A.isPrefixOf sg = true) : A.length ≤ sg.length := (List.isPrefixOf_iff_prefix.1 h).length_le
theorem e_hasRoom (h : Ext s u t) {p : Nat} {sg : List UInt8} (hp : p + sg.length < s.size) : hasAt u p sg = hasAt s p sg := by
  cases hh : hasAt s p sg with
  | true => exact e_has h (by omega) hh
  | false =>
    refine (e_hasNo h (by omega) hh ?_).1
    cases h2 : (rest s p).isPrefixOf sg with
    | false => rfl
    | true => have := pre_len h2; rw [rest_len] at this; omega
theorem must_one {p : Nat} {sg : List UInt8} (h : mustF s p sg ≠ 1) : hasAt s p sg = true ∨ (hasAt s p sg = false ∧ (rest s p).isPrefixOf sg = false ∧ mustF s p sg = 2) := by
  unfold mustF lackZ at h ⊢
  cases h1 : hasAt s p sg with
  | true => exact .inl rfl
  | false =>
    rw [h1] at h
    cases h2 : (rest s p).isPrefixOf sg with
    | true => rw [h2] at h; simp at h
    | false => exact .inr ⟨rfl, rfl, by simp⟩
theorem e_must (h : Ext s u t) {p : Nat} {sg : List UInt8} (hp : p ≤ s.size) (hm : mustF s p sg ≠ 1) : mustF u p sg = mustF s p sg := by
  rcases must_one hm with h1 | ⟨h1, h2, h3⟩
  · rw [must_has.2 h1, must_has.2 (e_has h hp h1)]
  · obtain ⟨a, b⟩ := e_hasNo h hp h1 h2
    rw [h3]; unfold mustF lackZ; rw [if_neg (by rw [a]; simp), if_neg (by rw [b]; simp)]
theorem e_fz (h : Ext s u t) {sg : List UInt8} (h0 : sg ≠ []) : ∀ (n p : Nat), s.size ≤ p + n → p ≤ s.size → fz s p sg ≠ -1 → fz u p sg = fz s p sg
  | 0, p, hn, hp, hf => by
    have : s.size < p + sg.length := by have := List.length_pos_iff.2 h0; omega
    exact absurd (fz_nil h0 this) hf
  | n + 1, p, hn, hp, hf => by
    have hl := List.length_pos_iff.2 h0
    rcases fz_spec s p sg hp with hz | ⟨i, hz, h1, h2, h3, _⟩
    · exact absurd hz hf
    have hlt : p < s.size := by omega
    have hlu : p < u.size := by have := e_le h; omega
    cases hh : hasAt s p sg with
    | true => rw [fz_hit hlt hh, fz_hit hlu (e_has h hp hh)]
    | false =>
      have hip : p ≠ i := fun e => by subst e; rw [h3] at hh; cases hh
      have hu : hasAt u p sg = false := by rw [e_hasRoom h (by omega)]; exact hh
      rw [fz_miss hlt hh] at hf ⊢
      rw [fz_miss hlu hu]
      exact e_fz h h0 n (p + 1) (by omega) (by omega) hf
theorem e_up (h : Ext s u t) {p : Nat} {sg : List UInt8} (h0 : sg ≠ []) (hp : p ≤ s.size) (hu : upF s p sg ≠ 1) : upF s p sg = 0 ∧ upF u p sg = 0 ∧ upT u p sg = upT s p sg ∧ upP u p sg = upP s p sg := by
  have hf : fz s p sg ≠ -1 := fun e => hu (by unfold upF; rw [if_pos e])
  have e := e_fz h h0 _ p (Nat.le_add_left _ _) hp hf
  have e0 : upF s p sg = 0 := by unfold upF; rw [if_neg hf]
  refine ⟨e0, by unfold upF; rw [e, if_neg hf], ?_, by unfold upP; rw [e]⟩
  unfold upT
  rw [e]
  rcases fz_spec s p sg hp with hz | ⟨i, hz, h1, h2, h3, _⟩
  · exact absurd hz hf
  · rw [hz]; exact e_ext h (by simp; omega)
theorem e_whiteGo (h : Ext s u t) : ∀ (f f' i : Nat), s.size ≤ i + f → u.size ≤ i + f' → whiteGo s f i < s.size → whiteGo u f' i = whiteGo s f i
  | 0, f', i, h1, h2, h3 => by have : whiteGo s 0 i = i := rfl; omega
  | f + 1, f', i, h1, h2, h3 => by
    by_cases hw : i < s.size ∧ whiteB (byteAt s i) = true
    · have hu : i < u.size ∧ whiteB (byteAt u i) = true := ⟨by have := e_le h; omega, by rw [e_byte h hw.1]; exact hw.2⟩
      obtain ⟨g, rfl⟩ : ∃ g, f' = g + 1 := ⟨f' - 1, by omega⟩
      rw [whiteGo_on hw] at h3 ⊢
      rw [whiteGo_on hu]
      exact e_whiteGo h f g (i + 1) (by omega) (by omega) h3
    · rw [whiteGo_stop hw] at h3 ⊢
      exact whiteGo_stop fun hu => hw ⟨h3, by rw [← e_byte h h3]; exact hu.2⟩
theorem e_white (h : Ext s u t) {p : Nat} (hw : whiteZ s p < s.size) : whiteZ u p = whiteZ s p := e_whiteGo h _ _ _ (by omega) (by omega) hw
theorem e_vz (h : Ext s u t) {pos : Nat} (x0 : Int) : ∀ n, pos + n < s.size ∨ n = 0 → vz u pos x0 n = vz s pos x0 n
  | 0, _ => rfl
  | n + 1, hn => by
    unfold vz
    rw [e_vz h x0 n (by omega), e_byte h (by omega)]
theorem e_fin (h : Ext s u t) {pos n : Nat} {x0 low : Int} (hn : 1 ≤ n) (hf : (fin s pos x0 n low).2 ≠ 0) : fin u pos x0 n low = fin s pos x0 n low := by
  have hc : pos + n ≤ s.size ∧ conts s pos n ∧ low ≤ vz s pos x0 (n - 1) ∧ charB (vz s pos x0 (n - 1)) = true := Decidable.byContradiction fun hc => hf (by unfold fin; rw [if_neg hc])
  obtain ⟨c1, c2, c3, c4⟩ := hc
  have ev := e_vz h (pos := pos) x0 (n - 1) (.inl (by omega))
  rw [fin_good c1 c2 c3 c4, fin_good (by have := e_le h; omega) (conts_iff.2 fun k hk h1 => by
    have := conts_iff.1 c2 k hk h1
    unfold goesOn at this ⊢; rw [e_byte h (by omega)]; exact this) (by rw [ev]; exact c3) (by rw [ev]; exact c4), ev]
theorem e_rune (h : Ext s u t) {p : Nat} (hp : p < s.size) (hr : (runeZ s p).2 ≠ 0) : runeZ u p = runeZ s p := by
  have hb := e_byte h hp
  unfold runeZ at hr ⊢
  rw [hb]
  by_cases h1 : byteAt s p < 128
  · rw [if_pos h1] at hr ⊢; rw [if_pos h1]; exact e_fin h (by omega) hr
  rw [if_neg h1] at hr ⊢; rw [if_neg h1]
  by_cases h2 : 192 ≤ byteAt s p ∧ byteAt s p < 224
  · rw [if_pos h2] at hr ⊢; rw [if_pos h2]; exact e_fin h (by omega) hr
  rw [if_neg h2] at hr ⊢; rw [if_neg h2]
  by_cases h3 : 224 ≤ byteAt s p ∧ byteAt s p < 240
  · rw [if_pos h3] at hr ⊢; rw [if_pos h3]; exact e_fin h (by omega) hr
  rw [if_neg h3] at hr ⊢; rw [if_neg h3]
  by_cases h4 : 240 ≤ byteAt s p ∧ byteAt s p < 248
  · rw [if_pos h4] at hr ⊢; rw [if_pos h4]; exact e_fin h (by omega) hr
  · rw [if_neg h4] at hr; exact absurd rfl hr
theorem nameGo_ge (s : ByteArray) (p : Nat) : ∀ f n, n ≤ nameGo s p f n
  | 0, n => Nat.le_refl _
  | f + 1, n => by
    unfold nameGo
    split
    · split
      · exact Nat.le_refl _
      · exact Nat.le_trans (Nat.le_add_right _ _) (nameGo_ge s p f _)
    · exact Nat.le_refl _
theorem e_nameGo (h : Ext s u t) {p : Nat} : ∀ (f f' n : Nat), s.size < p + n + f → u.size < p + n + f' → VB s (p + n) →
    nameGo s p f n ≤ nameGo u p f' n ∧ (p + nameGo s p f n < s.size → nameGo u p f' n = nameGo s p f n)
  | 0, f', n, h1, h2, _ => ⟨nameGo_ge u p f' n, fun hh => by have : nameGo s p 0 n = n := rfl; omega⟩
  | f + 1, f', n, h1, h2, hv => by
    by_cases hn : p + n < s.size
    · obtain ⟨g, rfl⟩ : ∃ g, f' = g + 1 := ⟨f' - 1, by have := e_le h; omega⟩
      obtain ⟨hr, hv'⟩ := VB_step hv hn
      have er := e_rune h hn hr
      have hu : p + n < u.size := by have := e_le h; omega
      by_cases hs : stops s p n
      · have hs' : stops u p n := by unfold stops at hs ⊢; rw [er]; exact hs
        rw [nameGo_stop hn hs, nameGo_stop hu hs']
        exact ⟨Nat.le_refl _, fun _ => rfl⟩
      · have hs' : ¬ stops u p n := by unfold stops at hs ⊢; rw [er]; exact hs
        rw [nameGo_on hn hs, nameGo_on hu hs', er]
        exact e_nameGo h f g _ (by omega) (by omega) (by rw [← Nat.add_assoc]; exact hv')
    · rw [nameGo_end (by omega)]
      exact ⟨nameGo_ge u p f' n, fun hh => by omega⟩
theorem e_name (h : Ext s u t) {p : Nat} (hv : VB s p) : nameZ s p ≤ nameZ u p ∧ (p + nameZ s p < s.size → nameZ u p = nameZ s p) := e_nameGo h _ _ _ (by omega) (by omega) hv
theorem e_nm (h : Ext s u t) {p : Nat} (hv : VB s p) (hn : nmF s p ≠ 1) : nmF u p = nmF s p ∧ (nmF s p = 0 → nmT u p = nmT s p ∧ nmP u p = nmP s p) := by
  obtain ⟨a, b⟩ := e_name h hv
  have hsz := e_le h
  by_cases h6 : 60 < nameZ s p
  · have e1 : nmF s p = 2 := by unfold nmF; rw [if_pos h6]
    have e2 : nmF u p = 2 := by unfold nmF; rw [if_pos (by omega)]
    exact ⟨by rw [e1, e2], fun e => by rw [e1] at e; cases e⟩
  · by_cases h7 : s.size ≤ p + nameZ s p
    · exact absurd (by unfold nmF; rw [if_neg h6, if_pos h7]) hn
    · have e := b (by omega)
      refine ⟨?_, fun _ => ⟨?_, ?_⟩⟩
      · unfold nmF; rw [e, if_neg h6, if_neg h6, if_neg (by omega), if_neg h7]
      · unfold nmT; rw [e]; exact e_ext h (by omega)
      · unfold nmP; rw [e]
end Go.Proofs.YtefahocflhlgiaaGreatDoor.Plain18
