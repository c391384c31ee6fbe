import Derived.Test.YtmaoefokimjkbaaGreatDoorPlB
import Derived.Lib.IndexMore
namespace Go.Proofs.YtmaoefokimjkbaaGreatDoor.Plain18
open Plain1 Strs Plain3 Plain6 Plain9 Plain10 Plain11 Plain12
def Ext (s u : ByteArray) (t : List UInt8) : Prop := u.data.toList = s.data.toList ++ t
variable {s u : ByteArray} {t : List UInt8}
theorem sz_list (s : ByteArray) : s.data.toList.length = s.size := rfl
theorem e_size (h : Ext s u t) : u.size = s.size + t.length := by
 rw [← sz_list u, ← sz_list s, h, List.length_append]
theorem e_le (h : Ext s u t) : s.size ≤ u.size := by rw [e_size h]; omega
theorem e_rest (h : Ext s u t) {p : Nat} (hp : p ≤ s.size) : rest u p = rest s p ++ t := by
 unfold rest; rw [h, List.drop_append_of_le_length (by rw [sz_list]; exact hp)]
theorem e_byte (h : Ext s u t) {i : Nat} (hi : i < s.size) : byteAt u i = byteAt s i := by
 unfold byteAt
 rw [h]
 congr 2
 rw [List.getD_eq_getElem?_getD, List.getD_eq_getElem?_getD, List.getElem?_append_left (by rw [sz_list]; exact hi)]
theorem e_u8 (h : Ext s u t) {i : Nat} (hi : i < s.size) : u8At u i = u8At s i := (u8At_eq (s := u) (p := i)).1 (by rw [e_byte h hi]; exact (u8At_eq (s := s) (p := i)).2 rfl)
theorem e_ext (h : Ext s u t) {p q : Nat} (hq : q ≤ s.size) : u.extract p q = s.extract p q := by
 have : (u.extract p q).data.toList = (s.extract p q).data.toList := by
  rw [ByteArray.data_extract, ByteArray.data_extract, Array.toList_extract, Array.toList_extract, List.extract_eq_take_drop, List.extract_eq_take_drop, h]
  by_cases hp : p ≤ s.size
  · rw [List.drop_append_of_le_length (by rw [sz_list]; exact hp), List.take_append_of_le_length (by rw [List.length_drop, sz_list]; omega)]
  · rw [show q - p = 0 by omega]; rfl
 exact ByteArray.ext (Array.toList_inj.1 this)
theorem pre_app {A sg t : List UInt8} (h : sg.isPrefixOf A = true) : sg.isPrefixOf (A ++ t) = true := by
 rw [List.isPrefixOf_iff_prefix] at h ⊢
 exact h.trans (List.prefix_append _ _)
theorem pre_no : ∀ {A sg t : List UInt8}, sg.isPrefixOf A = false → A.isPrefixOf sg = false → sg.isPrefixOf (A ++ t) = false ∧ (A ++ t).isPrefixOf sg = false
 | [], sg, t, _, h2 => by simp [List.isPrefixOf] at h2
 | a :: A, [], t, h1, _ => by simp [List.isPrefixOf] at h1
 | a :: A, b :: sg, t, h1, h2 => by
  simp only [List.cons_append, List.isPrefixOf] at h1 h2 ⊢
  by_cases he : a = b
  · subst he
    simp only [beq_self_eq_true, Bool.true_and] at h1 h2 ⊢
    exact pre_no h1 h2
  · have e1 : (a == b) = false := by simpa using he
    have e2 : (b == a) = false := by simpa using fun e => he e.symm
    simp [e1, e2]
theorem e_has (h : Ext s u t) {p : Nat} {sg : List UInt8} (hp : p ≤ s.size) (hh : hasAt s p sg = true) : hasAt u p sg = true := by
 unfold hasAt at hh ⊢; rw [e_rest h hp]; exact pre_app hh
theorem e_hasNo (h : Ext s u t) {p : Nat} {sg : List UInt8} (hp : p ≤ s.size) (hh : hasAt s p sg = false) (h2 : (rest s p).isPrefixOf sg = false) : hasAt u p sg = false ∧ (rest u p).isPrefixOf sg = false := by
 unfold hasAt at hh ⊢; rw [e_rest h hp]; exact pre_no hh h2
theorem pre_len {A sg : List UInt8} (h : A.isPrefixOf sg = true) : A.length ≤ sg.length := (List.isPrefixOf_iff_prefix.1 h).length_le
theorem e_hasRoom (h : Ext s u t) {p : Nat} {sg : List UInt8} (hp : p + sg.length < s.size) : hasAt u p sg = hasAt s p sg := by
 cases hh : hasAt s p sg with
 | true => exact e_has h (by omega) hh
 | false =>
  refine (e_hasNo h (by omega) hh ?_).1
  cases h2 : (rest s p).isPrefixOf sg with
  | false => rfl
  | true => have := pre_len h2; rw [rest_len] at this; omega
theorem must_one {p : Nat} {sg : List UInt8} (h : mustF s p sg ≠ 1) : hasAt s p sg = true ∨ (hasAt s p sg = false ∧ (rest s p).isPrefixOf sg = false ∧ mustF s p sg = 2) := by
 unfold mustF lackZ at h ⊢
 cases h1 : hasAt s p sg with
 | true => exact .inl rfl
 | false =>
  rw [h1] at h
  cases h2 : (rest s p).isPrefixOf sg with
  | true => rw [h2] at h; simp at h
  | false => exact .inr ⟨rfl, rfl, by simp⟩
theorem e_must (h : Ext s u t) {p : Nat} {sg : List UInt8} (hp : p ≤ s.size) (hm : mustF s p sg ≠ 1) : mustF u p sg = mustF s p sg := by
 rcases must_one hm with h1 | ⟨h1, h2, h3⟩
 · rw [must_has.2 h1, must_has.2 (e_has h hp h1)]
 · obtain ⟨a, b⟩ := e_hasNo h hp h1 h2
   rw [h3]; unfold mustF lackZ; rw [if_neg (by rw [a]; simp), if_neg (by rw [b]; simp)]
theorem e_fz (h : Ext s u t) {sg : List UInt8} (h0 : sg ≠ []) : ∀ (n p : Nat), s.size ≤ p + n → p ≤ s.size → fz s p sg ≠ -1 → fz u p sg = fz s p sg
 | 0, p, hn, hp, hf => by
  have : s.size < p + sg.length := by have := List.length_pos_iff.2 h0; omega
  exact absurd (fz_nil h0 this) hf
 | n + 1, p, hn, hp, hf => by
  have hl := List.length_pos_iff.2 h0
  rcases fz_spec s p sg hp with hz | ⟨i, hz, h1, h2, h3, _⟩
  · exact absurd hz hf
  have hlt : p < s.size := by omega
  have hlu : p < u.size := by have := e_le h; omega
  cases hh : hasAt s p sg with
  | true => rw [fz_hit hlt hh, fz_hit hlu (e_has h hp hh)]
  | false =>
   have hip : p ≠ i := fun e => by subst e; rw [h3] at hh; cases hh
   have hu : hasAt u p sg = false := by rw [e_hasRoom h (by omega)]; exact hh
   rw [fz_miss hlt hh] at hf ⊢
   rw [fz_miss hlu hu]
   exact e_fz h h0 n (p + 1) (by omega) (by omega) hf
theorem e_up (h : Ext s u t) {p : Nat} {sg : List UInt8} (h0 : sg ≠ []) (hp : p ≤ s.size) (hu : upF s p sg ≠ 1) : upF s p sg = 0 ∧ upF u p sg = 0 ∧ upT u p sg = upT s p sg ∧ upP u p sg = upP s p sg := by
 have hf : fz s p sg ≠ -1 := fun e => hu (by unfold upF; rw [if_pos e])
 have e := e_fz h h0 _ p (Nat.le_add_left _ _) hp hf
 have e0 : upF s p sg = 0 := by unfold upF; rw [if_neg hf]
 refine ⟨e0, by unfold upF; rw [e, if_neg hf], ?_, by unfold upP; rw [e]⟩
 unfold upT
 rw [e]
 rcases fz_spec s p sg hp with hz | ⟨i, hz, h1, h2, h3, _⟩
 · exact absurd hz hf
 · rw [hz]; exact e_ext h (by simp; omega)
theorem e_whiteGo (h : Ext s u t) : ∀ (f f' i : Nat), s.size ≤ i + f → u.size ≤ i + f' → whiteGo s f i < s.size → whiteGo u f' i = whiteGo s f i
 | 0, f', i, h1, h2, h3 => by have : whiteGo s 0 i = i := rfl; omega
 | f + 1, f', i, h1, h2, h3 => by
  by_cases hw : i < s.size ∧ whiteB (byteAt s i) = true
  · have hu : i < u.size ∧ whiteB (byteAt u i) = true := ⟨by have := e_le h; omega, by rw [e_byte h hw.1]; exact hw.2⟩
    obtain ⟨g, rfl⟩ : ∃ g, f' = g + 1 := ⟨f' - 1, by omega⟩
    rw [whiteGo_on hw] at h3 ⊢
    rw [whiteGo_on hu]
    exact e_whiteGo h f g (i + 1) (by omega) (by omega) h3
  · rw [whiteGo_stop hw] at h3 ⊢
    exact whiteGo_stop fun hu => hw ⟨h3, by rw [← e_byte h h3]; exact hu.2⟩
theorem e_white (h : Ext s u t) {p : Nat} (hw : whiteZ s p < s.size) : whiteZ u p = whiteZ s p := e_whiteGo h _ _ _ (by omega) (by omega) hw
theorem e_vz (h : Ext s u t) {pos : Nat} (x0 : Int) : ∀ n, pos + n < s.size ∨ n = 0 → vz u pos x0 n = vz s pos x0 n
 | 0, _ => rfl
 | n + 1, hn => by
  unfold vz
  rw [e_vz h x0 n (by omega), e_byte h (by omega)]
theorem e_fin (h : Ext s u t) {pos n : Nat} {x0 low : Int} (hn : 1 ≤ n) (hf : (fin s pos x0 n low).2 ≠ 0) : fin u pos x0 n low = fin s pos x0 n low := by
 have hc : pos + n ≤ s.size ∧ conts s pos n ∧ low ≤ vz s pos x0 (n - 1) ∧ charB (vz s pos x0 (n - 1)) = true := Decidable.byContradiction fun hc => hf (by unfold fin; rw [if_neg hc])
 obtain ⟨c1, c2, c3, c4⟩ := hc
 have ev := e_vz h (pos := pos) x0 (n - 1) (.inl (by omega))
 rw [fin_good c1 c2 c3 c4, fin_good (by have := e_le h; omega) (conts_iff.2 fun k hk h1 => by
  have := conts_iff.1 c2 k hk h1
  unfold goesOn at this ⊢; rw [e_byte h (by omega)]; exact this) (by rw [ev]; exact c3) (by rw [ev]; exact c4), ev]
theorem e_rune (h : Ext s u t) {p : Nat} (hp : p < s.size) (hr : (runeZ s p).2 ≠ 0) : runeZ u p = runeZ s p := by
 have hb := e_byte h hp
 unfold runeZ at hr ⊢
 rw [hb]
 by_cases h1 : byteAt s p < 128
 · rw [if_pos h1] at hr ⊢; rw [if_pos h1]; exact e_fin h (by omega) hr
 rw [if_neg h1] at hr ⊢; rw [if_neg h1]
 by_cases h2 : 192 ≤ byteAt s p ∧ byteAt s p < 224
 · rw [if_pos h2] at hr ⊢; rw [if_pos h2]; exact e_fin h (by omega) hr
 rw [if_neg h2] at hr ⊢; rw [if_neg h2]
 by_cases h3 : 224 ≤ byteAt s p ∧ byteAt s p < 240
 · rw [if_pos h3] at hr ⊢; rw [if_pos h3]; exact e_fin h (by omega) hr
 rw [if_neg h3] at hr ⊢; rw [if_neg h3]
 by_cases h4 : 240 ≤ byteAt s p ∧ byteAt s p < 248
 · rw [if_pos h4] at hr ⊢; rw [if_pos h4]; exact e_fin h (by omega) hr
 · rw [if_neg h4] at hr; exact absurd rfl hr
theorem nameGo_ge (s : ByteArray) (p : Nat) : ∀ f n, n ≤ nameGo s p f n
 | 0, n => Nat.le_refl _
 | f + 1, n => by
  unfold nameGo
  split
  · split
    · exact Nat.le_refl _
    · exact Nat.le_trans (Nat.le_add_right _ _) (nameGo_ge s p f _)
  · exact Nat.le_refl _
theorem e_nameGo (h : Ext s u t) {p : Nat} : ∀ (f f' n : Nat), s.size < p + n + f → u.size < p + n + f' → VB s (p + n) →
 nameGo s p f n ≤ nameGo u p f' n ∧ (p + nameGo s p f n < s.size → nameGo u p f' n = nameGo s p f n)
 | 0, f', n, h1, h2, _ => ⟨nameGo_ge u p f' n, fun hh => by have : nameGo s p 0 n = n := rfl; omega⟩
 | f + 1, f', n, h1, h2, hv => by
  by_cases hn : p + n < s.size
  · obtain ⟨g, rfl⟩ : ∃ g, f' = g + 1 := ⟨f' - 1, by have := e_le h; omega⟩
    obtain ⟨hr, hv'⟩ := VB_step hv hn
    have er := e_rune h hn hr
    have hu : p + n < u.size := by have := e_le h; omega
    by_cases hs : stops s p n
    · have hs' : stops u p n := by unfold stops at hs ⊢; rw [er]; exact hs
      rw [nameGo_stop hn hs, nameGo_stop hu hs']
      exact ⟨Nat.le_refl _, fun _ => rfl⟩
    · have hs' : ¬ stops u p n := by unfold stops at hs ⊢; rw [er]; exact hs
      rw [nameGo_on hn hs, nameGo_on hu hs', er]
      exact e_nameGo h f g _ (by omega) (by omega) (by rw [← Nat.add_assoc]; exact hv')
  · rw [nameGo_end (by omega)]
    exact ⟨nameGo_ge u p f' n, fun hh => by omega⟩
theorem e_name (h : Ext s u t) {p : Nat} (hv : VB s p) : nameZ s p ≤ nameZ u p ∧ (p + nameZ s p < s.size → nameZ u p = nameZ s p) := e_nameGo h _ _ _ (by omega) (by omega) hv
theorem e_nm (h : Ext s u t) {p : Nat} (hv : VB s p) (hn : nmF s p ≠ 1) : nmF u p = nmF s p ∧ (nmF s p = 0 → nmT u p = nmT s p ∧ nmP u p = nmP s p) := by
 obtain ⟨a, b⟩ := e_name h hv
 have hsz := e_le h
 by_cases h6 : 60 < nameZ s p
 · have e1 : nmF s p = 2 := by unfold nmF; rw [if_pos h6]
   have e2 : nmF u p = 2 := by unfold nmF; rw [if_pos (by omega)]
   exact ⟨by rw [e1, e2], fun e => by rw [e1] at e; cases e⟩
 · by_cases h7 : s.size ≤ p + nameZ s p
   · exact absurd (by unfold nmF; rw [if_neg h6, if_pos h7]) hn
   · have e := b (by omega)
     refine ⟨?_, fun _ => ⟨?_, ?_⟩⟩
     · unfold nmF; rw [e, if_neg h6, if_neg h6, if_neg (by omega), if_neg h7]
     · unfold nmT; rw [e]; exact e_ext h (by omega)
     · unfold nmP; rw [e]
end Go.Proofs.YtmaoefokimjkbaaGreatDoor.Plain18
namespace Go.Proofs.YtmaoefokimjkbaaGreatDoor.Plain19
open Strs Plain9 Plain10 Plain11 Plain12 Plain15 Plain18
variable {s u : ByteArray} {t : List UInt8}
theorem must_lt {p : Nat} {c : UInt8} {sg : List UInt8} (h : mustF s p (c :: sg) ≠ 1) : p < s.size := by
 refine Decidable.byContradiction fun hn => h ?_
 unfold mustF lackZ
 rw [has_end (by omega), pre_end (by omega)]; rfl
theorem nm_lt {p : Nat} (h : nmF s p ≠ 1) : p < s.size := Decidable.byContradiction fun hn => h (nmF_end (by omega))
theorem up_lt {p : Nat} {c : UInt8} {sg : List UInt8} (hp : p ≤ s.size) (h : upF s p (c :: sg) ≠ 1) : p < s.size := by
 have hf : fz s p (c :: sg) ≠ -1 := fun e => h (by unfold upF; rw [if_pos e])
 rcases fz_spec s p (c :: sg) hp with hz | ⟨i, hz, h1, h2, h3, _⟩
 · exact absurd hz hf
 · simp at h2; omega
theorem e_one (h : Ext s u t) {p : Nat} (hp : p < s.size) (c : UInt8) : hasAt u p [c] = hasAt s p [c] := by
 have hu : p < u.size := by have := e_le h; omega
 rw [has_cons hp, has_cons hu, e_u8 h hp, has_nil, has_nil]
theorem e_valGo (h : Ext s u t) {q : Int} : ∀ (f f' i : Nat), f ≤ f' → (valGo s q f i).1 ≠ 1 → valGo u q f' i = valGo s q f i
 | 0, f', i, _, hf => absurd rfl hf
 | f + 1, f', i, hle, hf => by
  obtain ⟨g, rfl⟩ : ∃ g, f' = g + 1 := ⟨f' - 1, by omega⟩
  by_cases hi : i < s.size
  · have hu : i < u.size := by have := e_le h; omega
    have hb := e_byte h hi
    by_cases h6 : byteAt s i = 60
    · rw [val_bad hi h6, val_bad hu (by rw [hb]; exact h6)]
    · by_cases hq : byteAt s i = q
      · rw [val_hit hi h6 hq, val_hit hu (by rw [hb]; exact h6) (by rw [hb]; exact hq)]
      · rw [val_on hi h6 hq] at hf ⊢
        rw [val_on hu (by rw [hb]; exact h6) (by rw [hb]; exact hq)]
        exact e_valGo h f g (i + 1) (by omega) hf
  · rw [val_end hi] at hf; exact absurd rfl hf
theorem val_lt {p : Nat} (h : valF s p ≠ 1) : p < s.size := Decidable.byContradiction fun hn => h (by unfold valF; rw [if_pos (by omega)])
theorem e_val (h : Ext s u t) {p : Nat} (hv : valF s p ≠ 1) : valF u p = valF s p ∧ (valF s p = 0 → valT u p = valT s p ∧ valP u p = valP s p) := by
 have hp := val_lt hv
 have hsz := e_le h
 have hb := e_byte h hp
 by_cases hq : quoteB (byteAt s p) = true
 · have e1 : valF s p = (valGo s (byteAt s p) (s.size + 1) (p + 1)).1 := by unfold valF; rw [if_neg (by omega), if_pos hq]
   have e2 : valF u p = (valGo u (byteAt s p) (u.size + 1) (p + 1)).1 := by unfold valF; rw [if_neg (by omega), hb, if_pos hq]
   have e := e_valGo h (q := byteAt s p) (s.size + 1) (u.size + 1) (p + 1) (by omega) (by rw [← e1]; exact hv)
   refine ⟨by rw [e2, e, e1], fun h0 => ?_⟩
   obtain ⟨_, _, hlt, _⟩ := val_spec h0
   have ee : valE u p = valE s p := by unfold valE; rw [hb, e]
   refine ⟨?_, by unfold valP; rw [ee]⟩
   unfold valT; rw [ee]; exact e_ext h (by omega)
 · have e1 : valF s p = 2 := by unfold valF; rw [if_neg (by omega), if_neg hq]
   have e2 : valF u p = 2 := by unfold valF; rw [if_neg (by omega), hb, if_neg hq]
   exact ⟨by rw [e1, e2], fun h0 => by rw [e1] at h0; cases h0⟩
theorem tag_sx (s nm : ByteArray) (f p : Nat) (acc : List (ByteArray × ByteArray)) : tagGo s nm (f + 1) p acc =
 if s.size ≤ whiteZ s p then failT 1
 else if byteAt s (whiteZ s p) = 62 then ⟨0, 1, nm, ByteArray.empty, acc, whiteZ s p + 1⟩
 else if byteAt s (whiteZ s p) = 47 then (if mustF s (whiteZ s p) [47, 62] = 0 then ⟨0, 3, nm, ByteArray.empty, acc, whiteZ s p + 2⟩ else failT (mustF s (whiteZ s p) [47, 62]))
 else if whiteZ s p = p then failT 2
 else if nmF s (whiteZ s p) ≠ 0 then failT (nmF s (whiteZ s p))
 else if mustF s (whiteZ s (nmP s (whiteZ s p))) [61] ≠ 0 then failT (mustF s (whiteZ s (nmP s (whiteZ s p))) [61])
 else if valF s (whiteZ s (whiteZ s (nmP s (whiteZ s p)) + 1)) ≠ 0 then failT (valF s (whiteZ s (whiteZ s (nmP s (whiteZ s p)) + 1)))
 else if hasZ acc (nmT s (whiteZ s p)) = true then failT 3
 else tagGo s nm f (valP s (whiteZ s (whiteZ s (nmP s (whiteZ s p)) + 1))) (acc ++ [(nmT s (whiteZ s p), valT s (whiteZ s (whiteZ s (nmP s (whiteZ s p)) + 1)))]) := by
 conv => lhs; unfold tagGo
theorem e_tagGo (h : Ext s u t) (h0 : VB s 0) {nm : ByteArray} : ∀ (f f' p : Nat) (acc : List (ByteArray × ByteArray)), f ≤ f' → VB s p → p ≤ s.size → (tagGo s nm f p acc).fl ≠ 1 → tagGo u nm f' p acc = tagGo s nm f p acc
 | 0, f', p, acc, _, _, _, hf => absurd rfl hf
 | f + 1, f', p, acc, hle, hv, hp, hf => by
  obtain ⟨g, rfl⟩ : ∃ g, f' = g + 1 := ⟨f' - 1, by omega⟩
  have hsz := e_le h
  rw [tag_sx] at hf ⊢
  rw [tag_sx s]
  by_cases c1 : s.size ≤ whiteZ s p
  · rw [if_pos c1] at hf; exact absurd rfl hf
  have ew := e_white h (p := p) (by omega)
  have hqv : VB s (whiteZ s p) := whiteZ_VB h0 hv
  rw [ew]
  generalize hq : whiteZ s p = q at *
  have hqp : p ≤ q := by rw [← hq]; exact whiteZ_ge s p
  have hb := e_byte h (i := q) (by omega)
  rw [if_neg c1] at hf ⊢
  rw [if_neg (show ¬ u.size ≤ q by omega), hb]
  by_cases c2 : byteAt s q = 62
  · rw [if_pos c2, if_pos c2]
  rw [if_neg c2] at hf ⊢
  rw [if_neg c2]
  by_cases c3 : byteAt s q = 47
  · rw [if_pos c3] at hf ⊢
    rw [if_pos c3]
    have hm : mustF s q [47, 62] ≠ 1 := fun e => by rw [e] at hf; exact hf rfl
    rw [e_must h (by omega) hm]
  rw [if_neg c3] at hf ⊢
  rw [if_neg c3]
  by_cases c4 : q = p
  · rw [if_pos c4, if_pos c4]
  rw [if_neg c4] at hf ⊢
  rw [if_neg c4]
  by_cases c5 : nmF s q ≠ 0
  · rw [if_pos c5] at hf ⊢
    have e := (e_nm h hqv hf).1
    rw [e, if_pos c5]
  rw [if_neg c5] at hf ⊢
  have c5' : nmF s q = 0 := by simpa using c5
  obtain ⟨e1, e2⟩ := e_nm h hqv (by rw [c5']; decide)
  obtain ⟨e3, e4⟩ := e2 c5'
  rw [e1, if_neg c5, e3, e4]
  obtain ⟨_, _, hnp, _⟩ := nm_spec c5'
  have hrv : VB s (whiteZ s (nmP s q)) := whiteZ_VB h0 (nm_VB hqv)
  have hrl := whiteZ_le (s := s) (p := nmP s q) (by omega)
  have hm1 : mustF s (whiteZ s (nmP s q)) [61] ≠ 1 := fun e => by rw [e] at hf; exact hf rfl
  have hr1 := must_lt hm1
  have ew2 := e_white h (p := nmP s q) hr1
  rw [ew2, e_must h hrl hm1]
  by_cases c6 : mustF s (whiteZ s (nmP s q)) [61] ≠ 0
  · rw [if_pos c6, if_pos c6]
  rw [if_neg c6] at hf ⊢
  rw [if_neg c6]
  have hm2 : valF s (whiteZ s (whiteZ s (nmP s q) + 1)) ≠ 1 := fun e => by rw [e] at hf; exact hf rfl
  have hv1 := val_lt hm2
  have ew3 := e_white h (p := whiteZ s (nmP s q) + 1) hv1
  obtain ⟨e5, e6⟩ := e_val h hm2
  rw [ew3, e5]
  by_cases c7 : valF s (whiteZ s (whiteZ s (nmP s q) + 1)) ≠ 0
  · rw [if_pos c7, if_pos c7]
  rw [if_neg c7] at hf ⊢
  rw [if_neg c7]
  have c7' : valF s (whiteZ s (whiteZ s (nmP s q) + 1)) = 0 := by simpa using c7
  obtain ⟨e7, e8⟩ := e6 c7'
  rw [e7, e8]
  by_cases c8 : hasZ acc (nmT s q) = true
  · rw [if_pos c8, if_pos c8]
  rw [if_neg c8] at hf ⊢
  rw [if_neg c8]
  obtain ⟨_, _, hlt, _⟩ := val_spec c7'
  exact e_tagGo h h0 f g _ _ (by omega) (val_VB h0 c7') (by unfold valP; omega) hf
theorem sub_no93 : ∀ (f p : Nat), p ≤ s.size → (∀ i, p ≤ i → i < s.size → byteAt s i ≠ 93) → (subGo s f p).1 = 1
 | 0, p, _, _ => rfl
 | f + 1, p, hp, hn => by
  have key : ∀ k (sg : List UInt8), p ≤ k → k ≤ s.size → (if upF s k sg = 0 then subGo s f (upP s k sg) else (1, p)).1 = 1 := fun k sg hk hks => by
   by_cases hu : upF s k sg = 0
   · rw [if_pos hu]
     obtain ⟨a, b, c⟩ := up_le hks hu
     exact sub_no93 f _ a (fun i hi => hn i (by omega))
   · rw [if_neg hu]
  unfold subGo
  by_cases h1 : p < s.size
  · rw [if_pos h1, if_neg (hn p (Nat.le_refl _) h1)]
    by_cases h2 : byteAt s p = 34
    · rw [if_pos h2]; exact key _ _ (by omega) (by omega)
    rw [if_neg h2]
    by_cases h3 : byteAt s p = 39
    · rw [if_pos h3]; exact key _ _ (by omega) (by omega)
    rw [if_neg h3]
    by_cases h4 : hasAt s p [60, 33, 45, 45] = true
    · rw [if_pos h4]; have := has_room h4 hp; exact key _ _ (by omega) (by simpa using this)
    rw [if_neg h4]
    by_cases h5 : hasAt s p [60, 63] = true
    · rw [if_pos h5]; have := has_room h5 hp; exact key _ _ (by omega) (by simpa using this)
    rw [if_neg h5]
    exact sub_no93 f _ (by omega) (fun i hi => hn i (by omega))
  · rw [if_neg h1]
theorem pre_bytes : ∀ {sg : List UInt8} {p : Nat}, (rest s p).isPrefixOf sg = true → (∀ c ∈ sg, c.toNat ≠ 93) → ∀ i, p ≤ i → i < s.size → byteAt s i ≠ 93
 | [], p, h, _, i, hi, his => by
  have := pre_len h; rw [rest_len] at this; simp at this; omega
 | c :: sg, p, h, hc, i, hi, his => by
  have hp : p < s.size := by omega
  rw [pre_cons hp] at h
  simp only [Bool.and_eq_true, beq_iff_eq] at h
  by_cases e : i = p
  · subst e
    rw [(u8At_eq (s := s) (p := i)).2 h.1]
    have := hc c (by simp)
    omega
  · exact pre_bytes h.2 (fun d hd => hc d (by simp [hd])) i (by omega) his
theorem e_subGo (h : Ext s u t) : ∀ (f f' p : Nat), f ≤ f' → p ≤ s.size → (subGo s f p).1 ≠ 1 → subGo u f' p = subGo s f p
 | 0, f', p, _, _, hf => absurd rfl hf
 | f + 1, f', p, hle, hp, hf => by
  obtain ⟨g, rfl⟩ : ∃ g, f' = g + 1 := ⟨f' - 1, by omega⟩
  have hsz := e_le h
  have hsign : ∀ sg : List UInt8, (∀ c ∈ sg, c.toNat ≠ 93) → hasAt s p sg = false → hasAt u p sg = false := fun sg hc hs => by
   refine (e_hasNo h hp hs ?_).1
   cases h2 : (rest s p).isPrefixOf sg with
   | false => rfl
   | true => exact absurd (sub_no93 (f + 1) p hp (pre_bytes h2 hc)) hf
  have key : ∀ k (c : UInt8) (sg : List UInt8), k ≤ s.size → (if upF s k (c :: sg) = 0 then subGo s f (upP s k (c :: sg)) else (1, p)).1 ≠ 1 → (if upF u k (c :: sg) = 0 then subGo u g (upP u k (c :: sg)) else (1, p)) = (if upF s k (c :: sg) = 0 then subGo s f (upP s k (c :: sg)) else (1, p)) := fun k c sg hk hh => by
   by_cases hu : upF s k (c :: sg) = 0
   · rw [if_pos hu] at hh ⊢
     obtain ⟨_, e2, _, e4⟩ := e_up (sg := c :: sg) h (List.cons_ne_nil _ _) hk (by rw [hu]; decide)
     obtain ⟨a, _, _⟩ := up_le hk hu
     rw [if_pos e2, e4]
     exact e_subGo h f g _ (by omega) a hh
   · rw [if_neg hu] at hh; exact absurd rfl hh
  unfold subGo at hf ⊢
  by_cases h1 : p < s.size
  · have hb := e_byte h h1
    rw [if_pos h1] at hf ⊢
    rw [if_pos (show p < u.size by omega), hb]
    by_cases c1 : byteAt s p = 93
    · rw [if_pos c1, if_pos c1]
    rw [if_neg c1] at hf ⊢
    rw [if_neg c1]
    by_cases c2 : byteAt s p = 34
    · rw [if_pos c2] at hf ⊢; rw [if_pos c2]; exact key _ _ _ (by omega) hf
    rw [if_neg c2] at hf ⊢
    rw [if_neg c2]
    by_cases c3 : byteAt s p = 39
    · rw [if_pos c3] at hf ⊢; rw [if_pos c3]; exact key _ _ _ (by omega) hf
    rw [if_neg c3] at hf ⊢
    rw [if_neg c3]
    by_cases c4 : hasAt s p [60, 33, 45, 45] = true
    · rw [if_pos c4] at hf ⊢; rw [if_pos (e_has h hp c4)]
      have := has_room c4 hp
      exact key _ _ _ (by simpa using this) hf
    rw [if_neg c4] at hf ⊢
    rw [if_neg (by rw [hsign _ (by decide) (by simpa using c4)]; simp)]
    by_cases c5 : hasAt s p [60, 63] = true
    · rw [if_pos c5] at hf ⊢; rw [if_pos (e_has h hp c5)]
      have := has_room c5 hp
      exact key _ _ _ (by simpa using this) hf
    rw [if_neg c5] at hf ⊢
    rw [if_neg (by rw [hsign _ (by decide) (by simpa using c5)]; simp)]
    exact e_subGo h f g _ (by omega) (by omega) hf
  · rw [if_neg h1] at hf; exact absurd rfl hf
end Go.Proofs.YtmaoefokimjkbaaGreatDoor.Plain19
namespace Go.Proofs.YtmaoefokimjkbaaGreatDoor.Plain20
open Strs Plain9 Plain10 Plain11 Plain12 Plain18 Plain19
variable {s u : ByteArray} {t : List UInt8}
theorem e_sub (h : Ext s u t) {p : Nat} (hp : p ≤ s.size) (hf : subF s p ≠ 1) : subF u p = subF s p ∧ subP u p = subP s p := by
 have e := e_subGo h (s.size + 1) (u.size + 1) p (by have := e_le h; omega) hp hf
 exact ⟨by unfold subF; rw [e], by unfold subP; rw [e]⟩
theorem subGo_room : ∀ (f p : Nat), p ≤ s.size → (subGo s f p).1 = 0 → p < (subGo s f p).2 ∧ (subGo s f p).2 ≤ s.size
 | 0, p, _, h => by cases h
 | f + 1, p, hp, h => by
  have key : ∀ k (sg : List UInt8), p < k → k ≤ s.size → (if upF s k sg = 0 then subGo s f (upP s k sg) else (1, p)).1 = 0 → p < (if upF s k sg = 0 then subGo s f (upP s k sg) else (1, p)).2 ∧ (if upF s k sg = 0 then subGo s f (upP s k sg) else (1, p)).2 ≤ s.size := fun k sg hk hks hh => by
   by_cases hu : upF s k sg = 0
   · rw [if_pos hu] at hh ⊢
     obtain ⟨a, b, c⟩ := up_le hks hu
     have := subGo_room f _ a hh
     exact ⟨by omega, this.2⟩
   · rw [if_neg hu] at hh; cases hh
  unfold subGo at h ⊢
  by_cases h1 : p < s.size
  · rw [if_pos h1] at h ⊢
    by_cases c1 : byteAt s p = 93
    · rw [if_pos c1]; exact ⟨by simp, by simp; omega⟩
    rw [if_neg c1] at h ⊢
    by_cases c2 : byteAt s p = 34
    · rw [if_pos c2] at h ⊢; exact key _ _ (by omega) (by omega) h
    rw [if_neg c2] at h ⊢
    by_cases c3 : byteAt s p = 39
    · rw [if_pos c3] at h ⊢; exact key _ _ (by omega) (by omega) h
    rw [if_neg c3] at h ⊢
    by_cases c4 : hasAt s p [60, 33, 45, 45] = true
    · rw [if_pos c4] at h ⊢; have := has_room c4 hp; exact key _ _ (by omega) (by simpa using this) h
    rw [if_neg c4] at h ⊢
    by_cases c5 : hasAt s p [60, 63] = true
    · rw [if_pos c5] at h ⊢; have := has_room c5 hp; exact key _ _ (by omega) (by simpa using this) h
    rw [if_neg c5] at h ⊢
    have := subGo_room f (p + 1) (by omega) h
    exact ⟨by omega, this.2⟩
  · rw [if_neg h1] at h; cases h
theorem e_comment (h : Ext s u t) {p : Nat} (hp : p ≤ s.size) (hf : (commentZ s p).fl ≠ 1) : commentZ u p = commentZ s p := by
 unfold commentZ at hf ⊢
 by_cases c1 : upF s p [45, 45] ≠ 0
 · rw [if_pos c1] at hf
   exact absurd ((e_up h (sg := [45, 45]) (by simp) hp hf).1) c1
 rw [if_neg c1] at hf ⊢
 have c1' : upF s p [45, 45] = 0 := by simpa using c1
 obtain ⟨_, e2, e3, e4⟩ := e_up h (sg := [45, 45]) (by simp) hp (by rw [c1']; decide)
 obtain ⟨a, _, _⟩ := up_le hp c1'
 have hm : mustF s (upP s p [45, 45]) [62] ≠ 1 := fun e => by rw [e] at hf; exact hf rfl
 rw [if_neg (by rw [e2]; simp), e3, e4, e_must h a hm]
theorem e_cdata (h : Ext s u t) {p : Nat} (hp : p ≤ s.size) (hf : (cdataZ s p).fl ≠ 1) : cdataZ u p = cdataZ s p := by
 unfold cdataZ at hf ⊢
 by_cases c1 : upF s p [93, 93, 62] = 0
 · obtain ⟨_, e2, e3, e4⟩ := e_up h (sg := [93, 93, 62]) (by simp) hp (by rw [c1]; decide)
   rw [if_pos c1, if_pos e2, e3, e4]
 · rw [if_neg c1] at hf
   exact absurd ((e_up h (sg := [93, 93, 62]) (by simp) hp hf).1) c1
theorem e_end (h : Ext s u t) {p : Nat} (hv : VB s p) (hf : (endZ s p).fl ≠ 1) : endZ u p = endZ s p := by
 unfold endZ at hf ⊢
 dsimp only at hf ⊢
 by_cases c1 : nmF s p ≠ 0
 · rw [if_pos c1] at hf ⊢
   have e := (e_nm h hv hf).1
   rw [e, if_pos c1]
 rw [if_neg c1] at hf ⊢
 have c1' : nmF s p = 0 := by simpa using c1
 obtain ⟨e1, e2⟩ := e_nm h hv (by rw [c1']; decide)
 obtain ⟨e3, e4⟩ := e2 c1'
 obtain ⟨_, _, hnp, _⟩ := nm_spec c1'
 have hm : mustF s (whiteZ s (nmP s p)) [62] ≠ 1 := fun e => by rw [e] at hf; exact hf rfl
 have hr := must_lt hm
 rw [e1, if_neg c1, e3, e4, e_white h hr, e_must h (by omega) hm]
theorem e_pi (h : Ext s u t) {p : Nat} (hv : VB s p) (hf : (piZ s p).fl ≠ 1) : piZ u p = piZ s p := by
 unfold piZ at hf ⊢
 dsimp only at hf ⊢
 by_cases c1 : nmF s p ≠ 0
 · rw [if_pos c1] at hf ⊢
   have e := (e_nm h hv hf).1
   rw [e, if_pos c1]
 rw [if_neg c1] at hf ⊢
 have c1' : nmF s p = 0 := by simpa using c1
 obtain ⟨e1, e2⟩ := e_nm h hv (by rw [c1']; decide)
 obtain ⟨e3, e4⟩ := e2 c1'
 obtain ⟨_, _, hnp, _⟩ := nm_spec c1'
 rw [e1, if_neg c1, e3, e4]
 by_cases c2 : xmlB (nmT s p) = true
 · rw [if_pos c2, if_pos c2]
 rw [if_neg c2] at hf ⊢
 rw [if_neg c2]
 have hrl := whiteZ_le (s := s) (p := nmP s p) (by omega)
 by_cases c3 : nmP s p < whiteZ s (nmP s p)
 · rw [if_pos c3] at hf ⊢
   have hu : upF s (whiteZ s (nmP s p)) [63, 62] ≠ 1 := fun e => by rw [e] at hf; exact hf rfl
   have hlt := up_lt hrl hu
   obtain ⟨d1, d2, d3, d4⟩ := e_up h (sg := [63, 62]) (by simp) hrl hu
   rw [e_white h hlt, if_pos c3, if_pos d1, if_pos d2, d3, d4]
 · rw [if_neg c3] at hf ⊢
   have hm : mustF s (whiteZ s (nmP s p)) [63, 62] ≠ 1 := fun e => by rw [e] at hf; exact hf rfl
   have hr := must_lt hm
   rw [e_white h hr, if_neg c3, e_must h hrl hm]
theorem e_doctype (h : Ext s u t) (h0 : VB s 0) {p : Nat} (hv : VB s p) (hp : p ≤ s.size) (hf : (doctypeZ s p).fl ≠ 1) : doctypeZ u p = doctypeZ s p := by
 unfold doctypeZ at hf ⊢
 dsimp only at hf ⊢
 have hsz := e_le h
 by_cases c1 : whiteZ s p = p
 · rw [if_pos c1] at hf
   have hlt : p < s.size := Decidable.byContradiction fun hn => hf (by rw [if_pos (by omega)]; rfl)
   have ew := e_white h (p := p) (by omega)
   rw [ew, if_pos c1, if_pos c1, if_neg (by omega), if_neg (by omega)]
 rw [if_neg c1] at hf ⊢
 have hqv : VB s (whiteZ s p) := whiteZ_VB h0 hv
 have hn1 : nmF s (whiteZ s p) ≠ 1 := fun e => by rw [e] at hf; exact hf rfl
 have hql := nm_lt hn1
 have ew := e_white h hql
 rw [ew, if_neg c1]
 generalize whiteZ s p = q at *
 obtain ⟨e1, e2⟩ := e_nm h hqv hn1
 rw [e1]
 by_cases c2 : nmF s q ≠ 0
 · rw [if_pos c2, if_pos c2]
 rw [if_neg c2] at hf ⊢
 rw [if_neg c2]
 have c2' : nmF s q = 0 := by simpa using c2
 obtain ⟨e3, e4⟩ := e2 c2'
 obtain ⟨_, _, hnp, _⟩ := nm_spec c2'
 have hrl := whiteZ_le (s := s) (p := nmP s q) (by omega)
 rw [e3, e4]
 by_cases c3 : hasAt s (whiteZ s (nmP s q)) [91] = true
 · rw [if_pos c3] at hf ⊢
   have hroom := has_room c3 hrl
   simp at hroom
   have ew2 := e_white h (p := nmP s q) (by omega)
   rw [ew2, if_pos (e_has h hrl c3)]
   have hs1 : subF s (whiteZ s (nmP s q) + 1) ≠ 1 := fun e => by rw [e] at hf; exact hf rfl
   obtain ⟨d1, d2⟩ := e_sub h (p := whiteZ s (nmP s q) + 1) (by omega) hs1
   rw [d1, d2]
   by_cases c4 : subF s (whiteZ s (nmP s q) + 1) ≠ 0
   · rw [if_pos c4, if_pos c4]
   rw [if_neg c4] at hf ⊢
   rw [if_neg c4]
   have c4' : subF s (whiteZ s (nmP s q) + 1) = 0 := by simpa using c4
   have hsr := subGo_room (s := s) (s.size + 1) (whiteZ s (nmP s q) + 1) (by omega) c4'
   have hsr2 : subP s (whiteZ s (nmP s q) + 1) ≤ s.size := hsr.2
   have hul := whiteZ_le (s := s) (p := subP s (whiteZ s (nmP s q) + 1)) hsr2
   have hm : mustF s (whiteZ s (subP s (whiteZ s (nmP s q) + 1))) [62] ≠ 1 := fun e => by rw [e] at hf; exact hf rfl
   have hr := must_lt hm
   have ht : subT u (whiteZ s (nmP s q) + 1) = subT s (whiteZ s (nmP s q) + 1) := by unfold subT; rw [d2]; exact e_ext h (by omega)
   rw [e_white h hr, e_must h hul hm, ht]
 · rw [if_neg c3] at hf ⊢
   have hm : mustF s (whiteZ s (nmP s q)) [62] ≠ 1 := fun e => by rw [e] at hf; exact hf rfl
   have hr := must_lt hm
   rw [e_white h hr, if_neg (by rw [e_one h hr]; exact c3), e_must h hrl hm]
theorem e_tag (h : Ext s u t) (h0 : VB s 0) {p : Nat} (hv : VB s p) (hf : (tagZ s p).fl ≠ 1) : tagZ u p = tagZ s p := by
 unfold tagZ at hf ⊢
 by_cases c1 : nmF s p ≠ 0
 · rw [if_pos c1] at hf ⊢
   have e := (e_nm h hv hf).1
   rw [e, if_pos c1]
 rw [if_neg c1] at hf ⊢
 have c1' : nmF s p = 0 := by simpa using c1
 obtain ⟨e1, e2⟩ := e_nm h hv (by rw [c1']; decide)
 obtain ⟨e3, e4⟩ := e2 c1'
 obtain ⟨_, _, hnp, _⟩ := nm_spec c1'
 rw [e1, if_neg c1, e3, e4]
 exact e_tagGo h h0 _ _ _ _ (by have := e_le h; omega) (nm_VB hv) (by omega) hf
theorem e_mark (h : Ext s u t) (h0 : VB s 0) {p : Nat} (hp : p < s.size) (h60 : byteAt s p = 60) (hf : (markZ s p).fl ≠ 1) : markZ u p = markZ s p := by
 have hsz := e_le h
 have b0 : byteAt u p = 60 := by rw [e_byte h hp]; exact h60
 by_cases h1 : s.size ≤ p + 1
 · rw [mark_end1 hp h60 h1] at hf; exact absurd rfl hf
 have hp1 : p + 1 < s.size := by omega
 have hu1 : p + 1 < u.size := by omega
 have e1 := e_byte h hp1
 have v1 : VB s (p + 1) := VB_behind h0 (by omega) (by rw [show p + 1 - 1 = p from rfl, h60]; decide)
 by_cases c1 : byteAt s (p + 1) = 47
 · have v2 : VB s (p + 2) := VB_behind h0 (by omega) (by rw [show p + 2 - 1 = p + 1 from rfl, c1]; decide)
   rw [mark_slash hp1 h60 c1] at hf ⊢
   rw [mark_slash hu1 b0 (by rw [e1]; exact c1)]
   exact e_end h v2 hf
 by_cases c2 : byteAt s (p + 1) = 63
 · have v2 : VB s (p + 2) := VB_behind h0 (by omega) (by rw [show p + 2 - 1 = p + 1 from rfl, c2]; decide)
   rw [mark_pi hp1 h60 c2] at hf ⊢
   rw [mark_pi hu1 b0 (by rw [e1]; exact c2)]
   exact e_pi h v2 hf
 by_cases c3 : byteAt s (p + 1) = 33
 · by_cases h2 : s.size ≤ p + 2
   · rw [mark_excl_end hp1 h60 c3 h2] at hf; exact absurd rfl hf
   have hp2 : p + 2 < s.size := by omega
   have hu2 : p + 2 < u.size := by omega
   have e2 := e_byte h hp2
   have c3u : byteAt u (p + 1) = 33 := by rw [e1]; exact c3
   by_cases d1 : byteAt s (p + 2) = 45
   · rw [mark_dash hp2 h60 c3 d1] at hf ⊢
     rw [mark_dash hu2 b0 c3u (by rw [e2]; exact d1)]
     have hm : mustF s (p + 2) [45, 45] ≠ 1 := fun e => by rw [e] at hf; exact hf rfl
     rw [e_must h (by omega) hm]
     by_cases hz : mustF s (p + 2) [45, 45] = 0
     · rw [if_pos hz] at hf ⊢
       rw [if_pos hz]
       have := has_room (must_has.1 hz) (by omega)
       exact e_comment h (by simp at this; omega) hf
     · rw [if_neg hz, if_neg hz]
   by_cases d2 : byteAt s (p + 2) = 91
   · rw [mark_brack hp2 h60 c3 d2] at hf ⊢
     rw [mark_brack hu2 b0 c3u (by rw [e2]; exact d2)]
     have hm : mustF s (p + 2) [91, 67, 68, 65, 84, 65, 91] ≠ 1 := fun e => by rw [e] at hf; exact hf rfl
     rw [e_must h (by omega) hm]
     by_cases hz : mustF s (p + 2) [91, 67, 68, 65, 84, 65, 91] = 0
     · rw [if_pos hz] at hf ⊢
       rw [if_pos hz]
       have := has_room (must_has.1 hz) (by omega)
       exact e_cdata h (by simp at this; omega) hf
     · rw [if_neg hz, if_neg hz]
   · rw [mark_doc hp2 h60 c3 d1 d2] at hf ⊢
     rw [mark_doc hu2 b0 c3u (by rw [e2]; exact d1) (by rw [e2]; exact d2)]
     have hm : mustF s (p + 2) [68, 79, 67, 84, 89, 80, 69] ≠ 1 := fun e => by rw [e] at hf; exact hf rfl
     rw [e_must h (by omega) hm]
     by_cases hz : mustF s (p + 2) [68, 79, 67, 84, 89, 80, 69] = 0
     · rw [if_pos hz] at hf ⊢
       rw [if_pos hz]
       have hh := must_has.1 hz
       have hroom := has_room hh (by omega)
       have v9 := VB_sign h0 hh (by omega) (by decide) (by decide)
       simp only [List.length_cons, List.length_nil] at hroom v9
       exact e_doctype h h0 v9 (by omega) hf
     · rw [if_neg hz, if_neg hz]
 · rw [mark_tag hp1 h60 c1 c2 c3] at hf ⊢
   rw [mark_tag hu1 b0 (by rw [e1]; exact c1) (by rw [e1]; exact c2) (by rw [e1]; exact c3)]
   exact e_tag h h0 v1 hf
end Go.Proofs.YtmaoefokimjkbaaGreatDoor.Plain20
namespace Go.Proofs.YtmaoefokimjkbaaGreatDoor.Plain21
open Plain1 Strs Plain3 Plain5 Plain6 Plain9 Plain10 Plain11
variable {s u : ByteArray} {t : List UInt8}
theorem scanR_some : ∀ (f p : Nat), VB s p → scanR s f p ≠ none
 | 0, p, _ => by simp [scanR]
 | f + 1, p, h => by
  unfold scanR
  by_cases hp : p < s.size
  · obtain ⟨hr, hv⟩ := VB_step h hp
    rw [if_pos hp, if_neg hr]
    have := scanR_some f _ hv
    intro e
    exact this (Option.map_eq_none_iff.1 e)
  · rw [if_neg hp]; simp
theorem VB_of {p : Nat} (hp : p < s.size) (hr : (runeZ s p).2 ≠ 0) (h : VB s (p + (runeZ s p).2)) : VB s p := by
 cases hl : scanR s s.size (p + (runeZ s p).2) with
 | none => exact absurd hl (scanR_some _ _ h)
 | some l =>
  refine ⟨s.size + 1, (runeZ s p).1 :: l, by omega, ?_⟩
  unfold scanR; rw [if_pos hp, if_neg hr, hl]; rfl
theorem scan_of_VB (h : VB s 0) : (scanAll s).2 < 0 := by
 rcases scan_R (s := s) (s.size + 1) 0 [] with ⟨l, _, h2⟩ | ⟨h1, _⟩
 · unfold scanAll; rw [h2]; simp
 · exact absurd h1 (scanR_some _ _ h)
theorem rune_plain {p : Nat} (hp : p < s.size) (h1 : 32 ≤ byteAt s p) (h2 : byteAt s p < 127) : (runeZ s p).2 = 1 := by
 unfold runeZ
 rw [if_pos (by omega), fin_good (by omega) (conts_one s p) (by show 0 ≤ byteAt s p; omega) (charB_yes (by show _; have : vz s p (byteAt s p) (1 - 1) = byteAt s p := rfl; rw [this]; omega))]
theorem text_E {p : Nat} (hp : p ≤ s.size) : p ≤ textE s p ∧ textE s p ≤ s.size ∧ (textE s p ≠ s.size → fz s p [60] ≠ -1 ∧ textE s p = (fz s p [60]).toNat) := by
 unfold textE
 rcases fz_spec s p [60] hp with h | ⟨i, h, h1, h2, _⟩
 · rw [if_pos h]; exact ⟨hp, Nat.le_refl _, fun e => absurd rfl e⟩
 · rw [if_neg (by omega), h]; simp at h2 ⊢; omega
end Go.Proofs.YtmaoefokimjkbaaGreatDoor.Plain21
namespace Go.Proofs.YtmaoefokimjkbaaGreatDoor.Plain22
open Strs Plain9 Plain10 Plain15
variable {s u : ByteArray} {t : List UInt8}
theorem fl_ne {f : Nat} (h : f ≠ 0) : (failT f).fl ≠ 0 := h
theorem text_pos {p : Nat} (hp : p < s.size) (h60 : byteAt s p ≠ 60) (c : Bool) (h : (textZ s p c).fl = 0) : p < (textZ s p c).pos := by
 have e : (textZ s p c).pos = textE s p := by
  unfold textZ at h ⊢
  by_cases c1 : Lib.index (s.extract p (textE s p)).data.toList [93, 93, 62] ≠ -1
  · rw [if_pos c1] at h; cases h
  rw [if_neg c1] at h ⊢
  by_cases c2 : textE s p = s.size ∧ c = false
  · rw [if_pos c2] at h; cases h
  · rw [if_neg c2]
 rw [e]
 unfold textE
 rcases fz_spec s p [60] (by omega) with hz | ⟨i, hz, h1, h2, h3, _⟩
 · rw [if_pos hz]; exact hp
 · rw [if_neg (by omega), hz]
   have : p ≠ i := fun e => by
    subst e
    rw [one_sign hp 60 60 rfl] at h3
    exact h60 (of_decide_eq_true h3)
   show p < i; omega
end Go.Proofs.YtmaoefokimjkbaaGreatDoor.Plain22
