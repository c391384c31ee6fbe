import Derived.Test.YtdblemolaojebaaGreatDoorPlB
namespace Go.Proofs.YtdblemolaojebaaGreatDoor.Plain18
open Plain1 Strs Plain3 Plain6 Plain9 Plain10 Plain11 Plain12
def Ext (s u : ByteArray) (t : List UInt8) : Prop := u.data.toList = s.data.toList ++ t
variable {s u : ByteArray} {t : List UInt8}
theorem aV6 (s : ByteArray) : s.data.toList.length = s.size := rfl
theorem e_size (h : Ext s u t) : u.size = s.size + t.length := by
 rw [← aV6 u, ← aV6 s, h, List.length_append]
theorem e_le (h : Ext s u t) : s.size ≤ u.size := by rw [e_size h]; omega
theorem e_rest (h : Ext s u t) {p : Nat} (hp : p ≤ s.size) : rest u p = rest s p ++ t := by
 unfold rest; rw [h, List.drop_append_of_le_length (by rw [aV6]; exact hp)]
theorem aKl (h : Ext s u t) {i : Nat} (hi : i < s.size) : aQ2 u i = aQ2 s i := by
 unfold aQ2
 rw [h]
 congr 2
 rw [List.getD_eq_getElem?_getD, List.getD_eq_getElem?_getD, List.getElem?_append_left (by rw [aV6]; exact hi)]
theorem e_u8 (h : Ext s u t) {i : Nat} (hi : i < s.size) : u8At u i = u8At s i := (u8At_eq (s := u) (p := i)).1 (by rw [aKl h hi]; exact (u8At_eq (s := s) (p := i)).2 rfl)
theorem e_ext (h : Ext s u t) {p q : Nat} (hq : q ≤ s.size) : u.extract p q = s.extract p q := by
 have : (u.extract p q).data.toList = (s.extract p q).data.toList := by
  rw [ByteArray.data_extract, ByteArray.data_extract, Array.toList_extract, Array.toList_extract, List.extract_eq_take_drop, List.extract_eq_take_drop, h]
  by_cases hp : p ≤ s.size
  · rw [List.drop_append_of_le_length (by rw [aV6]; exact hp), List.take_append_of_le_length (by rw [List.length_drop, aV6]; omega)]
  · rw [show q - p = 0 by omega]; rfl
 exact ByteArray.ext (Array.toList_inj.1 this)
theorem pre_app {A sg t : List UInt8} (h : sg.isPrefixOf A = true) : sg.isPrefixOf (A ++ t) = true := by
 rw [List.isPrefixOf_iff_prefix] at h ⊢
 exact h.trans (List.prefix_append _ _)
theorem pre_no : ∀ {A sg t : List UInt8}, sg.isPrefixOf A = false → A.isPrefixOf sg = false → sg.isPrefixOf (A ++ t) = false ∧ (A ++ t).isPrefixOf sg = false
 | [], sg, t, _, h2 => by simp [List.isPrefixOf] at h2
 | a :: A, [], t, h1, _ => by simp [List.isPrefixOf] at h1
 | a :: A, b :: sg, t, h1, h2 => by
  simp only [List.cons_append, List.isPrefixOf] at h1 h2 ⊢
  by_cases he : a = b
  · subst he
    simp only [beq_self_eq_true, Bool.true_and] at h1 h2 ⊢
    exact pre_no h1 h2
  · have e1 : (a == b) = false := by simpa using he
    have e2 : (b == a) = false := by simpa using fun e => he e.symm
    simp [e1, e2]
theorem bXj (h : Ext s u t) {p : Nat} {sg : List UInt8} (hp : p ≤ s.size) (hh : aQ5 s p sg = true) : aQ5 u p sg = true := by
 unfold aQ5 at hh ⊢; rw [e_rest h hp]; exact pre_app hh
theorem e_hasNo (h : Ext s u t) {p : Nat} {sg : List UInt8} (hp : p ≤ s.size) (hh : aQ5 s p sg = false) (h2 : (rest s p).isPrefixOf sg = false) : aQ5 u p sg = false ∧ (rest u p).isPrefixOf sg = false := by
 unfold aQ5 at hh ⊢; rw [e_rest h hp]; exact pre_no hh h2
theorem pre_len {A sg : List UInt8} (h : A.isPrefixOf sg = true) : A.length ≤ sg.length := (List.isPrefixOf_iff_prefix.1 h).length_le
theorem e_hasRoom (h : Ext s u t) {p : Nat} {sg : List UInt8} (hp : p + sg.length < s.size) : aQ5 u p sg = aQ5 s p sg := by
 cases hh : aQ5 s p sg with
 | true => exact bXj h (by omega) hh
 | false =>
  refine (e_hasNo h (by omega) hh ?_).1
  cases h2 : (rest s p).isPrefixOf sg with
  | false => rfl
  | true => have := pre_len h2; rw [aVx] at this; omega
theorem must_one {p : Nat} {sg : List UInt8} (h : aQm s p sg ≠ 1) : aQ5 s p sg = true ∨ (aQ5 s p sg = false ∧ (rest s p).isPrefixOf sg = false ∧ aQm s p sg = 2) := by
 unfold aQm aW5 at h ⊢
 cases h1 : aQ5 s p sg with
 | true => exact .inl rfl
 | false =>
  rw [h1] at h
  cases h2 : (rest s p).isPrefixOf sg with
  | true => rw [h2] at h; simp at h
  | false => exact .inr ⟨rfl, rfl, by simp⟩
theorem e_must (h : Ext s u t) {p : Nat} {sg : List UInt8} (hp : p ≤ s.size) (hm : aQm s p sg ≠ 1) : aQm u p sg = aQm s p sg := by
 rcases must_one hm with h1 | ⟨h1, h2, h3⟩
 · rw [aX8.2 h1, aX8.2 (bXj h hp h1)]
 · obtain ⟨a, b⟩ := e_hasNo h hp h1 h2
   rw [h3]; unfold aQm aW5; rw [if_neg (by rw [a]; simp), if_neg (by rw [b]; simp)]
theorem e_fz (h : Ext s u t) {sg : List UInt8} (h0 : sg ≠ []) : ∀ (n p : Nat), s.size ≤ p + n → p ≤ s.size → fz s p sg ≠ -1 → fz u p sg = fz s p sg
 | 0, p, hn, hp, hf => by
  have : s.size < p + sg.length := by have := List.length_pos_iff.2 h0; omega
  exact absurd (fz_nil h0 this) hf
 | n + 1, p, hn, hp, hf => by
  have hl := List.length_pos_iff.2 h0
  rcases aJh s p sg hp with hz | ⟨i, hz, h1, h2, h3, _⟩
  · exact absurd hz hf
  have hlt : p < s.size := by omega
  have hlu : p < u.size := by have := e_le h; omega
  cases hh : aQ5 s p sg with
  | true => rw [fz_hit hlt hh, fz_hit hlu (bXj h hp hh)]
  | false =>
   have hip : p ≠ i := fun e => by subst e; rw [h3] at hh; cases hh
   have hu : aQ5 u p sg = false := by rw [e_hasRoom h (by omega)]; exact hh
   rw [bJh hlt hh] at hf ⊢
   rw [bJh hlu hu]
   exact e_fz h h0 n (p + 1) (by omega) (by omega) hf
theorem e_up (h : Ext s u t) {p : Nat} {sg : List UInt8} (h0 : sg ≠ []) (hp : p ≤ s.size) (hu : upF s p sg ≠ 1) : upF s p sg = 0 ∧ upF u p sg = 0 ∧ upT u p sg = upT s p sg ∧ upP u p sg = upP s p sg := by
 have hf : fz s p sg ≠ -1 := fun e => hu (by unfold upF; rw [if_pos e])
 have e := e_fz h h0 _ p (Nat.le_add_left _ _) hp hf
 have e0 : upF s p sg = 0 := by unfold upF; rw [if_neg hf]
 refine ⟨e0, by unfold upF; rw [e, if_neg hf], ?_, by unfold upP; rw [e]⟩
 unfold upT
 rw [e]
 rcases aJh s p sg hp with hz | ⟨i, hz, h1, h2, h3, _⟩
 · exact absurd hz hf
 · rw [hz]; exact e_ext h (by simp; omega)
theorem e_whiteGo (h : Ext s u t) : ∀ (f f' i : Nat), s.size ≤ i + f → u.size ≤ i + f' → aZk s f i < s.size → aZk u f' i = aZk s f i
 | 0, f', i, h1, h2, h3 => by have : aZk s 0 i = i := rfl; omega
 | f + 1, f', i, h1, h2, h3 => by
  by_cases hw : i < s.size ∧ whiteB (aQ2 s i) = true
  · have hu : i < u.size ∧ whiteB (aQ2 u i) = true := ⟨by have := e_le h; omega, by rw [aKl h hw.1]; exact hw.2⟩
    obtain ⟨g, rfl⟩ : ∃ g, f' = g + 1 := ⟨f' - 1, by omega⟩
    rw [aJo hw] at h3 ⊢
    rw [aJo hu]
    exact e_whiteGo h f g (i + 1) (by omega) (by omega) h3
  · rw [aXp hw] at h3 ⊢
    exact aXp fun hu => hw ⟨h3, by rw [← aKl h h3]; exact hu.2⟩
theorem bXi (h : Ext s u t) {p : Nat} (hw : whiteZ s p < s.size) : whiteZ u p = whiteZ s p := e_whiteGo h _ _ _ (by omega) (by omega) hw
theorem e_vz (h : Ext s u t) {pos : Nat} (x0 : Int) : ∀ n, pos + n < s.size ∨ n = 0 → vz u pos x0 n = vz s pos x0 n
 | 0, _ => rfl
 | n + 1, hn => by
  unfold vz
  rw [e_vz h x0 n (by omega), aKl h (by omega)]
theorem e_fin (h : Ext s u t) {pos n : Nat} {x0 low : Int} (hn : 1 ≤ n) (hf : (fin s pos x0 n low).2 ≠ 0) : fin u pos x0 n low = fin s pos x0 n low := by
 have hc : pos + n ≤ s.size ∧ aWq s pos n ∧ low ≤ vz s pos x0 (n - 1) ∧ aZq (vz s pos x0 (n - 1)) = true := Decidable.byContradiction fun hc => hf (by unfold fin; rw [if_neg hc])
 obtain ⟨c1, c2, c3, c4⟩ := hc
 have ev := e_vz h (pos := pos) x0 (n - 1) (.inl (by omega))
 rw [aVf c1 c2 c3 c4, aVf (by have := e_le h; omega) (aXy.2 fun k hk h1 => by
  have := aXy.1 c2 k hk h1
  unfold aX1 at this ⊢; rw [aKl h (by omega)]; exact this) (by rw [ev]; exact c3) (by rw [ev]; exact c4), ev]
theorem e_rune (h : Ext s u t) {p : Nat} (hp : p < s.size) (hr : (aQo s p).2 ≠ 0) : aQo u p = aQo s p := by
 have hb := aKl h hp
 unfold aQo at hr ⊢
 rw [hb]
 by_cases h1 : aQ2 s p < 128
 · rw [if_pos h1] at hr ⊢; rw [if_pos h1]; exact e_fin h (by omega) hr
 rw [if_neg h1] at hr ⊢; rw [if_neg h1]
 by_cases h2 : 192 ≤ aQ2 s p ∧ aQ2 s p < 224
 · rw [if_pos h2] at hr ⊢; rw [if_pos h2]; exact e_fin h (by omega) hr
 rw [if_neg h2] at hr ⊢; rw [if_neg h2]
 by_cases h3 : 224 ≤ aQ2 s p ∧ aQ2 s p < 240
 · rw [if_pos h3] at hr ⊢; rw [if_pos h3]; exact e_fin h (by omega) hr
 rw [if_neg h3] at hr ⊢; rw [if_neg h3]
 by_cases h4 : 240 ≤ aQ2 s p ∧ aQ2 s p < 248
 · rw [if_pos h4] at hr ⊢; rw [if_pos h4]; exact e_fin h (by omega) hr
 · rw [if_neg h4] at hr; exact absurd rfl hr
theorem bJ6 (s : ByteArray) (p : Nat) : ∀ f n, n ≤ aZc s p f n
 | 0, n => Nat.le_refl _
 | f + 1, n => by
  unfold aZc
  split
  · split
    · exact Nat.le_refl _
    · exact Nat.le_trans (Nat.le_add_right _ _) (bJ6 s p f _)
  · exact Nat.le_refl _
theorem e_nameGo (h : Ext s u t) {p : Nat} : ∀ (f f' n : Nat), s.size < p + n + f → u.size < p + n + f' → VB s (p + n) →
 aZc s p f n ≤ aZc u p f' n ∧ (p + aZc s p f n < s.size → aZc u p f' n = aZc s p f n)
 | 0, f', n, h1, h2, _ => ⟨bJ6 u p f' n, fun hh => by have : aZc s p 0 n = n := rfl; omega⟩
 | f + 1, f', n, h1, h2, hv => by
  by_cases hn : p + n < s.size
  · obtain ⟨g, rfl⟩ : ∃ g, f' = g + 1 := ⟨f' - 1, by have := e_le h; omega⟩
    obtain ⟨hr, hv'⟩ := aW1 hv hn
    have er := e_rune h hn hr
    have hu : p + n < u.size := by have := e_le h; omega
    by_cases hs : aY1 s p n
    · have hs' : aY1 u p n := by unfold aY1 at hs ⊢; rw [er]; exact hs
      rw [aV8 hn hs, aV8 hu hs']
      exact ⟨Nat.le_refl _, fun _ => rfl⟩
    · have hs' : ¬ aY1 u p n := by unfold aY1 at hs ⊢; rw [er]; exact hs
      rw [aW4 hn hs, aW4 hu hs', er]
      exact e_nameGo h f g _ (by omega) (by omega) (by rw [← Nat.add_assoc]; exact hv')
  · rw [aZn (by omega)]
    exact ⟨bJ6 u p f' n, fun hh => by omega⟩
theorem e_name (h : Ext s u t) {p : Nat} (hv : VB s p) : aXw s p ≤ aXw u p ∧ (p + aXw s p < s.size → aXw u p = aXw s p) := e_nameGo h _ _ _ (by omega) (by omega) hv
theorem e_nm (h : Ext s u t) {p : Nat} (hv : VB s p) (hn : nmF s p ≠ 1) : nmF u p = nmF s p ∧ (nmF s p = 0 → nmT u p = nmT s p ∧ nmP u p = nmP s p) := by
 obtain ⟨a, b⟩ := e_name h hv
 have hsz := e_le h
 by_cases h6 : 60 < aXw s p
 · have e1 : nmF s p = 2 := by unfold nmF; rw [if_pos h6]
   have e2 : nmF u p = 2 := by unfold nmF; rw [if_pos (by omega)]
   exact ⟨by rw [e1, e2], fun e => by rw [e1] at e; cases e⟩
 · by_cases h7 : s.size ≤ p + aXw s p
   · exact absurd (by unfold nmF; rw [if_neg h6, if_pos h7]) hn
   · have e := b (by omega)
     refine ⟨?_, fun _ => ⟨?_, ?_⟩⟩
     · unfold nmF; rw [e, if_neg h6, if_neg h6, if_neg (by omega), if_neg h7]
     · unfold nmT; rw [e]; exact e_ext h (by omega)
     · unfold nmP; rw [e]
end Go.Proofs.YtdblemolaojebaaGreatDoor.Plain18
namespace Go.Proofs.YtdblemolaojebaaGreatDoor.Plain19
open Strs Plain9 Plain10 Plain11 Plain12 Plain18
variable {s u : ByteArray} {t : List UInt8}
theorem must_lt {p : Nat} {c : UInt8} {sg : List UInt8} (h : aQm s p (c :: sg) ≠ 1) : p < s.size := by
 refine Decidable.byContradiction fun hn => h ?_
 unfold aQm aW5
 rw [bJd (by omega), bKh (by omega)]; rfl
theorem up_lt {p : Nat} {c : UInt8} {sg : List UInt8} (hp : p ≤ s.size) (h : upF s p (c :: sg) ≠ 1) : p < s.size := by
 have hf : fz s p (c :: sg) ≠ -1 := fun e => h (by unfold upF; rw [if_pos e])
 rcases aJh s p (c :: sg) hp with hz | ⟨i, hz, h1, h2, h3, _⟩
 · exact absurd hz hf
 · simp at h2; omega
theorem e_one (h : Ext s u t) {p : Nat} (hp : p < s.size) (c : UInt8) : aQ5 u p [c] = aQ5 s p [c] := by
 have hu : p < u.size := by have := e_le h; omega
 rw [aXk hp, aXk hu, e_u8 h hp, aKz, aKz]
theorem e_valGo (h : Ext s u t) {q : Int} : ∀ (f f' i : Nat), f ≤ f' → (aZv s q f i).1 ≠ 1 → aZv u q f' i = aZv s q f i
 | 0, f', i, _, hf => absurd rfl hf
 | f + 1, f', i, hle, hf => by
  obtain ⟨g, rfl⟩ : ∃ g, f' = g + 1 := ⟨f' - 1, by omega⟩
  by_cases hi : i < s.size
  · have hu : i < u.size := by have := e_le h; omega
    have hb := aKl h hi
    by_cases h6 : aQ2 s i = 60
    · rw [bK5 hi h6, bK5 hu (by rw [hb]; exact h6)]
    · by_cases hq : aQ2 s i = q
      · rw [bK4 hi h6 hq, bK4 hu (by rw [hb]; exact h6) (by rw [hb]; exact hq)]
      · rw [val_on hi h6 hq] at hf ⊢
        rw [val_on hu (by rw [hb]; exact h6) (by rw [hb]; exact hq)]
        exact e_valGo h f g (i + 1) (by omega) hf
  · rw [val_end hi] at hf; exact absurd rfl hf
theorem val_lt {p : Nat} (h : valF s p ≠ 1) : p < s.size := Decidable.byContradiction fun hn => h (by unfold valF; rw [if_pos (by omega)])
theorem e_val (h : Ext s u t) {p : Nat} (hv : valF s p ≠ 1) : valF u p = valF s p ∧ (valF s p = 0 → valT u p = valT s p ∧ valP u p = valP s p) := by
 have hp := val_lt hv
 have hsz := e_le h
 have hb := aKl h hp
 by_cases hq : aKe (aQ2 s p) = true
 · have e1 : valF s p = (aZv s (aQ2 s p) (s.size + 1) (p + 1)).1 := by unfold valF; rw [if_neg (by omega), if_pos hq]
   have e2 : valF u p = (aZv u (aQ2 s p) (u.size + 1) (p + 1)).1 := by unfold valF; rw [if_neg (by omega), hb, if_pos hq]
   have e := e_valGo h (q := aQ2 s p) (s.size + 1) (u.size + 1) (p + 1) (by omega) (by rw [← e1]; exact hv)
   refine ⟨by rw [e2, e, e1], fun h0 => ?_⟩
   obtain ⟨_, _, hlt, _⟩ := aYc h0
   have ee : valE u p = valE s p := by unfold valE; rw [hb, e]
   refine ⟨?_, by unfold valP; rw [ee]⟩
   unfold valT; rw [ee]; exact e_ext h (by omega)
 · have e1 : valF s p = 2 := by unfold valF; rw [if_neg (by omega), if_neg hq]
   have e2 : valF u p = 2 := by unfold valF; rw [if_neg (by omega), hb, if_neg hq]
   exact ⟨by rw [e1, e2], fun h0 => by rw [e1] at h0; cases h0⟩
theorem tag_sx (s nm : ByteArray) (f p : Nat) (acc : List (ByteArray × ByteArray)) : aWf s nm (f + 1) p acc =
 if s.size ≤ whiteZ s p then aQy 1
 else if aQ2 s (whiteZ s p) = 62 then ⟨0, 1, nm, ByteArray.empty, acc, whiteZ s p + 1⟩
 else if aQ2 s (whiteZ s p) = 47 then (if aQm s (whiteZ s p) [47, 62] = 0 then ⟨0, 3, nm, ByteArray.empty, acc, whiteZ s p + 2⟩ else aQy (aQm s (whiteZ s p) [47, 62]))
 else if whiteZ s p = p then aQy 2
 else if nmF s (whiteZ s p) ≠ 0 then aQy (nmF s (whiteZ s p))
 else if aQm s (whiteZ s (nmP s (whiteZ s p))) [61] ≠ 0 then aQy (aQm s (whiteZ s (nmP s (whiteZ s p))) [61])
 else if valF s (whiteZ s (whiteZ s (nmP s (whiteZ s p)) + 1)) ≠ 0 then aQy (valF s (whiteZ s (whiteZ s (nmP s (whiteZ s p)) + 1)))
 else if hasZ acc (nmT s (whiteZ s p)) = true then aQy 3
 else aWf s nm f (valP s (whiteZ s (whiteZ s (nmP s (whiteZ s p)) + 1))) (acc ++ [(nmT s (whiteZ s p), valT s (whiteZ s (whiteZ s (nmP s (whiteZ s p)) + 1)))]) := by
 conv => lhs; unfold aWf
end Go.Proofs.YtdblemolaojebaaGreatDoor.Plain19
namespace Go.Proofs.YtdblemolaojebaaGreatDoor.Plain20
open Strs Plain9 Plain10 Plain11 Plain18 Plain19
variable {s u : ByteArray} {t : List UInt8}
theorem bX8 : ∀ (f p : Nat), p ≤ s.size → (aZa s f p).1 = 0 → p < (aZa s f p).2 ∧ (aZa s f p).2 ≤ s.size
 | 0, p, _, h => by cases h
 | f + 1, p, hp, h => by
  have key : ∀ k (sg : List UInt8), p < k → k ≤ s.size → (if upF s k sg = 0 then aZa s f (upP s k sg) else (1, p)).1 = 0 → p < (if upF s k sg = 0 then aZa s f (upP s k sg) else (1, p)).2 ∧ (if upF s k sg = 0 then aZa s f (upP s k sg) else (1, p)).2 ≤ s.size := fun k sg hk hks hh => by
   by_cases hu : upF s k sg = 0
   · rw [if_pos hu] at hh ⊢
     obtain ⟨a, b, c⟩ := aYy hks hu
     have := bX8 f _ a hh
     exact ⟨by omega, this.2⟩
   · rw [if_neg hu] at hh; cases hh
  unfold aZa at h ⊢
  by_cases h1 : p < s.size
  · rw [if_pos h1] at h ⊢
    by_cases c1 : aQ2 s p = 93
    · rw [if_pos c1]; exact ⟨by simp, by simp; omega⟩
    rw [if_neg c1] at h ⊢
    by_cases c2 : aQ2 s p = 34
    · rw [if_pos c2] at h ⊢; exact key _ _ (by omega) (by omega) h
    rw [if_neg c2] at h ⊢
    by_cases c3 : aQ2 s p = 39
    · rw [if_pos c3] at h ⊢; exact key _ _ (by omega) (by omega) h
    rw [if_neg c3] at h ⊢
    by_cases c4 : aQ5 s p [60, 33, 45, 45] = true
    · rw [if_pos c4] at h ⊢; have := aQ9 c4 hp; exact key _ _ (by omega) (by simpa using this) h
    rw [if_neg c4] at h ⊢
    by_cases c5 : aQ5 s p [60, 63] = true
    · rw [if_pos c5] at h ⊢; have := aQ9 c5 hp; exact key _ _ (by omega) (by simpa using this) h
    rw [if_neg c5] at h ⊢
    have := bX8 f (p + 1) (by omega) h
    exact ⟨by omega, this.2⟩
  · rw [if_neg h1] at h; cases h
theorem e_comment (h : Ext s u t) {p : Nat} (hp : p ≤ s.size) (hf : (aXa s p).fl ≠ 1) : aXa u p = aXa s p := by
 unfold aXa at hf ⊢
 by_cases c1 : upF s p [45, 45] ≠ 0
 · rw [if_pos c1] at hf
   exact absurd ((e_up h (sg := [45, 45]) (by simp) hp hf).1) c1
 rw [if_neg c1] at hf ⊢
 have c1' : upF s p [45, 45] = 0 := by simpa using c1
 obtain ⟨_, e2, e3, e4⟩ := e_up h (sg := [45, 45]) (by simp) hp (by rw [c1']; decide)
 obtain ⟨a, _, _⟩ := aYy hp c1'
 have hm : aQm s (upP s p [45, 45]) [62] ≠ 1 := fun e => by rw [e] at hf; exact hf rfl
 rw [if_neg (by rw [e2]; simp), e3, e4, e_must h a hm]
theorem e_pi (h : Ext s u t) {p : Nat} (hv : VB s p) (hf : (piZ s p).fl ≠ 1) : piZ u p = piZ s p := by
 unfold piZ at hf ⊢
 dsimp only at hf ⊢
 by_cases c1 : nmF s p ≠ 0
 · rw [if_pos c1] at hf ⊢
   have e := (e_nm h hv hf).1
   rw [e, if_pos c1]
 rw [if_neg c1] at hf ⊢
 have c1' : nmF s p = 0 := by simpa using c1
 obtain ⟨e1, e2⟩ := e_nm h hv (by rw [c1']; decide)
 obtain ⟨e3, e4⟩ := e2 c1'
 obtain ⟨_, _, hnp, _⟩ := aJg c1'
 rw [e1, if_neg c1, e3, e4]
 by_cases c2 : xmlB (nmT s p) = true
 · rw [if_pos c2, if_pos c2]
 rw [if_neg c2] at hf ⊢
 rw [if_neg c2]
 have hrl := aQq (s := s) (p := nmP s p) (by omega)
 by_cases c3 : nmP s p < whiteZ s (nmP s p)
 · rw [if_pos c3] at hf ⊢
   have hu : upF s (whiteZ s (nmP s p)) [63, 62] ≠ 1 := fun e => by rw [e] at hf; exact hf rfl
   have hlt := up_lt hrl hu
   obtain ⟨d1, d2, d3, d4⟩ := e_up h (sg := [63, 62]) (by simp) hrl hu
   rw [bXi h hlt, if_pos c3, if_pos d1, if_pos d2, d3, d4]
 · rw [if_neg c3] at hf ⊢
   have hm : aQm s (whiteZ s (nmP s p)) [63, 62] ≠ 1 := fun e => by rw [e] at hf; exact hf rfl
   have hr := must_lt hm
   rw [bXi h hr, if_neg c3, e_must h hrl hm]
end Go.Proofs.YtdblemolaojebaaGreatDoor.Plain20
namespace Go.Proofs.YtdblemolaojebaaGreatDoor.Plain21
open Plain3 Plain5 Plain6 Plain11
variable {s u : ByteArray} {t : List UInt8}
theorem bX9 : ∀ (f p : Nat), VB s p → aYm s f p ≠ none
 | 0, p, _ => by simp [aYm]
 | f + 1, p, h => by
  unfold aYm
  by_cases hp : p < s.size
  · obtain ⟨hr, hv⟩ := aW1 h hp
    rw [if_pos hp, if_neg hr]
    have := bX9 f _ hv
    intro e
    exact this (Option.map_eq_none_iff.1 e)
  · rw [if_neg hp]; simp
theorem VB_of {p : Nat} (hp : p < s.size) (hr : (aQo s p).2 ≠ 0) (h : VB s (p + (aQo s p).2)) : VB s p := by
 cases hl : aYm s s.size (p + (aQo s p).2) with
 | none => exact absurd hl (bX9 _ _ h)
 | some l =>
  refine ⟨s.size + 1, (aQo s p).1 :: l, by omega, ?_⟩
  unfold aYm; rw [if_pos hp, if_neg hr, hl]; rfl
theorem scan_of_VB (h : VB s 0) : (aQv s).2 < 0 := by
 rcases scan_R (s := s) (s.size + 1) 0 [] with ⟨l, _, h2⟩ | ⟨h1, _⟩
 · unfold aQv; rw [h2]; simp
 · exact absurd h1 (bX9 _ _ h)
end Go.Proofs.YtdblemolaojebaaGreatDoor.Plain21
namespace Go.Proofs.YtdblemolaojebaaGreatDoor.Plain22
open Strs Plain9 Plain10 Plain15
variable {s u : ByteArray} {t : List UInt8}
theorem aW9 {f : Nat} (h : f ≠ 0) : (aQy f).fl ≠ 0 := h
theorem text_pos {p : Nat} (hp : p < s.size) (h60 : aQ2 s p ≠ 60) (c : Bool) (h : (aWe s p c).fl = 0) : p < (aWe s p c).pos := by
 have e : (aWe s p c).pos = aJ4 s p := by
  unfold aWe at h ⊢
  by_cases c1 : Lib.index (s.extract p (aJ4 s p)).data.toList [93, 93, 62] ≠ -1
  · rw [if_pos c1] at h; cases h
  rw [if_neg c1] at h ⊢
  by_cases c2 : aJ4 s p = s.size ∧ c = false
  · rw [if_pos c2] at h; cases h
  · rw [if_neg c2]
 rw [e]
 unfold aJ4
 rcases aJh s p [60] (by omega) with hz | ⟨i, hz, h1, h2, h3, _⟩
 · rw [if_pos hz]; exact hp
 · rw [if_neg (by omega), hz]
   have : p ≠ i := fun e => by
    subst e
    rw [bQl hp 60 60 rfl] at h3
    exact h60 (of_decide_eq_true h3)
   show p < i; omega
end Go.Proofs.YtdblemolaojebaaGreatDoor.Plain22
