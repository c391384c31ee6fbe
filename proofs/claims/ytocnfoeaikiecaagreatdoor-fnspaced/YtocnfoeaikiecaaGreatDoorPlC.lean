import Derived.Test.YtocnfoeaikiecaaGreatDoorPlB
namespace Go.Proofs.YtocnfoeaikiecaaGreatDoor.Plain18
open Plain1 Strs Plain3 Plain6 Plain9 Plain10 Plain11 Plain12
def Ext (s u : ByteArray) (t : List UInt8) : Prop := u.data.toList = s.data.toList ++ t
variable {s u : ByteArray} {t : List UInt8}
theorem aVg (s : ByteArray) : s.data.toList.length = s.size := rfl
theorem dJk (h : Ext s u t) : u.size = s.size + t.length := by
 rw [← aVg u, ← aVg s, h, List.length_append]
theorem e_le (h : Ext s u t) : s.size ≤ u.size := by rw [dJk h]; omega
theorem dJl (h : Ext s u t) {p : Nat} (hp : p ≤ s.size) : rest u p = rest s p ++ t := by
 unfold rest; rw [h, List.drop_append_of_le_length (by rw [aVg]; exact hp)]
theorem aKm (h : Ext s u t) {i : Nat} (hi : i < s.size) : aQ1 u i = aQ1 s i := by
 unfold aQ1
 rw [h]
 congr 2
 rw [List.getD_eq_getElem?_getD, List.getD_eq_getElem?_getD, List.getElem?_append_left (by rw [aVg]; exact hi)]
theorem e_u8 (h : Ext s u t) {i : Nat} (hi : i < s.size) : u8At u i = u8At s i := (cQl (s := u) (p := i)).1 (by rw [aKm h hi]; exact (cQl (s := s) (p := i)).2 rfl)
theorem dKc (h : Ext s u t) {p q : Nat} (hq : q ≤ s.size) : u.extract p q = s.extract p q := by
 have : (u.extract p q).data.toList = (s.extract p q).data.toList := by
  rw [ByteArray.data_extract, ByteArray.data_extract, Array.toList_extract, Array.toList_extract, List.extract_eq_take_drop, List.extract_eq_take_drop, h]
  by_cases hp : p ≤ s.size
  · rw [List.drop_append_of_le_length (by rw [aVg]; exact hp), List.take_append_of_le_length (by rw [List.length_drop, aVg]; omega)]
  · rw [show q - p = 0 by omega]; rfl
 exact ByteArray.ext (Array.toList_inj.1 this)
theorem dVe {A sg t : List UInt8} (h : sg.isPrefixOf A = true) : sg.isPrefixOf (A ++ t) = true := by
 rw [List.isPrefixOf_iff_prefix] at h ⊢
 exact h.trans (List.prefix_append _ _)
theorem dJ3 : ∀ {A sg t : List UInt8}, sg.isPrefixOf A = false → A.isPrefixOf sg = false → sg.isPrefixOf (A ++ t) = false ∧ (A ++ t).isPrefixOf sg = false
 | [], sg, t, _, h2 => by simp [List.isPrefixOf] at h2
 | a :: A, [], t, h1, _ => by simp [List.isPrefixOf] at h1
 | a :: A, b :: sg, t, h1, h2 => by
  simp only [List.cons_append, List.isPrefixOf] at h1 h2 ⊢
  by_cases he : a = b
  · subst he
    simp only [beq_self_eq_true, Bool.true_and] at h1 h2 ⊢
    exact dJ3 h1 h2
  · have e1 : (a == b) = false := by simpa using he
    have e2 : (b == a) = false := by simpa using fun e => he e.symm
    simp [e1, e2]
theorem bXp (h : Ext s u t) {p : Nat} {sg : List UInt8} (hp : p ≤ s.size) (hh : aQa s p sg = true) : aQa u p sg = true := by
 unfold aQa at hh ⊢; rw [dJl h hp]; exact dVe hh
theorem dQ1 (h : Ext s u t) {p : Nat} {sg : List UInt8} (hp : p ≤ s.size) (hh : aQa s p sg = false) (h2 : (rest s p).isPrefixOf sg = false) : aQa u p sg = false ∧ (rest u p).isPrefixOf sg = false := by
 unfold aQa at hh ⊢; rw [dJl h hp]; exact dJ3 hh h2
theorem dVd {A sg : List UInt8} (h : A.isPrefixOf sg = true) : A.length ≤ sg.length := (List.isPrefixOf_iff_prefix.1 h).length_le
theorem dQ0 (h : Ext s u t) {p : Nat} {sg : List UInt8} (hp : p + sg.length < s.size) : aQa u p sg = aQa s p sg := by
 cases hh : aQa s p sg with
 | true => exact bXp h (by omega) hh
 | false =>
  refine (dQ1 h (by omega) hh ?_).1
  cases h2 : (rest s p).isPrefixOf sg with
  | false => rfl
  | true => have := dVd h2; rw [aYx] at this; omega
theorem dXx {p : Nat} {sg : List UInt8} (h : aQp s p sg ≠ 1) : aQa s p sg = true ∨ (aQa s p sg = false ∧ (rest s p).isPrefixOf sg = false ∧ aQp s p sg = 2) := by
 unfold aQp bXl at h ⊢
 cases h1 : aQa s p sg with
 | true => exact .inl rfl
 | false =>
  rw [h1] at h
  cases h2 : (rest s p).isPrefixOf sg with
  | true => rw [h2] at h; simp at h
  | false => exact .inr ⟨rfl, rfl, by simp⟩
theorem dJm (h : Ext s u t) {p : Nat} {sg : List UInt8} (hp : p ≤ s.size) (hm : aQp s p sg ≠ 1) : aQp u p sg = aQp s p sg := by
 rcases dXx hm with h1 | ⟨h1, h2, h3⟩
 · rw [aJ0.2 h1, aJ0.2 (bXp h hp h1)]
 · obtain ⟨a, b⟩ := dQ1 h hp h1 h2
   rw [h3]; unfold aQp bXl; rw [if_neg (by rw [a]; simp), if_neg (by rw [b]; simp)]
theorem e_fz (h : Ext s u t) {sg : List UInt8} (h0 : sg ≠ []) : ∀ (n p : Nat), s.size ≤ p + n → p ≤ s.size → fz s p sg ≠ -1 → fz u p sg = fz s p sg
 | 0, p, hn, hp, hf => by
  have : s.size < p + sg.length := by have := List.length_pos_iff.2 h0; omega
  exact absurd (bJw h0 this) hf
 | n + 1, p, hn, hp, hf => by
  have hl := List.length_pos_iff.2 h0
  rcases aZa s p sg hp with hz | ⟨i, hz, h1, h2, h3, _⟩
  · exact absurd hz hf
  have hlt : p < s.size := by omega
  have hlu : p < u.size := by have := e_le h; omega
  cases hh : aQa s p sg with
  | true => rw [bQ8 hlt hh, bQ8 hlu (bXp h hp hh)]
  | false =>
   have hip : p ≠ i := fun e => by subst e; rw [h3] at hh; cases hh
   have hu : aQa u p sg = false := by rw [dQ0 h (by omega)]; exact hh
   rw [aYh hlt hh] at hf ⊢
   rw [aYh hlu hu]
   exact e_fz h h0 n (p + 1) (by omega) (by omega) hf
theorem e_up (h : Ext s u t) {p : Nat} {sg : List UInt8} (h0 : sg ≠ []) (hp : p ≤ s.size) (hu : upF s p sg ≠ 1) : upF s p sg = 0 ∧ upF u p sg = 0 ∧ upT u p sg = upT s p sg ∧ upP u p sg = upP s p sg := by
 have hf : fz s p sg ≠ -1 := fun e => hu (by unfold upF; rw [if_pos e])
 have e := e_fz h h0 _ p (Nat.le_add_left _ _) hp hf
 have e0 : upF s p sg = 0 := by unfold upF; rw [if_neg hf]
 refine ⟨e0, by unfold upF; rw [e, if_neg hf], ?_, by unfold upP; rw [e]⟩
 unfold upT
 rw [e]
 rcases aZa s p sg hp with hz | ⟨i, hz, h1, h2, h3, _⟩
 · exact absurd hz hf
 · rw [hz]; exact dKc h (by simp; omega)
theorem bYx (h : Ext s u t) : ∀ (f f' i : Nat), s.size ≤ i + f → u.size ≤ i + f' → aXz s f i < s.size → aXz u f' i = aXz s f i
 | 0, f', i, h1, h2, h3 => by have : aXz s 0 i = i := rfl; omega
 | f + 1, f', i, h1, h2, h3 => by
  by_cases hw : i < s.size ∧ whiteB (aQ1 s i) = true
  · have hu : i < u.size ∧ whiteB (aQ1 u i) = true := ⟨by have := e_le h; omega, by rw [aKm h hw.1]; exact hw.2⟩
    obtain ⟨g, rfl⟩ : ∃ g, f' = g + 1 := ⟨f' - 1, by omega⟩
    rw [aJu hw] at h3 ⊢
    rw [aJu hu]
    exact bYx h f g (i + 1) (by omega) (by omega) h3
  · rw [aXc hw] at h3 ⊢
    exact aXc fun hu => hw ⟨h3, by rw [← aKm h h3]; exact hu.2⟩
theorem bXo (h : Ext s u t) {p : Nat} (hw : whiteZ s p < s.size) : whiteZ u p = whiteZ s p := bYx h _ _ _ (by omega) (by omega) hw
theorem e_vz (h : Ext s u t) {pos : Nat} (x0 : Int) : ∀ n, pos + n < s.size ∨ n = 0 → vz u pos x0 n = vz s pos x0 n
 | 0, _ => rfl
 | n + 1, hn => by
  unfold vz
  rw [e_vz h x0 n (by omega), aKm h (by omega)]
theorem dZh (h : Ext s u t) {pos n : Nat} {x0 low : Int} (hn : 1 ≤ n) (hf : (fin s pos x0 n low).2 ≠ 0) : fin u pos x0 n low = fin s pos x0 n low := by
 have hc : pos + n ≤ s.size ∧ aVu s pos n ∧ low ≤ vz s pos x0 (n - 1) ∧ aZ5 (vz s pos x0 (n - 1)) = true := Decidable.byContradiction fun hc => hf (by unfold fin; rw [if_neg hc])
 obtain ⟨c1, c2, c3, c4⟩ := hc
 have ev := e_vz h (pos := pos) x0 (n - 1) (.inl (by omega))
 rw [aJ5 c1 c2 c3 c4, aJ5 (by have := e_le h; omega) (aZ1.2 fun k hk h1 => by
  have := aZ1.1 c2 k hk h1
  unfold aQw at this ⊢; rw [aKm h (by omega)]; exact this) (by rw [ev]; exact c3) (by rw [ev]; exact c4), ev]
theorem e_rune (h : Ext s u t) {p : Nat} (hp : p < s.size) (hr : (aQm s p).2 ≠ 0) : aQm u p = aQm s p := by
 have hb := aKm h hp
 unfold aQm at hr ⊢
 rw [hb]
 by_cases h1 : aQ1 s p < 128
 · rw [if_pos h1] at hr ⊢; rw [if_pos h1]; exact dZh h (by omega) hr
 rw [if_neg h1] at hr ⊢; rw [if_neg h1]
 by_cases h2 : 192 ≤ aQ1 s p ∧ aQ1 s p < 224
 · rw [if_pos h2] at hr ⊢; rw [if_pos h2]; exact dZh h (by omega) hr
 rw [if_neg h2] at hr ⊢; rw [if_neg h2]
 by_cases h3 : 224 ≤ aQ1 s p ∧ aQ1 s p < 240
 · rw [if_pos h3] at hr ⊢; rw [if_pos h3]; exact dZh h (by omega) hr
 rw [if_neg h3] at hr ⊢; rw [if_neg h3]
 by_cases h4 : 240 ≤ aQ1 s p ∧ aQ1 s p < 248
 · rw [if_pos h4] at hr ⊢; rw [if_pos h4]; exact dZh h (by omega) hr
 · rw [if_neg h4] at hr; exact absurd rfl hr
theorem bJf (s : ByteArray) (p : Nat) : ∀ f n, n ≤ aZk s p f n
 | 0, n => Nat.le_refl _
 | f + 1, n => by
  unfold aZk
  split
  · split
    · exact Nat.le_refl _
    · exact Nat.le_trans (Nat.le_add_right _ _) (bJf s p f _)
  · exact Nat.le_refl _
theorem cJm (h : Ext s u t) {p : Nat} : ∀ (f f' n : Nat), s.size < p + n + f → u.size < p + n + f' → VB s (p + n) →
 aZk s p f n ≤ aZk u p f' n ∧ (p + aZk s p f n < s.size → aZk u p f' n = aZk s p f n)
 | 0, f', n, h1, h2, _ => ⟨bJf u p f' n, fun hh => by have : aZk s p 0 n = n := rfl; omega⟩
 | f + 1, f', n, h1, h2, hv => by
  by_cases hn : p + n < s.size
  · obtain ⟨g, rfl⟩ : ∃ g, f' = g + 1 := ⟨f' - 1, by have := e_le h; omega⟩
    obtain ⟨hr, hv'⟩ := aY1 hv hn
    have er := e_rune h hn hr
    have hu : p + n < u.size := by have := e_le h; omega
    by_cases hs : aVy s p n
    · have hs' : aVy u p n := by unfold aVy at hs ⊢; rw [er]; exact hs
      rw [aZm hn hs, aZm hu hs']
      exact ⟨Nat.le_refl _, fun _ => rfl⟩
    · have hs' : ¬ aVy u p n := by unfold aVy at hs ⊢; rw [er]; exact hs
      rw [aVo hn hs, aVo hu hs', er]
      exact cJm h f g _ (by omega) (by omega) (by rw [← Nat.add_assoc]; exact hv')
  · rw [aXx (by omega)]
    exact ⟨bJf u p f' n, fun hh => by omega⟩
theorem e_name (h : Ext s u t) {p : Nat} (hv : VB s p) : nameZ s p ≤ nameZ u p ∧ (p + nameZ s p < s.size → nameZ u p = nameZ s p) := cJm h _ _ _ (by omega) (by omega) hv
theorem e_nm (h : Ext s u t) {p : Nat} (hv : VB s p) (hn : nmF s p ≠ 1) : nmF u p = nmF s p ∧ (nmF s p = 0 → nmT u p = nmT s p ∧ nmP u p = nmP s p) := by
 obtain ⟨a, b⟩ := e_name h hv
 have hsz := e_le h
 by_cases h6 : 60 < nameZ s p
 · have e1 : nmF s p = 2 := by unfold nmF; rw [if_pos h6]
   have e2 : nmF u p = 2 := by unfold nmF; rw [if_pos (by omega)]
   exact ⟨by rw [e1, e2], fun e => by rw [e1] at e; cases e⟩
 · by_cases h7 : s.size ≤ p + nameZ s p
   · exact absurd (by unfold nmF; rw [if_neg h6, if_pos h7]) hn
   · have e := b (by omega)
     refine ⟨?_, fun _ => ⟨?_, ?_⟩⟩
     · unfold nmF; rw [e, if_neg h6, if_neg h6, if_neg (by omega), if_neg h7]
     · unfold nmT; rw [e]; exact dKc h (by omega)
     · unfold nmP; rw [e]
end Go.Proofs.YtocnfoeaikiecaaGreatDoor.Plain18
namespace Go.Proofs.YtocnfoeaikiecaaGreatDoor.Plain19
open Strs Plain9 Plain10 Plain11 Plain12 Plain18
variable {s u : ByteArray} {t : List UInt8}
theorem dVk {p : Nat} {c : UInt8} {sg : List UInt8} (h : aQp s p (c :: sg) ≠ 1) : p < s.size := by
 refine Decidable.byContradiction fun hn => h ?_
 unfold aQp bXl
 rw [bJs (by omega), cX4 (by omega)]; rfl
theorem up_lt {p : Nat} {c : UInt8} {sg : List UInt8} (hp : p ≤ s.size) (h : upF s p (c :: sg) ≠ 1) : p < s.size := by
 have hf : fz s p (c :: sg) ≠ -1 := fun e => h (by unfold upF; rw [if_pos e])
 rcases aZa s p (c :: sg) hp with hz | ⟨i, hz, h1, h2, h3, _⟩
 · exact absurd hz hf
 · simp at h2; omega
theorem e_one (h : Ext s u t) {p : Nat} (hp : p < s.size) (c : UInt8) : aQa u p [c] = aQa s p [c] := by
 have hu : p < u.size := by have := e_le h; omega
 rw [aXl hp, aXl hu, e_u8 h hp, aKk, aKk]
theorem cYz (h : Ext s u t) {q : Int} : ∀ (f f' i : Nat), f ≤ f' → (aVe s q f i).1 ≠ 1 → aVe u q f' i = aVe s q f i
 | 0, f', i, _, hf => absurd rfl hf
 | f + 1, f', i, hle, hf => by
  obtain ⟨g, rfl⟩ : ∃ g, f' = g + 1 := ⟨f' - 1, by omega⟩
  by_cases hi : i < s.size
  · have hu : i < u.size := by have := e_le h; omega
    have hb := aKm h hi
    by_cases h6 : aQ1 s i = 60
    · rw [bKl hi h6, bKl hu (by rw [hb]; exact h6)]
    · by_cases hq : aQ1 s i = q
      · rw [bKk hi h6 hq, bKk hu (by rw [hb]; exact h6) (by rw [hb]; exact hq)]
      · rw [cZ5 hi h6 hq] at hf ⊢
        rw [cZ5 hu (by rw [hb]; exact h6) (by rw [hb]; exact hq)]
        exact cYz h f g (i + 1) (by omega) hf
  · rw [cQj hi] at hf; exact absurd rfl hf
theorem val_lt {p : Nat} (h : valF s p ≠ 1) : p < s.size := Decidable.byContradiction fun hn => h (by unfold valF; rw [if_pos (by omega)])
theorem e_val (h : Ext s u t) {p : Nat} (hv : valF s p ≠ 1) : valF u p = valF s p ∧ (valF s p = 0 → valT u p = valT s p ∧ valP u p = valP s p) := by
 have hp := val_lt hv
 have hsz := e_le h
 have hb := aKm h hp
 by_cases hq : aY2 (aQ1 s p) = true
 · have e1 : valF s p = (aVe s (aQ1 s p) (s.size + 1) (p + 1)).1 := by unfold valF; rw [if_neg (by omega), if_pos hq]
   have e2 : valF u p = (aVe u (aQ1 s p) (u.size + 1) (p + 1)).1 := by unfold valF; rw [if_neg (by omega), hb, if_pos hq]
   have e := cYz h (q := aQ1 s p) (s.size + 1) (u.size + 1) (p + 1) (by omega) (by rw [← e1]; exact hv)
   refine ⟨by rw [e2, e, e1], fun h0 => ?_⟩
   obtain ⟨_, _, hlt, _⟩ := aYo h0
   have ee : valE u p = valE s p := by unfold valE; rw [hb, e]
   refine ⟨?_, by unfold valP; rw [ee]⟩
   unfold valT; rw [ee]; exact dKc h (by omega)
 · have e1 : valF s p = 2 := by unfold valF; rw [if_neg (by omega), if_neg hq]
   have e2 : valF u p = 2 := by unfold valF; rw [if_neg (by omega), hb, if_neg hq]
   exact ⟨by rw [e1, e2], fun h0 => by rw [e1] at h0; cases h0⟩
theorem cKd (s nm : ByteArray) (f p : Nat) (acc : List (ByteArray × ByteArray)) : aWn s nm (f + 1) p acc =
 if s.size ≤ whiteZ s p then aX2 1
 else if aQ1 s (whiteZ s p) = 62 then ⟨0, 1, nm, ByteArray.empty, acc, whiteZ s p + 1⟩
 else if aQ1 s (whiteZ s p) = 47 then (if aQp s (whiteZ s p) [47, 62] = 0 then ⟨0, 3, nm, ByteArray.empty, acc, whiteZ s p + 2⟩ else aX2 (aQp s (whiteZ s p) [47, 62]))
 else if whiteZ s p = p then aX2 2
 else if nmF s (whiteZ s p) ≠ 0 then aX2 (nmF s (whiteZ s p))
 else if aQp s (whiteZ s (nmP s (whiteZ s p))) [61] ≠ 0 then aX2 (aQp s (whiteZ s (nmP s (whiteZ s p))) [61])
 else if valF s (whiteZ s (whiteZ s (nmP s (whiteZ s p)) + 1)) ≠ 0 then aX2 (valF s (whiteZ s (whiteZ s (nmP s (whiteZ s p)) + 1)))
 else if hasZ acc (nmT s (whiteZ s p)) = true then aX2 3
 else aWn s nm f (valP s (whiteZ s (whiteZ s (nmP s (whiteZ s p)) + 1))) (acc ++ [(nmT s (whiteZ s p), valT s (whiteZ s (whiteZ s (nmP s (whiteZ s p)) + 1)))]) := by
 conv => lhs; unfold aWn
end Go.Proofs.YtocnfoeaikiecaaGreatDoor.Plain19
namespace Go.Proofs.YtocnfoeaikiecaaGreatDoor.Plain20
open Strs Plain9 Plain10 Plain11 Plain18 Plain19
variable {s u : ByteArray} {t : List UInt8}
theorem aYq : ∀ (f p : Nat), p ≤ s.size → (aZf s f p).1 = 0 → p < (aZf s f p).2 ∧ (aZf s f p).2 ≤ s.size
 | 0, p, _, h => by cases h
 | f + 1, p, hp, h => by
  have key : ∀ k (sg : List UInt8), p < k → k ≤ s.size → (if upF s k sg = 0 then aZf s f (upP s k sg) else (1, p)).1 = 0 → p < (if upF s k sg = 0 then aZf s f (upP s k sg) else (1, p)).2 ∧ (if upF s k sg = 0 then aZf s f (upP s k sg) else (1, p)).2 ≤ s.size := fun k sg hk hks hh => by
   by_cases hu : upF s k sg = 0
   · rw [if_pos hu] at hh ⊢
     obtain ⟨a, b, c⟩ := bQc hks hu
     have := aYq f _ a hh
     exact ⟨by omega, this.2⟩
   · rw [if_neg hu] at hh; cases hh
  unfold aZf at h ⊢
  by_cases h1 : p < s.size
  · rw [if_pos h1] at h ⊢
    by_cases c1 : aQ1 s p = 93
    · rw [if_pos c1]; exact ⟨by simp, by simp; omega⟩
    rw [if_neg c1] at h ⊢
    by_cases c2 : aQ1 s p = 34
    · rw [if_pos c2] at h ⊢; exact key _ _ (by omega) (by omega) h
    rw [if_neg c2] at h ⊢
    by_cases c3 : aQ1 s p = 39
    · rw [if_pos c3] at h ⊢; exact key _ _ (by omega) (by omega) h
    rw [if_neg c3] at h ⊢
    by_cases c4 : aQa s p [60, 33, 45, 45] = true
    · rw [if_pos c4] at h ⊢; have := aX5 c4 hp; exact key _ _ (by omega) (by simpa using this) h
    rw [if_neg c4] at h ⊢
    by_cases c5 : aQa s p [60, 63] = true
    · rw [if_pos c5] at h ⊢; have := aX5 c5 hp; exact key _ _ (by omega) (by simpa using this) h
    rw [if_neg c5] at h ⊢
    have := aYq f (p + 1) (by omega) h
    exact ⟨by omega, this.2⟩
  · rw [if_neg h1] at h; cases h
theorem dQ3 (h : Ext s u t) {p : Nat} (hp : p ≤ s.size) (hf : (aXa s p).fl ≠ 1) : aXa u p = aXa s p := by
 unfold aXa at hf ⊢
 by_cases c1 : upF s p [45, 45] ≠ 0
 · rw [if_pos c1] at hf
   exact absurd ((e_up h (sg := [45, 45]) (by simp) hp hf).1) c1
 rw [if_neg c1] at hf ⊢
 have c1' : upF s p [45, 45] = 0 := by simpa using c1
 obtain ⟨_, e2, e3, e4⟩ := e_up h (sg := [45, 45]) (by simp) hp (by rw [c1']; decide)
 obtain ⟨a, _, _⟩ := bQc hp c1'
 have hm : aQp s (upP s p [45, 45]) [62] ≠ 1 := fun e => by rw [e] at hf; exact hf rfl
 rw [if_neg (by rw [e2]; simp), e3, e4, dJm h a hm]
theorem e_pi (h : Ext s u t) {p : Nat} (hv : VB s p) (hf : (piZ s p).fl ≠ 1) : piZ u p = piZ s p := by
 unfold piZ at hf ⊢
 dsimp only at hf ⊢
 by_cases c1 : nmF s p ≠ 0
 · rw [if_pos c1] at hf ⊢
   have e := (e_nm h hv hf).1
   rw [e, if_pos c1]
 rw [if_neg c1] at hf ⊢
 have c1' : nmF s p = 0 := by simpa using c1
 obtain ⟨e1, e2⟩ := e_nm h hv (by rw [c1']; decide)
 obtain ⟨e3, e4⟩ := e2 c1'
 obtain ⟨_, _, hnp, _⟩ := aZx c1'
 rw [e1, if_neg c1, e3, e4]
 by_cases c2 : xmlB (nmT s p) = true
 · rw [if_pos c2, if_pos c2]
 rw [if_neg c2] at hf ⊢
 rw [if_neg c2]
 have hrl := aQv (s := s) (p := nmP s p) (by omega)
 by_cases c3 : nmP s p < whiteZ s (nmP s p)
 · rw [if_pos c3] at hf ⊢
   have hu : upF s (whiteZ s (nmP s p)) [63, 62] ≠ 1 := fun e => by rw [e] at hf; exact hf rfl
   have hlt := up_lt hrl hu
   obtain ⟨d1, d2, d3, d4⟩ := e_up h (sg := [63, 62]) (by simp) hrl hu
   rw [bXo h hlt, if_pos c3, if_pos d1, if_pos d2, d3, d4]
 · rw [if_neg c3] at hf ⊢
   have hm : aQp s (whiteZ s (nmP s p)) [63, 62] ≠ 1 := fun e => by rw [e] at hf; exact hf rfl
   have hr := dVk hm
   rw [bXo h hr, if_neg c3, dJm h hrl hm]
end Go.Proofs.YtocnfoeaikiecaaGreatDoor.Plain20
namespace Go.Proofs.YtocnfoeaikiecaaGreatDoor.Plain21
open Plain3 Plain5 Plain6 Plain11
variable {s u : ByteArray} {t : List UInt8}
theorem bXd : ∀ (f p : Nat), VB s p → aVm s f p ≠ none
 | 0, p, _ => by simp [aVm]
 | f + 1, p, h => by
  unfold aVm
  by_cases hp : p < s.size
  · obtain ⟨hr, hv⟩ := aY1 h hp
    rw [if_pos hp, if_neg hr]
    have := bXd f _ hv
    intro e
    exact this (Option.map_eq_none_iff.1 e)
  · rw [if_neg hp]; simp
theorem VB_of {p : Nat} (hp : p < s.size) (hr : (aQm s p).2 ≠ 0) (h : VB s (p + (aQm s p).2)) : VB s p := by
 cases hl : aVm s s.size (p + (aQm s p).2) with
 | none => exact absurd hl (bXd _ _ h)
 | some l =>
  refine ⟨s.size + 1, (aQm s p).1 :: l, by omega, ?_⟩
  unfold aVm; rw [if_pos hp, if_neg hr, hl]; rfl
theorem cV1 (h : VB s 0) : (aX4 s).2 < 0 := by
 rcases bWu (s := s) (s.size + 1) 0 [] with ⟨l, _, h2⟩ | ⟨h1, _⟩
 · unfold aX4; rw [h2]; simp
 · exact absurd h1 (bXd _ _ h)
end Go.Proofs.YtocnfoeaikiecaaGreatDoor.Plain21
namespace Go.Proofs.YtocnfoeaikiecaaGreatDoor.Plain22
open Strs Plain9 Plain10 Plain15
variable {s u : ByteArray} {t : List UInt8}
theorem aK3 {f : Nat} (h : f ≠ 0) : (aX2 f).fl ≠ 0 := h
theorem dX0 {p : Nat} (hp : p < s.size) (h60 : aQ1 s p ≠ 60) (c : Bool) (h : (aKs s p c).fl = 0) : p < (aKs s p c).pos := by
 have e : (aKs s p c).pos = aVf s p := by
  unfold aKs at h ⊢
  by_cases c1 : Lib.index (s.extract p (aVf s p)).data.toList [93, 93, 62] ≠ -1
  · rw [if_pos c1] at h; cases h
  rw [if_neg c1] at h ⊢
  by_cases c2 : aVf s p = s.size ∧ c = false
  · rw [if_pos c2] at h; cases h
  · rw [if_neg c2]
 rw [e]
 unfold aVf
 rcases aZa s p [60] (by omega) with hz | ⟨i, hz, h1, h2, h3, _⟩
 · rw [if_pos hz]; exact hp
 · rw [if_neg (by omega), hz]
   have : p ≠ i := fun e => by
    subst e
    rw [bZe hp 60 60 rfl] at h3
    exact h60 (of_decide_eq_true h3)
   show p < i; omega
end Go.Proofs.YtocnfoeaikiecaaGreatDoor.Plain22
