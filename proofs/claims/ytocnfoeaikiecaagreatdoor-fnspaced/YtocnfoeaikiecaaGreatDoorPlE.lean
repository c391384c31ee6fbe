import Derived.Test.YtocnfoeaikiecaaGreatDoorPlD
namespace Go.Proofs.YtocnfoeaikiecaaGreatDoor.Plain26
open Go.RowKit Ents Plain11 Plain18 Plain23 Plain25 Go.Lib
variable {s u v : ByteArray}
theorem dXb (s : ByteArray) : Ext s s [] := by unfold Ext; simp
theorem dXy (h0 : VB s 0) {p : Nat} {r : List Df × Nat} (hp : p ≤ s.size) (hr : aWu s p = some r) : VB s r.2 ∧ p < r.2 ∧ r.2 ≤ s.size := (dKb (dXb s) h0 hp hr).2
theorem dZu (d : Dt) (x : Df) : (∃ a, (addD d x).ents = d.ents ++ a) ∧ ∃ b, (addD d x).atts = d.atts ++ b := by
 cases x with
 | inl e =>
  show (∃ a, (if (d.ents.find? (aWa e.1)).isSome = true then d else ⟨d.ents ++ [e], d.atts⟩ : Dt).ents = d.ents ++ a) ∧ ∃ b, (if (d.ents.find? (aWa e.1)).isSome = true then d else ⟨d.ents ++ [e], d.atts⟩ : Dt).atts = d.atts ++ b
  by_cases h : (d.ents.find? (aWa e.1)).isSome = true
  · rw [if_pos h]; exact ⟨⟨[], by simp⟩, [], by simp⟩
  · rw [if_neg h]; exact ⟨⟨[e], rfl⟩, [], by simp⟩
 | inr a =>
  show (∃ b, (if (d.atts.find? (aV1 a.of a.nm)).isSome = true then d else ⟨d.ents, d.atts ++ [a]⟩ : Dt).ents = d.ents ++ b) ∧ ∃ b, (if (d.atts.find? (aV1 a.of a.nm)).isSome = true then d else ⟨d.ents, d.atts ++ [a]⟩ : Dt).atts = d.atts ++ b
  by_cases h : (d.atts.find? (aV1 a.of a.nm)).isSome = true
  · rw [if_pos h]; exact ⟨⟨[], by simp⟩, [], by simp⟩
  · rw [if_neg h]; exact ⟨⟨[], by simp⟩, [a], rfl⟩
theorem cXy : ∀ (l : List Df) (d : Dt), (∃ a, (aZe d l).ents = d.ents ++ a) ∧ ∃ b, (aZe d l).atts = d.atts ++ b
 | [], d => ⟨⟨[], by simp [aZe]⟩, [], by simp [aZe]⟩
 | x :: l, d => by
  obtain ⟨⟨a, ha⟩, b, hb⟩ := dZu d x
  obtain ⟨⟨a', ha'⟩, b', hb'⟩ := cXy l (addD d x)
  exact ⟨⟨a ++ a', by show (aZe (addD d x) l).ents = _; rw [ha', ha, List.append_assoc]⟩, b ++ b', by show (aZe (addD d x) l).atts = _; rw [hb', hb, List.append_assoc]⟩
theorem cVv (d : Dt) (l m : List Df) : aZe d (l ++ m) = aZe (aZe d l) m := by unfold aZe; rw [List.foldl_append]
def There (d : Dt) : Df → Prop
 | .inl e => (d.ents.find? (aWa e.1)).isSome = true
 | .inr a => (d.atts.find? (aV1 a.of a.nm)).isSome = true
theorem cVu (d : Dt) (x : Df) : (addD d x).ents.length ≤ d.ents.length + 1 ∧ (addD d x).atts.length ≤ d.atts.length + 1 := by
 cases x with
 | inl e =>
  show (if (d.ents.find? (aWa e.1)).isSome = true then d else ⟨d.ents ++ [e], d.atts⟩ : Dt).ents.length ≤ _ ∧ (if (d.ents.find? (aWa e.1)).isSome = true then d else ⟨d.ents ++ [e], d.atts⟩ : Dt).atts.length ≤ _
  by_cases h : (d.ents.find? (aWa e.1)).isSome = true
  · rw [if_pos h]; omega
  · rw [if_neg h]; simp
 | inr a =>
  show (if (d.atts.find? (aV1 a.of a.nm)).isSome = true then d else ⟨d.ents, d.atts ++ [a]⟩ : Dt).ents.length ≤ _ ∧ (if (d.atts.find? (aV1 a.of a.nm)).isSome = true then d else ⟨d.ents, d.atts ++ [a]⟩ : Dt).atts.length ≤ _
  by_cases h : (d.atts.find? (aV1 a.of a.nm)).isSome = true
  · rw [if_pos h]; omega
  · rw [if_neg h]; simp
theorem bZ4 : ∀ (l : List Df) (d : Dt), (aZe d l).ents.length ≤ d.ents.length + l.length ∧ (aZe d l).atts.length ≤ d.atts.length + l.length
 | [], _ => ⟨Nat.le_refl _, Nat.le_refl _⟩
 | x :: l, d => by
  have h1 := cVu d x
  have h2 := bZ4 l (addD d x)
  show (aZe (addD d x) l).ents.length ≤ _ ∧ (aZe (addD d x) l).atts.length ≤ _
  simp only [List.length_cons]
  omega
end Go.Proofs.YtocnfoeaikiecaaGreatDoor.Plain26
namespace Go.Proofs.YtocnfoeaikiecaaGreatDoor.Plain27
open Go.RowKit Plain1 Strs Lists Plain3 Plain5 Plain6 Plain9 Plain10 Plain11 Plain18 Plain21 Plain23 Plain24 Plain25 Go.Lib
variable {s u v : ByteArray}
theorem dXf {t : List UInt8} (h : Ext s u t) {pos n : Nat} {x0 low : Int} (hn : 1 ≤ n) (hp : pos + n ≤ s.size) (hf : (fin u pos x0 n low).2 ≠ 0) : fin s pos x0 n low = fin u pos x0 n low := by
 have hc : pos + n ≤ u.size ∧ aVu u pos n ∧ low ≤ vz u pos x0 (n - 1) ∧ aZ5 (vz u pos x0 (n - 1)) = true := Decidable.byContradiction fun hc => hf (by unfold fin; rw [if_neg hc])
 obtain ⟨c1, c2, c3, c4⟩ := hc
 have ev := e_vz h (pos := pos) x0 (n - 1) (.inl (by omega))
 rw [aJ5 c1 c2 c3 c4, aJ5 hp (aZ1.2 fun k hk h1 => by
  have := aZ1.1 c2 k hk h1
  unfold aQw at this ⊢; rw [aKm h (by omega)] at this; exact this) (by rw [← ev]; exact c3) (by rw [← ev]; exact c4), ev]
theorem r_rune {t : List UInt8} (h : Ext s u t) {p : Nat} (hp : p + (aQm u p).2 ≤ s.size) (hr : (aQm u p).2 ≠ 0) : aQm s p = aQm u p := by
 have hb := aKm h (i := p) (by omega)
 unfold aQm at hr hp ⊢
 rw [hb] at hr hp ⊢
 by_cases h1 : aQ1 s p < 128
 · rw [if_pos h1] at hr hp ⊢; rw [if_pos h1]; exact dXf h (by omega) (by rw [← (bJz hr).1]; exact hp) hr
 rw [if_neg h1] at hr hp ⊢; rw [if_neg h1]
 by_cases h2 : 192 ≤ aQ1 s p ∧ aQ1 s p < 224
 · rw [if_pos h2] at hr hp ⊢; rw [if_pos h2]; exact dXf h (by omega) (by rw [← (bJz hr).1]; exact hp) hr
 rw [if_neg h2] at hr hp ⊢; rw [if_neg h2]
 by_cases h3 : 224 ≤ aQ1 s p ∧ aQ1 s p < 240
 · rw [if_pos h3] at hr hp ⊢; rw [if_pos h3]; exact dXf h (by omega) (by rw [← (bJz hr).1]; exact hp) hr
 rw [if_neg h3] at hr hp ⊢; rw [if_neg h3]
 by_cases h4 : 240 ≤ aQ1 s p ∧ aQ1 s p < 248
 · rw [if_pos h4] at hr hp ⊢; rw [if_pos h4]; exact dXf h (by omega) (by rw [← (bJz hr).1]; exact hp) hr
 · rw [if_neg h4] at hr; exact absurd rfl hr
theorem dJ4 {t : List UInt8} (h : Ext s u t) (he : u.size = s.size ∨ ¬ aQw u s.size) : ∀ (n p : Nat), s.size ≤ p + n → VB u p → VB s p
 | 0, p, hn, _ => bZ5 (by omega)
 | n + 1, p, hn, hv => by
  have hle := e_le h
  by_cases hp : p < s.size
  · obtain ⟨h1, h2⟩ := aY1 hv (by omega)
    have hin : p + (aQm u p).2 ≤ s.size := by
     apply Decidable.byContradiction
     intro hc
     have hl := aWr h1
     rcases he with he | he
     · omega
     · have := ((aWg h1).2 (s.size - p) (by omega) (by omega)).1
       rw [show p + (s.size - p) = s.size by omega] at this
       exact he this
    have hr := r_rune h hin h1
    refine VB_of hp (by rw [hr]; exact h1) ?_
    rw [hr]
    exact dJ4 h he n _ (by omega) h2
  · exact bZ5 (by omega)
theorem dKf {a b : Nat} (hb : b ≤ s.size) (ha : a ≤ b) : Ext (s.extract a b) (s.extract a s.size) (rest s b) := by
 unfold Ext
 rw [aK5, aK5]
 unfold rest
 rw [← List.take_append_drop (b - a) ((s.data.toList.drop a).take (s.size - a))]
 congr 1
 · rw [List.take_take, Nat.min_eq_left (by omega)]
 · rw [List.take_of_length_le (by rw [List.length_drop, aVg]; omega), List.drop_drop, show a + (b - a) = b by omega]
theorem cut_sh (s : ByteArray) (a : Nat) : Sh (s.extract 0 a) (s.extract a s.size) s := by
 unfold Sh
 rw [aK5, aK5]
 simp only [List.drop_zero, Nat.sub_zero]
 rw [List.take_of_length_le (l := s.data.toList.drop a) (by rw [List.length_drop, aVg]; omega), List.take_append_drop]
theorem dQd {a : Nat} (ha : a ≤ s.size) : (s.extract 0 a).size = a := by rw [aXy ha]; omega
theorem dZz {a : Nat} (ha : a ≤ s.size) : ∀ (n p : Nat), (s.extract a s.size).size ≤ p + n → VB s (a + p) → VB (s.extract a s.size) p
 | 0, p, hn, _ => bZ5 (by omega)
 | n + 1, p, hn, hv => by
  have h := cut_sh s a
  have hz : (s.extract a s.size).size = s.size - a := cYk s a
  by_cases hp : p < (s.extract a s.size).size
  · obtain ⟨h1, h2⟩ := aY1 hv (by omega)
    have hr := cY4 h p
    rw [dQd ha] at hr
    refine VB_of hp (by rw [← hr]; exact h1) ?_
    rw [← hr]
    exact dZz ha n _ (by omega) (by rw [← Nat.add_assoc]; exact h2)
  · exact bZ5 (by omega)
theorem cQ1 {a b : Nat} (hb : b ≤ s.size) (ha : a ≤ b) (hv : VB s a) (he : b = s.size ∨ ¬ aQw s b) : VB (s.extract a b) 0 := by
 have hz : (s.extract a b).size = b - a := aXy hb
 refine dJ4 (dKf hb ha) ?_ (s.extract a b).size 0 (by omega) (dZz (a := a) (by omega) (s.extract a s.size).size 0 (by omega) hv)
 rw [cYk, hz]
 rcases he with he | he
 · exact .inl (by omega)
 · by_cases hbs : b < s.size
   · refine .inr fun hg => he ?_
     unfold aQw at hg ⊢
     rw [cVq (by omega), show a + (b - a) = b by omega] at hg
     exact hg
   · exact .inl (by omega)
theorem bY9 {p : Nat} : ∀ (f n : Nat), (∀ k, k < n → aQ1 s (p + k) ≠ 37) → ∀ k, k < aZk s p f n → aQ1 s (p + k) ≠ 37
 | 0, _, h => h
 | f + 1, n, h => by
  by_cases hp : p + n < s.size
  · by_cases hst : aVy s p n
    · rw [aZm hp hst]; exact h
    · rw [aVo hp hst]
      refine bY9 f _ fun k hk => ?_
      by_cases hkn : k < n
      · exact h k hkn
      have h1 : (aQm s (p + n)).2 ≠ 0 := fun hh => hst (.inl hh)
      by_cases hk0 : k = n
      · subst hk0
        intro hb
        refine hst (.inr (.inr ?_))
        have hr1 : (aQm s (p + k)).1 = 37 := by
         unfold aQm at h1 ⊢
         rw [hb, if_pos (by omega)] at h1 ⊢
         unfold fin at h1 ⊢
         split at h1
         · rename_i hh; rw [if_pos hh]; rfl
         · exact absurd rfl h1
        rw [hr1]; decide
      · have := ((aWg h1).2 (k - n) (by omega) (by omega)).1
        unfold aQw at this
        rw [show p + n + (k - n) = p + k by omega] at this
        omega
  · rw [aXx (by omega)]; exact h
theorem dZk {c : UInt8} {base : Nat} (h : digV c < base) (hb : base ≤ 16) : (c.toNat : Int) ≠ 37 := by
 intro hc
 have : c.toNat = 37 := by omega
 unfold digV at h
 rw [this] at h
 simp at h
 omega
theorem cV8 (s : ByteArray) (p : Nat) : aJq s p ≤ 16 := by unfold aJq; split <;> omega
theorem dQ8 {base : Nat} {l : List UInt8} {k : Nat} (h : k < (digs base l).length) : digV (l.getD k 0) < base := by
 unfold digs at h
 induction l generalizing k with
 | nil => simp at h
 | cons c l ih =>
  rw [List.takeWhile_cons] at h
  split at h
  · rename_i hc
    cases k with
    | zero => simpa using hc
    | succ k => exact ih (by simpa using h)
  · simp at h
theorem cXu (base : Nat) (l : List UInt8) : (digs base l).length ≤ l.length := by unfold digs; exact (List.takeWhile_prefix _).length_le
theorem cZw {p : Nat} {r : Int × Nat} (h : numZ s p = some r) : cV7 s p ∧ r = ((numV s p : Int), aZu s p + (numD s p).length + 1) := by
 unfold numZ at h
 split at h
 · rename_i h0; cases h; exact ⟨h0, rfl⟩
 · cases h
theorem dVf {p : Nat} {r : Int × Nat} (hp : p ≤ s.size) (h : numZ s p = some r) : p < r.2 ∧ r.2 ≤ s.size ∧ aZ5 r.1 = true ∧ ∀ k, p ≤ k → k < r.2 → aQ1 s k ≠ 37 := by
 obtain ⟨⟨n1, n2, n3, n4⟩, rfl⟩ := cZw h
 have ha : p ≤ aZu s p ∧ aZu s p ≤ p + 1 ∧ (aZu s p = p + 1 → aQa s p [120] = true) := by
  unfold aZu
  split
  · rename_i hx; exact ⟨by omega, by omega, fun _ => hx⟩
  · exact ⟨by omega, by omega, fun hh => by omega⟩
 have hlt : aZu s p + (numD s p).length < s.size := bJr n3
 refine ⟨by simp only; omega, by simp only; omega, n4, ?_⟩
 intro k hk1 hk2
 simp only at hk2
 by_cases hx : k < aZu s p
 · have : k = p := by omega
   subst this
   have hb := aX6 (ha.2.2 (by omega)) (by omega)
   rw [hb]; decide
 by_cases hs : k = aZu s p + (numD s p).length
 · have hb := aX6 n3 hlt
   rw [hs, hb]; decide
 · have hd := dQ8 (base := aJq s p) (l := rest s (aZu s p)) (k := k - aZu s p) (by unfold numD at hs hk2; omega)
   have hg : (rest s (aZu s p)).getD (k - aZu s p) 0 = s.data.toList.getD k 0 := by
    unfold rest
    simp only [List.getD, List.getElem?_drop]
    rw [show aZu s p + (k - aZu s p) = k by omega]
   rw [hg] at hd
   rw [aZ0]
   exact dZk hd (cV8 s p)
theorem cZo {p q : Nat} {r : Rf} (hp : p < s.size) (h : refZ s p = some (r, q)) : p < q ∧ q ≤ s.size ∧ (∀ n, r = .inl n → aZ5 n = true) ∧ ∀ k, p < k → k < q → aQ1 s k ≠ 37 := by
 unfold refZ at h
 split at h
 · rename_i h1
   obtain ⟨x, hx, he⟩ := Option.map_eq_some_iff.1 h
   cases he
   have hr := aX5 h1 (by omega)
   simp only [List.length_cons, List.length_nil] at hr
   obtain ⟨a, b, c, d⟩ := dVf (show p + 2 ≤ s.size by omega) hx
   refine ⟨by omega, b, fun n hn => by cases hn; exact c, ?_⟩
   intro k hk1 hk2
   by_cases hk : k = p + 1
   · rw [hk, aX6 h1 (by omega)]; decide
   · exact d k (by omega) hk2
 · obtain ⟨x, hx, he⟩ := Option.map_eq_some_iff.1 h
   cases he
   unfold aVw at hx
   split at hx
   · rename_i h1
     cases hx
     have hs := aZx h1.1
     refine ⟨by simp only; omega, by simp only; omega, fun n hn => (by cases hn), ?_⟩
     intro k hk1 hk2
     simp only at hk2
     by_cases hk : k = nmP s (p + 1)
     · rw [hk, aX6 h1.2 (by omega)]; decide
     · have := bY9 (s := s) (p := p + 1) (s.size + 1) 0 (fun _ hh => by omega) (k - (p + 1)) (by show k - (p + 1) < nameZ s (p + 1); omega)
       rw [show p + 1 + (k - (p + 1)) = k by omega] at this
       exact this
   · cases hx
theorem dZ8 {c : UInt8} {p e : Nat} (hp : p ≤ e) (he : e < s.size) (hb : aQ1 s e = (c.toNat : Int)) (hno : ∀ k, p ≤ k → k < e → aQ1 s k ≠ (c.toNat : Int)) : fz s p [c] = (e : Int) := by
 have hone : ∀ k, k < s.size → (aQa s k [c] = true ↔ aQ1 s k = (c.toNat : Int)) := by
  intro k hk
  constructor
  · intro h; exact aX6 h hk
  · intro h
    unfold aQa
    rw [aXs hk]
    rw [aZ0] at h
    have : s.data.toList.getD k 0 = c := UInt8.toNat.inj (by omega)
    rw [this]; simp
 induction hd : e - p generalizing p with
 | zero =>
  have : p = e := by omega
  subst this
  exact bQ8 he ((hone p he).2 hb)
 | succ n ih =>
  have hh : aQa s p [c] = false := by
   cases hc : aQa s p [c] with
   | false => rfl
   | true => exact absurd ((hone p (by omega)).1 hc) (hno p (Nat.le_refl _) (by omega))
  rw [aYh (by omega) hh]
  exact ih (by omega) (fun k hk1 hk2 => hno k (by omega) hk2) (by omega)
theorem cK6 (s : ByteArray) (p : Nat) : aQ1 s p = ((u8 s p).toNat : Int) := rfl
end Go.Proofs.YtocnfoeaikiecaaGreatDoor.Plain27
namespace Go.Proofs.YtocnfoeaikiecaaGreatDoor.Plain28
open Go.RowKit Lists Plain9 Plain23 Plain24 Plain27 Go.Lib
variable {s : ByteArray}
theorem aYi (base : Nat) (c : UInt8) (l : List UInt8) : digs base (c :: l) = if digV c < base then c :: digs base l else [] := by
 unfold digs
 rw [List.takeWhile_cons]
 by_cases h : digV c < base
 · rw [if_pos (decide_eq_true h), if_pos h]
 · rw [if_neg (by simpa using h), if_neg h]
theorem bYz (base : Nat) : ∀ (l : List UInt8) (j : Nat), j ≤ (digs base l).length → (digs base l).take j = l.take j
 | [], _, _ => by simp [digs]
 | c :: l, j, h => by
  rw [aYi] at h ⊢
  split at h
  · rename_i hc
    rw [if_pos hc]
    cases j with
    | zero => rfl
    | succ j => rw [List.take_succ_cons, List.take_succ_cons, bYz base l j (by simpa using h)]
  · have : j = 0 := by simpa using h
    subst this; rfl
theorem bV4 (base : Nat) : ∀ (l : List UInt8) (j : Nat), j ≤ (digs base l).length → j < l.length → ¬ digV (l.getD j 0) < base → (digs base l).length = j
 | [], _, _, h, _ => by simp at h
 | c :: l, 0, _, _, hn => by rw [aYi, if_neg (by simpa using hn)]; rfl
 | c :: l, j + 1, h, h1, hn => by
  rw [aYi] at h ⊢
  split at h
  · rename_i hc
    rw [if_pos hc, List.length_cons, bV4 base l j (by simpa using h) (by simpa using h1) (by simpa using hn)]
  · simp at h
theorem cXt (base : Nat) : ∀ (l : List UInt8) (j : Nat), j ≤ (digs base l).length → j < l.length → digV (l.getD j 0) < base → j + 1 ≤ (digs base l).length
 | [], _, _, h, _ => by simp at h
 | c :: l, 0, _, _, hn => by rw [aYi, if_pos (by simpa using hn)]; simp
 | c :: l, j + 1, h, h1, hn => by
  rw [aYi] at h ⊢
  split at h
  · rename_i hc
    have := cXt base l j (by simpa using h) (by simpa using h1) (by simpa using hn)
    rw [if_pos hc, List.length_cons]; omega
  · simp at h
theorem dQ9 (base : Nat) (l : List UInt8) (c : UInt8) : digX base (l ++ [c]) = base * digX base l + digV c := by unfold digX; rw [List.foldl_append]; rfl
theorem bV5 {base j : Nat} {l : List UInt8} (h : j < l.length) : digX base (l.take (j + 1)) = base * digX base (l.take j) + digV (l.getD j 0) := by
 rw [List.take_succ_eq_append_getElem h, dQ9]
 simp [List.getD, h]
theorem dQa {base : Nat} (hb : 1 ≤ base) : ∀ (j : Nat) (l : List UInt8), j ≤ (digs base l).length → digX base (l.take j) < base ^ j
 | 0, _, _ => by simp [digX]
 | j + 1, l, h => by
  have hl := cXu base l
  have ih := dQa hb j l (by omega)
  have hd := dQ8 (base := base) (l := l) (k := j) (by omega)
  rw [bV5 (by omega), Nat.pow_succ]
  have : base * (digX base (l.take j) + 1) ≤ base * base ^ j := Nat.mul_le_mul_left _ ih
  rw [Nat.mul_add] at this
  rw [Nat.mul_comm (base ^ j) base]
  omega
theorem bK9 {base j : Nat} {l : List UInt8} (hb : base = 10 ∨ base = 16) (h : j ≤ (digs base l).length) (hj : j ≤ 9) : digX base (l.take j) < 68719476736 := by
 have h1 := dQa (base := base) (by omega) j l h
 have h2 : base ^ j ≤ 16 ^ j := Nat.pow_le_pow_left (by omega) j
 have h3 : (16 : Nat) ^ j ≤ 16 ^ 9 := Nat.pow_le_pow_right (by omega) hj
 have : (16 : Nat) ^ 9 = 68719476736 := by decide
 omega
theorem dQ7 {base : Nat} {l : List UInt8} : (digs base l).take (digs base l).length = l.take (digs base l).length := bYz base l _ (Nat.le_refl _)
theorem cWj (s : ByteArray) (p : Nat) : numV s p = digX (aJq s p) ((rest s (aZu s p)).take (numD s p).length) := by
 unfold numV numD
 rw [← dQ7, List.take_length]
theorem dZq (s : ByteArray) (p : Nat) : aJq s p = 10 ∨ aJq s p = 16 := by unfold aJq; split <;> simp
theorem cQ0 (c : UInt8) : (digV c : Int) = if 48 ≤ (c.toNat : Int) ∧ (c.toNat : Int) ≤ 57 then (c.toNat : Int) - 48 else if 97 ≤ (c.toNat : Int) ∧ (c.toNat : Int) ≤ 102 then (c.toNat : Int) - 97 + 10 else if 65 ≤ (c.toNat : Int) ∧ (c.toNat : Int) ≤ 70 then (c.toNat : Int) - 65 + 10 else 99 := by
 unfold digV
 split
 · rw [if_pos (by omega)]; omega
 split
 · rw [if_neg (by omega), if_pos (by omega)]; omega
 split
 · rw [if_neg (by omega), if_neg (by omega), if_pos (by omega)]; omega
 · rw [if_neg (by omega), if_neg (by omega), if_neg (by omega)]; rfl
theorem fz_at {p : Nat} {sg : List UInt8} (hp : p ≤ s.size) (h0 : sg ≠ []) : fz s p sg = (p : Int) ↔ aQa s p sg = true := by
 constructor
 · intro h
   rcases aZa s p sg hp with h1 | ⟨i, h1, _, _, h4, _⟩
   · rw [h] at h1; omega
   · have : i = p := by rw [h] at h1; omega
     exact this ▸ h4
 · intro h
   cases sg with
   | nil => exact absurd rfl h0
   | cons c sg => exact bQ8 (bJr h) h
end Go.Proofs.YtocnfoeaikiecaaGreatDoor.Plain28
