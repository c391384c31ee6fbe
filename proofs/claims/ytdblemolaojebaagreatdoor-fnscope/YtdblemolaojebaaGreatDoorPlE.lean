import Derived.Test.YtdblemolaojebaaGreatDoorPlD
set_option maxRecDepth 100000
namespace Go.Proofs.YtdblemolaojebaaGreatDoor.Plain26
open Go.RowKit Ents Plain9 Plain11 Plain18 Plain23 Plain24 Plain25 Go.Lib
variable {s u v : ByteArray}
def okGo (s : ByteArray) : Nat → Nat → Option (List Df)
 | 0, _ => none
 | f + 1, p =>
  if whiteZ s p < s.size then
   match aKh s (whiteZ s p) with
   | none => none
   | some (l, q) => (okGo s f q).map (l ++ ·)
  else some []
theorem bKb (s : ByteArray) : Ext s s [] := by unfold Ext; simp
theorem bZ5 (h0 : VB s 0) {p : Nat} {r : List Df × Nat} (hp : p ≤ s.size) (hr : aKh s p = some r) : VB s r.2 ∧ p < r.2 ∧ r.2 ≤ s.size := (e_markO (bKb s) h0 hp hr).2
theorem addD_len (d : Dt) (x : Df) : (∃ a, (addD d x).ents = d.ents ++ a) ∧ ∃ b, (addD d x).atts = d.atts ++ b := by
 cases x with
 | inl e =>
  show (∃ a, (if (d.ents.find? (aW6 e.1)).isSome = true then d else ⟨d.ents ++ [e], d.atts⟩ : Dt).ents = d.ents ++ a) ∧ ∃ b, (if (d.ents.find? (aW6 e.1)).isSome = true then d else ⟨d.ents ++ [e], d.atts⟩ : Dt).atts = d.atts ++ b
  by_cases h : (d.ents.find? (aW6 e.1)).isSome = true
  · rw [if_pos h]; exact ⟨⟨[], by simp⟩, [], by simp⟩
  · rw [if_neg h]; exact ⟨⟨[e], rfl⟩, [], by simp⟩
 | inr a =>
  show (∃ b, (if (d.atts.find? (aVu a.of a.nm)).isSome = true then d else ⟨d.ents, d.atts ++ [a]⟩ : Dt).ents = d.ents ++ b) ∧ ∃ b, (if (d.atts.find? (aVu a.of a.nm)).isSome = true then d else ⟨d.ents, d.atts ++ [a]⟩ : Dt).atts = d.atts ++ b
  by_cases h : (d.atts.find? (aVu a.of a.nm)).isSome = true
  · rw [if_pos h]; exact ⟨⟨[], by simp⟩, [], by simp⟩
  · rw [if_neg h]; exact ⟨⟨[], by simp⟩, [a], rfl⟩
theorem addAll_more : ∀ (l : List Df) (d : Dt), (∃ a, (aVo d l).ents = d.ents ++ a) ∧ ∃ b, (aVo d l).atts = d.atts ++ b
 | [], d => ⟨⟨[], by simp [aVo]⟩, [], by simp [aVo]⟩
 | x :: l, d => by
  obtain ⟨⟨a, ha⟩, b, hb⟩ := addD_len d x
  obtain ⟨⟨a', ha'⟩, b', hb'⟩ := addAll_more l (addD d x)
  exact ⟨⟨a ++ a', by show (aVo (addD d x) l).ents = _; rw [ha', ha, List.append_assoc]⟩, b ++ b', by show (aVo (addD d x) l).atts = _; rw [hb', hb, List.append_assoc]⟩
theorem impl_bad : ∀ (f p : Nat) (d : Dt) (fu : Int), VB s 0 → p ≤ s.size → s.size < p + f → okGo s f p = none → (aV4 s f p d fu).code = 3
 | 0, p, _, _, _, h1, h2, _ => by omega
 | f + 1, p, d, fu, h0, h1, h2, h => by
  unfold okGo at h
  unfold aV4
  split at h
  · rename_i hw
    rw [if_pos hw]
    split at h
    · rename_i hm; simp only [hm]; rfl
    · rename_i l q hm
      simp only [hm]
      have hge := aQw s p
      have he := bZ5 h0 (Nat.le_of_lt hw) hm
      exact impl_bad f q _ _ h0 he.2.2 (by simp only at he; omega) (Option.map_eq_none_iff.1 h)
  · cases h
theorem atts_len {o : ByteArray} : ∀ (f p : Nat) (acc : List At5) (r : List At5 × Nat), aZz s o f p acc = some r → p + 8 * r.1.length ≤ r.2 + 8 * acc.length
 | 0, _, _, _, h => by cases h
 | f + 1, p, acc, r, h => by
  have hge := aQw s p
  unfold aZz at h
  split at h
  · cases h; simp only; omega
  split at h
  · cases h
  · rename_i hne
    split at h
    · cases h
    · rename_i a q hm
      have hpos := (att_pos hm).1
      have := atts_len f q (acc ++ [a]) r h
      simp only [List.length_append, List.length_cons, List.length_nil] at this
      simp only at hpos
      omega
theorem mark_len (h0 : VB s 0) {p : Nat} {r : List Df × Nat} (hp : p ≤ s.size) (hr : aKh s p = some r) : p + 8 * r.1.length ≤ r.2 := by
 have hend := bZ5 h0 hp hr
 unfold aKh at hr
 split at hr
 · split at hr
   · cases hr; simp only [List.length_nil]; simp only at hend; omega
   · cases hr
 split at hr
 · split at hr
   · cases hr; simp only [List.length_nil]; simp only at hend; omega
   · cases hr
 split at hr
 · rename_i h1
   have hv : VB s (p + 8) := aXh h0 h1 hp (by simp [entL]) (by simp [entL])
   have := (e_entity (bKb s) h0 hv hr).2.2.1
   unfold aKj at hr
   obtain ⟨a, ha, hr⟩ := Option.bind_eq_some_iff.1 hr
   obtain ⟨n, hn, hr⟩ := Option.bind_eq_some_iff.1 hr
   obtain ⟨b, hb, hr⟩ := Option.bind_eq_some_iff.1 hr
   obtain ⟨v, hq, hr⟩ := Option.bind_eq_some_iff.1 hr
   obtain ⟨x, hx, hr⟩ := Option.bind_eq_some_iff.1 hr
   obtain ⟨q, hm, hr⟩ := Option.bind_eq_some_iff.1 hr
   cases hr
   simp only [List.length_cons, List.length_nil]
   simp only at this
   omega
 split at hr
 · unfold aV2 at hr
   obtain ⟨a, ha, hr⟩ := Option.bind_eq_some_iff.1 hr
   obtain ⟨n, hn, hr⟩ := Option.bind_eq_some_iff.1 hr
   obtain ⟨l, hl, hr⟩ := Option.bind_eq_some_iff.1 hr
   cases hr
   have := atts_len _ _ _ _ hl
   have h1 := (aJe ha).1
   have h2 := (aJ9 hn).2.2.2.1
   simp only [List.length_map]
   simp only [List.length_nil] at this
   omega
 split at hr
 · unfold aJ3 at hr
   obtain ⟨a, ha, hr⟩ := Option.bind_eq_some_iff.1 hr
   obtain ⟨n, hn, hr⟩ := Option.bind_eq_some_iff.1 hr
   obtain ⟨b, hb, hr⟩ := Option.bind_eq_some_iff.1 hr
   split at hr
   · cases hr; simp only [List.length_nil]; simp only at hend; omega
   · cases hr
 · cases hr
theorem addD_count (d : Dt) (x : Df) : (addD d x).ents.length ≤ d.ents.length + 1 ∧ (addD d x).atts.length ≤ d.atts.length + 1 := by
 cases x with
 | inl e =>
  show (if (d.ents.find? (aW6 e.1)).isSome = true then d else ⟨d.ents ++ [e], d.atts⟩ : Dt).ents.length ≤ _ ∧ (if (d.ents.find? (aW6 e.1)).isSome = true then d else ⟨d.ents ++ [e], d.atts⟩ : Dt).atts.length ≤ _
  by_cases h : (d.ents.find? (aW6 e.1)).isSome = true
  · rw [if_pos h]; omega
  · rw [if_neg h]; simp
 | inr a =>
  show (if (d.atts.find? (aVu a.of a.nm)).isSome = true then d else ⟨d.ents, d.atts ++ [a]⟩ : Dt).ents.length ≤ _ ∧ (if (d.atts.find? (aVu a.of a.nm)).isSome = true then d else ⟨d.ents, d.atts ++ [a]⟩ : Dt).atts.length ≤ _
  by_cases h : (d.atts.find? (aVu a.of a.nm)).isSome = true
  · rw [if_pos h]; omega
  · rw [if_neg h]; simp
theorem bXt : ∀ (l : List Df) (d : Dt), (aVo d l).ents.length ≤ d.ents.length + l.length ∧ (aVo d l).atts.length ≤ d.atts.length + l.length
 | [], _ => ⟨Nat.le_refl _, Nat.le_refl _⟩
 | x :: l, d => by
  have h1 := addD_count d x
  have h2 := bXt l (addD d x)
  show (aVo (addD d x) l).ents.length ≤ _ ∧ (aVo (addD d x) l).atts.length ≤ _
  simp only [List.length_cons]
  omega
end Go.Proofs.YtdblemolaojebaaGreatDoor.Plain26
namespace Go.Proofs.YtdblemolaojebaaGreatDoor.Plain27
open Go.RowKit Plain1 Strs Lists Plain3 Plain5 Plain6 Plain9 Plain10 Plain11 Plain18 Plain21 Plain23 Plain24 Plain25 Go.Lib
variable {s u v : ByteArray}
theorem r_fin {t : List UInt8} (h : Ext s u t) {pos n : Nat} {x0 low : Int} (hn : 1 ≤ n) (hp : pos + n ≤ s.size) (hf : (fin u pos x0 n low).2 ≠ 0) : fin s pos x0 n low = fin u pos x0 n low := by
 have hc : pos + n ≤ u.size ∧ aWq u pos n ∧ low ≤ vz u pos x0 (n - 1) ∧ aZq (vz u pos x0 (n - 1)) = true := Decidable.byContradiction fun hc => hf (by unfold fin; rw [if_neg hc])
 obtain ⟨c1, c2, c3, c4⟩ := hc
 have ev := e_vz h (pos := pos) x0 (n - 1) (.inl (by omega))
 rw [aVf c1 c2 c3 c4, aVf hp (aXy.2 fun k hk h1 => by
  have := aXy.1 c2 k hk h1
  unfold aX1 at this ⊢; rw [aKl h (by omega)] at this; exact this) (by rw [← ev]; exact c3) (by rw [← ev]; exact c4), ev]
theorem r_rune {t : List UInt8} (h : Ext s u t) {p : Nat} (hp : p + (aQo u p).2 ≤ s.size) (hr : (aQo u p).2 ≠ 0) : aQo s p = aQo u p := by
 have hb := aKl h (i := p) (by omega)
 unfold aQo at hr hp ⊢
 rw [hb] at hr hp ⊢
 by_cases h1 : aQ2 s p < 128
 · rw [if_pos h1] at hr hp ⊢; rw [if_pos h1]; exact r_fin h (by omega) (by rw [← (bJi hr).1]; exact hp) hr
 rw [if_neg h1] at hr hp ⊢; rw [if_neg h1]
 by_cases h2 : 192 ≤ aQ2 s p ∧ aQ2 s p < 224
 · rw [if_pos h2] at hr hp ⊢; rw [if_pos h2]; exact r_fin h (by omega) (by rw [← (bJi hr).1]; exact hp) hr
 rw [if_neg h2] at hr hp ⊢; rw [if_neg h2]
 by_cases h3 : 224 ≤ aQ2 s p ∧ aQ2 s p < 240
 · rw [if_pos h3] at hr hp ⊢; rw [if_pos h3]; exact r_fin h (by omega) (by rw [← (bJi hr).1]; exact hp) hr
 rw [if_neg h3] at hr hp ⊢; rw [if_neg h3]
 by_cases h4 : 240 ≤ aQ2 s p ∧ aQ2 s p < 248
 · rw [if_pos h4] at hr hp ⊢; rw [if_pos h4]; exact r_fin h (by omega) (by rw [← (bJi hr).1]; exact hp) hr
 · rw [if_neg h4] at hr; exact absurd rfl hr
theorem pre_VB {t : List UInt8} (h : Ext s u t) (he : u.size = s.size ∨ ¬ aX1 u s.size) : ∀ (n p : Nat), s.size ≤ p + n → VB u p → VB s p
 | 0, p, hn, _ => bXu (by omega)
 | n + 1, p, hn, hv => by
  have hle := e_le h
  by_cases hp : p < s.size
  · obtain ⟨h1, h2⟩ := aW1 hv (by omega)
    have hin : p + (aQo u p).2 ≤ s.size := by
     apply Decidable.byContradiction
     intro hc
     have hl := bXa h1
     rcases he with he | he
     · omega
     · have := ((aW3 h1).2 (s.size - p) (by omega) (by omega)).1
       rw [show p + (s.size - p) = s.size by omega] at this
       exact he this
    have hr := r_rune h hin h1
    refine VB_of hp (by rw [hr]; exact h1) ?_
    rw [hr]
    exact pre_VB h he n _ (by omega) h2
  · exact bXu (by omega)
theorem cut_ext {a b : Nat} (hb : b ≤ s.size) (ha : a ≤ b) : Ext (s.extract a b) (s.extract a s.size) (rest s b) := by
 unfold Ext
 rw [aK1, aK1]
 unfold rest
 rw [← List.take_append_drop (b - a) ((s.data.toList.drop a).take (s.size - a))]
 congr 1
 · rw [List.take_take, Nat.min_eq_left (by omega)]
 · rw [List.take_of_length_le (by rw [List.length_drop, aV6]; omega), List.drop_drop, show a + (b - a) = b by omega]
theorem cut_sh (s : ByteArray) (a : Nat) : Sh (s.extract 0 a) (s.extract a s.size) s := by
 unfold Sh
 rw [aK1, aK1]
 simp only [List.drop_zero, Nat.sub_zero]
 rw [List.take_of_length_le (l := s.data.toList.drop a) (by rw [List.length_drop, aV6]; omega), List.take_append_drop]
theorem cut0_size {a : Nat} (ha : a ≤ s.size) : (s.extract 0 a).size = a := by rw [aX7 ha]; omega
theorem suf_VB {a : Nat} (ha : a ≤ s.size) : ∀ (n p : Nat), (s.extract a s.size).size ≤ p + n → VB s (a + p) → VB (s.extract a s.size) p
 | 0, p, hn, _ => bXu (by omega)
 | n + 1, p, hn, hv => by
  have h := cut_sh s a
  have hz : (s.extract a s.size).size = s.size - a := aWx s a
  by_cases hp : p < (s.extract a s.size).size
  · obtain ⟨h1, h2⟩ := aW1 hv (by omega)
    have hr := h_rune h p
    rw [cut0_size ha] at hr
    refine VB_of hp (by rw [← hr]; exact h1) ?_
    rw [← hr]
    exact suf_VB ha n _ (by omega) (by rw [← Nat.add_assoc]; exact h2)
  · exact bXu (by omega)
theorem cut_VB {a b : Nat} (hb : b ≤ s.size) (ha : a ≤ b) (hv : VB s a) (he : b = s.size ∨ ¬ aX1 s b) : VB (s.extract a b) 0 := by
 have hz : (s.extract a b).size = b - a := aX7 hb
 refine pre_VB (cut_ext hb ha) ?_ (s.extract a b).size 0 (by omega) (suf_VB (a := a) (by omega) (s.extract a s.size).size 0 (by omega) hv)
 rw [aWx, hz]
 rcases he with he | he
 · exact .inl (by omega)
 · by_cases hbs : b < s.size
   · refine .inr fun hg => he ?_
     unfold aX1 at hg ⊢
     rw [aK8 (by omega), show a + (b - a) = b by omega] at hg
     exact hg
   · exact .inl (by omega)
theorem name_no37 {p : Nat} : ∀ (f n : Nat), (∀ k, k < n → aQ2 s (p + k) ≠ 37) → ∀ k, k < aZc s p f n → aQ2 s (p + k) ≠ 37
 | 0, _, h => h
 | f + 1, n, h => by
  by_cases hp : p + n < s.size
  · by_cases hst : aY1 s p n
    · rw [aV8 hp hst]; exact h
    · rw [aW4 hp hst]
      refine name_no37 f _ fun k hk => ?_
      by_cases hkn : k < n
      · exact h k hkn
      have h1 : (aQo s (p + n)).2 ≠ 0 := fun hh => hst (.inl hh)
      by_cases hk0 : k = n
      · subst hk0
        intro hb
        refine hst (.inr (.inr ?_))
        have hr1 : (aQo s (p + k)).1 = 37 := by
         unfold aQo at h1 ⊢
         rw [hb, if_pos (by omega)] at h1 ⊢
         unfold fin at h1 ⊢
         split at h1
         · rename_i hh; rw [if_pos hh]; rfl
         · exact absurd rfl h1
        rw [hr1]; decide
      · have := ((aW3 h1).2 (k - n) (by omega) (by omega)).1
        unfold aX1 at this
        rw [show p + n + (k - n) = p + k by omega] at this
        omega
  · rw [aZn (by omega)]; exact h
theorem dig_no37 {c : UInt8} {base : Nat} (h : digV c < base) (hb : base ≤ 16) : (c.toNat : Int) ≠ 37 := by
 intro hc
 have : c.toNat = 37 := by omega
 unfold digV at h
 rw [this] at h
 simp at h
 omega
theorem numBase_le (s : ByteArray) (p : Nat) : aWk s p ≤ 16 := by unfold aWk; split <;> omega
theorem bWe {base : Nat} {l : List UInt8} {k : Nat} (h : k < (digs base l).length) : digV (l.getD k 0) < base := by
 unfold digs at h
 induction l generalizing k with
 | nil => simp at h
 | cons c l ih =>
  rw [List.takeWhile_cons] at h
  split at h
  · rename_i hc
    cases k with
    | zero => simpa using hc
    | succ k => exact ih (by simpa using h)
  · simp at h
theorem digs_le (base : Nat) (l : List UInt8) : (digs base l).length ≤ l.length := by unfold digs; exact (List.takeWhile_prefix _).length_le
theorem bKo {p : Nat} {r : Int × Nat} (h : numZ s p = some r) : numOk s p ∧ r = ((numV s p : Int), aVj s p + (numD s p).length + 1) := by
 unfold numZ at h
 split at h
 · rename_i h0; cases h; exact ⟨h0, rfl⟩
 · cases h
theorem num_end {p : Nat} {r : Int × Nat} (hp : p ≤ s.size) (h : numZ s p = some r) : p < r.2 ∧ r.2 ≤ s.size ∧ aZq r.1 = true ∧ ∀ k, p ≤ k → k < r.2 → aQ2 s k ≠ 37 := by
 obtain ⟨⟨n1, n2, n3, n4⟩, rfl⟩ := bKo h
 have ha : p ≤ aVj s p ∧ aVj s p ≤ p + 1 ∧ (aVj s p = p + 1 → aQ5 s p [120] = true) := by
  unfold aVj
  split
  · rename_i hx; exact ⟨by omega, by omega, fun _ => hx⟩
  · exact ⟨by omega, by omega, fun hh => by omega⟩
 have hlt : aVj s p + (numD s p).length < s.size := has_lt n3
 refine ⟨by simp only; omega, by simp only; omega, n4, ?_⟩
 intro k hk1 hk2
 simp only at hk2
 by_cases hx : k < aVj s p
 · have : k = p := by omega
   subst this
   have hb := aXm (ha.2.2 (by omega)) (by omega)
   rw [hb]; decide
 by_cases hs : k = aVj s p + (numD s p).length
 · have hb := aXm n3 hlt
   rw [hs, hb]; decide
 · have hd := bWe (base := aWk s p) (l := rest s (aVj s p)) (k := k - aVj s p) (by unfold numD at hs hk2; omega)
   have hg : (rest s (aVj s p)).getD (k - aVj s p) 0 = s.data.toList.getD k 0 := by
    unfold rest
    simp only [List.getD, List.getElem?_drop]
    rw [show aVj s p + (k - aVj s p) = k by omega]
   rw [hg] at hd
   rw [aXz]
   exact dig_no37 hd (numBase_le s p)
theorem aWi {p q : Nat} {r : Rf} (hp : p < s.size) (h : refZ s p = some (r, q)) : p < q ∧ q ≤ s.size ∧ (∀ n, r = .inl n → aZq n = true) ∧ ∀ k, p < k → k < q → aQ2 s k ≠ 37 := by
 unfold refZ at h
 split at h
 · rename_i h1
   obtain ⟨x, hx, he⟩ := Option.map_eq_some_iff.1 h
   cases he
   have hr := aQ9 h1 (by omega)
   simp only [List.length_cons, List.length_nil] at hr
   obtain ⟨a, b, c, d⟩ := num_end (show p + 2 ≤ s.size by omega) hx
   refine ⟨by omega, b, fun n hn => by cases hn; exact c, ?_⟩
   intro k hk1 hk2
   by_cases hk : k = p + 1
   · rw [hk, aXm h1 (by omega)]; decide
   · exact d k (by omega) hk2
 · obtain ⟨x, hx, he⟩ := Option.map_eq_some_iff.1 h
   cases he
   unfold bQn at hx
   split at hx
   · rename_i h1
     cases hx
     have hs := aJg h1.1
     refine ⟨by simp only; omega, by simp only; omega, fun n hn => (by cases hn), ?_⟩
     intro k hk1 hk2
     simp only at hk2
     by_cases hk : k = nmP s (p + 1)
     · rw [hk, aXm h1.2 (by omega)]; decide
     · have := name_no37 (s := s) (p := p + 1) (s.size + 1) 0 (fun _ hh => by omega) (k - (p + 1)) (by show k - (p + 1) < aXw s (p + 1); omega)
       rw [show p + 1 + (k - (p + 1)) = k by omega] at this
       exact this
   · cases hx
theorem bZ7 {k : Nat} (hk : k < s.size) (hb : aQ2 s k = 37) : ∀ (f i : Nat) (acc : List Int), s.size < i + f → i ≤ k → aVm s f i acc = none
 | 0, i, _, h1, h2 => by omega
 | f + 1, i, acc, h1, h2 => by
  unfold aVm
  rw [if_pos (by omega)]
  by_cases h37 : aQ2 s i = 37
  · rw [if_pos h37]
  rw [if_neg h37]
  have hne : i ≠ k := fun e => h37 (e ▸ hb)
  split
  · split
    · rfl
    · rename_i n q hr
      obtain ⟨a, b, c, d⟩ := aWi (by omega) hr
      have : q ≤ k := Decidable.byContradiction fun hh => d k (by omega) (by omega) hb
      exact bZ7 hk hb f q _ (by omega) this
    · rename_i n q hr
      obtain ⟨a, b, c, d⟩ := aWi (by omega) hr
      have : q ≤ k := Decidable.byContradiction fun hh => d k (by omega) (by omega) hb
      exact bZ7 hk hb f q _ (by omega) this
  · exact bZ7 hk hb f (i + 1) _ (by omega) (by omega)
def vbGo (s : ByteArray) (c q : Int) : Nat → Nat → Nat × Nat
 | 0, i => (1, i)
 | f + 1, i => if i < s.size then (if aQ2 s i = c then (2, i) else if aQ2 s i = q then (0, i) else vbGo s c q f (i + 1)) else (1, i)
def vbF (s : ByteArray) (c : Int) (p : Nat) : Nat := if s.size ≤ p then 1 else if aKe (aQ2 s p) = true then (vbGo s c (aQ2 s p) (s.size + 1) (p + 1)).1 else 2
def vbE (s : ByteArray) (c : Int) (p : Nat) : Nat := (vbGo s c (aQ2 s p) (s.size + 1) (p + 1)).2
def vbT (s : ByteArray) (c : Int) (p : Nat) : ByteArray := s.extract (p + 1) (vbE s c p)
def vbP (s : ByteArray) (c : Int) (p : Nat) : Nat := vbE s c p + 1
theorem vb_end {c q : Int} {f i : Nat} (h : ¬ i < s.size) : vbGo s c q f i = (1, i) := by
 cases f with
 | zero => rfl
 | succ f => unfold vbGo; rw [if_neg h]
theorem vb_bad {c q : Int} {f i : Nat} (h : i < s.size) (hb : aQ2 s i = c) : vbGo s c q (f + 1) i = (2, i) := by
 unfold vbGo; rw [if_pos h, if_pos hb]
theorem vb_hit {c q : Int} {f i : Nat} (h : i < s.size) (hb : aQ2 s i ≠ c) (hq : aQ2 s i = q) : vbGo s c q (f + 1) i = (0, i) := by
 unfold vbGo; rw [if_pos h, if_neg hb, if_pos hq]
theorem vb_on {c q : Int} {f i : Nat} (h : i < s.size) (hb : aQ2 s i ≠ c) (hq : aQ2 s i ≠ q) : vbGo s c q (f + 1) i = vbGo s c q f (i + 1) := by
 conv => lhs; unfold vbGo
 rw [if_pos h, if_neg hb, if_neg hq]
theorem vb60 : ∀ (f i : Nat) (q : Int), vbGo s 60 q f i = aZv s q f i
 | 0, _, _ => rfl
 | f + 1, i, q => by unfold vbGo aZv; rw [vb60 f]
theorem bZd {c q : Int} : ∀ (f i : Nat), i ≤ s.size → s.size < i + f → let r := vbGo s c q f i
 i ≤ r.2 ∧ r.2 ≤ s.size ∧ (∀ k, i ≤ k → k < r.2 → aQ2 s k ≠ q ∧ aQ2 s k ≠ c) ∧ (r.1 = 0 → r.2 < s.size ∧ aQ2 s r.2 = q) ∧ (r.1 = 2 → r.2 < s.size ∧ aQ2 s r.2 = c) ∧ (r.1 = 1 → r.2 = s.size) ∧ r.1 ≤ 2
 | 0, i, h1, h2 => by omega
 | f + 1, i, h1, h2 => by
  intro r
  by_cases hi : i < s.size
  · by_cases hb : aQ2 s i = c
    · have : r = (2, i) := vb_bad hi hb
      rw [this]; simp only; exact ⟨by omega, by omega, fun k a b => by omega, fun h => (by cases h), fun _ => ⟨hi, hb⟩, fun h => (by cases h), by omega⟩
    · by_cases hq : aQ2 s i = q
      · have : r = (0, i) := vb_hit hi hb hq
        rw [this]; simp only; exact ⟨by omega, by omega, fun k a b => by omega, fun _ => ⟨hi, hq⟩, fun h => (by cases h), fun h => (by cases h), by omega⟩
      · have : r = vbGo s c q f (i + 1) := vb_on hi hb hq
        rw [this]
        obtain ⟨a1, a2, a3, a4⟩ := bZd (c := c) (q := q) f (i + 1) (by omega) (by omega)
        refine ⟨by omega, a2, fun k hk1 hk2 => ?_, a4⟩
        by_cases hk : k = i
        · subst hk; exact ⟨hq, hb⟩
        · exact a3 k (by omega) hk2
  · have : r = (1, i) := vb_end hi
    rw [this]; simp only; exact ⟨by omega, by omega, fun k a b => by omega, fun h => (by cases h), fun h => (by cases h), fun _ => by omega, by omega⟩
theorem fz_first {c : UInt8} {p e : Nat} (hp : p ≤ e) (he : e < s.size) (hb : aQ2 s e = (c.toNat : Int)) (hno : ∀ k, p ≤ k → k < e → aQ2 s k ≠ (c.toNat : Int)) : fz s p [c] = (e : Int) := by
 have hone : ∀ k, k < s.size → (aQ5 s k [c] = true ↔ aQ2 s k = (c.toNat : Int)) := by
  intro k hk
  constructor
  · intro h; exact aXm h hk
  · intro h
    unfold aQ5
    rw [aZw hk]
    rw [aXz] at h
    have : s.data.toList.getD k 0 = c := UInt8.toNat.inj (by omega)
    rw [this]; simp
 induction hd : e - p generalizing p with
 | zero =>
  have : p = e := by omega
  subst this
  exact fz_hit he ((hone p he).2 hb)
 | succ n ih =>
  have hh : aQ5 s p [c] = false := by
   cases hc : aQ5 s p [c] with
   | false => rfl
   | true => exact absurd ((hone p (by omega)).1 hc) (hno p (Nat.le_refl _) (by omega))
  rw [bJh (by omega) hh]
  exact ih (by omega) (fun k hk1 hk2 => hno k (by omega) hk2) (by omega)
theorem u8_byte (s : ByteArray) (p : Nat) : aQ2 s p = ((u8 s p).toNat : Int) := rfl
theorem qt_vb (p : Nat) (hp : p ≤ s.size) :
 (vbF s 37 p = 0 ∧ qtO s p = some (vbT s 37 p, vbP s 37 p) ∧ (∀ k, k < (vbT s 37 p).size → aQ2 (vbT s 37 p) k ≠ 37) ∧ p + 1 ≤ vbE s 37 p ∧ vbE s 37 p < s.size ∧ aKe (aQ2 s (vbE s 37 p)) = true) ∨
  (vbF s 37 p ≠ 0 ∧ vbF s 37 p ≤ 2 ∧ ∀ {α : Type} (g : ByteArray × Nat → List Int → Option α), ((qtO s p).bind fun v => (entO v.1).bind (g v)) = none) := by
 unfold vbF
 by_cases hs : s.size ≤ p
 · rw [if_pos hs]
   refine .inr ⟨by omega, by omega, fun g => ?_⟩
   unfold qtO; rw [if_neg (by omega)]; rfl
 rw [if_neg hs]
 by_cases hq : aKe (aQ2 s p) = true
 · rw [if_pos hq]
   have hsp := bZd (s := s) (c := 37) (q := aQ2 s p) (s.size + 1) (p + 1) (by omega) (by omega)
   simp only at hsp
   obtain ⟨a1, a2, a3, a4, a5, a6, a7⟩ := hsp
   have hE : vbE s 37 p = (vbGo s 37 (aQ2 s p) (s.size + 1) (p + 1)).2 := rfl
   rw [← hE] at a1 a2 a3 a4 a5 a6
   generalize (vbGo s 37 (aQ2 s p) (s.size + 1) (p + 1)).1 = F at *
   by_cases h0 : F = 0
   · left
     obtain ⟨b1, b2⟩ := a4 h0
     have hfz := fz_first (c := u8 s p) a1 b1 b2 (fun k hk1 hk2 => (a3 k hk1 hk2).1)
     have hup : upF s (p + 1) [u8 s p] = 0 := by unfold upF; rw [hfz, if_neg (by omega)]
     refine ⟨h0, ?_, ?_, a1, b1, by rw [b2]; exact hq⟩
     · unfold qtO
       rw [if_pos ⟨by omega, hq, hup⟩]
       unfold upT upP
       rw [hfz]
       rfl
     · intro k hk
       unfold vbT at hk ⊢
       rw [aX7 (by omega)] at hk
       have hx : aQ2 (s.extract (p + 1) (vbE s 37 p)) k = aQ2 s (p + 1 + k) := by
        rw [aXz, aXz, aK1]
        simp only [List.getD, List.getElem?_take, List.getElem?_drop]
        rw [if_pos (by omega)]
       rw [hx]
       exact (a3 (p + 1 + k) (by omega) (by omega)).2
   · refine .inr ⟨h0, a7, fun g => ?_⟩
     cases hqt : qtO s p with
     | none => rfl
     | some r =>
      obtain ⟨q1, q2, q3, q4, q5, q6, q7⟩ := bKe hqt
      rcases aJh s (p + 1) [u8 s p] (by omega) with hf | ⟨i, hi, hi2, hi3, hi4, _⟩
      · unfold upF at q3; rw [if_pos hf] at q3; cases q3
      have hib := aXm hi4 (by simp only [List.length_cons, List.length_nil] at hi3; omega)
      simp only [List.length_cons, List.length_nil] at hi3
      have h2 : F = 2 := by
       apply Decidable.byContradiction
       intro hn
       have h1 : F = 1 := by omega
       have := a6 h1
       exact (a3 i hi2 (by omega)).1 hib
      obtain ⟨b1, b2⟩ := a5 h2
      have hlt : vbE s 37 p < i := by
       apply Decidable.byContradiction
       intro hn
       by_cases hie : i = vbE s 37 p
       · rw [hie, b2] at hib
         rw [← u8_byte] at hib
         rw [← hib] at hq
         revert hq; decide
       · exact (a3 i hi2 (by omega)).1 hib
      have hr1 : r.1 = s.extract (p + 1) i := by rw [q4]; unfold upT; rw [hi]; rfl
      have : entO r.1 = none := by
       unfold entO
       have hsz : r.1.size = i - (p + 1) := by rw [hr1, aX7 (by omega)]
       refine bZ7 (k := vbE s 37 p - (p + 1)) (by omega) ?_ _ 0 [] (by omega) (Nat.zero_le _)
       rw [hr1, aXz, aK1]
       simp only [List.getD, List.getElem?_take, List.getElem?_drop]
       rw [if_pos (by omega), show p + 1 + (vbE s 37 p - (p + 1)) = vbE s 37 p by omega]
       exact b2
      simp only [Option.bind_some]
      rw [this]; rfl
 · rw [if_neg hq]
   refine .inr ⟨by omega, by omega, fun g => ?_⟩
   unfold qtO; rw [if_neg (fun hh => hq hh.2.1)]; rfl
end Go.Proofs.YtdblemolaojebaaGreatDoor.Plain27
namespace Go.Proofs.YtdblemolaojebaaGreatDoor.Plain28
open Go.RowKit Lists Plain23 Plain27 Go.Lib
variable {s : ByteArray}
theorem bQw (base : Nat) (c : UInt8) (l : List UInt8) : digs base (c :: l) = if digV c < base then c :: digs base l else [] := by
 unfold digs
 rw [List.takeWhile_cons]
 by_cases h : digV c < base
 · rw [if_pos (decide_eq_true h), if_pos h]
 · rw [if_neg (by simpa using h), if_neg h]
theorem bQv (base : Nat) : ∀ (l : List UInt8) (j : Nat), j ≤ (digs base l).length → (digs base l).take j = l.take j
 | [], _, _ => by simp [digs]
 | c :: l, j, h => by
  rw [bQw] at h ⊢
  split at h
  · rename_i hc
    rw [if_pos hc]
    cases j with
    | zero => rfl
    | succ j => rw [List.take_succ_cons, List.take_succ_cons, bQv base l j (by simpa using h)]
  · have : j = 0 := by simpa using h
    subst this; rfl
theorem digs_on (base : Nat) : ∀ (l : List UInt8) (j : Nat), j ≤ (digs base l).length → j < l.length → digV (l.getD j 0) < base → j + 1 ≤ (digs base l).length
 | [], _, _, h, _ => by simp at h
 | c :: l, 0, _, _, hn => by rw [bQw, if_pos (by simpa using hn)]; simp
 | c :: l, j + 1, h, h1, hn => by
  rw [bQw] at h ⊢
  split at h
  · rename_i hc
    have := digs_on base l j (by simpa using h) (by simpa using h1) (by simpa using hn)
    rw [if_pos hc, List.length_cons]; omega
  · simp at h
theorem digX_snoc (base : Nat) (l : List UInt8) (c : UInt8) : digX base (l ++ [c]) = base * digX base l + digV c := by unfold digX; rw [List.foldl_append]; rfl
theorem bJs {base j : Nat} {l : List UInt8} (h : j < l.length) : digX base (l.take (j + 1)) = base * digX base (l.take j) + digV (l.getD j 0) := by
 rw [List.take_succ_eq_append_getElem h, digX_snoc]
 simp [List.getD, h]
theorem digX_lt {base : Nat} (hb : 1 ≤ base) : ∀ (j : Nat) (l : List UInt8), j ≤ (digs base l).length → digX base (l.take j) < base ^ j
 | 0, _, _ => by simp [digX]
 | j + 1, l, h => by
  have hl := digs_le base l
  have ih := digX_lt hb j l (by omega)
  have hd := bWe (base := base) (l := l) (k := j) (by omega)
  rw [bJs (by omega), Nat.pow_succ]
  have : base * (digX base (l.take j) + 1) ≤ base * base ^ j := Nat.mul_le_mul_left _ ih
  rw [Nat.mul_add] at this
  rw [Nat.mul_comm (base ^ j) base]
  omega
theorem digs_self {base : Nat} {l : List UInt8} : (digs base l).take (digs base l).length = l.take (digs base l).length := bQv base l _ (Nat.le_refl _)
theorem trim_digs (base : Nat) (set : List UInt8) (hset : ∀ c : UInt8, set.contains c = decide (digV c < base)) (l : List UInt8) : (Lib.trimLeftS l set).length + (digs base l).length = l.length := by
 induction l with
 | nil => simp [Lib.trimLeftS, digs]
 | cons c l ih =>
  rw [bQw]
  unfold Lib.trimLeftS at ih ⊢
  rw [List.dropWhile_cons, hset c]
  by_cases h : digV c < base
  · rw [if_pos (by simpa using h), if_pos h, List.length_cons, List.length_cons]; omega
  · rw [if_neg (by simpa using h), if_neg h]; simp
theorem u8_all {p : UInt8 → Prop} (h : ∀ n : Nat, n < 256 → p (UInt8.ofNat n)) (c : UInt8) : p c := by
 have := h c.toNat c.toNat_lt
 simpa using this
def set10 : List UInt8 := [48, 49, 50, 51, 52, 53, 54, 55, 56, 57]
def set16 : List UInt8 := [48, 49, 50, 51, 52, 53, 54, 55, 56, 57, 97, 98, 99, 100, 101, 102, 65, 66, 67, 68, 69, 70]
theorem set10_digs (c : UInt8) : set10.contains c = decide (digV c < 10) := by
 refine u8_all (p := fun c => set10.contains c = decide (digV c < 10)) ?_ c
 decide
theorem set16_digs (c : UInt8) : set16.contains c = decide (digV c < 16) := by
 refine u8_all (p := fun c => set16.contains c = decide (digV c < 16)) ?_ c
 decide
end Go.Proofs.YtdblemolaojebaaGreatDoor.Plain28
