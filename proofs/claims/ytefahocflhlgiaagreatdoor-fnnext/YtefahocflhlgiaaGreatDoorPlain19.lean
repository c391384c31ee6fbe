/- Plain mathematics: a mark that is told, or wrong, is so in every text that goes on behind it. -/
import Derived.Test.YtefahocflhlgiaaGreatDoorPlain18
import Derived.Test.YtefahocflhlgiaaGreatDoorPlain15
namespace Go.Proofs.YtefahocflhlgiaaGreatDoor.Plain19
open Plain1 Plain2 Strs Plain3 Plain4 Plain5 Plain6 Plain9 Plain10 Plain11 Plain12 Plain14 Plain15 Plain16 Plain18
variable {s u : ByteArray} {t : List UInt8}

theorem must_lt {p : Nat} {c : UInt8} {sg : List UInt8} (h : mustF s p (c :: sg) ≠ 1) : p < s.size := by
  refine Decidable.byContradiction fun hn => h ?_
  unfold mustF lackZ
  rw [has_end (by omega), pre_end (by omega)]; rfl
theorem nm_lt {p : Nat} (h : nmF s p ≠ 1) : p < s.size := Decidable.byContradiction fun hn => h (nmF_end (by omega))
theorem up_lt {p : Nat} {c : UInt8} {sg : List UInt8} (hp : p ≤ s.size) (h : upF s p (c :: sg) ≠ 1) : p < s.size := by
  have hf : fz s p (c :: sg) ≠ -1 := fun e => h (by unfold upF; rw [if_pos e])
  rcases fz_spec s p (c :: sg) hp with hz | ⟨i, hz, h1, h2, h3, _⟩
  · exact absurd hz hf
  · simp at h2; omega
theorem e_one (h : Ext s u t) {p : Nat} (hp : p < s.size) (c : UInt8) : hasAt u p [c] = hasAt s p [c] := by
  have hu : p < u.size := by have := e_le h; omega
  rw [has_cons hp, has_cons hu, e_u8 h hp, has_nil, has_nil]
theorem e_valGo (h : Ext s u t) {q : Int} : ∀ (f f' i : Nat), f ≤ f' → (valGo s q f i).1 ≠ 1 → valGo u q f' i = valGo s q f i
  | 0, f', i, _, hf => absurd rfl hf
  | f + 1, f', i, hle, hf => by
    obtain ⟨g, rfl⟩ : ∃ g, f' = g + 1 := ⟨f' - 1, by omega⟩
    by_cases hi : i < s.size
    · have hu : i < u.size := by have := e_le h; omega
      have hb := e_byte h hi
      by_cases h6 : byteAt s i = 60
      · rw [val_bad hi h6, val_bad hu (by rw [hb]; exact h6)]
      · by_cases hq : byteAt s i = q
        · rw [val_hit hi h6 hq, val_hit hu (by rw [hb]; exact h6) (by rw [hb]; exact hq)]
        · rw [val_on hi h6 hq] at hf ⊢
          rw [val_on hu (by rw [hb]; exact h6) (by rw [hb]; exact hq)]
          exact e_valGo h f g (i + 1) (by omega) hf
    · rw [val_end hi] at hf; exact absurd rfl hf
theorem val_lt {p : Nat} (h : valF s p ≠ 1) : p < s.size := Decidable.byContradiction fun hn => h (by unfold valF; rw [if_pos (by omega)])
theorem e_val (h : Ext s u t) {p : Nat} (hv : valF s p ≠ 1) : valF u p = valF s p ∧ (valF s p = 0 → valT u p = valT s p ∧ valP u p = valP s p) := by
  have hp := val_lt hv
  have hsz := e_le h
  have hb := e_byte h hp
  by_cases hq : quoteB (byteAt s p) = true
  · have e1 : valF s p = (valGo s (byteAt s p) (s.size + 1) (p + 1)).1 := by unfold valF; rw [if_neg (by omega), if_pos hq]
    have e2 : valF u p = (valGo u (byteAt s p) (u.size + 1) (p + 1)).1 := by unfold valF; rw [if_neg (by omega), hb, if_pos hq]
    have e := e_valGo h (q := byteAt s p) (s.size + 1) (u.size + 1) (p + 1) (by omega) (by rw [← e1]; exact hv)
    refine ⟨by rw [e2, e, e1], fun h0 => ?_⟩
    obtain ⟨_, _, hlt, _⟩ := val_spec h0
    have ee : valE u p = valE s p := by unfold valE; rw [hb, e]
    refine ⟨?_, by unfold valP; rw [ee]⟩
    unfold valT; rw [ee]; exact e_ext h (by omega)
  · have e1 : valF s p = 2 := by unfold valF; rw [if_neg (by omega), if_neg hq]
    have e2 : valF u p = 2 := by unfold valF; rw [if_neg (by omega), hb, if_neg hq]
    exact ⟨by rw [e1, e2], fun h0 => by rw [e1] at h0; cases h0⟩
theorem tag_sx (s nm : ByteArray) (f p : Nat) (acc : List (ByteArray × ByteArray)) : tagGo s nm (f + 1) p acc =
    if s.size ≤ whiteZ s p then failT 1
    else if byteAt s (whiteZ s p) = 62 then ⟨0, 1, nm, ByteArray.empty, acc, whiteZ s p + 1⟩
    else if byteAt s (whiteZ s p) = 47 then (if mustF s (whiteZ s p) [47, 62] = 0 then ⟨0, 3, nm, ByteArray.empty, acc, whiteZ s p + 2⟩ else failT (mustF s (whiteZ s p) [47, 62]))
    else if whiteZ s p = p then failT 2
    else if nmF s (whiteZ s p) ≠ 0 then failT (nmF s (whiteZ s p))
    else if mustF s (whiteZ s (nmP s (whiteZ s p))) [61] ≠ 0 then failT (mustF s (whiteZ s (nmP s (whiteZ s p))) [61])
    else if valF s (whiteZ s (whiteZ s (nmP s (whiteZ s p)) + 1)) ≠ 0 then failT (valF s (whiteZ s (whiteZ s (nmP s (whiteZ s p)) + 1)))
    else if hasZ acc (nmT s (whiteZ s p)) = true then failT 3
    else tagGo s nm f (valP s (whiteZ s (whiteZ s (nmP s (whiteZ s p)) + 1))) (acc ++ [(nmT s (whiteZ s p), valT s (whiteZ s (whiteZ s (nmP s (whiteZ s p)) + 1)))]) := by
  conv => lhs; unfold tagGo
theorem e_tagGo (h : Ext s u t) (h0 : VB s 0) {nm : ByteArray} : ∀ (f f' p : Nat) (acc : List (ByteArray × ByteArray)), f ≤ f' → VB s p → p ≤ s.size → (tagGo s nm f p acc).fl ≠ 1 → tagGo u nm f' p acc = tagGo s nm f p acc
  | 0, f', p, acc, _, _, _, hf => absurd rfl hf
  | f + 1, f', p, acc, hle, hv, hp, hf => by
    obtain ⟨g, rfl⟩ : ∃ g, f' = g + 1 := ⟨f' - 1, by omega⟩
    have hsz := e_le h
    rw [tag_sx] at hf ⊢
    rw [tag_sx s]
    by_cases c1 : s.size ≤ whiteZ s p
    · rw [if_pos c1] at hf; exact absurd rfl hf
    have ew := e_white h (p := p) (by omega)
    have hqv : VB s (whiteZ s p) := whiteZ_VB h0 hv
    rw [ew]
    generalize hq : whiteZ s p = q at *
    have hqp : p ≤ q := by rw [← hq]; exact whiteZ_ge s p
    have hb := e_byte h (i := q) (by omega)
    rw [if_neg c1] at hf ⊢
    rw [if_neg (show ¬ u.size ≤ q by omega), hb]
    by_cases c2 : byteAt s q = 62
    · rw [if_pos c2, if_pos c2]
    rw [if_neg c2] at hf ⊢
    rw [if_neg c2]
    by_cases c3 : byteAt s q = 47
    · rw [if_pos c3] at hf ⊢
      rw [if_pos c3]
      have hm : mustF s q [47, 62] ≠ 1 := fun e => by rw [e] at hf; exact hf rfl
      rw [e_must h (by omega) hm]
    rw [if_neg c3] at hf ⊢
    rw [if_neg c3]
    by_cases c4 : q = p
    · rw [if_pos c4, if_pos c4]
    rw [if_neg c4] at hf ⊢
    rw [if_neg c4]
    by_cases c5 : nmF s q ≠ 0
    · rw [if_pos c5] at hf ⊢
      have e := (e_nm h hqv hf).1
      rw [e, if_pos c5]
    rw [if_neg c5] at hf ⊢
    have c5' : nmF s q = 0 := by simpa using c5
    obtain ⟨e1, e2⟩ := e_nm h hqv (by rw [c5']; decide)
    obtain ⟨e3, e4⟩ := e2 c5'
    rw [e1, if_neg c5, e3, e4]
    obtain ⟨_, _, hnp, _⟩ := nm_spec c5'
    have hrv : VB s (whiteZ s (nmP s q)) := whiteZ_VB h0 (nm_VB hqv)
    have hrl := whiteZ_le (s := s) (p := nmP s q) (by omega)
    have hm1 : mustF s (whiteZ s (nmP s q)) [61] ≠ 1 := fun e => by rw [e] at hf; exact hf rfl
    have hr1 := must_lt hm1
    have ew2 := e_white h (p := nmP s q) hr1
    rw [ew2, e_must h hrl hm1]
    by_cases c6 : mustF s (whiteZ s (nmP s q)) [61] ≠ 0
    · rw [if_pos c6, if_pos c6]
    rw [if_neg c6] at hf ⊢
    rw [if_neg c6]
    have hm2 : valF s (whiteZ s (whiteZ s (nmP s q) + 1)) ≠ 1 := fun e => by rw [e] at hf; exact hf rfl
    have hv1 := val_lt hm2
    have ew3 := e_white h (p := whiteZ s (nmP s q) + 1) hv1
    obtain ⟨e5, e6⟩ := e_val h hm2
    rw [ew3, e5]
    by_cases c7 : valF s (whiteZ s (whiteZ s (nmP s q) + 1)) ≠ 0
    · rw [if_pos c7, if_pos c7]
    rw [if_neg c7] at hf ⊢
    rw [if_neg c7]
    have c7' : valF s (whiteZ s (whiteZ s (nmP s q) + 1)) = 0 := by simpa using c7
    obtain ⟨e7, e8⟩ := e6 c7'
    rw [e7, e8]
    by_cases c8 : hasZ acc (nmT s q) = true
    · rw [if_pos c8, if_pos c8]
    rw [if_neg c8] at hf ⊢
    rw [if_neg c8]
    obtain ⟨_, _, hlt, _⟩ := val_spec c7'
    exact e_tagGo h h0 f g _ _ (by omega) (val_VB h0 c7') (by unfold valP; omega) hf
theorem sub_no93 : ∀ (f p : Nat), p ≤ s.size → (∀ i, p ≤ i → i < s.size → byteAt s i ≠ 93) → (subGo s f p).1 = 1
  | 0, p, _, _ => rfl
  | f + 1, p, hp, hn => by
    have key : ∀ k (sg : List UInt8), p ≤ k → k ≤ s.size → (if upF s k sg = 0 then subGo s f (upP s k sg) else (1, p)).1 = 1 := fun k sg hk hks => by
      by_cases hu : upF s k sg = 0
      · rw [if_pos hu]
        obtain ⟨a, b, c⟩ := up_le hks hu
        exact sub_no93 f _ a (fun i hi => hn i (by omega))
      · rw [if_neg hu]
    unfold subGo
    by_cases h1 : p < s.size
    · rw [if_pos h1, if_neg (hn p (Nat.le_refl _) h1)]
      by_cases h2 : byteAt s p = 34
      · rw [if_pos h2]; exact key _ _ (by omega) (by omega)
      rw [if_neg h2]
      by_cases h3 : byteAt s p = 39
      · rw [if_pos h3]; exact key _ _ (by omega) (by omega)
      rw [if_neg h3]
      by_cases h4 : hasAt s p [60, 33, 45, 45] = true
      · rw [if_pos h4]; have := has_room h4 hp; exact key _ _ (by omega) (by simpa using this)
      rw [if_neg h4]
      by_cases h5 : hasAt s p [60, 63] = true
      · rw [if_pos h5]; have := has_room h5 hp; exact key _ _ (by omega) (by simpa using this)
      rw [if_neg h5]
      exact sub_no93 f _ (by omega) (fun i hi => hn i (by omega))
    · rw [if_neg h1]
theorem pre_bytes : ∀ {sg : List UInt8} {p : Nat}, (rest s p).isPrefixOf sg = true → (∀ c ∈ sg, c.toNat ≠ 93) → ∀ i, p ≤ i → i < s.size → byteAt s i ≠ 93
  | [], p, h, _, i, hi, his => by
    have := pre_len h; rw [rest_len] at this; simp at this; omega
  | c :: sg, p, h, hc, i, hi, his => by
    have hp : p < s.size := by omega
    rw [pre_cons hp] at h
    simp only [Bool.and_eq_true, beq_iff_eq] at h
    by_cases e : i = p
    · subst e
      rw [(u8At_eq (s := s) (p := i)).2 h.1]
      have := hc c (by simp)
      omega
    · exact pre_bytes h.2 (fun d hd => hc d (by simp [hd])) i (by omega) his
theorem e_subGo (h : Ext s u t) : ∀ (f f' p : Nat), f ≤ f' → p ≤ s.size → (subGo s f p).1 ≠ 1 → subGo u f' p = subGo s f p
  | 0, f', p, _, _, hf => absurd rfl hf
  | f + 1, f', p, hle, hp, hf => by
    obtain ⟨g, rfl⟩ : ∃ g, f' = g + 1 := ⟨f' - 1, by omega⟩
    have hsz := e_le h
    have hsign : ∀ sg : List UInt8, (∀ c ∈ sg, c.toNat ≠ 93) → hasAt s p sg = false → hasAt u p sg = false := fun sg hc hs => by
      refine (e_hasNo h hp hs ?_).1
      cases h2 : (rest s p).isPrefixOf sg with
      | false => rfl
      | true => exact absurd (sub_no93 (f + 1) p hp (pre_bytes h2 hc)) hf
    have key : ∀ k (c : UInt8) (sg : List UInt8), k ≤ s.size → (if upF s k (c :: sg) = 0 then subGo s f (upP s k (c :: sg)) else (1, p)).1 ≠ 1 → (if upF u k (c :: sg) = 0 then subGo u g (upP u k (c :: sg)) else (1, p)) = (if upF s k (c :: sg) = 0 then subGo s f (upP s k (c :: sg)) else (1, p)) := fun k c sg hk hh => by
      by_cases hu : upF s k (c :: sg) = 0
      · rw [if_pos hu] at hh ⊢
        obtain ⟨_, e2, _, e4⟩ := e_up (sg := c :: sg) h (List.cons_ne_nil _ _) hk (by rw [hu]; decide)
        obtain ⟨a, _, _⟩ := up_le hk hu
        rw [if_pos e2, e4]
        exact e_subGo h f g _ (by omega) a hh
      · rw [if_neg hu] at hh; exact absurd rfl hh
    unfold subGo at hf ⊢
    by_cases h1 : p < s.size
    · have hb := e_byte h h1
      rw [if_pos h1] at hf ⊢
      rw [if_pos (show p < u.size by omega), hb]
      by_cases c1 : byteAt s p = 93
      · rw [if_pos c1, if_pos c1]
      rw [if_neg c1] at hf ⊢
      rw [if_neg c1]
      by_cases c2 : byteAt s p = 34
      · rw [if_pos c2] at hf ⊢; rw [if_pos c2]; exact key _ _ _ (by omega) hf
      rw [if_neg c2] at hf ⊢
      rw [if_neg c2]
      by_cases c3 : byteAt s p = 39
      · rw [if_pos c3] at hf ⊢; rw [if_pos c3]; exact key _ _ _ (by omega) hf
      rw [if_neg c3] at hf ⊢
      rw [if_neg c3]
      by_cases c4 : hasAt s p [60, 33, 45, 45] = true
      · rw [if_pos c4] at hf ⊢; rw [if_pos (e_has h hp c4)]
        have := has_room c4 hp
        exact key _ _ _ (by simpa using this) hf
      rw [if_neg c4] at hf ⊢
      rw [if_neg (by rw [hsign _ (by decide) (by simpa using c4)]; simp)]
      by_cases c5 : hasAt s p [60, 63] = true
      · rw [if_pos c5] at hf ⊢; rw [if_pos (e_has h hp c5)]
        have := has_room c5 hp
        exact key _ _ _ (by simpa using this) hf
      rw [if_neg c5] at hf ⊢
      rw [if_neg (by rw [hsign _ (by decide) (by simpa using c5)]; simp)]
      exact e_subGo h f g _ (by omega) (by omega) hf
    · rw [if_neg h1] at hf; exact absurd rfl hf
end Go.Proofs.YtefahocflhlgiaaGreatDoor.Plain19
