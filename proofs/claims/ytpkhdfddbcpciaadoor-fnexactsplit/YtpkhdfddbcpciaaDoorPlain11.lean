/- Plain mathematics: where characters begin in a text that is all characters; the characters of a text's end. Nothing of the program is named here. -/
import Derived.Test.YtpkhdfddbcpciaaDoorPlain10
namespace Go.Proofs.YtpkhdfddbcpciaaDoor.Plain11
open Plain1 Plain2 Strs Plain3 Plain4 Plain5 Plain6 Plain9 Plain10

theorem fin_two {s : ByteArray} {pos n : Nat} {x0 low : Int} (h : (fin s pos x0 n low).2 ≠ 0) : (fin s pos x0 n low).2 = n ∧ conts s pos n := by
  unfold fin at h ⊢
  split at h
  · rename_i hh; rw [if_pos hh]; exact ⟨rfl, hh.2.1⟩
  · simp at h
/-- A character's bytes: the first goes on nothing; the others do, and each stands behind one of 128 or more. -/
theorem rune_bytes {s : ByteArray} {pos : Nat} (h : (runeZ s pos).2 ≠ 0) : ¬ goesOn s pos ∧ ∀ k, 1 ≤ k → k < (runeZ s pos).2 → goesOn s (pos + k) ∧ 128 ≤ byteAt s (pos + k - 1) := by
  have key : ∀ (x0 : Int) (n : Nat) (low : Int), (n ≤ 1 ∨ 128 ≤ byteAt s pos) → (fin s pos x0 n low).2 ≠ 0 → ∀ k, 1 ≤ k → k < (fin s pos x0 n low).2 → goesOn s (pos + k) ∧ 128 ≤ byteAt s (pos + k - 1) := by
    intro x0 n low hb hf k h1 h2
    obtain ⟨e, hc⟩ := fin_two hf
    rw [e] at h2
    refine ⟨conts_iff.1 hc k h2 h1, ?_⟩
    by_cases hk : k = 1
    · subst hk; rcases hb with hb | hb
      · omega
      · simpa using hb
    · have := (conts_iff.1 hc (k - 1) (by omega) (by omega)).1
      rw [show pos + k - 1 = pos + (k - 1) by omega]; exact this
  unfold runeZ at h ⊢
  unfold goesOn at key ⊢
  by_cases c1 : byteAt s pos < 128
  · rw [if_pos c1] at h ⊢; exact ⟨by omega, key _ 1 _ (by omega) h⟩
  rw [if_neg c1] at h ⊢
  by_cases c2 : 192 ≤ byteAt s pos ∧ byteAt s pos < 224
  · rw [if_pos c2] at h ⊢; exact ⟨by omega, key _ _ _ (by omega) h⟩
  rw [if_neg c2] at h ⊢
  by_cases c3 : 224 ≤ byteAt s pos ∧ byteAt s pos < 240
  · rw [if_pos c3] at h ⊢; exact ⟨by omega, key _ _ _ (by omega) h⟩
  rw [if_neg c3] at h ⊢
  by_cases c4 : 240 ≤ byteAt s pos ∧ byteAt s pos < 248
  · rw [if_pos c4] at h ⊢; exact ⟨by omega, key _ _ _ (by omega) h⟩
  rw [if_neg c4] at h; exact absurd rfl h
/-- From a place on all is characters. -/
def VB (s : ByteArray) (p : Nat) : Prop := ∃ f l, s.size ≤ p + f ∧ scanR s f p = some l
theorem VB_end {s : ByteArray} {p : Nat} (h : s.size ≤ p) : VB s p := ⟨0, [], by omega, rfl⟩
theorem VB_step {s : ByteArray} {p : Nat} (h : VB s p) (hp : p < s.size) : (runeZ s p).2 ≠ 0 ∧ VB s (p + (runeZ s p).2) := by
  obtain ⟨f, l, hf, hl⟩ := h
  obtain ⟨f', rfl⟩ : ∃ f', f = f' + 1 := ⟨f - 1, by omega⟩
  unfold scanR at hl
  rw [if_pos hp] at hl
  split at hl
  · cases hl
  · rename_i hr
    cases hm : scanR s f' (p + (runeZ s p).2) with
    | none => rw [hm] at hl; cases hl
    | some m => exact ⟨hr, f', m, by omega, hm⟩
theorem VB_all {s : ByteArray} (h : (scanAll s).2 < 0) : VB s 0 := by
  rcases scan_R (s := s) (s.size + 1) 0 [] with ⟨l, h1, _⟩ | ⟨_, h2⟩
  · exact ⟨s.size + 1, l, by omega, h1⟩
  · unfold scanAll at h; omega
theorem VB_from {s : ByteArray} : ∀ (n i p : Nat), VB s i → s.size ≤ i + n → i ≤ p → p < s.size → VB s p ∨ (goesOn s p ∧ 1 ≤ p ∧ 128 ≤ byteAt s (p - 1))
  | 0, i, p, hv, hn, hi, hp => by omega
  | n + 1, i, p, hv, hn, hi, hp => by
    by_cases he : p = i
    · subst he; exact .inl hv
    · obtain ⟨hr, hv2⟩ := VB_step hv (by omega)
      by_cases hl : p < i + (runeZ s i).2
      · have := (rune_bytes hr).2 (p - i) (by omega) (by omega)
        rw [show i + (p - i) = p by omega] at this
        exact .inr ⟨this.1, by omega, this.2⟩
      · exact VB_from n _ p hv2 (by omega) (by omega) hp
/-- Where no byte goes on another, a character begins. -/
theorem VB_at {s : ByteArray} {p : Nat} (h : VB s 0) (hg : ¬ goesOn s p) : VB s p := by
  by_cases hp : p < s.size
  · rcases VB_from s.size 0 p h (by omega) (by omega) hp with h1 | h1
    · exact h1
    · exact absurd h1.1 hg
  · exact VB_end (by omega)
/-- Behind a byte below 128 a character begins. -/
theorem VB_behind {s : ByteArray} {p : Nat} (h : VB s 0) (h1 : 1 ≤ p) (hb : byteAt s (p - 1) < 128) : VB s p := by
  by_cases hp : p < s.size
  · rcases VB_from s.size 0 p h (by omega) (by omega) hp with h2 | h2
    · exact h2
    · omega
  · exact VB_end (by omega)
theorem nameGo_VB {s : ByteArray} {p : Nat} : ∀ (f n : Nat), VB s (p + n) → VB s (p + nameGo s p f n)
  | 0, n, h => h
  | f + 1, n, h => by
    by_cases hl : p + n < s.size
    · by_cases hs : stops s p n
      · rw [nameGo_stop hl hs]; exact h
      · rw [nameGo_on hl hs]
        exact nameGo_VB f _ (by rw [← Nat.add_assoc]; exact (VB_step h hl).2)
    · rw [nameGo_end (by omega)]; exact h
theorem nameZ_VB {s : ByteArray} {p : Nat} (h : VB s p) : VB s (p + nameZ s p) := nameGo_VB _ _ h
theorem byteAt_of_cons {s : ByteArray} {p : Nat} {c : UInt8} {t : List UInt8} (h : hasAt s p (c :: t) = true) (hp : p < s.size) : byteAt s p = (c.toNat : Int) := by
  unfold hasAt at h
  rw [rest_cons hp] at h
  simp only [List.isPrefixOf, Bool.and_eq_true, beq_iff_eq] at h
  rw [byteAt_head, ← h.1]
theorem has_tail {s : ByteArray} {p : Nat} {c : UInt8} {t : List UInt8} (h : hasAt s p (c :: t) = true) (hp : p < s.size) : hasAt s (p + 1) t = true := by
  unfold hasAt at h ⊢
  rw [rest_cons hp] at h
  simp only [List.isPrefixOf, Bool.and_eq_true] at h
  exact h.2
/-- A sign's bytes as they stand there. -/
theorem has_byte {s : ByteArray} : ∀ {sg : List UInt8} {p : Nat}, hasAt s p sg = true → p ≤ s.size → ∀ k, k < sg.length → byteAt s (p + k) = ((sg.getD k 0).toNat : Int)
  | [], p, h, hp, k, hk => by simp at hk
  | c :: t, p, h, hp, k, hk => by
    have hr := has_room h hp
    simp only [List.length_cons] at hr hk
    cases k with
    | zero => exact byteAt_of_cons h (by omega)
    | succ k =>
      have := has_byte (has_tail h (by omega)) (by omega) k (by omega)
      rw [show p + (k + 1) = p + 1 + k by omega, this]
      rfl
theorem VB_sign {s : ByteArray} {p : Nat} {sg : List UInt8} (h : VB s 0) (hs : hasAt s p sg = true) (hp : p ≤ s.size) (h0 : 1 ≤ sg.length) (ha : (sg.getD (sg.length - 1) 0).toNat < 128) : VB s (p + sg.length) := by
  apply VB_behind h (by omega)
  rw [show p + sg.length - 1 = p + (sg.length - 1) by omega, has_byte hs hp _ (by omega)]
  omega
theorem whiteGo_VB {s : ByteArray} (h0 : VB s 0) : ∀ (f i : Nat), VB s i → VB s (whiteGo s f i)
  | 0, i, h => h
  | f + 1, i, h => by
    by_cases hw : i < s.size ∧ whiteB (byteAt s i) = true
    · rw [whiteGo_on hw]
      refine whiteGo_VB h0 f _ (VB_behind h0 (by omega) ?_)
      have := of_decide_eq_true hw.2
      rw [Nat.add_sub_cancel]; omega
    · rw [whiteGo_stop hw]; exact h
theorem whiteZ_VB {s : ByteArray} {p : Nat} (h0 : VB s 0) (h : VB s p) : VB s (whiteZ s p) := whiteGo_VB h0 _ _ h
theorem up_VB {s : ByteArray} {p : Nat} {sg : List UInt8} (h0 : VB s 0) (hp : p ≤ s.size) (hf : upF s p sg = 0) (h1 : 1 ≤ sg.length) (ha : (sg.getD (sg.length - 1) 0).toNat < 128) : VB s (upP s p sg) := by
  unfold upF at hf
  unfold upP
  rcases fz_spec s p sg hp with h | ⟨i, h, hpi, hr, ho, _⟩
  · rw [if_pos h] at hf; cases hf
  · rw [h, Int.toNat_natCast]; exact VB_sign h0 ho (by omega) h1 ha
theorem up_le {s : ByteArray} {p : Nat} {sg : List UInt8} (hp : p ≤ s.size) (hf : upF s p sg = 0) : upP s p sg ≤ s.size ∧ p ≤ upP s p sg - sg.length ∧ sg.length ≤ upP s p sg := by
  unfold upF at hf
  unfold upP
  rcases fz_spec s p sg hp with h | ⟨i, h, hpi, hr, ho, _⟩
  · rw [if_pos h] at hf; cases hf
  · rw [h, Int.toNat_natCast]; omega
theorem must_has {s : ByteArray} {p : Nat} {sg : List UInt8} : mustF s p sg = 0 ↔ hasAt s p sg = true := by
  unfold mustF
  constructor
  · intro h
    by_cases hh : hasAt s p sg = true
    · exact hh
    · rw [if_neg hh] at h; unfold lackZ at h; split at h <;> cases h
  · intro h; rw [if_pos h]
theorem valGo_spec {s : ByteArray} {q : Int} : ∀ (f i : Nat), (valGo s q f i).1 = 0 → i ≤ (valGo s q f i).2 ∧ (valGo s q f i).2 < s.size ∧ byteAt s (valGo s q f i).2 = q
  | 0, i, h => by simp [valGo] at h
  | f + 1, i, h => by
    by_cases hi : i < s.size
    · by_cases hb : byteAt s i = 60
      · rw [val_bad hi hb] at h; cases h
      · by_cases hq : byteAt s i = q
        · rw [val_hit hi hb hq]; exact ⟨Nat.le_refl _, hi, hq⟩
        · rw [val_on hi hb hq] at h ⊢
          have := valGo_spec f (i + 1) h
          exact ⟨by omega, this.2⟩
    · rw [val_end hi] at h; cases h
theorem val_spec {s : ByteArray} {p : Nat} (h : valF s p = 0) : p < s.size ∧ p + 1 ≤ valE s p ∧ valE s p < s.size ∧ (byteAt s (valE s p) = 34 ∨ byteAt s (valE s p) = 39) := by
  unfold valF at h
  by_cases hp : s.size ≤ p
  · rw [if_pos hp] at h; cases h
  · rw [if_neg hp] at h
    by_cases hq : quoteB (byteAt s p) = true
    · rw [if_pos hq] at h
      have := valGo_spec _ _ h
      have hq' := of_decide_eq_true hq
      unfold valE
      refine ⟨by omega, this.1, this.2.1, ?_⟩
      rw [this.2.2]; exact hq'
    · rw [if_neg hq] at h; cases h
theorem val_VB {s : ByteArray} {p : Nat} (h0 : VB s 0) (h : valF s p = 0) : VB s (valP s p) := by
  have hv := val_spec h
  refine VB_behind h0 (by unfold valP; omega) ?_
  unfold valP
  rw [Nat.add_sub_cancel]; omega
theorem nm_spec {s : ByteArray} {p : Nat} (h : nmF s p = 0) : 1 ≤ nameZ s p ∧ nameZ s p ≤ 60 ∧ nmP s p < s.size ∧ nmP s p = p + nameZ s p := by
  unfold nmF at h
  unfold nmP
  by_cases h1 : 60 < nameZ s p
  · rw [if_pos h1] at h; cases h
  · rw [if_neg h1] at h
    by_cases h2 : s.size ≤ p + nameZ s p
    · rw [if_pos h2] at h; cases h
    · rw [if_neg h2] at h
      by_cases h3 : nameZ s p = 0
      · rw [if_pos h3] at h; cases h
      · omega
theorem nm_VB {s : ByteArray} {p : Nat} (h : VB s p) : VB s (nmP s p) := nameZ_VB h
theorem byteAt_ext {s : ByteArray} {p i : Nat} (_hi : p + i < s.size) : byteAt (s.extract p s.size) i = byteAt s (p + i) := by
  unfold byteAt
  rw [ext_rest]; unfold rest
  simp only [List.getD_eq_getElem?_getD, List.getElem?_drop]
theorem ext_sz (s : ByteArray) (p : Nat) : (s.extract p s.size).size = s.size - p := by rw [ext_size (Nat.le_refl _)]
theorem vz_ext {s : ByteArray} {p i : Nat} (x0 : Int) : ∀ n, p + i + n < s.size + 0 ∨ n = 0 → vz (s.extract p s.size) i x0 n = vz s (p + i) x0 n
  | 0, _ => rfl
  | n + 1, h => by
    have h' : p + i + (n + 1) < s.size := by omega
    have hb := byteAt_ext (s := s) (p := p) (i := i + (n + 1)) (by omega)
    have ih := vz_ext (s := s) (p := p) (i := i) x0 n (by omega)
    have e := vz_step (s.extract p s.size) i x0 (n + 1) (by omega)
    have e' := vz_step s (p + i) x0 (n + 1) (by omega)
    simp only [Nat.add_sub_cancel] at e e'
    rw [e, e', hb, ih, Nat.add_assoc]
theorem conts_ext {s : ByteArray} {p i n : Nat} (h : p + i + n ≤ s.size) : conts (s.extract p s.size) i n ↔ conts s (p + i) n := by
  rw [conts_iff, conts_iff]
  constructor
  · intro hh k hk h1
    have := hh k hk h1
    unfold goesOn at this ⊢
    rw [byteAt_ext (by omega)] at this
    rw [Nat.add_assoc]; exact this
  · intro hh k hk h1
    have := hh k hk h1
    unfold goesOn at this ⊢
    rw [byteAt_ext (by omega)]
    rw [Nat.add_assoc] at this; exact this
theorem fin_ext {s : ByteArray} {p i n : Nat} {x0 low : Int} (hp : p ≤ s.size) (hn : 1 ≤ n) : fin (s.extract p s.size) i x0 n low = fin s (p + i) x0 n low := by
  unfold fin
  rw [ext_sz]
  by_cases h : p + i + n ≤ s.size
  · have e := vz_ext (s := s) (p := p) (i := i) x0 (n - 1) (by omega)
    rw [e]
    have c := conts_ext (s := s) (p := p) (i := i) (n := n) h
    have hr : (i + n ≤ s.size - p) ↔ (p + i + n ≤ s.size) := by omega
    simp only [hr, c]
  · rw [if_neg (by omega), if_neg (by omega)]
theorem rune_ext {s : ByteArray} {p i : Nat} (h : p + i < s.size) : runeZ (s.extract p s.size) i = runeZ s (p + i) := by
  unfold runeZ
  rw [byteAt_ext h]
  simp only [fin_ext (s := s) (p := p) (i := i) (by omega : p ≤ s.size) (by omega : 1 ≤ 1), fin_ext (s := s) (p := p) (i := i) (by omega : p ≤ s.size) (by omega : 1 ≤ 2), fin_ext (s := s) (p := p) (i := i) (by omega : p ≤ s.size) (by omega : 1 ≤ 3), fin_ext (s := s) (p := p) (i := i) (by omega : p ≤ s.size) (by omega : 1 ≤ 4)]
end Go.Proofs.YtpkhdfddbcpciaaDoor.Plain11
