/- Plain mathematics: what the law of Next asks: told alike when it goes on or is closed; the place goes forward; short no more when it is closed. -/
import Derived.Test.YtefahocflhlgiaaGreatDoorPlain21
namespace Go.Proofs.YtefahocflhlgiaaGreatDoor.Plain22
open Plain1 Plain2 Strs Plain3 Plain4 Plain5 Plain6 Plain9 Plain10 Plain11 Plain12 Plain14 Plain15 Plain16 Plain18 Plain19 Plain20 Plain21
variable {s u : ByteArray} {t : List UInt8}

theorem fl_ne {f : Nat} (h : f ≠ 0) : (failT f).fl ≠ 0 := h
theorem tagGo_pos {nm : ByteArray} : ∀ (f p : Nat) (acc : List (ByteArray × ByteArray)), (tagGo s nm f p acc).fl = 0 → p ≤ (tagGo s nm f p acc).pos
  | 0, p, acc, h => by cases h
  | f + 1, p, acc, h => by
    have hq := whiteZ_ge s p
    rw [tag_sx] at h ⊢
    by_cases c1 : s.size ≤ whiteZ s p
    · rw [if_pos c1] at h; cases h
    rw [if_neg c1] at h ⊢
    by_cases c2 : byteAt s (whiteZ s p) = 62
    · rw [if_pos c2]; show p ≤ whiteZ s p + 1; omega
    rw [if_neg c2] at h ⊢
    by_cases c3 : byteAt s (whiteZ s p) = 47
    · rw [if_pos c3] at h ⊢
      by_cases d : mustF s (whiteZ s p) [47, 62] = 0
      · rw [if_pos d]; show p ≤ whiteZ s p + 2; omega
      · rw [if_neg d] at h; exact absurd h (fl_ne d)
    rw [if_neg c3] at h ⊢
    by_cases c4 : whiteZ s p = p
    · rw [if_pos c4] at h; cases h
    rw [if_neg c4] at h ⊢
    by_cases c5 : nmF s (whiteZ s p) ≠ 0
    · rw [if_pos c5] at h; exact absurd h (fl_ne c5)
    rw [if_neg c5] at h ⊢
    by_cases c6 : mustF s (whiteZ s (nmP s (whiteZ s p))) [61] ≠ 0
    · rw [if_pos c6] at h; exact absurd h (fl_ne c6)
    rw [if_neg c6] at h ⊢
    by_cases c7 : valF s (whiteZ s (whiteZ s (nmP s (whiteZ s p)) + 1)) ≠ 0
    · rw [if_pos c7] at h; exact absurd h (fl_ne c7)
    rw [if_neg c7] at h ⊢
    by_cases c8 : hasZ acc (nmT s (whiteZ s p)) = true
    · rw [if_pos c8] at h; cases h
    rw [if_neg c8] at h ⊢
    have := tagGo_pos f _ _ h
    refine Nat.le_trans ?_ this
    have c5' : nmF s (whiteZ s p) = 0 := by simpa using c5
    have c7' : valF s (whiteZ s (whiteZ s (nmP s (whiteZ s p)) + 1)) = 0 := by simpa using c7
    obtain ⟨_, _, _, e4⟩ := nm_spec c5'
    obtain ⟨_, v2, _, _⟩ := val_spec c7'
    have w1 := whiteZ_ge s (nmP s (whiteZ s p))
    have w2 := whiteZ_ge s (whiteZ s (nmP s (whiteZ s p)) + 1)
    unfold valP
    omega
theorem comment_pos {k : Nat} (hk : k ≤ s.size) (h : (commentZ s k).fl = 0) : k ≤ (commentZ s k).pos := by
  unfold commentZ at h ⊢
  by_cases c1 : upF s k [45, 45] ≠ 0
  · rw [if_pos c1] at h; exact absurd h (fl_ne c1)
  rw [if_neg c1] at h ⊢
  obtain ⟨_, b, c⟩ := up_le hk (show upF s k [45, 45] = 0 by simpa using c1)
  by_cases c2 : mustF s (upP s k [45, 45]) [62] = 0
  · rw [if_pos c2]; show k ≤ upP s k [45, 45] + 1; omega
  · rw [if_neg c2] at h; exact absurd h (fl_ne c2)
theorem cdata_pos {k : Nat} (hk : k ≤ s.size) (h : (cdataZ s k).fl = 0) : k ≤ (cdataZ s k).pos := by
  unfold cdataZ at h ⊢
  by_cases c1 : upF s k [93, 93, 62] = 0
  · rw [if_pos c1]
    obtain ⟨_, b, c⟩ := up_le hk c1
    show k ≤ upP s k [93, 93, 62]; omega
  · rw [if_neg c1] at h; exact absurd h (fl_ne c1)
theorem end_pos {k : Nat} (h : (endZ s k).fl = 0) : k ≤ (endZ s k).pos := by
  unfold endZ at h ⊢
  dsimp only at h ⊢
  by_cases c1 : nmF s k ≠ 0
  · rw [if_pos c1] at h; exact absurd h (fl_ne c1)
  rw [if_neg c1] at h ⊢
  have w := whiteZ_ge s (nmP s k)
  have hn : k ≤ nmP s k := Nat.le_add_right _ _
  by_cases c2 : mustF s (whiteZ s (nmP s k)) [62] = 0
  · rw [if_pos c2]; show k ≤ whiteZ s (nmP s k) + 1; omega
  · rw [if_neg c2] at h; exact absurd h (fl_ne c2)
theorem pi_pos {k : Nat} (h : (piZ s k).fl = 0) : k ≤ (piZ s k).pos := by
  unfold piZ at h ⊢
  dsimp only at h ⊢
  by_cases c1 : nmF s k ≠ 0
  · rw [if_pos c1] at h; exact absurd h (fl_ne c1)
  rw [if_neg c1] at h ⊢
  have c1' : nmF s k = 0 := by simpa using c1
  obtain ⟨_, _, hnp, _⟩ := nm_spec c1'
  have w := whiteZ_ge s (nmP s k)
  have wl := whiteZ_le (s := s) (p := nmP s k) (by omega)
  have hn : k ≤ nmP s k := Nat.le_add_right _ _
  by_cases c2 : xmlB (nmT s k) = true
  · rw [if_pos c2] at h; cases h
  rw [if_neg c2] at h ⊢
  by_cases c3 : nmP s k < whiteZ s (nmP s k)
  · rw [if_pos c3] at h ⊢
    by_cases c4 : upF s (whiteZ s (nmP s k)) [63, 62] = 0
    · rw [if_pos c4]
      obtain ⟨_, b, c⟩ := up_le wl c4
      show k ≤ upP s (whiteZ s (nmP s k)) [63, 62]; omega
    · rw [if_neg c4] at h; exact absurd h (fl_ne c4)
  · rw [if_neg c3] at h ⊢
    by_cases c4 : mustF s (whiteZ s (nmP s k)) [63, 62] = 0
    · rw [if_pos c4]; show k ≤ whiteZ s (nmP s k) + 2; omega
    · rw [if_neg c4] at h; exact absurd h (fl_ne c4)
theorem doctype_pos {k : Nat} (h : (doctypeZ s k).fl = 0) : k ≤ (doctypeZ s k).pos := by
  unfold doctypeZ at h ⊢
  dsimp only at h ⊢
  have w0 := whiteZ_ge s k
  by_cases c1 : whiteZ s k = k
  · rw [if_pos c1] at h
    by_cases c : s.size ≤ k
    · rw [if_pos c] at h; cases h
    · rw [if_neg c] at h; cases h
  rw [if_neg c1] at h ⊢
  by_cases c2 : nmF s (whiteZ s k) ≠ 0
  · rw [if_pos c2] at h; exact absurd h (fl_ne c2)
  rw [if_neg c2] at h ⊢
  have c2' : nmF s (whiteZ s k) = 0 := by simpa using c2
  obtain ⟨_, _, hnp, _⟩ := nm_spec c2'
  have w := whiteZ_ge s (nmP s (whiteZ s k))
  have hrl := whiteZ_le (s := s) (p := nmP s (whiteZ s k)) (by omega)
  have hn : whiteZ s k ≤ nmP s (whiteZ s k) := Nat.le_add_right _ _
  by_cases c3 : hasAt s (whiteZ s (nmP s (whiteZ s k))) [91] = true
  · rw [if_pos c3] at h ⊢
    have hroom := has_room c3 hrl
    simp at hroom
    by_cases c4 : subF s (whiteZ s (nmP s (whiteZ s k)) + 1) ≠ 0
    · rw [if_pos c4] at h; exact absurd h (fl_ne c4)
    rw [if_neg c4] at h ⊢
    have hsr := subGo_room (s := s) (s.size + 1) (whiteZ s (nmP s (whiteZ s k)) + 1) (by omega) (show subF s _ = 0 by simpa using c4)
    have hs2 : whiteZ s (nmP s (whiteZ s k)) + 1 < subP s (whiteZ s (nmP s (whiteZ s k)) + 1) := hsr.1
    have w2 := whiteZ_ge s (subP s (whiteZ s (nmP s (whiteZ s k)) + 1))
    by_cases c5 : mustF s (whiteZ s (subP s (whiteZ s (nmP s (whiteZ s k)) + 1))) [62] = 0
    · rw [if_pos c5]; show k ≤ whiteZ s (subP s (whiteZ s (nmP s (whiteZ s k)) + 1)) + 1; omega
    · rw [if_neg c5] at h; exact absurd h (fl_ne c5)
  · rw [if_neg c3] at h ⊢
    by_cases c5 : mustF s (whiteZ s (nmP s (whiteZ s k))) [62] = 0
    · rw [if_pos c5]; show k ≤ whiteZ s (nmP s (whiteZ s k)) + 1; omega
    · rw [if_neg c5] at h; exact absurd h (fl_ne c5)
theorem tag_pos {k : Nat} (h : (tagZ s k).fl = 0) : k ≤ (tagZ s k).pos := by
  unfold tagZ at h ⊢
  by_cases c1 : nmF s k ≠ 0
  · rw [if_pos c1] at h; exact absurd h (fl_ne c1)
  rw [if_neg c1] at h ⊢
  have := tagGo_pos _ _ _ h
  exact Nat.le_trans (Nat.le_add_right _ _) this
theorem mark_pos {p : Nat} (hp : p < s.size) (h60 : byteAt s p = 60) (h : (markZ s p).fl = 0) : p < (markZ s p).pos := by
  by_cases h1 : s.size ≤ p + 1
  · rw [mark_end1 hp h60 h1] at h; cases h
  have hp1 : p + 1 < s.size := by omega
  by_cases c1 : byteAt s (p + 1) = 47
  · rw [mark_slash hp1 h60 c1] at h ⊢; have := end_pos h; omega
  by_cases c2 : byteAt s (p + 1) = 63
  · rw [mark_pi hp1 h60 c2] at h ⊢; have := pi_pos h; omega
  by_cases c3 : byteAt s (p + 1) = 33
  · by_cases h2 : s.size ≤ p + 2
    · rw [mark_excl_end hp1 h60 c3 h2] at h; cases h
    have hp2 : p + 2 < s.size := by omega
    by_cases d1 : byteAt s (p + 2) = 45
    · rw [mark_dash hp2 h60 c3 d1] at h ⊢
      by_cases hz : mustF s (p + 2) [45, 45] = 0
      · rw [if_pos hz] at h ⊢
        have := has_room (must_has.1 hz) (by omega)
        have := comment_pos (by simp at this; omega) h
        omega
      · rw [if_neg hz] at h; exact absurd h (fl_ne hz)
    by_cases d2 : byteAt s (p + 2) = 91
    · rw [mark_brack hp2 h60 c3 d2] at h ⊢
      by_cases hz : mustF s (p + 2) [91, 67, 68, 65, 84, 65, 91] = 0
      · rw [if_pos hz] at h ⊢
        have := has_room (must_has.1 hz) (by omega)
        have := cdata_pos (by simp at this; omega) h
        omega
      · rw [if_neg hz] at h; exact absurd h (fl_ne hz)
    · rw [mark_doc hp2 h60 c3 d1 d2] at h ⊢
      by_cases hz : mustF s (p + 2) [68, 79, 67, 84, 89, 80, 69] = 0
      · rw [if_pos hz] at h ⊢
        have := doctype_pos h
        omega
      · rw [if_neg hz] at h; exact absurd h (fl_ne hz)
  · rw [mark_tag hp1 h60 c1 c2 c3] at h ⊢; have := tag_pos h; omega
theorem text_pos {p : Nat} (hp : p < s.size) (h60 : byteAt s p ≠ 60) (c : Bool) (h : (textZ s p c).fl = 0) : p < (textZ s p c).pos := by
  have e : (textZ s p c).pos = textE s p := by
    unfold textZ at h ⊢
    by_cases c1 : Lib.index (s.extract p (textE s p)).data.toList [93, 93, 62] ≠ -1
    · rw [if_pos c1] at h; cases h
    rw [if_neg c1] at h ⊢
    by_cases c2 : textE s p = s.size ∧ c = false
    · rw [if_pos c2] at h; cases h
    · rw [if_neg c2]
  rw [e]
  unfold textE
  rcases fz_spec s p [60] (by omega) with hz | ⟨i, hz, h1, h2, h3, _⟩
  · rw [if_pos hz]; exact hp
  · rw [if_neg (by omega), hz]
    have : p ≠ i := fun e => by
      subst e
      rw [one_sign hp 60 60 rfl] at h3
      exact h60 (of_decide_eq_true h3)
    show p < i; omega
theorem out_code {T : Tk} {c : Bool} (hle : T.fl ≤ 3) : (outOf T c).code = 0 ∧ T.fl = 0 ∨ (outOf T c).code = 3 ∧ (T.fl = 2 ∨ (T.fl = 1 ∧ c = true)) ∨ (outOf T c).code = 6 ∧ T.fl = 3 ∨ (outOf T c).code = 4 ∧ T.fl = 1 ∧ c = false := by
  have : T.fl = 0 ∨ T.fl = 1 ∨ T.fl = 2 ∨ T.fl = 3 := by omega
  unfold outOf
  rcases this with h | h | h | h
  · rw [if_pos h]; exact .inl ⟨rfl, h⟩
  · rw [if_neg (by omega), h]; cases c
    · exact .inr (.inr (.inr ⟨rfl, rfl, rfl⟩))
    · exact .inr (.inl ⟨rfl, .inr ⟨rfl, rfl⟩⟩)
  · rw [if_neg (by omega), h]; exact .inr (.inl ⟨by cases c <;> rfl, .inl rfl⟩)
  · rw [if_neg (by omega), h]; exact .inr (.inr (.inl ⟨by cases c <;> rfl, rfl⟩))
/-- A fault that is not short has its code whether it is closed or not. -/
theorem out_same {T : Tk} (h1 : T.fl ≠ 1) (c c' : Bool) : outOf T c = outOf T c' := by
  unfold outOf
  by_cases h : T.fl = 0
  · rw [if_pos h, if_pos h]
  · rw [if_neg h, if_neg h]
    congr 1
    unfold flCode
    by_cases h3 : T.fl = 3
    · rw [if_pos h3, if_pos h3]
    · rw [if_neg h3, if_neg h3]
      by_cases h2 : T.fl = 2
      · rw [if_pos (.inl h2), if_pos (.inl h2)]
      · have n1 : ¬ (T.fl = 2 ∨ (T.fl = 1 ∧ c = true)) := fun e => e.elim h2 (fun e => h1 e.1)
        have n2 : ¬ (T.fl = 2 ∨ (T.fl = 1 ∧ c' = true)) := fun e => e.elim h2 (fun e => h1 e.1)
        rw [if_neg n1, if_neg n2]
/-- Where a mark or text is read: the way that Next takes. -/
theorem next_in {at0 : Int} {c : Bool} (hc : (nextZ s at0 c).code = 0 ∨ (nextZ s at0 c).code = 3 ∨ (nextZ s at0 c).code = 6 ∨ (nextZ s at0 c).code = 4) :
    s.size ≤ 4000 ∧ (scanAll s).2 < 0 ∧ fz s 0 [13] = -1 ∧ ∃ p : Nat, at0 = p ∧ p < s.size ∧ ¬ (128 ≤ byteAt s p ∧ byteAt s p < 192) := by
  unfold nextZ at hc
  by_cases h4 : 4000 < s.size
  · rw [if_pos h4] at hc; simp [codeOut] at hc
  rw [if_neg h4] at hc
  by_cases h1 : 0 ≤ (scanAll s).2 ∨ fz s 0 [13] ≠ -1 ∨ at0 < 0 ∨ (s.size : Int) < at0
  · rw [if_pos h1] at hc; simp [codeOut] at hc
  rw [if_neg h1] at hc
  by_cases h2 : at0 = s.size
  · rw [if_pos h2] at hc; simp [codeOut] at hc
  rw [if_neg h2] at hc
  by_cases h3 : 128 ≤ byteAt s at0.toNat ∧ byteAt s at0.toNat < 192
  · rw [if_pos h3] at hc; simp [codeOut] at hc
  refine ⟨by omega, by omega, by omega, at0.toNat, by omega, by omega, h3⟩
theorem next_at {p : Nat} (h4 : s.size ≤ 4000) (hs : (scanAll s).2 < 0) (hz : fz s 0 [13] = -1) (hp : p < s.size) (hb : ¬ (128 ≤ byteAt s p ∧ byteAt s p < 192)) (c : Bool) :
    nextZ s (p : Int) c = outOf (if byteAt s p = 60 then markZ s p else textZ s p c) c := by
  unfold nextZ
  rw [show ((p : Int)).toNat = p from rfl, if_neg (by omega), if_neg (by omega), if_neg (by omega), if_neg hb]
  by_cases h6 : byteAt s p = 60
  · rw [if_pos h6, if_pos h6]
  · rw [if_neg h6, if_neg h6]
/-- THE LAW's HEART. -/
theorem next_same (h : Ext s u t) (ht : Tame t) (hu : u.size ≤ 4000) {at0 : Int} (hc : (nextZ s at0 false).code = 0 ∨ (nextZ s at0 false).code = 3 ∨ (nextZ s at0 false).code = 6) (c : Bool) :
    nextZ s at0 c = nextZ s at0 false ∧ nextZ u at0 c = nextZ s at0 false ∧ ((nextZ s at0 false).code = 0 → at0 < (nextZ s at0 false).at1) := by
  obtain ⟨h4, hs, hz, p, rfl, hp, hb⟩ := next_in (s := s) (at0 := at0) (c := false) (by omega)
  have hsz := e_le h
  have hbu := e_byte h hp
  have eu := next_at (s := u) (p := p) hu (e_scan h ht hs) (e_13 h ht hz) (by omega) (by rw [hbu]; exact hb) c
  have es := next_at h4 hs hz hp hb c
  have e0 := next_at h4 hs hz hp hb false
  rw [hbu] at eu
  rw [e0] at hc
  rw [eu, es, e0]
  by_cases h6 : byteAt s p = 60
  · simp only [if_pos h6] at hc ⊢
    have hle := markZ_le s p
    have hfl : (markZ s p).fl ≠ 1 := by
      rcases out_code (c := false) hle with ⟨_, a⟩ | ⟨_, a⟩ | ⟨_, a⟩ | ⟨a, _, _⟩
      · omega
      · rcases a with a | ⟨_, a⟩
        · omega
        · cases a
      · omega
      · omega
    rw [e_mark h (VB_all hs) hp h6 hfl]
    refine ⟨out_same hfl _ _, out_same hfl _ _, fun hc0 => ?_⟩
    have hf0 : (markZ s p).fl = 0 := by
      rcases out_code (c := false) hle with ⟨_, a⟩ | ⟨a, _⟩ | ⟨a, _⟩ | ⟨a, _, _⟩ <;> omega
    have := mark_pos hp h6 hf0
    unfold outOf
    rw [if_pos hf0]
    show (p : Int) < ((markZ s p).pos : Int)
    omega
  · simp only [if_neg h6] at hc ⊢
    have hle := textZ_le s p false
    have hfl : (textZ s p false).fl ≠ 1 := by
      rcases out_code (c := false) hle with ⟨_, a⟩ | ⟨_, a⟩ | ⟨_, a⟩ | ⟨a, _, _⟩
      · omega
      · rcases a with a | ⟨_, a⟩
        · omega
        · cases a
      · omega
      · omega
    obtain ⟨t1, t2⟩ := e_text h (p := p) (by omega) c hfl
    rw [t1, t2]
    refine ⟨out_same hfl _ _, out_same hfl _ _, fun hc0 => ?_⟩
    have hf0 : (textZ s p false).fl = 0 := by
      rcases out_code (c := false) hle with ⟨_, a⟩ | ⟨a, _⟩ | ⟨a, _⟩ | ⟨a, _, _⟩ <;> omega
    have := text_pos hp h6 false hf0
    unfold outOf
    rw [if_pos hf0]
    show (p : Int) < ((textZ s p false).pos : Int)
    omega
/-- Closed, nothing is short. -/
theorem next_closed (at0 : Int) : (nextZ s at0 true).code ≠ 4 := by
  intro hc
  obtain ⟨h4, hs, hz, p, rfl, hp, hb⟩ := next_in (s := s) (at0 := at0) (c := true) (by omega)
  rw [next_at h4 hs hz hp hb true] at hc
  have hle : (if byteAt s p = 60 then markZ s p else textZ s p true).fl ≤ 3 := by split; exact markZ_le _ _; exact textZ_le _ _ _
  rcases out_code (c := true) hle with ⟨a, _⟩ | ⟨a, _⟩ | ⟨a, _⟩ | ⟨_, _, a⟩
  · omega
  · omega
  · omega
  · cases a
end Go.Proofs.YtefahocflhlgiaaGreatDoor.Plain22
