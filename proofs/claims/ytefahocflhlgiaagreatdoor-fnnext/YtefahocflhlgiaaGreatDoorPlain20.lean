/- Plain mathematics: what Next tells of a text that is not closed, and not short, it tells alike of a closed one and of one that goes on. -/
import Derived.Test.YtefahocflhlgiaaGreatDoorPlain19
namespace Go.Proofs.YtefahocflhlgiaaGreatDoor.Plain20
open Plain1 Plain2 Strs Plain3 Plain4 Plain5 Plain6 Plain9 Plain10 Plain11 Plain12 Plain14 Plain15 Plain16 Plain18 Plain19
variable {s u : ByteArray} {t : List UInt8}

theorem e_sub (h : Ext s u t) {p : Nat} (hp : p ≤ s.size) (hf : subF s p ≠ 1) : subF u p = subF s p ∧ subP u p = subP s p := by
  have e := e_subGo h (s.size + 1) (u.size + 1) p (by have := e_le h; omega) hp hf
  exact ⟨by unfold subF; rw [e], by unfold subP; rw [e]⟩
theorem subGo_room : ∀ (f p : Nat), p ≤ s.size → (subGo s f p).1 = 0 → p < (subGo s f p).2 ∧ (subGo s f p).2 ≤ s.size
  | 0, p, _, h => by cases h
  | f + 1, p, hp, h => by
    have key : ∀ k (sg : List UInt8), p < k → k ≤ s.size → (if upF s k sg = 0 then subGo s f (upP s k sg) else (1, p)).1 = 0 → p < (if upF s k sg = 0 then subGo s f (upP s k sg) else (1, p)).2 ∧ (if upF s k sg = 0 then subGo s f (upP s k sg) else (1, p)).2 ≤ s.size := fun k sg hk hks hh => by
      by_cases hu : upF s k sg = 0
      · rw [if_pos hu] at hh ⊢
        obtain ⟨a, b, c⟩ := up_le hks hu
        have := subGo_room f _ a hh
        exact ⟨by omega, this.2⟩
      · rw [if_neg hu] at hh; cases hh
    unfold subGo at h ⊢
    by_cases h1 : p < s.size
    · rw [if_pos h1] at h ⊢
      by_cases c1 : byteAt s p = 93
      · rw [if_pos c1]; exact ⟨by simp, by simp; omega⟩
      rw [if_neg c1] at h ⊢
      by_cases c2 : byteAt s p = 34
      · rw [if_pos c2] at h ⊢; exact key _ _ (by omega) (by omega) h
      rw [if_neg c2] at h ⊢
      by_cases c3 : byteAt s p = 39
      · rw [if_pos c3] at h ⊢; exact key _ _ (by omega) (by omega) h
      rw [if_neg c3] at h ⊢
      by_cases c4 : hasAt s p [60, 33, 45, 45] = true
      · rw [if_pos c4] at h ⊢; have := has_room c4 hp; exact key _ _ (by omega) (by simpa using this) h
      rw [if_neg c4] at h ⊢
      by_cases c5 : hasAt s p [60, 63] = true
      · rw [if_pos c5] at h ⊢; have := has_room c5 hp; exact key _ _ (by omega) (by simpa using this) h
      rw [if_neg c5] at h ⊢
      have := subGo_room f (p + 1) (by omega) h
      exact ⟨by omega, this.2⟩
    · rw [if_neg h1] at h; cases h
theorem e_comment (h : Ext s u t) {p : Nat} (hp : p ≤ s.size) (hf : (commentZ s p).fl ≠ 1) : commentZ u p = commentZ s p := by
  unfold commentZ at hf ⊢
  by_cases c1 : upF s p [45, 45] ≠ 0
  · rw [if_pos c1] at hf
    exact absurd ((e_up h (sg := [45, 45]) (by simp) hp hf).1) c1
  rw [if_neg c1] at hf ⊢
  have c1' : upF s p [45, 45] = 0 := by simpa using c1
  obtain ⟨_, e2, e3, e4⟩ := e_up h (sg := [45, 45]) (by simp) hp (by rw [c1']; decide)
  obtain ⟨a, _, _⟩ := up_le hp c1'
  have hm : mustF s (upP s p [45, 45]) [62] ≠ 1 := fun e => by rw [e] at hf; exact hf rfl
  rw [if_neg (by rw [e2]; simp), e3, e4, e_must h a hm]
theorem e_cdata (h : Ext s u t) {p : Nat} (hp : p ≤ s.size) (hf : (cdataZ s p).fl ≠ 1) : cdataZ u p = cdataZ s p := by
  unfold cdataZ at hf ⊢
  by_cases c1 : upF s p [93, 93, 62] = 0
  · obtain ⟨_, e2, e3, e4⟩ := e_up h (sg := [93, 93, 62]) (by simp) hp (by rw [c1]; decide)
    rw [if_pos c1, if_pos e2, e3, e4]
  · rw [if_neg c1] at hf
    exact absurd ((e_up h (sg := [93, 93, 62]) (by simp) hp hf).1) c1
theorem e_end (h : Ext s u t) {p : Nat} (hv : VB s p) (hf : (endZ s p).fl ≠ 1) : endZ u p = endZ s p := by
  unfold endZ at hf ⊢
  dsimp only at hf ⊢
  by_cases c1 : nmF s p ≠ 0
  · rw [if_pos c1] at hf ⊢
    have e := (e_nm h hv hf).1
    rw [e, if_pos c1]
  rw [if_neg c1] at hf ⊢
  have c1' : nmF s p = 0 := by simpa using c1
  obtain ⟨e1, e2⟩ := e_nm h hv (by rw [c1']; decide)
  obtain ⟨e3, e4⟩ := e2 c1'
  obtain ⟨_, _, hnp, _⟩ := nm_spec c1'
  have hm : mustF s (whiteZ s (nmP s p)) [62] ≠ 1 := fun e => by rw [e] at hf; exact hf rfl
  have hr := must_lt hm
  rw [e1, if_neg c1, e3, e4, e_white h hr, e_must h (by omega) hm]
theorem e_pi (h : Ext s u t) {p : Nat} (hv : VB s p) (hf : (piZ s p).fl ≠ 1) : piZ u p = piZ s p := by
  unfold piZ at hf ⊢
  dsimp only at hf ⊢
  by_cases c1 : nmF s p ≠ 0
  · rw [if_pos c1] at hf ⊢
    have e := (e_nm h hv hf).1
    rw [e, if_pos c1]
  rw [if_neg c1] at hf ⊢
  have c1' : nmF s p = 0 := by simpa using c1
  obtain ⟨e1, e2⟩ := e_nm h hv (by rw [c1']; decide)
  obtain ⟨e3, e4⟩ := e2 c1'
  obtain ⟨_, _, hnp, _⟩ := nm_spec c1'
  rw [e1, if_neg c1, e3, e4]
  by_cases c2 : xmlB (nmT s p) = true
  · rw [if_pos c2, if_pos c2]
  rw [if_neg c2] at hf ⊢
  rw [if_neg c2]
  have hrl := whiteZ_le (s := s) (p := nmP s p) (by omega)
  by_cases c3 : nmP s p < whiteZ s (nmP s p)
  · rw [if_pos c3] at hf ⊢
    have hu : upF s (whiteZ s (nmP s p)) [63, 62] ≠ 1 := fun e => by rw [e] at hf; exact hf rfl
    have hlt := up_lt hrl hu
    obtain ⟨d1, d2, d3, d4⟩ := e_up h (sg := [63, 62]) (by simp) hrl hu
    rw [e_white h hlt, if_pos c3, if_pos d1, if_pos d2, d3, d4]
  · rw [if_neg c3] at hf ⊢
    have hm : mustF s (whiteZ s (nmP s p)) [63, 62] ≠ 1 := fun e => by rw [e] at hf; exact hf rfl
    have hr := must_lt hm
    rw [e_white h hr, if_neg c3, e_must h hrl hm]
theorem e_doctype (h : Ext s u t) (h0 : VB s 0) {p : Nat} (hv : VB s p) (hp : p ≤ s.size) (hf : (doctypeZ s p).fl ≠ 1) : doctypeZ u p = doctypeZ s p := by
  unfold doctypeZ at hf ⊢
  dsimp only at hf ⊢
  have hsz := e_le h
  by_cases c1 : whiteZ s p = p
  · rw [if_pos c1] at hf
    have hlt : p < s.size := Decidable.byContradiction fun hn => hf (by rw [if_pos (by omega)]; rfl)
    have ew := e_white h (p := p) (by omega)
    rw [ew, if_pos c1, if_pos c1, if_neg (by omega), if_neg (by omega)]
  rw [if_neg c1] at hf ⊢
  have hqv : VB s (whiteZ s p) := whiteZ_VB h0 hv
  have hn1 : nmF s (whiteZ s p) ≠ 1 := fun e => by rw [e] at hf; exact hf rfl
  have hql := nm_lt hn1
  have ew := e_white h hql
  rw [ew, if_neg c1]
  generalize whiteZ s p = q at *
  obtain ⟨e1, e2⟩ := e_nm h hqv hn1
  rw [e1]
  by_cases c2 : nmF s q ≠ 0
  · rw [if_pos c2, if_pos c2]
  rw [if_neg c2] at hf ⊢
  rw [if_neg c2]
  have c2' : nmF s q = 0 := by simpa using c2
  obtain ⟨e3, e4⟩ := e2 c2'
  obtain ⟨_, _, hnp, _⟩ := nm_spec c2'
  have hrl := whiteZ_le (s := s) (p := nmP s q) (by omega)
  rw [e3, e4]
  by_cases c3 : hasAt s (whiteZ s (nmP s q)) [91] = true
  · rw [if_pos c3] at hf ⊢
    have hroom := has_room c3 hrl
    simp at hroom
    have ew2 := e_white h (p := nmP s q) (by omega)
    rw [ew2, if_pos (e_has h hrl c3)]
    have hs1 : subF s (whiteZ s (nmP s q) + 1) ≠ 1 := fun e => by rw [e] at hf; exact hf rfl
    obtain ⟨d1, d2⟩ := e_sub h (p := whiteZ s (nmP s q) + 1) (by omega) hs1
    rw [d1, d2]
    by_cases c4 : subF s (whiteZ s (nmP s q) + 1) ≠ 0
    · rw [if_pos c4, if_pos c4]
    rw [if_neg c4] at hf ⊢
    rw [if_neg c4]
    have c4' : subF s (whiteZ s (nmP s q) + 1) = 0 := by simpa using c4
    have hsr := subGo_room (s := s) (s.size + 1) (whiteZ s (nmP s q) + 1) (by omega) c4'
    have hsr2 : subP s (whiteZ s (nmP s q) + 1) ≤ s.size := hsr.2
    have hul := whiteZ_le (s := s) (p := subP s (whiteZ s (nmP s q) + 1)) hsr2
    have hm : mustF s (whiteZ s (subP s (whiteZ s (nmP s q) + 1))) [62] ≠ 1 := fun e => by rw [e] at hf; exact hf rfl
    have hr := must_lt hm
    have ht : subT u (whiteZ s (nmP s q) + 1) = subT s (whiteZ s (nmP s q) + 1) := by unfold subT; rw [d2]; exact e_ext h (by omega)
    rw [e_white h hr, e_must h hul hm, ht]
  · rw [if_neg c3] at hf ⊢
    have hm : mustF s (whiteZ s (nmP s q)) [62] ≠ 1 := fun e => by rw [e] at hf; exact hf rfl
    have hr := must_lt hm
    rw [e_white h hr, if_neg (by rw [e_one h hr]; exact c3), e_must h hrl hm]
theorem e_tag (h : Ext s u t) (h0 : VB s 0) {p : Nat} (hv : VB s p) (hf : (tagZ s p).fl ≠ 1) : tagZ u p = tagZ s p := by
  unfold tagZ at hf ⊢
  by_cases c1 : nmF s p ≠ 0
  · rw [if_pos c1] at hf ⊢
    have e := (e_nm h hv hf).1
    rw [e, if_pos c1]
  rw [if_neg c1] at hf ⊢
  have c1' : nmF s p = 0 := by simpa using c1
  obtain ⟨e1, e2⟩ := e_nm h hv (by rw [c1']; decide)
  obtain ⟨e3, e4⟩ := e2 c1'
  obtain ⟨_, _, hnp, _⟩ := nm_spec c1'
  rw [e1, if_neg c1, e3, e4]
  exact e_tagGo h h0 _ _ _ _ (by have := e_le h; omega) (nm_VB hv) (by omega) hf
theorem e_mark (h : Ext s u t) (h0 : VB s 0) {p : Nat} (hp : p < s.size) (h60 : byteAt s p = 60) (hf : (markZ s p).fl ≠ 1) : markZ u p = markZ s p := by
  have hsz := e_le h
  have b0 : byteAt u p = 60 := by rw [e_byte h hp]; exact h60
  by_cases h1 : s.size ≤ p + 1
  · rw [mark_end1 hp h60 h1] at hf; exact absurd rfl hf
  have hp1 : p + 1 < s.size := by omega
  have hu1 : p + 1 < u.size := by omega
  have e1 := e_byte h hp1
  have v1 : VB s (p + 1) := VB_behind h0 (by omega) (by rw [show p + 1 - 1 = p from rfl, h60]; decide)
  by_cases c1 : byteAt s (p + 1) = 47
  · have v2 : VB s (p + 2) := VB_behind h0 (by omega) (by rw [show p + 2 - 1 = p + 1 from rfl, c1]; decide)
    rw [mark_slash hp1 h60 c1] at hf ⊢
    rw [mark_slash hu1 b0 (by rw [e1]; exact c1)]
    exact e_end h v2 hf
  by_cases c2 : byteAt s (p + 1) = 63
  · have v2 : VB s (p + 2) := VB_behind h0 (by omega) (by rw [show p + 2 - 1 = p + 1 from rfl, c2]; decide)
    rw [mark_pi hp1 h60 c2] at hf ⊢
    rw [mark_pi hu1 b0 (by rw [e1]; exact c2)]
    exact e_pi h v2 hf
  by_cases c3 : byteAt s (p + 1) = 33
  · by_cases h2 : s.size ≤ p + 2
    · rw [mark_excl_end hp1 h60 c3 h2] at hf; exact absurd rfl hf
    have hp2 : p + 2 < s.size := by omega
    have hu2 : p + 2 < u.size := by omega
    have e2 := e_byte h hp2
    have c3u : byteAt u (p + 1) = 33 := by rw [e1]; exact c3
    by_cases d1 : byteAt s (p + 2) = 45
    · rw [mark_dash hp2 h60 c3 d1] at hf ⊢
      rw [mark_dash hu2 b0 c3u (by rw [e2]; exact d1)]
      have hm : mustF s (p + 2) [45, 45] ≠ 1 := fun e => by rw [e] at hf; exact hf rfl
      rw [e_must h (by omega) hm]
      by_cases hz : mustF s (p + 2) [45, 45] = 0
      · rw [if_pos hz] at hf ⊢
        rw [if_pos hz]
        have := has_room (must_has.1 hz) (by omega)
        exact e_comment h (by simp at this; omega) hf
      · rw [if_neg hz, if_neg hz]
    by_cases d2 : byteAt s (p + 2) = 91
    · rw [mark_brack hp2 h60 c3 d2] at hf ⊢
      rw [mark_brack hu2 b0 c3u (by rw [e2]; exact d2)]
      have hm : mustF s (p + 2) [91, 67, 68, 65, 84, 65, 91] ≠ 1 := fun e => by rw [e] at hf; exact hf rfl
      rw [e_must h (by omega) hm]
      by_cases hz : mustF s (p + 2) [91, 67, 68, 65, 84, 65, 91] = 0
      · rw [if_pos hz] at hf ⊢
        rw [if_pos hz]
        have := has_room (must_has.1 hz) (by omega)
        exact e_cdata h (by simp at this; omega) hf
      · rw [if_neg hz, if_neg hz]
    · rw [mark_doc hp2 h60 c3 d1 d2] at hf ⊢
      rw [mark_doc hu2 b0 c3u (by rw [e2]; exact d1) (by rw [e2]; exact d2)]
      have hm : mustF s (p + 2) [68, 79, 67, 84, 89, 80, 69] ≠ 1 := fun e => by rw [e] at hf; exact hf rfl
      rw [e_must h (by omega) hm]
      by_cases hz : mustF s (p + 2) [68, 79, 67, 84, 89, 80, 69] = 0
      · rw [if_pos hz] at hf ⊢
        rw [if_pos hz]
        have hh := must_has.1 hz
        have hroom := has_room hh (by omega)
        have v9 := VB_sign h0 hh (by omega) (by decide) (by decide)
        simp only [List.length_cons, List.length_nil] at hroom v9
        exact e_doctype h h0 v9 (by omega) hf
      · rw [if_neg hz, if_neg hz]
  · rw [mark_tag hp1 h60 c1 c2 c3] at hf ⊢
    rw [mark_tag hu1 b0 (by rw [e1]; exact c1) (by rw [e1]; exact c2) (by rw [e1]; exact c3)]
    exact e_tag h h0 v1 hf
end Go.Proofs.YtefahocflhlgiaaGreatDoor.Plain20
