/- Plain mathematics of the head: what a short head tells is of few bytes. Nothing of the program is named here. -/
import Derived.Test.YteebdfcegndaoaaGreatDoorPlF
namespace Go.Proofs.YteebdfcegndaoaaGreatDoor.Plain32
open Go.RowKit Plain1 Plain2 Strs Strs2 Lists Bytes Ents Plain3 Plain5 Plain6 Plain9 Plain10 Plain11 Plain12 Plain13 Plain23 Plain24 Plain25 Plain26 Plain27 Plain28 Plain30 Plain31 Go.Lib
variable {s : ByteArray}

theorem cut_le (v : ByteArray) (i q : Nat) : (v.extract i q).size ≤ v.size := by
  rw [ByteArray.size_extract]; omega
theorem ent_len {v : ByteArray} : ∀ (f i : Nat) (acc t : List Int), entGo v f i acc = some t → t.length ≤ acc.length + f * (v.size + 4)
  | 0, _, acc, t, h => by have := Option.some.inj h; rw [← this]; omega
  | f + 1, i, acc, t, h => by
    have hm : (f + 1) * (v.size + 4) = f * (v.size + 4) + (v.size + 4) := Nat.succ_mul _ _
    unfold entGo at h
    split at h
    · split at h
      · cases h
      · split at h
        · split at h
          · cases h
          · rename_i n q _
            have h1 := ent_len f q _ t h
            have h2 := (encodeRuneZ_len n).2
            rw [List.length_append] at h1
            omega
          · rename_i b q _
            have h1 := ent_len f q _ t h
            have h2 := cut_le v i q
            have h3 : (nums (v.extract i q)).length = (v.extract i q).size := by unfold nums; rw [List.length_map, ← Lib.size_eq]
            rw [List.length_append] at h1
            omega
        · have h1 := ent_len f (i + 1) _ t h
          rw [List.length_append] at h1
          simp at h1
          omega
    · have := Option.some.inj h; rw [← this]; omega
def Little : Df → Prop
  | .inl e => e.1.size ≤ 1048576 ∧ e.2.size ≤ 1048576
  | .inr a => a.of.size ≤ 1048576 ∧ a.nm.size ≤ 1048576 ∧ a.val.size ≤ 1048576
theorem ent_little {v : ByteArray} (hv : v.size ≤ 320) {t : List Int} (h : entO v = some t) : (strOfNums t).size ≤ 1048576 := by
  have h1 := ent_len _ _ _ _ h
  rw [strOfNums_size]
  have h2 : (v.size + 1) * (v.size + 4) ≤ 321 * 324 := Nat.mul_le_mul (by omega) (by omega)
  simp at h1
  omega
theorem def_size {p : Nat} {d : Bool × ByteArray × Nat} (h : defZ s p = some d) : d.2.1.size ≤ s.size := by
  unfold defZ at h
  split at h
  · have := Option.some.inj h; rw [← this]; exact Nat.zero_le _
  split at h
  · have := Option.some.inj h; rw [← this]; exact Nat.zero_le _
  split at h
  · obtain ⟨a, _, h⟩ := Option.bind_eq_some_iff.1 h
    obtain ⟨v, hv, h⟩ := Option.bind_eq_some_iff.1 h
    have := Option.some.inj h
    rw [← this]
    show v.1.size ≤ s.size
    rw [(val_some hv).2.1]
    exact cut_le _ _ _
  · obtain ⟨v, hv, h⟩ := Option.bind_eq_some_iff.1 h
    have := Option.some.inj h
    rw [← this]
    show v.1.size ≤ s.size
    rw [(val_some hv).2.1]
    exact cut_le _ _ _
theorem att_val {o : ByteArray} {p : Nat} {r : At5 × Nat} (h : attZ s o p = some r) : r.1.val.size ≤ s.size := by
  unfold attZ at h
  obtain ⟨n, _, h⟩ := Option.bind_eq_some_iff.1 h
  obtain ⟨a, _, h⟩ := Option.bind_eq_some_iff.1 h
  obtain ⟨k, _, h⟩ := Option.bind_eq_some_iff.1 h
  obtain ⟨wd, _, h⟩ := Option.bind_eq_some_iff.1 h
  obtain ⟨b, _, h⟩ := Option.bind_eq_some_iff.1 h
  obtain ⟨d, hd, h⟩ := Option.bind_eq_some_iff.1 h
  have := Option.some.inj h
  rw [← this]
  exact def_size hd
theorem atts_val {o : ByteArray} : ∀ (f p : Nat) (acc : List At5) (r : List At5 × Nat), attsGo s o f p acc = some r → (∀ a ∈ acc, a.val.size ≤ s.size) → ∀ a ∈ r.1, a.val.size ≤ s.size
  | 0, _, _, _, h, _ => by cases h
  | f + 1, p, acc, r, h, hacc => by
    unfold attsGo at h
    split at h
    · have := Option.some.inj h; rw [← this]; exact hacc
    · split at h
      · cases h
      · split at h
        · cases h
        · rename_i a q ha
          refine atts_val f q _ r h fun b hb => ?_
          rcases List.mem_append.1 hb with hb | hb
          · exact hacc b hb
          · rw [List.mem_singleton.1 hb]
            exact att_val ha
theorem mark_little (hs : s.size ≤ 320) {p : Nat} {r : List Df × Nat} (hr : markO s p = some r) : ∀ x ∈ r.1, Little x := by
  unfold markO at hr
  split at hr
  · split at hr
    · have := Option.some.inj hr; rw [← this]; intro x hx; cases hx
    · cases hr
  split at hr
  · split at hr
    · have := Option.some.inj hr; rw [← this]; intro x hx; cases hx
    · cases hr
  split at hr
  · unfold entityZ at hr
    obtain ⟨a, _, hr⟩ := Option.bind_eq_some_iff.1 hr
    obtain ⟨n, h2, hr⟩ := Option.bind_eq_some_iff.1 hr
    obtain ⟨b, _, hr⟩ := Option.bind_eq_some_iff.1 hr
    obtain ⟨v, h4, hr⟩ := Option.bind_eq_some_iff.1 hr
    obtain ⟨t, h5, hr⟩ := Option.bind_eq_some_iff.1 hr
    obtain ⟨q, _, hr⟩ := Option.bind_eq_some_iff.1 hr
    have := Option.some.inj hr
    rw [← this]
    intro x hx
    rw [List.mem_singleton.1 hx]
    have hn := name_size h2
    have hv : v.1.size ≤ s.size := by rw [(qt_some h4).2.2.2.1]; exact cut_le _ _ _
    exact ⟨by show n.1.size ≤ _; omega, ent_little (by omega) h5⟩
  split at hr
  · unfold attlistZ at hr
    obtain ⟨a, _, hr⟩ := Option.bind_eq_some_iff.1 hr
    obtain ⟨n, h2, hr⟩ := Option.bind_eq_some_iff.1 hr
    obtain ⟨l, h3, hr⟩ := Option.bind_eq_some_iff.1 hr
    have := Option.some.inj hr
    rw [← this]
    intro x hx
    obtain ⟨a, ha, hax⟩ := List.mem_map.1 hx
    have hn := name_size h2
    have hal := atts_all _ _ _ _ h3 (fun a ha => by cases ha) a ha
    have hav := atts_val _ _ _ _ h3 (fun a ha => by cases ha) a ha
    rw [← hax]
    exact ⟨by rw [hal.1]; omega, by omega, by omega⟩
  split at hr
  · unfold elementZ at hr
    obtain ⟨a, _, hr⟩ := Option.bind_eq_some_iff.1 hr
    obtain ⟨n, _, hr⟩ := Option.bind_eq_some_iff.1 hr
    obtain ⟨b, _, hr⟩ := Option.bind_eq_some_iff.1 hr
    split at hr
    · have := Option.some.inj hr; rw [← this]; intro x hx; cases hx
    · cases hr
  · cases hr
/-- All that a head tells is little. -/
def LitD (d : Dt) : Prop := (∀ e ∈ d.ents, Little (.inl e)) ∧ ∀ a ∈ d.atts, Little (.inr a)
theorem lit_add {d : Dt} {x : Df} (h : LitD d) (hx : Little x) : LitD (addD d x) := by
  cases x with
  | inl e =>
    show LitD (if (d.ents.find? (isEnt e.1)).isSome = true then d else ⟨d.ents ++ [e], d.atts⟩)
    by_cases hc : (d.ents.find? (isEnt e.1)).isSome = true
    · rw [if_pos hc]; exact h
    · rw [if_neg hc]
      refine ⟨fun y hy => ?_, h.2⟩
      rcases List.mem_append.1 hy with hy | hy
      · exact h.1 y hy
      · rw [List.mem_singleton.1 hy]; exact hx
  | inr a =>
    show LitD (if (d.atts.find? (isAtt a.of a.nm)).isSome = true then d else ⟨d.ents, d.atts ++ [a]⟩)
    by_cases hc : (d.atts.find? (isAtt a.of a.nm)).isSome = true
    · rw [if_pos hc]; exact h
    · rw [if_neg hc]
      refine ⟨h.1, fun y hy => ?_⟩
      rcases List.mem_append.1 hy with hy | hy
      · exact h.2 y hy
      · rw [List.mem_singleton.1 hy]; exact hx
theorem lit_all : ∀ (l : List Df) (d : Dt), LitD d → (∀ x ∈ l, Little x) → LitD (addAll d l)
  | [], _, h, _ => h
  | x :: l, d, h, hl => lit_all l (addD d x) (lit_add h (hl x (List.mem_cons_self ..))) fun y hy => hl y (List.mem_cons_of_mem _ hy)
theorem lit_nil : LitD ⟨[], []⟩ := ⟨(by intro _ h; cases h), (by intro _ h; cases h)⟩
theorem spec_lit (hs : s.size ≤ 320) : ∀ (f p : Nat) (d : Dt), LitD d → LitD (specGo s f p d).dtd
  | 0, _, _, _ => lit_nil
  | f + 1, p, d, h => by
    unfold specGo
    split
    · split
      · exact lit_nil
      · rename_i l q hm
        split
        · exact lit_nil
        · exact spec_lit hs f q _ (lit_all l d h (mark_little hs hm))
    · exact h
theorem dtd_lit (hs : s.size ≤ 320) : LitD (specDtd s).dtd := by
  unfold specDtd
  split
  · exact lit_nil
  · split
    · exact spec_lit hs _ _ _ lit_nil
    · exact lit_nil
theorem impl_len (h0 : Plain11.VB s 0) (hs : s.size ≤ 4000) : ∀ (f p : Nat) (d : Dt) (fu : Int), p ≤ s.size → d.ents.length ≤ p → d.atts.length ≤ p → (implGo s f p d fu).dtd.ents.length ≤ 4000 ∧ (implGo s f p d fu).dtd.atts.length ≤ 4000
  | 0, _, _, _, _, _, _ => ⟨Nat.zero_le _, Nat.zero_le _⟩
  | f + 1, p, d, fu, hp, h1, h2 => by
    unfold implGo
    split
    · rename_i hw
      split
      · exact ⟨Nat.zero_le _, Nat.zero_le _⟩
      · rename_i l q hm
        have hge := whiteZ_ge s p
        have hl := mark_len h0 (Nat.le_of_lt hw) hm
        have he := (mark_end h0 (Nat.le_of_lt hw) hm).2.2
        have hc := addAll_count l d
        simp only at hl he
        exact impl_len h0 hs f q _ _ he (by omega) (by omega)
    · split
      · exact ⟨by show d.ents.length ≤ 4000; omega, by show d.atts.length ≤ 4000; omega⟩
      · exact ⟨Nat.zero_le _, Nat.zero_le _⟩
theorem dtd_len (s : ByteArray) : (implDtd s).dtd.ents.length ≤ 4000 ∧ (implDtd s).dtd.atts.length ≤ 4000 := by
  unfold implDtd
  by_cases h4 : 4000 < s.size
  · rw [if_pos h4]; exact ⟨Nat.zero_le _, Nat.zero_le _⟩
  · rw [if_neg h4]
    by_cases hok : headOk s
    · rw [if_pos hok]; exact impl_len (VB_all hok.1) (by omega) _ _ _ _ (Nat.zero_le _) (Nat.le_refl _) (Nat.le_refl _)
    · rw [if_neg hok]; exact ⟨Nat.zero_le _, Nat.zero_le _⟩
end Go.Proofs.YteebdfcegndaoaaGreatDoor.Plain32
