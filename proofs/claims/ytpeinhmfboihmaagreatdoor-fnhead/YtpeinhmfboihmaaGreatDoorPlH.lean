/- Plain mathematics of the head: the definitions of a mark have names of a size. Nothing of the program is named here. -/
import Derived.Test.YtpeinhmfboihmaaGreatDoorPlG
namespace Go.Proofs.YtpeinhmfboihmaaGreatDoor.Plain31
open Go.RowKit Plain1 Plain2 Strs Strs2 Lists Bytes Ents Plain3 Plain5 Plain6 Plain9 Plain10 Plain11 Plain12 Plain23 Plain24 Plain25 Plain26 Plain27 Plain28 Plain30 Go.Lib
variable {s : ByteArray}

theorem name_size {p : Nat} {n : ByteArray × Nat} (h : nameO s p = some n) : 1 ≤ n.1.size ∧ n.1.size ≤ s.size := by
  obtain ⟨h0, h1, h2, h3, h4⟩ := name_some h
  have hp : nmP s p = p + nameZ s p := rfl
  have hz : n.1.size = nameZ s p := by
    rw [h1]
    show (s.extract p (p + nameZ s p)).size = _
    rw [ext_size (by omega)]; omega
  omega
theorem att_nm {o : ByteArray} {p : Nat} {r : At5 × Nat} (h : attZ s o p = some r) : r.1.of = o ∧ r.1.nm.size ≤ s.size := by
  unfold attZ at h
  cases hn : nameO s p with
  | none => rw [hn] at h; cases h
  | some n =>
    rw [hn] at h
    have h2 := name_size hn
    simp only [Option.bind_some] at h
    cases h3 : gapO s n.2 with
    | none => rw [h3] at h; cases h
    | some a =>
      rw [h3] at h
      simp only [Option.bind_some] at h
      cases h4 : nameO s a with
      | none => rw [h4] at h; cases h
      | some k =>
        rw [h4] at h
        simp only [Option.bind_some] at h
        cases h5 : kindZ k.1 with
        | none => rw [h5] at h; cases h
        | some wd =>
          rw [h5] at h
          simp only [Option.bind_some] at h
          cases h6 : gapO s k.2 with
          | none => rw [h6] at h; cases h
          | some b =>
            rw [h6] at h
            simp only [Option.bind_some] at h
            cases h7 : defZ s b with
            | none => rw [h7] at h; cases h
            | some d =>
              rw [h7] at h
              have := Option.some.inj h
              rw [← this]
              exact ⟨rfl, h2.2⟩
theorem atts_all {o : ByteArray} : ∀ (f p : Nat) (acc : List At5) (r : List At5 × Nat), attsGo s o f p acc = some r → (∀ a ∈ acc, a.of = o ∧ a.nm.size ≤ s.size) → ∀ a ∈ r.1, a.of = o ∧ a.nm.size ≤ s.size
  | 0, _, _, _, h, _ => by cases h
  | f + 1, p, acc, r, h, hacc => by
    unfold attsGo at h
    split at h
    · have := Option.some.inj h; rw [← this]; exact hacc
    · split at h
      · cases h
      · split at h
        · cases h
        · rename_i a q ha
          refine atts_all f q _ r h fun b hb => ?_
          rcases List.mem_append.1 hb with hb | hb
          · exact hacc b hb
          · rw [List.mem_singleton.1 hb]
            exact att_nm ha
theorem mark_okay (hs : s.size ≤ 4000) {p : Nat} {r : List Df × Nat} (hr : markO s p = some r) : ∀ x ∈ r.1, Named1 x ∧ Small1 x := by
  have hmx : (4000 : Nat) ≤ maxLen := by decide
  unfold markO at hr
  split at hr
  · split at hr
    · have := Option.some.inj hr; rw [← this]; intro x hx; cases hx
    · cases hr
  split at hr
  · split at hr
    · have := Option.some.inj hr; rw [← this]; intro x hx; cases hx
    · cases hr
  split at hr
  · unfold entityZ at hr
    cases h1 : gapO s (p + 8) with
    | none => rw [h1] at hr; cases hr
    | some a =>
      rw [h1] at hr
      simp only [Option.bind_some] at hr
      cases h2 : nameO s a with
      | none => rw [h2] at hr; cases hr
      | some n =>
        rw [h2] at hr
        simp only [Option.bind_some] at hr
        have hn := name_size h2
        cases h3 : gapO s n.2 with
        | none => rw [h3] at hr; cases hr
        | some b =>
          rw [h3] at hr
          simp only [Option.bind_some] at hr
          cases h4 : qtO s b with
          | none => rw [h4] at hr; cases hr
          | some v =>
            rw [h4] at hr
            simp only [Option.bind_some] at hr
            cases h5 : entO v.1 with
            | none => rw [h5] at hr; cases hr
            | some t =>
              rw [h5] at hr
              simp only [Option.bind_some] at hr
              cases h6 : mustO s (whiteZ s v.2) [62] with
              | none => rw [h6] at hr; cases hr
              | some q =>
                rw [h6] at hr
                have := Option.some.inj hr
                rw [← this]
                intro x hx
                rw [List.mem_singleton.1 hx]
                refine ⟨fun a ha => (by cases ha), ?_, ?_⟩
                · show (⟨#[]⟩ : ByteArray).size ≤ maxLen
                  rw [empty_size]; omega
                · show n.1.size ≤ maxLen
                  omega
  split at hr
  · unfold attlistZ at hr
    cases h1 : gapO s (p + 9) with
    | none => rw [h1] at hr; cases hr
    | some a =>
      rw [h1] at hr
      simp only [Option.bind_some] at hr
      cases h2 : nameO s a with
      | none => rw [h2] at hr; cases hr
      | some n =>
        rw [h2] at hr
        simp only [Option.bind_some] at hr
        have hn := name_size h2
        cases h3 : attsGo s n.1 (s.size + 1) n.2 [] with
        | none => rw [h3] at hr; cases hr
        | some l =>
          rw [h3] at hr
          have := Option.some.inj hr
          rw [← this]
          intro x hx
          obtain ⟨a, ha, hax⟩ := List.mem_map.1 hx
          have hal := atts_all _ _ _ _ h3 (fun a ha => by cases ha) a ha
          subst hax
          refine ⟨fun b hb => ?_, ?_, ?_⟩
          · have := Sum.inr.inj hb
            rw [← this, hal.1]; exact hn.1
          · show a.of.size ≤ maxLen
            rw [hal.1]; omega
          · show a.nm.size ≤ maxLen
            omega
  split at hr
  · unfold elementZ at hr
    cases h1 : gapO s (p + 9) with
    | none => rw [h1] at hr; cases hr
    | some a =>
      rw [h1] at hr
      simp only [Option.bind_some] at hr
      cases h2 : nameO s a with
      | none => rw [h2] at hr; cases hr
      | some n =>
        rw [h2] at hr
        simp only [Option.bind_some] at hr
        cases h3 : gapO s n.2 with
        | none => rw [h3] at hr; cases hr
        | some b =>
          rw [h3] at hr
          simp only [Option.bind_some] at hr
          split at hr
          · have := Option.some.inj hr; rw [← this]; intro x hx; cases hx
          · cases hr
  · cases hr
theorem dt_fold : ∀ (l L : List Df), Okay L → (∀ x ∈ l, Named1 x ∧ Small1 x) → dtOf (l.foldl addL L) = addAll (dtOf L) l
  | [], _, _, _ => rfl
  | x :: l, L, hL, h => by
    have hx := h x (List.mem_cons_self ..)
    have ih := dt_fold l (addL L x) (okay_add hL hx.1 hx.2) (fun y hy => h y (List.mem_cons_of_mem _ hy))
    show dtOf (l.foldl addL (addL L x)) = addAll (addD (dtOf L) x) l
    rw [ih, dt_add hL.named hx.1]
end Go.Proofs.YtpeinhmfboihmaaGreatDoor.Plain31
