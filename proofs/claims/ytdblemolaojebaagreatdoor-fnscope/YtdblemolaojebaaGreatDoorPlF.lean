import Derived.Test.YtdblemolaojebaaGreatDoorPlE
namespace Go.Proofs.YtdblemolaojebaaGreatDoor.Plain29
open Go.RowKit Strs Plain23 Go.Lib
theorem ent_end {s : ByteArray} {f i : Nat} {acc : List Int} (h : ¬ i < s.size) : aVm s f i acc = some acc := by
 cases f with
 | zero => rfl
 | succ f => unfold aVm; rw [if_neg h]
theorem ent_pct {s : ByteArray} {f i : Nat} {acc : List Int} (h : i < s.size) (hb : aQ2 s i = 37) : aVm s (f + 1) i acc = none := by unfold aVm; rw [if_pos h, if_pos hb]
theorem ent_on {s : ByteArray} {f i : Nat} {acc : List Int} (h : i < s.size) (hb : aQ2 s i ≠ 37) (hb2 : aQ2 s i ≠ 38) : aVm s (f + 1) i acc = aVm s f (i + 1) (acc ++ [aQ2 s i]) := by
 conv => lhs; unfold aVm
 rw [if_pos h, if_neg hb, if_neg hb2]
theorem ent_chr {s : ByteArray} {f i q : Nat} {n : Int} {acc : List Int} (h : i < s.size) (hb : aQ2 s i = 38) (hr : refZ s i = some (.inl n, q)) : aVm s (f + 1) i acc = aVm s f q (acc ++ encodeRuneZ n) := by
 conv => lhs; unfold aVm
 rw [if_pos h, if_neg (by rw [hb]; decide), if_pos hb, hr]
theorem ent_nam {s : ByteArray} {f i q : Nat} {b : ByteArray} {acc : List Int} (h : i < s.size) (hb : aQ2 s i = 38) (hr : refZ s i = some (.inr b, q)) : aVm s (f + 1) i acc = aVm s f q (acc ++ nums (s.extract i q)) := by
 conv => lhs; unfold aVm
 rw [if_pos h, if_neg (by rw [hb]; decide), if_pos hb, hr]
theorem ent_bad {s : ByteArray} {f i : Nat} {acc : List Int} (h : i < s.size) (hb : aQ2 s i = 38) (hr : refZ s i = none) : aVm s (f + 1) i acc = none := by
 unfold aVm
 rw [if_pos h, if_neg (by rw [hb]; decide), if_pos hb, hr]
theorem nums_cells (s : ByteArray) : strCells s = (nums s).map (Value.int .u8) := by
 unfold strCells nums; rw [List.map_map]; rfl
theorem bKn (s : ByteArray) : (nums s).length = s.size := by unfold nums; rw [List.length_map]; exact (Lib.size_eq s).symm
end Go.Proofs.YtdblemolaojebaaGreatDoor.Plain29
namespace Go.Proofs.YtdblemolaojebaaGreatDoor.Plain30
open Go.RowKit Lists Ents Plain23 Plain25 Go.Lib Go.Maps
def aX2 : Df → ByteArray × ByteArray
 | .inl e => (⟨#[]⟩, e.1)
 | .inr a => (a.of, a.nm)
def hasK (L : List Df) (k : ByteArray × ByteArray) : Bool := L.any fun y => decide (aX2 y = k)
def addL (L : List Df) (x : Df) : List Df := if hasK L (aX2 x) = true then L else L ++ [x]
def bJm : Df → Option (ByteArray × ByteArray)
 | .inl e => some e
 | .inr _ => none
def bJx : Df → Option At5
 | .inl _ => none
 | .inr a => some a
def dtOf (L : List Df) : Dt := ⟨L.filterMap bJm, L.filterMap bJx⟩
def aWd (x : Df) : Prop := ∀ a, x = .inr a → 1 ≤ a.of.size
def aWz (x : Df) : Prop := (aX2 x).1.size ≤ maxLen ∧ (aX2 x).2.size ≤ maxLen
theorem aK5 {a b : ByteArray} : (a.toList == b.toList) = true ↔ a = b := by
 rw [beq_iff_eq, Lib.toList_data, Lib.toList_data]
 constructor
 · intro h; exact ByteArray.ext (Array.toList_inj.1 h)
 · intro h; rw [h]
theorem bW3 {L : List Df} {k : ByteArray × ByteArray} : hasK L k = true ↔ ∃ y ∈ L, aX2 y = k := by
 unfold hasK
 rw [List.any_eq_true]
 constructor
 · rintro ⟨y, h1, h2⟩; exact ⟨y, h1, of_decide_eq_true h2⟩
 · rintro ⟨y, h1, h2⟩; exact ⟨y, h1, decide_eq_true h2⟩
theorem empty_size : (⟨#[]⟩ : ByteArray).size = 0 := rfl
theorem has_ent {L : List Df} (hn : ∀ y ∈ L, aWd y) (e : ByteArray × ByteArray) : hasK L (aX2 (.inl e)) = ((dtOf L).ents.find? (aW6 e.1)).isSome := by
 apply Bool.eq_iff_iff.2
 rw [bW3, List.find?_isSome]
 constructor
 · rintro ⟨y, hy, hk⟩
   cases y with
   | inl e' =>
    refine ⟨e', ?_, ?_⟩
    · exact List.mem_filterMap.2 ⟨_, hy, rfl⟩
    · unfold aW6; exact aK5.2 (congrArg Prod.snd hk)
   | inr a =>
    have h1 := hn _ hy a rfl
    have h2 : a.of = ⟨#[]⟩ := congrArg Prod.fst hk
    rw [h2] at h1
    exact absurd h1 (by decide)
 · rintro ⟨e', he, hi⟩
   obtain ⟨y, hy, hye⟩ := List.mem_filterMap.1 he
   refine ⟨y, hy, ?_⟩
   cases y with
   | inl e2 =>
    have : e2 = e' := Option.some.inj hye
    subst this
    unfold aW6 at hi
    show (_, e2.1) = (_, e.1)
    rw [aK5.1 hi]
   | inr a => cases hye
theorem has_att {L : List Df} (a : At5) (ha : 1 ≤ a.of.size) : hasK L (aX2 (.inr a)) = ((dtOf L).atts.find? (aVu a.of a.nm)).isSome := by
 apply Bool.eq_iff_iff.2
 rw [bW3, List.find?_isSome]
 constructor
 · rintro ⟨y, hy, hk⟩
   cases y with
   | inl e =>
    have h2 : ⟨#[]⟩ = a.of := congrArg Prod.fst hk
    rw [← h2] at ha
    exact absurd ha (by decide)
   | inr a' =>
    refine ⟨a', ?_, ?_⟩
    · exact List.mem_filterMap.2 ⟨_, hy, rfl⟩
    · unfold aVu
      rw [Bool.and_eq_true]
      exact ⟨aK5.2 (congrArg Prod.fst hk), aK5.2 (congrArg Prod.snd hk)⟩
 · rintro ⟨a', he, hi⟩
   obtain ⟨y, hy, hye⟩ := List.mem_filterMap.1 he
   refine ⟨y, hy, ?_⟩
   cases y with
   | inl e => cases hye
   | inr a2 =>
    have : a2 = a' := Option.some.inj hye
    subst this
    unfold aVu at hi
    rw [Bool.and_eq_true] at hi
    show (a2.of, a2.nm) = (a.of, a.nm)
    rw [aK5.1 hi.1, aK5.1 hi.2]
theorem dt_add {L : List Df} {x : Df} (hn : ∀ y ∈ L, aWd y) (hx : aWd x) : dtOf (addL L x) = addD (dtOf L) x := by
 unfold addL
 cases x with
 | inl e =>
  have hd : addD (dtOf L) (.inl e) = if ((dtOf L).ents.find? (aW6 e.1)).isSome = true then dtOf L else ⟨(dtOf L).ents ++ [e], (dtOf L).atts⟩ := rfl
  rw [hd, has_ent hn e]
  by_cases h : ((dtOf L).ents.find? (aW6 e.1)).isSome = true
  · rw [if_pos h, if_pos h]
  · rw [if_neg h, if_neg h]
    show (⟨(L ++ [Sum.inl e]).filterMap bJm, (L ++ [Sum.inl e]).filterMap bJx⟩ : Dt) = ⟨L.filterMap bJm ++ [e], L.filterMap bJx⟩
    rw [List.filterMap_append, List.filterMap_append]
    show (⟨L.filterMap bJm ++ [e], L.filterMap bJx ++ []⟩ : Dt) = _
    rw [List.append_nil]
 | inr a =>
  have hd : addD (dtOf L) (.inr a) = if ((dtOf L).atts.find? (aVu a.of a.nm)).isSome = true then dtOf L else ⟨(dtOf L).ents, (dtOf L).atts ++ [a]⟩ := rfl
  rw [hd, has_att a (hx a rfl)]
  by_cases h : ((dtOf L).atts.find? (aVu a.of a.nm)).isSome = true
  · rw [if_pos h, if_pos h]
  · rw [if_neg h, if_neg h]
    show (⟨(L ++ [Sum.inr a]).filterMap bJm, (L ++ [Sum.inr a]).filterMap bJx⟩ : Dt) = ⟨L.filterMap bJm, L.filterMap bJx ++ [a]⟩
    rw [List.filterMap_append, List.filterMap_append]
    show (⟨L.filterMap bJm ++ [], L.filterMap bJx ++ [a]⟩ : Dt) = _
    rw [List.append_nil]
structure Okay (L : List Df) : Prop where
 named : ∀ y ∈ L, aWd y
 small : ∀ y ∈ L, aWz y
 apart : L.Pairwise fun x y => aX2 x ≠ aX2 y
theorem okay_nil : Okay [] := ⟨by simp, by simp, List.Pairwise.nil⟩
theorem okay_snoc {L : List Df} {x : Df} (h : Okay L) (h1 : aWd x) (h2 : aWz x) (hk : hasK L (aX2 x) = false) : Okay (L ++ [x]) := by
 refine ⟨fun y hy => ?_, fun y hy => ?_, ?_⟩
 · rcases List.mem_append.1 hy with hy | hy
   · exact h.named y hy
   · rw [List.mem_singleton.1 hy]; exact h1
 · rcases List.mem_append.1 hy with hy | hy
   · exact h.small y hy
   · rw [List.mem_singleton.1 hy]; exact h2
 · rw [List.pairwise_append]
   refine ⟨h.apart, List.pairwise_singleton _ _, fun a ha b hb => ?_⟩
   rw [List.mem_singleton.1 hb]
   intro hc
   have := bW3.2 ⟨a, ha, hc⟩
   rw [hk] at this; cases this
theorem okay_add {L : List Df} {x : Df} (h : Okay L) (h1 : aWd x) (h2 : aWz x) : Okay (addL L x) := by
 unfold addL
 cases hk : hasK L (aX2 x) with
 | true => simpa using h
 | false => simpa using okay_snoc h h1 h2 hk
def mapD (κ : ByteArray × ByteArray → Lit) (V : Df → Value) (L : List Df) : DataW Value := L.foldl (fun D x => D.put (κ (aX2 x)) (.held (V x))) (.map [])
variable {κ : ByteArray × ByteArray → Lit} {V : Df → Value}
theorem bKs (L : List Df) (x : Df) : mapD κ V (L ++ [x]) = (mapD κ V L).put (κ (aX2 x)) (.held (V x)) := by unfold mapD; rw [List.foldl_append]; rfl
theorem map_isMap : ∀ (L : List Df) (D : DataW Value), IsMap D → IsMap (L.foldl (fun D x => D.put (κ (aX2 x)) (.held (V x))) D)
 | [], _, h => h
 | _ :: L, _, h => map_isMap L _ (h.put _ _)
theorem bVq (L : List Df) : IsMap (mapD κ V L) := map_isMap L _ isMap_empty
theorem map_has (hinj : ∀ {x y : ByteArray × ByteArray}, x.1.size ≤ maxLen → x.2.size ≤ maxLen → y.1.size ≤ maxLen → y.2.size ≤ maxLen → κ x = κ y → x = y) (hlit : ∀ {x : ByteArray × ByteArray}, x.1.size ≤ maxLen → x.2.size ≤ maxLen → WideAt.IsKeyLit (κ x))
 {k : ByteArray × ByteArray} (hk1 : k.1.size ≤ maxLen) (hk2 : k.2.size ≤ maxLen) : ∀ (n : Nat) (L : List Df), L.length = n → (∀ y ∈ L, aWz y) → Maps.has (mapD κ V L) (κ k) = hasK L k
 | 0, L, hn, _ => by rw [List.eq_nil_of_length_eq_zero hn]; rfl
 | n + 1, L, hn, hs => by
  have hne : L ≠ [] := fun h => by rw [h] at hn; cases hn
  obtain ⟨M, x, hM⟩ : ∃ M x, L = M ++ [x] := ⟨L.dropLast, L.getLast hne, (List.dropLast_concat_getLast hne).symm⟩
  rw [hM] at hn hs ⊢
  rw [bKs]
  have hlen : M.length = n := by simpa using hn
  have ih := map_has hinj hlit hk1 hk2 n M hlen (fun y hy => hs y (List.mem_append_left _ hy))
  have hx := hs x (List.mem_append_right _ (List.mem_singleton.2 rfl))
  have hsn : hasK (M ++ [x]) k = (hasK M k || decide (aX2 x = k)) := by unfold hasK; rw [List.any_append]; simp
  rw [hsn]
  by_cases hkx : aX2 x = k
  · rw [hkx, has_put_same (bVq M) (hlit hk1 hk2)]; simp
  · rw [has_put_other (fun e => hkx (hinj hk1 hk2 hx.1 hx.2 e).symm), ih]; simp [hkx]
theorem map_at (hinj : ∀ {x y : ByteArray × ByteArray}, x.1.size ≤ maxLen → x.2.size ≤ maxLen → y.1.size ≤ maxLen → y.2.size ≤ maxLen → κ x = κ y → x = y) (hlit : ∀ {x : ByteArray × ByteArray}, x.1.size ≤ maxLen → x.2.size ≤ maxLen → WideAt.IsKeyLit (κ x)) (z : DataW Value) :
 ∀ (n : Nat) (L : List Df), L.length = n → Okay L → ∀ x ∈ L, (mapD κ V L).atKey (κ (aX2 x)) z = .held (V x)
 | 0, L, hn, _, x, hx => by rw [List.eq_nil_of_length_eq_zero hn] at hx; cases hx
 | n + 1, L, hn, ho, x, hx => by
  have hne : L ≠ [] := fun h => by rw [h] at hn; cases hn
  obtain ⟨M, y, hM⟩ : ∃ M y, L = M ++ [y] := ⟨L.dropLast, L.getLast hne, (List.dropLast_concat_getLast hne).symm⟩
  rw [hM] at hn ho hx ⊢
  have hlen : M.length = n := by simpa using hn
  have hoM : Okay M := ⟨fun y hy => ho.named y (List.mem_append_left _ hy), fun y hy => ho.small y (List.mem_append_left _ hy), (List.pairwise_append.1 ho.apart).1⟩
  have hxs := ho.small x hx
  have hys := ho.small y (List.mem_append_right _ (List.mem_singleton.2 rfl))
  rw [bKs]
  rcases List.mem_append.1 hx with hx | hx
  · have hne : aX2 x ≠ aX2 y := (List.pairwise_append.1 ho.apart).2.2 x hx y (List.mem_singleton.2 rfl)
    rw [atKey_put_other (fun e => hne (hinj hxs.1 hxs.2 hys.1 hys.2 e))]
    exact map_at hinj hlit z n M hlen hoM x hx
  · rw [List.mem_singleton.1 hx, atKey_put_same (bVq M) (hlit hys.1 hys.2)]
end Go.Proofs.YtdblemolaojebaaGreatDoor.Plain30
namespace Go.Proofs.YtdblemolaojebaaGreatDoor.Plain31
open Go.RowKit Ents Plain6 Plain9 Plain10 Plain23 Plain30 Go.Lib
variable {s : ByteArray}
theorem bQo {p : Nat} {n : ByteArray × Nat} (h : aVt s p = some n) : 1 ≤ n.1.size ∧ n.1.size ≤ s.size := by
 obtain ⟨h0, h1, h2, h3, h4⟩ := aJ9 h
 have hp : nmP s p = p + aXw s p := rfl
 have hz : n.1.size = aXw s p := by
  rw [h1]
  show (s.extract p (p + aXw s p)).size = _
  rw [aX7 (by omega)]; omega
 omega
theorem att_nm {o : ByteArray} {p : Nat} {r : At5 × Nat} (h : attZ s o p = some r) : r.1.of = o ∧ r.1.nm.size ≤ s.size := by
 unfold attZ at h
 cases hn : aVt s p with
 | none => rw [hn] at h; cases h
 | some n =>
  rw [hn] at h
  have h2 := bQo hn
  simp only [Option.bind_some] at h
  cases h3 : gapO s n.2 with
  | none => rw [h3] at h; cases h
  | some a =>
   rw [h3] at h
   simp only [Option.bind_some] at h
   cases h4 : aVt s a with
   | none => rw [h4] at h; cases h
   | some k =>
    rw [h4] at h
    simp only [Option.bind_some] at h
    cases h5 : bV4 k.1 with
    | none => rw [h5] at h; cases h
    | some wd =>
     rw [h5] at h
     simp only [Option.bind_some] at h
     cases h6 : gapO s k.2 with
     | none => rw [h6] at h; cases h
     | some b =>
      rw [h6] at h
      simp only [Option.bind_some] at h
      cases h7 : defZ s b with
      | none => rw [h7] at h; cases h
      | some d =>
       rw [h7] at h
       have := Option.some.inj h
       rw [← this]
       exact ⟨rfl, h2.2⟩
theorem atts_all {o : ByteArray} : ∀ (f p : Nat) (acc : List At5) (r : List At5 × Nat), aZz s o f p acc = some r → (∀ a ∈ acc, a.of = o ∧ a.nm.size ≤ s.size) → ∀ a ∈ r.1, a.of = o ∧ a.nm.size ≤ s.size
 | 0, _, _, _, h, _ => by cases h
 | f + 1, p, acc, r, h, hacc => by
  unfold aZz at h
  split at h
  · have := Option.some.inj h; rw [← this]; exact hacc
  · split at h
    · cases h
    · split at h
      · cases h
      · rename_i a q ha
        refine atts_all f q _ r h fun b hb => ?_
        rcases List.mem_append.1 hb with hb | hb
        · exact hacc b hb
        · rw [List.mem_singleton.1 hb]
          exact att_nm ha
theorem mark_okay (hs : s.size ≤ 4000) {p : Nat} {r : List Df × Nat} (hr : aKh s p = some r) : ∀ x ∈ r.1, aWd x ∧ aWz x := by
 have hmx : (4000 : Nat) ≤ maxLen := by decide
 unfold aKh at hr
 split at hr
 · split at hr
   · have := Option.some.inj hr; rw [← this]; intro x hx; cases hx
   · cases hr
 split at hr
 · split at hr
   · have := Option.some.inj hr; rw [← this]; intro x hx; cases hx
   · cases hr
 split at hr
 · unfold aKj at hr
   cases h1 : gapO s (p + 8) with
   | none => rw [h1] at hr; cases hr
   | some a =>
    rw [h1] at hr
    simp only [Option.bind_some] at hr
    cases h2 : aVt s a with
    | none => rw [h2] at hr; cases hr
    | some n =>
     rw [h2] at hr
     simp only [Option.bind_some] at hr
     have hn := bQo h2
     cases h3 : gapO s n.2 with
     | none => rw [h3] at hr; cases hr
     | some b =>
      rw [h3] at hr
      simp only [Option.bind_some] at hr
      cases h4 : qtO s b with
      | none => rw [h4] at hr; cases hr
      | some v =>
       rw [h4] at hr
       simp only [Option.bind_some] at hr
       cases h5 : entO v.1 with
       | none => rw [h5] at hr; cases hr
       | some t =>
        rw [h5] at hr
        simp only [Option.bind_some] at hr
        cases h6 : bQ6 s (whiteZ s v.2) [62] with
        | none => rw [h6] at hr; cases hr
        | some q =>
         rw [h6] at hr
         have := Option.some.inj hr
         rw [← this]
         intro x hx
         rw [List.mem_singleton.1 hx]
         refine ⟨fun a ha => (by cases ha), ?_, ?_⟩
         · show (⟨#[]⟩ : ByteArray).size ≤ maxLen
           rw [empty_size]; omega
         · show n.1.size ≤ maxLen
           omega
 split at hr
 · unfold aV2 at hr
   cases h1 : gapO s (p + 9) with
   | none => rw [h1] at hr; cases hr
   | some a =>
    rw [h1] at hr
    simp only [Option.bind_some] at hr
    cases h2 : aVt s a with
    | none => rw [h2] at hr; cases hr
    | some n =>
     rw [h2] at hr
     simp only [Option.bind_some] at hr
     have hn := bQo h2
     cases h3 : aZz s n.1 (s.size + 1) n.2 [] with
     | none => rw [h3] at hr; cases hr
     | some l =>
      rw [h3] at hr
      have := Option.some.inj hr
      rw [← this]
      intro x hx
      obtain ⟨a, ha, hax⟩ := List.mem_map.1 hx
      have hal := atts_all _ _ _ _ h3 (fun a ha => by cases ha) a ha
      subst hax
      refine ⟨fun b hb => ?_, ?_, ?_⟩
      · have := Sum.inr.inj hb
        rw [← this, hal.1]; exact hn.1
      · show a.of.size ≤ maxLen
        rw [hal.1]; omega
      · show a.nm.size ≤ maxLen
        omega
 split at hr
 · unfold aJ3 at hr
   cases h1 : gapO s (p + 9) with
   | none => rw [h1] at hr; cases hr
   | some a =>
    rw [h1] at hr
    simp only [Option.bind_some] at hr
    cases h2 : aVt s a with
    | none => rw [h2] at hr; cases hr
    | some n =>
     rw [h2] at hr
     simp only [Option.bind_some] at hr
     cases h3 : gapO s n.2 with
     | none => rw [h3] at hr; cases hr
     | some b =>
      rw [h3] at hr
      simp only [Option.bind_some] at hr
      split at hr
      · have := Option.some.inj hr; rw [← this]; intro x hx; cases hx
      · cases hr
 · cases hr
theorem dt_fold : ∀ (l L : List Df), Okay L → (∀ x ∈ l, aWd x ∧ aWz x) → dtOf (l.foldl addL L) = aVo (dtOf L) l
 | [], _, _, _ => rfl
 | x :: l, L, hL, h => by
  have hx := h x (List.mem_cons_self ..)
  have ih := dt_fold l (addL L x) (okay_add hL hx.1 hx.2) (fun y hy => h y (List.mem_cons_of_mem _ hy))
  show dtOf (l.foldl addL (addL L x)) = aVo (addD (dtOf L) x) l
  rw [ih, dt_add hL.named hx.1]
end Go.Proofs.YtdblemolaojebaaGreatDoor.Plain31
