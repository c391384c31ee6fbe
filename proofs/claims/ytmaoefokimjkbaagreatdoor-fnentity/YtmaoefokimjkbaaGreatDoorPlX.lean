import Derived.Test.YtmaoefokimjkbaaGreatDoorPlE
import Derived.Test.YtmaoefokimjkbaaGreatDoorPlR
import Derived.Test.YtmaoefokimjkbaaGreatDoorPlF
set_option linter.unusedVariables false
namespace Go.Proofs.YtmaoefokimjkbaaGreatDoor.PlainH
open Go.RowKit Strs Plain9 Plain10 Plain11 Plain18 Plain19 Plain20 Plain25 Go.Lib
variable {s u v : ByteArray}
def shT (k : Nat) (T : Tk) : Tk := if T.fl = 0 then { T with pos := k + T.pos } else T
theorem sh_ok {k a : Nat} {b : Int} {n t : ByteArray} {l : List (ByteArray × ByteArray)} : shT k ⟨0, b, n, t, l, a⟩ = ⟨0, b, n, t, l, k + a⟩ := rfl
theorem sh_fail (k : Nat) {f : Nat} (h : f ≠ 0) : shT k (failT f) = failT f := if_neg h
theorem h_valT (h : Sh s u v) (p : Nat) : valT v (s.size + p) = valT u p := by
 unfold valT; rw [h_valE h, Nat.add_assoc, h_extr h]
theorem h_valP (h : Sh s u v) (p : Nat) : valP v (s.size + p) = s.size + valP u p := by
 unfold valP; rw [h_valE h, Nat.add_assoc]
theorem val_room {p : Nat} (h : valF u p = 0) : p < valP u p ∧ valP u p ≤ u.size := by
 obtain ⟨a, b, c, _⟩ := val_spec h
 unfold valP; omega
theorem h_tagGo (h : Sh s u v) (h0 : VB u 0) {nm : ByteArray} : ∀ (f f' p : Nat) (acc : List (ByteArray × ByteArray)), u.size < p + f → u.size < p + f' → VB u p → p ≤ u.size → tagGo v nm f (s.size + p) acc = shT s.size (tagGo u nm f' p acc)
 | 0, _, p, _, hf, _, _, hp => by omega
 | _ + 1, 0, p, _, _, hf', _, hp => by omega
 | f + 1, f' + 1, p, acc, hf, hf', hv, hp => by
  have hsz := h_size h
  rw [tag_sx, tag_sx u, h_white h]
  have hqv : VB u (whiteZ u p) := whiteZ_VB h0 hv
  have hql := whiteZ_le (s := u) hp
  have hqp := whiteZ_ge u p
  by_cases c1 : u.size ≤ whiteZ u p
  · rw [if_pos c1, if_pos (by omega), sh_fail _ (by decide)]
  rw [if_neg c1, if_neg (show ¬ v.size ≤ s.size + whiteZ u p by omega), h_byte h]
  by_cases c2 : byteAt u (whiteZ u p) = 62
  · rw [if_pos c2, if_pos c2, sh_ok, Nat.add_assoc]
  rw [if_neg c2, if_neg c2]
  by_cases c3 : byteAt u (whiteZ u p) = 47
  · rw [if_pos c3, if_pos c3, h_lack h]
    by_cases c : mustF u (whiteZ u p) [47, 62] = 0
    · rw [if_pos c, if_pos c, sh_ok, Nat.add_assoc]
    · rw [if_neg c, if_neg c, sh_fail _ c]
  rw [if_neg c3, if_neg c3]
  by_cases c4 : whiteZ u p = p
  · rw [if_pos c4, if_pos (by omega), sh_fail _ (by decide)]
  rw [if_neg c4, if_neg (show ¬ s.size + whiteZ u p = s.size + p by omega), h_nmF h hqv]
  by_cases c5 : nmF u (whiteZ u p) ≠ 0
  · rw [if_pos c5, if_pos c5, sh_fail _ c5]
  rw [if_neg c5, if_neg c5, h_nmP h hqv, h_nmT h hqv]
  have c5' : nmF u (whiteZ u p) = 0 := by simpa using c5
  obtain ⟨_, _, hnp, hne⟩ := nm_spec c5'
  rw [h_white h, h_lack h]
  by_cases c6 : mustF u (whiteZ u (nmP u (whiteZ u p))) [61] ≠ 0
  · rw [if_pos c6, if_pos c6, sh_fail _ c6]
  rw [if_neg c6, if_neg c6, Nat.add_assoc, h_white h, h_valF h]
  by_cases c7 : valF u (whiteZ u (whiteZ u (nmP u (whiteZ u p)) + 1)) ≠ 0
  · rw [if_pos c7, if_pos c7, sh_fail _ c7]
  rw [if_neg c7, if_neg c7]
  have c7' : valF u (whiteZ u (whiteZ u (nmP u (whiteZ u p)) + 1)) = 0 := by simpa using c7
  by_cases c8 : hasZ acc (nmT u (whiteZ u p)) = true
  · rw [if_pos c8, if_pos c8, sh_fail _ (by decide)]
  rw [if_neg c8, if_neg c8, h_valP h, h_valT h]
  have hr := val_room c7'
  have g1 := whiteZ_ge u (whiteZ u (nmP u (whiteZ u p)) + 1)
  have g2 := whiteZ_ge u (nmP u (whiteZ u p))
  exact h_tagGo h h0 f f' _ _ (by omega) (by omega) (val_VB h0 c7') hr.2
theorem h_tag (h : Sh s u v) (h0 : VB u 0) {p : Nat} (hv : VB u p) (hp : p ≤ u.size) : tagZ v (s.size + p) = shT s.size (tagZ u p) := by
 have hsz := h_size h
 unfold tagZ
 rw [h_nmF h hv]
 by_cases c5 : nmF u p ≠ 0
 · rw [if_pos c5, if_pos c5, sh_fail _ c5]
 rw [if_neg c5, if_neg c5, h_nmP h hv, h_nmT h hv]
 have c5' : nmF u p = 0 := by simpa using c5
 obtain ⟨_, _, hnp, hne⟩ := nm_spec c5'
 exact h_tagGo h h0 _ _ _ _ (by omega) (by omega) (nm_VB hv) (by omega)
theorem h_endZ (h : Sh s u v) {p : Nat} (hv : VB u p) : endZ v (s.size + p) = shT s.size (endZ u p) := by
 unfold endZ
 rw [h_nmF h hv]
 by_cases c5 : nmF u p ≠ 0
 · rw [if_pos c5, if_pos c5, sh_fail _ c5]
 rw [if_neg c5, if_neg c5, h_nmP h hv, h_nmT h hv]
 simp only
 rw [h_white h, h_lack h]
 by_cases c6 : mustF u (whiteZ u (nmP u p)) [62] = 0
 · rw [if_pos c6, if_pos c6, sh_ok, Nat.add_assoc]
 · rw [if_neg c6, if_neg c6, sh_fail _ c6]
theorem h_cdata (h : Sh s u v) {p : Nat} (hp : p ≤ u.size) : cdataZ v (s.size + p) = shT s.size (cdataZ u p) := by
 unfold cdataZ
 rw [h_upF h]
 by_cases c : upF u p [93, 93, 62] = 0
 · rw [if_pos c, if_pos c, sh_ok, h_upT h c hp, h_upP h c hp]
 · rw [if_neg c, if_neg c, sh_fail _ c]
theorem h_commentZ (h : Sh s u v) {p : Nat} (hp : p ≤ u.size) : commentZ v (s.size + p) = shT s.size (commentZ u p) := by
 unfold commentZ
 rw [h_upF h]
 by_cases c : upF u p [45, 45] = 0
 · rw [if_neg (not_not_intro c), if_neg (not_not_intro c), h_upT h c hp, h_upP h c hp, h_lack h]
   by_cases c6 : mustF u (upP u p [45, 45]) [62] = 0
   · rw [if_pos c6, if_pos c6, sh_ok, Nat.add_assoc]
   · rw [if_neg c6, if_neg c6, sh_fail _ c6]
 · rw [if_pos c, if_pos c, sh_fail _ c]
theorem h_piZ (h : Sh s u v) {p : Nat} (hv : VB u p) : piZ v (s.size + p) = shT s.size (piZ u p) := by
 unfold piZ
 rw [h_nmF h hv]
 by_cases c5 : nmF u p ≠ 0
 · rw [if_pos c5, if_pos c5, sh_fail _ c5]
 rw [if_neg c5, if_neg c5, h_nmP h hv, h_nmT h hv]
 have c5' : nmF u p = 0 := by simpa using c5
 obtain ⟨_, _, hnp, hne⟩ := nm_spec c5'
 have hle := whiteZ_le (s := u) (p := nmP u p) (by omega)
 by_cases hx : xmlB (nmT u p) = true
 · rw [if_pos hx, if_pos hx, sh_fail _ (by decide)]
 rw [if_neg hx, if_neg hx]
 simp only
 rw [h_white h]
 by_cases hw : nmP u p < whiteZ u (nmP u p)
 · rw [if_pos hw, if_pos (by omega), h_upF h]
   by_cases c : upF u (whiteZ u (nmP u p)) [63, 62] = 0
   · rw [if_pos c, if_pos c, sh_ok, h_upT h c hle, h_upP h c hle]
   · rw [if_neg c, if_neg c, sh_fail _ c]
 · rw [if_neg hw, if_neg (by omega), h_lack h]
   by_cases c6 : mustF u (whiteZ u (nmP u p)) [63, 62] = 0
   · rw [if_pos c6, if_pos c6, sh_ok, Nat.add_assoc]
   · rw [if_neg c6, if_neg c6, sh_fail _ c6]
theorem h_markZ (h : Sh s u v) (h0 : VB u 0) {p : Nat} (hp : p < u.size) (hb : byteAt u p = 60) (hd : hasAt u p [60, 33, 68, 79, 67, 84, 89, 80, 69] = false) : markZ v (s.size + p) = shT s.size (markZ u p) := by
 have hvb : ∀ (c : UInt8) (sg : List UInt8), hasAt u p (c :: sg) = true → ((c :: sg).getD sg.length 0).toNat < 128 → VB u (p + (c :: sg).length) := by
  intro c sg hh ha
  exact VB_sign h0 hh (by omega) (by simp) (by simpa using ha)
 unfold markZ
 rw [h_has h, h_has h, h_has h, h_has h, h_has h, h_has h, h_rest h, hd]
 split
 · rename_i h1
   have hr := has_room h1 (by omega)
   simp only [List.length_cons, List.length_nil] at hr
   rw [Nat.add_assoc, h_commentZ h (by omega)]
 split
 · rename_i h1
   have hr := has_room h1 (by omega)
   simp only [List.length_cons, List.length_nil] at hr
   rw [Nat.add_assoc, h_cdata h (by omega)]
 simp only [Bool.false_eq_true, if_false]
 split
 · rename_i h1
   rw [Nat.add_assoc]; exact h_piZ h (hvb _ _ h1 (by simp))
 split
 · rename_i h1
   rw [Nat.add_assoc]; exact h_endZ h (hvb _ _ h1 (by simp))
 split
 · rw [sh_fail]
   split <;> decide
 · rw [Nat.add_assoc, h_tag h h0 (VB_behind h0 (by omega) (by rw [show p + 1 - 1 = p from rfl, hb]; decide)) (by omega)]
theorem mid_mark {w : ByteArray} {t : List UInt8} (h : Sh s u v) (hx : Ext w u t) (h0 : VB u 0) (hw0 : VB w 0) (hw : 0 < w.size) (hb : byteAt w 0 = 60) (hd : hasAt w 0 [60, 33, 68, 79, 67, 84, 89, 80, 69] = false) (hd2 : (rest w 0).isPrefixOf [60, 33, 68, 79, 67, 84, 89, 80, 69] = false) (hf : (markZ w 0).fl = 0) : markZ v s.size = { markZ w 0 with pos := s.size + (markZ w 0).pos } := by
 have e := h_markZ h h0 (p := 0) (by have := e_le hx; omega) (by rw [e_byte hx hw]; exact hb) (e_hasNo hx (Nat.zero_le _) hd hd2).1
 rw [Nat.add_zero] at e
 rw [e, e_mark hx hw0 hw hb (by rw [hf]; decide)]
 unfold shT
 rw [if_pos hf]
end Go.Proofs.YtmaoefokimjkbaaGreatDoor.PlainH
namespace Go.Proofs.YtmaoefokimjkbaaGreatDoor.PlainP
open Go.RowKit Strs Plain9 Plain10 Plain11 Plain12 Plain18 Plain19 Plain21 Plain23 Plain24 Plain25 Plain27 PlainR Go.Lib
variable {s u v : ByteArray} {t : List UInt8}
theorem h_numAt (h : Sh s u v) (p : Nat) : numAt v (s.size + p) = s.size + numAt u p := by
 unfold numAt; rw [h_has h]; split <;> omega
theorem h_numBase (h : Sh s u v) (p : Nat) : numBase v (s.size + p) = numBase u p := by unfold numBase; rw [h_has h]
theorem h_numD (h : Sh s u v) (p : Nat) : numD v (s.size + p) = numD u p := by
 unfold numD; rw [h_numBase h, h_numAt h, h_rest h]
theorem h_numV (h : Sh s u v) (p : Nat) : numV v (s.size + p) = numV u p := by unfold numV; rw [h_numBase h, h_numD h]
theorem h_num (h : Sh s u v) (p : Nat) : numZ v (s.size + p) = (numZ u p).map fun x => (x.1, s.size + x.2) := by
 unfold numZ numOk
 rw [h_numD h, h_numV h, h_numAt h, Nat.add_assoc, h_has h]
 split
 · rw [Option.map_some]; simp only [Nat.add_assoc]
 · rfl
theorem h_named (h : Sh s u v) {p : Nat} (hv : VB u p) : namedZ v (s.size + p) = (namedZ u p).map fun x => (x.1, s.size + x.2) := by
 unfold namedZ
 rw [h_nmF h hv, h_nmP h hv, h_nmT h hv, h_has h]
 split
 · rw [Option.map_some]; simp only [Nat.add_assoc]
 · rfl
theorem h_ref (h : Sh s u v) {p : Nat} (hv : VB u (p + 1)) : refZ v (s.size + p) = (refZ u p).map fun x => (x.1, s.size + x.2) := by
 unfold refZ
 rw [Nat.add_assoc, h_has h]
 split
 · rw [Nat.add_assoc, h_num h]
   cases numZ u (p + 2) <;> rfl
 · rw [h_named h hv]
   cases namedZ u (p + 1) <;> rfl
theorem digs_app (b : Nat) : ∀ (l t : List UInt8), (digs b l).length < l.length → digs b (l ++ t) = digs b l
 | [], _, h => by simp at h
 | c :: l, t, h => by
  unfold digs at h ⊢
  rw [List.cons_append, List.takeWhile_cons, List.takeWhile_cons]
  by_cases hc : decide (digV c < b) = true
  · rw [if_pos hc, if_pos hc]
    rw [List.takeWhile_cons, if_pos hc] at h
    have := digs_app b l t (by unfold digs; simpa using h)
    unfold digs at this
    rw [this]
  · rw [if_neg hc, if_neg hc]
theorem e_num (h : Ext s u t) {p : Nat} {r : Int × Nat} (hp : p < s.size) (hr : numZ s p = some r) : numZ u p = some r := by
 obtain ⟨⟨n1, n2, n3, n4⟩, rfl⟩ := num_some hr
 have e0 : hasAt u p [120] = hasAt s p [120] := e_one h hp _
 have ea : numAt u p = numAt s p := by unfold numAt; rw [e0]
 have eb : numBase u p = numBase s p := by unfold numBase; rw [e0]
 have hlt : numAt s p + (numD s p).length < s.size := has_lt n3
 have ed : numD u p = numD s p := by
  unfold numD
  rw [ea, eb, e_rest h (by omega)]
  refine digs_app _ _ _ ?_
  rw [rest_len]
  have : (numD s p).length = (digs (numBase s p) (rest s (numAt s p))).length := rfl
  omega
 have ev : numV u p = numV s p := by unfold numV; rw [eb, ed]
 unfold numZ numOk
 rw [ed, ev, ea, if_pos ⟨n1, n2, e_has h (by omega) n3, n4⟩]
theorem e_named (h : Ext s u t) {p : Nat} {r : ByteArray × Nat} (hv : VB s p) (hr : namedZ s p = some r) : namedZ u p = some r := by
 unfold namedZ at hr
 by_cases c : nmF s p = 0 ∧ hasAt s (nmP s p) [59] = true
 · rw [if_pos c] at hr
   cases hr
   obtain ⟨e1, e2⟩ := e_nm h hv (by rw [c.1]; decide)
   obtain ⟨e3, e4⟩ := e2 c.1
   have := nm_spec c.1
   unfold namedZ
   rw [e1, e3, e4, if_pos ⟨c.1, e_has h (by omega) c.2⟩]
 · rw [if_neg c] at hr; cases hr
theorem e_ref (h : Ext s u t) {p : Nat} {r : Rf × Nat} (hp : p + 1 < s.size) (hv : VB s (p + 1)) (hr : refZ s p = some r) : refZ u p = some r := by
 unfold refZ at hr ⊢
 rw [e_one h hp]
 split
 · rename_i c
   rw [if_pos c] at hr
   obtain ⟨x, hx, he⟩ := Option.map_eq_some_iff.1 hr
   have : p + 2 < s.size := by
    apply Decidable.byContradiction
    intro hn
    obtain ⟨⟨n1, n2, n3, n4⟩, _⟩ := num_some hx
    have := has_lt n3
    have ha : p + 2 ≤ numAt s (p + 2) := by unfold numAt; split <;> omega
    omega
   rw [e_num h this hx, ← he]; rfl
 · rename_i c
   rw [if_neg c] at hr
   obtain ⟨x, hx, he⟩ := Option.map_eq_some_iff.1 hr
   rw [e_named h hv hx, ← he]; rfl
theorem amp_le {p : Nat} (hp : p ≤ s.size) : p ≤ ampE s p ∧ ampE s p ≤ s.size := by
 unfold ampE
 split
 · omega
 · rcases fz_spec s p [38] hp with h0 | ⟨i, h0, h1, h2, _⟩
   · contradiction
   · rw [h0, Int.toNat_natCast]; simp only [List.length_cons, List.length_nil] at h2; omega
theorem amp_at {p : Nat} (hp : p < s.size) (hb : byteAt s p = 38) : ampE s p = p := by
 have hh : hasAt s p [38] = true := by rw [has_cons hp, has_nil, (u8At_is (s := s) (p := p) 38 38 rfl).1 hb]; rfl
 unfold ampE
 rw [fz_hit hp hh, if_neg (by omega), Int.toNat_natCast]
theorem amp_on {p : Nat} (hp : p < s.size) (hb : byteAt s p ≠ 38) : ampE s p = ampE s (p + 1) := by
 have hh : hasAt s p [38] = false := by
  cases hc : hasAt s p [38] with
  | false => rfl
  | true => exact absurd (byteAt_of_cons hc hp) hb
 unfold ampE
 rw [fz_miss hp hh]
theorem amp_end {p : Nat} (hp : s.size ≤ p) : ampE s p = s.size := by
 unfold ampE
 rw [fz_nil (by simp) (by simp; omega), if_pos rfl]
theorem h_amp (h : Sh s u v) {p : Nat} (hp : p ≤ u.size) : ampE v (s.size + p) = s.size + ampE u p := by
 have hsz := h_size h
 by_cases hc : upF u p [38] = 0
 · have e := h_fz h hc hp
   have c2 : upF v (s.size + p) [38] = 0 := by rw [h_upF h]; exact hc
   have z1 : ¬ fz u p [38] = -1 := by unfold upF at hc; intro h; rw [if_pos h] at hc; cases hc
   have z2 : ¬ fz v (s.size + p) [38] = -1 := by unfold upF at c2; intro h; rw [if_pos h] at c2; cases c2
   unfold ampE; rw [if_neg z1, if_neg z2, e]
 · have c2 : ¬ upF v (s.size + p) [38] = 0 := by rw [h_upF h]; exact hc
   have z1 : fz u p [38] = -1 := by
    unfold upF at hc
    by_cases h : fz u p [38] = -1
    · exact h
    · rw [if_neg h] at hc; exact absurd rfl hc
   have z2 : fz v (s.size + p) [38] = -1 := by
    unfold upF at c2
    by_cases h : fz v (s.size + p) [38] = -1
    · exact h
    · rw [if_neg h] at c2; exact absurd rfl c2
   unfold ampE; rw [if_pos z1, if_pos z2, hsz]
def Tm (s : ByteArray) : Prop := ∀ i, i < s.size → 32 ≤ byteAt s i ∧ byteAt s i < 127
theorem Tm.vb (h : Tm s) : ∀ (n p : Nat), s.size ≤ p + n → VB s p
 | 0, p, hn => VB_end (by omega)
 | n + 1, p, hn => by
  by_cases hp : p < s.size
  · have := h p hp
    have hr := rune_plain hp this.1 this.2
    exact VB_of hp (by rw [hr]; decide) (by rw [hr]; exact Tm.vb h n (p + 1) (by omega))
  · exact VB_end (by omega)
theorem Tm.at (h : Tm s) (p : Nat) : VB s p := h.vb s.size p (by omega)
theorem Tm.behind (h : Sh s u v) (hv : Tm v) : Tm u := fun i hi => by
 have := hv (s.size + i) (by have := h_size h; omega)
 rwa [h_byte h] at this
theorem Tm.ahead (h : Ext s u t) (hu : Tm u) : Tm s := fun i hi => by
 have := hu i (by have := e_le h; omega)
 rwa [e_byte h hi] at this
section
variable {b : Bool} {EN : Sg → ByteArray → Sg × Option Int}
theorem h_parts (h : Sh s u v) (hT : Tm u) : ∀ (n n' p : Nat) (σ : Sg), u.size < p + n → u.size < p + n' → p ≤ u.size → partsG b EN n v (s.size + p) σ = partsG b EN n' u p σ
 | 0, _, p, _, hn, _, hp => by omega
 | _ + 1, 0, p, _, _, hn, hp => by omega
 | n + 1, n' + 1, p, σ, hn, hn', hp => by
  have hsz := h_size h
  conv => lhs; unfold partsG
  conv => rhs; unfold partsG
  by_cases c0 : u.size ≤ p
  · rw [if_pos c0, if_pos (by omega)]
  rw [if_neg c0, if_neg (by omega), h_byte h]
  by_cases c1 : byteAt u p ≠ 38
  · rw [if_pos c1, if_pos c1, h_amp h hp, h_extr h]
    cases plainP b σ (u.extract p (ampE u p)).data.toList with
    | none => rfl
    | some σ' =>
     have ha := amp_le (s := u) (p := p + 1) (by omega)
     rw [← amp_on (by omega) c1] at ha
     exact h_parts h hT n n' _ _ (by omega) (by omega) ha.2
  · rw [if_neg c1, if_neg c1, h_ref h (hT.at _)]
    cases hr : refZ u p with
    | none => rfl
    | some r =>
     obtain ⟨r, q⟩ := r
     obtain ⟨q1, q2, _⟩ := ref_some (by omega) hr
     simp only [Option.map_some]
     cases r with
     | inl c => exact h_parts h hT n n' _ _ (by omega) (by omega) q2
     | inr nm =>
      simp only
      cases givenZ nm with
      | some x => exact h_parts h hT n n' _ _ (by omega) (by omega) q2
      | none =>
       simp only
       cases entTo σ.1.dt σ.1.wi σ.1.spent nm with
       | error c => rfl
       | ok tx =>
        simp only
        cases EN (goIn σ nm tx) tx with
        | mk σ2 oc =>
         cases oc with
         | some c => rfl
         | none => exact h_parts h hT n n' _ _ (by omega) (by omega) q2
theorem h_parts0 (h : Sh s u v) (hT : Tm u) {n : Nat} {σ : Sg} (hn : u.size < n) : partsG b EN n v s.size σ = partsG b EN (u.size + 1) u 0 σ := by
 have := h_parts (b := b) (EN := EN) h hT n (u.size + 1) 0 σ (by omega) (by omega) (Nat.zero_le _)
 rwa [Nat.add_zero] at this
theorem pt_byte {c : UInt8} (h : Sh ⟨#[c]⟩ u v) (hT : Tm u) (hc : c ≠ 38) (σ : Sg) : partsG false EN (v.size + 1) v 0 σ = partsG false EN (u.size + 1) u 0 ({ σ.1 with txt := σ.1.txt ++ [c] }, σ.2) := by
 have hsz : v.size = 1 + u.size := h_size h
 have hx : Ext ⟨#[c]⟩ v u.data.toList := h.ext
 have hb : byteAt v 0 = (c.toNat : Int) := by
  rw [e_byte hx (Nat.zero_lt_one)]; rfl
 have h38 : byteAt v 0 ≠ 38 := fun hh => hc (by
  rw [hb] at hh
  exact UInt8.toNat_inj.1 (by rw [show (38 : UInt8).toNat = 38 from rfl]; omega))
 conv => lhs; unfold partsG
 rw [if_neg (by omega), if_pos h38]
 simp only [plainP, Bool.false_eq_true, if_false]
 have e1 : ampE v 0 = 1 + ampE u 0 := by
  rw [amp_on (by omega) h38]
  exact h_amp h (Nat.zero_le _)
 have ha := amp_le (s := u) (p := 0) (Nat.zero_le _)
 have hl : (v.extract 0 (ampE v 0)).data.toList = c :: (u.extract 0 (ampE u 0)).data.toList := by
  rw [e1, ext_list, ext_list]
  have : v.data.toList = c :: u.data.toList := h
  rw [this, Nat.sub_zero, Nat.sub_zero, List.drop_zero, List.drop_zero, Nat.add_comm, List.take_succ_cons]
 rw [hl, e1]
 have e2 := h_parts (b := false) (EN := EN) h hT v.size u.size (ampE u 0) ({ σ.1 with txt := σ.1.txt ++ c :: (u.extract 0 (ampE u 0)).data.toList }, σ.2)
 by_cases c0 : u.size = 0
 · have e3 : ampE u 0 = 0 := by omega
   have e4 : (u.extract 0 (ampE u 0)).data.toList = [] := by rw [ext_list, e3]; rfl
   rw [e4]
   have e5 := h_parts (b := false) (EN := EN) h hT v.size (u.size + 1) 0 ({ σ.1 with txt := σ.1.txt ++ [c] }, σ.2) (by omega) (by omega) (Nat.zero_le _)
   rw [e3]
   exact e5
 · by_cases c1 : byteAt u 0 = 38
   · have e3 : ampE u 0 = 0 := amp_at (by omega) c1
     have e4 : (u.extract 0 (ampE u 0)).data.toList = [] := by rw [ext_list, e3]; rfl
     rw [e4]
     have e5 := h_parts (b := false) (EN := EN) h hT v.size (u.size + 1) 0 ({ σ.1 with txt := σ.1.txt ++ [c] }, σ.2) (by omega) (by omega) (Nat.zero_le _)
     rw [e3]
     exact e5
   · have e3 : 0 < ampE u 0 := by
      have := amp_le (s := u) (p := 1) (by omega)
      rw [amp_on (by omega) c1, Nat.zero_add]; omega
     conv => rhs; unfold partsG
     rw [if_neg (by omega), if_pos c1]
     simp only [plainP, Bool.false_eq_true, if_false]
     rw [List.append_assoc, List.singleton_append]
     exact e2 (by omega) (by omega) ha.2
theorem ref_head {w : ByteArray} {r : Rf × Nat} (h : Sh w u v) (hw : Tm w) (h1 : 1 < w.size) (hr : refZ w 0 = some r) : refZ v 0 = some r := e_ref h.ext h1 (hw.at _) hr
theorem pt_char {w : ByteArray} {n : Int} (h : Sh w u v) (hT : Tm u) (hw : Tm w) (h1 : 1 < w.size) (hb : byteAt w 0 = 38) (hr : refZ w 0 = some (.inl n, w.size)) (σ : Sg) : partsG b EN (v.size + 1) v 0 σ = partsG b EN (u.size + 1) u 0 (signP b σ (encB n)) := by
 have hsz := h_size h
 conv => lhs; unfold partsG
 rw [if_neg (by omega), if_neg (by rw [e_byte h.ext (by omega), hb]; simp), ref_head h hw h1 hr]
 exact h_parts0 h hT (by omega)
theorem pt_given {w nm : ByteArray} {c : UInt8} (h : Sh w u v) (hT : Tm u) (hw : Tm w) (h1 : 1 < w.size) (hb : byteAt w 0 = 38) (hr : refZ w 0 = some (.inr nm, w.size)) (hg : givenZ nm = some c) (σ : Sg) : partsG b EN (v.size + 1) v 0 σ = partsG b EN (u.size + 1) u 0 (signP b σ [c]) := by
 have hsz := h_size h
 conv => lhs; unfold partsG
 rw [if_neg (by omega), if_neg (by rw [e_byte h.ext (by omega), hb]; simp), ref_head h hw h1 hr]
 simp only [hg]
 exact h_parts0 h hT (by omega)
theorem pt_ent {w nm tx : ByteArray} {σ σ2 : Sg} (h : Sh w u v) (hT : Tm u) (hw : Tm w) (h1 : 1 < w.size) (hb : byteAt w 0 = 38) (hr : refZ w 0 = some (.inr nm, w.size)) (hg : givenZ nm = none) (ht : entTo σ.1.dt σ.1.wi σ.1.spent nm = .ok tx) (he : EN (goIn σ nm tx) tx = (σ2, none)) : partsG b EN (v.size + 1) v 0 σ = partsG b EN (u.size + 1) u 0 (goOut σ.1.wi σ2) := by
 have hsz := h_size h
 conv => lhs; unfold partsG
 rw [if_neg (by omega), if_neg (by rw [e_byte h.ext (by omega), hb]; simp), ref_head h hw h1 hr]
 simp only [hg, ht, he]
 exact h_parts0 h hT (by omega)
end
end Go.Proofs.YtmaoefokimjkbaaGreatDoor.PlainP
namespace Go.Proofs.YtmaoefokimjkbaaGreatDoor.PlainC
open Go.RowKit Strs Lists Plain9 Plain10 Plain11 Plain12 Plain21 Plain23 Plain25 PlainR PlainP Go.Lib
section
variable {f p : Nat} {E : Option ByteArray} {s : ByteArray} {cl : Bool} {st st1 : Rs} {T : Tk}
theorem k_end (h : nextR st s p cl = (st1, .ok T)) (he : isEndR E T = true) : conGo (f + 1) E s p cl st = (st1, .ok T.pos) := by
 unfold conGo; rw [h]; simp only; rw [if_pos he]
theorem k_el (h : nextR st s p cl = (st1, .ok T)) (he : isEndR E T = false) (hk : T.kind = 1 ∨ T.kind = 3) : conGo (f + 1) E s p cl st = match elemR f s T cl st1 with | (a, .error c) => (a, .error c) | (a, .ok q) => conGo f E s q cl a := by
 conv => lhs; unfold conGo
 rw [h]; simp only; rw [if_neg (by rw [he]; simp), if_pos hk]
 unfold elemR
 cases hs : startR st1 T with
 | mk st2 oc =>
  cases oc with
  | some c => rfl
  | none =>
   simp only
   by_cases h1 : T.kind = 1
   · rw [if_pos h1, if_pos h1]
     cases hc : conGo f (some T.name) s T.pos cl { st2 with deep := st2.deep + 1 } with
     | mk st3 oc => cases oc <;> rfl
   · rw [if_neg h1, if_neg h1]
theorem k_aside (h : nextR st s p cl = (st1, .ok T)) (he : isEndR E T = false) (hk : T.kind = 6 ∨ T.kind = 7) : conGo (f + 1) E s p cl st = conGo f E s T.pos cl (asideR st1 T) := by
 conv => lhs; unfold conGo
 rw [h]; simp only; rw [if_neg (by rw [he]; simp), if_neg (by omega), if_pos hk]
theorem k_text (h : nextR st s p cl = (st1, .ok T)) (he : isEndR E T = false) (hk : T.kind = 4) : conGo (f + 1) E s p cl st = match partsG false (entC f) (T.text.size + 1) T.text 0 (st1, []) with | (σ, some c) => (σ.1, .error c) | (σ, none) => conGo f E s T.pos cl σ.1 := by
 conv => lhs; unfold conGo
 rw [h]; simp only; rw [if_neg (by rw [he]; simp), if_neg (by omega), if_neg (by omega), if_pos hk]
 rfl
theorem k_cdata (h : nextR st s p cl = (st1, .ok T)) (he : isEndR E T = false) (hk : T.kind = 5) : conGo (f + 1) E s p cl st = conGo f E s T.pos cl { st1 with txt := st1.txt ++ T.text.data.toList } := by
 conv => lhs; unfold conGo
 rw [h]; simp only; rw [if_neg (by rw [he]; simp), if_neg (by omega), if_neg (by omega), if_neg (by omega), if_pos hk]
end
variable {E : Option ByteArray} {s : ByteArray} {st st' : Rs} {n p q Q : Nat}
theorem not_end {T : Tk} (h0 : T.kind ≠ 0) (h2 : T.kind ≠ 2) : isEndR E T = false := by
 unfold isEndR
 cases E with
 | none => simp [h0]
 | some nm => simp [h2]
theorem at_pos (st : Rs) (x p : Nat) : ∃ y, atZ { st with pos := x } p = { st with pos := y } := by
 unfold atZ
 split
 · exact ⟨p, rfl⟩
 · exact ⟨x, rfl⟩
def txT (s : ByteArray) (q : Nat) : ByteArray := s.extract q (textE s q)
def tcGo (f : Nat) (E : Option ByteArray) (s : ByteArray) (q : Nat) (st : Rs) : Rs × Except Int Nat :=
 match partsG false (entC f) ((txT s q).size + 1) (txT s q) 0 (st, []) with
 | (σ, some c) => (σ.1, .error c)
 | (σ, none) => conGo f E s (textE s q) true σ.1
structure TC (n : Nat) (E : Option ByteArray) (s : ByteArray) (q : Nat) (st st' : Rs) (Q : Nat) : Prop where
 cl : ∀ i, q ≤ i → i < textE s q → byteAt s i ≠ 93
 le : q ≤ s.size
 run : ∀ f, n ≤ f → ∀ x, ∃ y, tcGo f E s q { st with pos := x } = ({ st' with pos := y }, .ok Q)
def CN (n : Nat) (E : Option ByteArray) (s : ByteArray) (q : Nat) (st st' : Rs) (Q : Nat) : Prop :=
 ∀ f, n ≤ f → ∀ x, ∃ y, conGo f E s q true { st with pos := x } = ({ st' with pos := y }, .ok Q)
theorem TC.up {m : Nat} (h : TC n E s q st st' Q) (hm : n ≤ m) : TC m E s q st st' Q := ⟨h.cl, h.le, fun f hf => h.run f (by omega)⟩
theorem tx_on (hp : p < s.size) (hb : byteAt s p ≠ 60) : textE s p = textE s (p + 1) := by
 have hh : hasAt s p [60] = false := by
  cases hc : hasAt s p [60] with
  | false => rfl
  | true => exact absurd (byteAt_of_cons hc hp) hb
 unfold textE
 rw [fz_miss hp hh]
theorem tx_at (hp : p < s.size) (hb : byteAt s p = 60) : textE s p = p := by
 have hh : hasAt s p [60] = true := by rw [has_cons hp, has_nil, (u8At_is (s := s) (p := p) 60 60 rfl).1 hb]; rfl
 unfold textE
 rw [fz_hit hp hh, if_neg (by omega), Int.toNat_natCast]
theorem tx_end (hp : s.size ≤ p) : textE s p = s.size := by
 unfold textE
 rw [fz_nil (by simp) (by simp; omega), if_pos rfl]
theorem tx_le (hp : p ≤ s.size) : p ≤ textE s p ∧ textE s p ≤ s.size := ⟨(text_E hp).1, (text_E hp).2.1⟩
theorem tx_over : ∀ (k p : Nat), p + k ≤ s.size → (∀ i, p ≤ i → i < p + k → byteAt s i ≠ 60) → textE s p = textE s (p + k)
 | 0, p, _, _ => rfl
 | k + 1, p, hk, h => by
  rw [tx_on (by omega) (h p (Nat.le_refl _) (by omega)), tx_over k (p + 1) (by omega) (fun i h1 h2 => h i (by omega) (by omega))]
  congr 1; omega
theorem tx_parts {k : Nat} (hk : p + k ≤ s.size) (h : ∀ i, p ≤ i → i < p + k → byteAt s i ≠ 60) : Sh (s.extract p (p + k)) (txT s (p + k)) (txT s p) := by
 have e := tx_over k p hk h
 have hl := tx_le (s := s) hk
 unfold Sh txT
 rw [ext_list, ext_list, ext_list, e]
 rw [show textE s (p + k) - p = k + (textE s (p + k) - (p + k)) by omega, show p + k - p = k by omega, List.take_add, List.drop_drop]
theorem tm_cut (hT : Tm s) (p q : Nat) (hq : q ≤ s.size) : Tm (s.extract p q) := fun i hi => by
 have hs := ext_size (s := s) (p := p) hq
 have hb : byteAt (s.extract p q) i = byteAt s (p + i) := by
  rw [byteAt_head, byteAt_head, ext_list, List.getD_eq_getElem?_getD, List.getD_eq_getElem?_getD, List.getElem?_take, if_pos (by omega), List.getElem?_drop]
 rw [hb]
 exact hT _ (by omega)
theorem tx_tm (hT : Tm s) (hq : q ≤ s.size) : Tm (txT s q) := tm_cut hT _ _ (tx_le hq).2
theorem idx_none {l : List UInt8} (h : ∀ b ∈ l, b ≠ 93) : Lib.index l [93, 93, 62] = -1 := by
 rcases Lib.index_spec l [93, 93, 62] with h0 | ⟨i, h0, h1, h2, _⟩
 · exact h0.1
 · exfalso
   unfold Lib.occAt at h2
   cases hd : l.drop i with
   | nil => rw [hd] at h2; simp at h2
   | cons c t =>
    rw [hd] at h2
    simp only [List.isPrefixOf, Bool.and_eq_true, beq_iff_eq] at h2
    have hm : c ∈ l := List.mem_of_mem_drop (by rw [hd]; exact List.mem_cons_self)
    exact h c hm h2.1.symm
theorem tx_text (hT : Tm s) (h : ∀ i, q ≤ i → i < textE s q → byteAt s i ≠ 93) (hq : q ≤ s.size) : textZ s q true = ⟨0, 4, ByteArray.empty, txT s q, [], textE s q⟩ := by
 unfold textZ
 have hi : Lib.index (s.extract q (textE s q)).data.toList [93, 93, 62] = -1 := by
  apply idx_none
  intro b hb he
  rw [ext_list] at hb
  obtain ⟨i, hi, hx⟩ := List.mem_iff_getElem.1 hb
  have hl := tx_le (s := s) hq
  rw [List.length_take, List.length_drop] at hi
  have hsz : s.data.toList.length = s.size := rfl
  have := h (q + i) (by omega) (by omega)
  apply this
  rw [List.getElem_take, List.getElem_drop] at hx
  rw [byteAt_head, List.getD_eq_getElem?_getD, List.getElem?_eq_getElem (by omega), Option.getD_some, hx, he]
  rfl
 rw [if_neg (by rw [hi]; simp), if_neg (by simp)]
 rfl
theorem tok_text (hq : q < s.size) (h60 : byteAt s q ≠ 60) (c : Bool) : tokZ s q c = textZ s q c := by
 unfold tokZ
 rw [if_neg]
 intro hh
 exact h60 (byteAt_of_cons hh hq)
theorem tok_mark (hq : q < s.size) (h60 : byteAt s q = 60) (c : Bool) : tokZ s q c = markZ s q := by
 unfold tokZ
 rw [if_pos]
 rw [has_cons hq, has_nil, (u8At_is (s := s) (p := q) 60 60 rfl).1 h60]; rfl
theorem tc_stop (hq : q ≤ s.size) (hb : q = s.size ∨ byteAt s q = 60) : textE s q = q ∧ (txT s q).size = 0 := by
 have he : textE s q = q := by
  by_cases h1 : q < s.size
  · exact tx_at h1 (hb.resolve_left (by omega))
  · rw [tx_end (by omega)]; omega
 refine ⟨he, ?_⟩
 unfold txT
 rw [he, ext_size hq]; omega
theorem tcGo_stop {f : Nat} (hq : q ≤ s.size) (hb : q = s.size ∨ byteAt s q = 60) : tcGo f E s q st = conGo f E s q true st := by
 obtain ⟨h1, h2⟩ := tc_stop hq hb
 unfold tcGo
 rw [h2]
 unfold partsG
 rw [if_pos (by omega), h1]
theorem tc_mark (hq : q ≤ s.size) (hb : q = s.size ∨ byteAt s q = 60) (h : CN n E s q st st' Q) : TC n E s q st st' Q :=
 ⟨fun i h1 h2 => by rw [(tc_stop hq hb).1] at h2; omega, hq, fun f hf x => by rw [tcGo_stop hq hb]; exact h f hf x⟩
theorem cn_of (hT : Tm s) (h : TC n E s q st st' Q) : CN (n + 1) E s q st st' Q := by
 intro f hf x
 by_cases hb : q = s.size ∨ byteAt s q = 60
 · obtain ⟨y, hy⟩ := h.run f (by omega) x
   rw [tcGo_stop h.le hb] at hy
   exact ⟨y, hy⟩
 · have h60 : byteAt s q ≠ 60 := fun hh => hb (Or.inr hh)
   have hq : q < s.size := by have := h.le; have : q ≠ s.size := fun hh => hb (Or.inl hh); omega
   obtain ⟨g, rfl⟩ : ∃ g, f = g + 1 := ⟨f - 1, by omega⟩
   obtain ⟨x', hx'⟩ := at_pos st x q
   have e1 : nextR { st with pos := x } s q true = ({ st with pos := x' }, .ok ⟨0, 4, ByteArray.empty, txT s q, [], textE s q⟩) := by
    unfold nextR
    rw [if_neg (by omega), tok_text hq h60, tx_text hT h.cl h.le, if_pos rfl, hx']
   obtain ⟨y, hy⟩ := h.run g (by omega) x'
   refine ⟨y, ?_⟩
   rw [k_text e1 (not_end (show (4 : Int) ≠ 0 by decide) (show (4 : Int) ≠ 2 by decide)) rfl]
   exact hy
theorem byte_u8 {c : UInt8} (h : u8At s p = c) : byteAt s p = (c.toNat : Int) := u8At_eq.2 h
theorem tc_part {k m : Nat} {st1 : Rs} (h : TC n E s (p + k) st1 st' Q) (h60 : ∀ i, p ≤ i → i < p + k → byteAt s i ≠ 60) (h93 : ∀ i, p ≤ i → i < p + k → byteAt s i ≠ 93)
 (hgo : ∀ f, m ≤ f → ∀ x, ∃ x', partsG false (entC f) ((txT s p).size + 1) (txT s p) 0 ({ st with pos := x }, []) = partsG false (entC f) ((txT s (p + k)).size + 1) (txT s (p + k)) 0 ({ st1 with pos := x' }, [])) : TC (n + m) E s p st st' Q := by
 have e := tx_over k p h.le h60
 refine ⟨?_, by have := h.le; omega, ?_⟩
 · intro i h1 h2
   by_cases hi : i < p + k
   · exact h93 i h1 hi
   · exact h.cl i (by omega) (by rw [← e]; exact h2)
 · intro f hf x
   obtain ⟨x', hx'⟩ := hgo f (by omega) x
   obtain ⟨y, hy⟩ := h.run f (by omega) x'
   refine ⟨y, ?_⟩
   unfold tcGo at hy ⊢
   rw [hx', e]
   exact hy
theorem ext_one {c : UInt8} (hp : p < s.size) (hb : u8At s p = c) : s.extract p (p + 1) = ⟨#[c]⟩ := by
 apply ba_ext
 rw [ext_list, show p + 1 - p = 1 by omega]
 have : s.data.toList.drop p = u8At s p :: s.data.toList.drop (p + 1) := rest_cons hp
 rw [this, hb]; rfl
theorem tc_byte {c : UInt8} (hT : Tm s) (hp : p < s.size) (hb : u8At s p = c) (h1 : c ≠ 60) (h2 : c ≠ 38) (h3 : c ≠ 93) (h : TC n E s (p + 1) { st with txt := st.txt ++ [c] } st' Q) : TC n E s p st st' Q := by
 have hn : ∀ d : UInt8, c ≠ d → ∀ i, p ≤ i → i < p + 1 → byteAt s i ≠ (d.toNat : Int) := by
  intro d hd i h1 h2 he
  have : i = p := by omega
  subst this
  rw [byte_u8 hb] at he
  exact hd (UInt8.toNat_inj.1 (by omega))
 refine tc_part (m := 0) h (hn 60 h1) (hn 93 h3) (fun f _ x => ⟨x, ?_⟩)
 have hs := tx_parts (k := 1) (by omega) (hn 60 h1)
 rw [ext_one hp hb] at hs
 exact pt_byte hs (tx_tm hT (by omega)) h2 _
theorem ext_sign {w : ByteArray} (hp : p ≤ s.size) (hh : hasAt s p w.data.toList = true) : s.extract p (p + w.size) = w ∧ p + w.size ≤ s.size := by
 have hr := has_room hh hp
 refine ⟨ba_ext ?_, hr⟩
 rw [ext_list, show p + w.size - p = w.size by omega]
 unfold hasAt at hh
 obtain ⟨t, ht⟩ := List.isPrefixOf_iff_prefix.1 hh
 unfold rest at ht
 rw [← ht, List.take_append_of_le_length (by show w.size ≤ w.data.toList.length; exact Nat.le_refl _), List.take_of_length_le (by show w.data.toList.length ≤ w.size; exact Nat.le_refl _)]
theorem sign_bytes {w : ByteArray} (hp : p ≤ s.size) (hh : hasAt s p w.data.toList = true) {d : Int} (hw : ∀ i, i < w.size → byteAt w i ≠ d) : ∀ i, p ≤ i → i < p + w.size → byteAt s i ≠ d := by
 intro i h1 h2 he
 have := has_byte hh hp (i - p) (by show i - p < w.size; omega)
 rw [show p + (i - p) = i by omega] at this
 exact hw (i - p) (by omega) (by rw [byteAt_head, ← this]; exact he)
theorem tc_char {w : ByteArray} {c : Int} (hT : Tm s) (hp : p ≤ s.size) (hh : hasAt s p w.data.toList = true) (hw : Tm w) (h1 : 1 < w.size) (hb : byteAt w 0 = 38) (hr : refZ w 0 = some (.inl c, w.size)) (h60 : ∀ i, i < w.size → byteAt w i ≠ 60) (h93 : ∀ i, i < w.size → byteAt w i ≠ 93)
 (h : TC n E s (p + w.size) { st with txt := st.txt ++ encB c } st' Q) : TC n E s p st st' Q := by
 obtain ⟨e1, e2⟩ := ext_sign hp hh
 refine tc_part (m := 0) h (sign_bytes hp hh h60) (sign_bytes hp hh h93) (fun f _ x => ⟨x, ?_⟩)
 have hs := tx_parts (k := w.size) e2 (sign_bytes hp hh h60)
 rw [e1] at hs
 exact pt_char hs (tx_tm hT (by omega)) hw h1 hb hr _
theorem tc_given {w nm : ByteArray} {c : UInt8} (hT : Tm s) (hp : p ≤ s.size) (hh : hasAt s p w.data.toList = true) (hw : Tm w) (h1 : 1 < w.size) (hb : byteAt w 0 = 38) (hr : refZ w 0 = some (.inr nm, w.size)) (hg : givenZ nm = some c) (h60 : ∀ i, i < w.size → byteAt w i ≠ 60) (h93 : ∀ i, i < w.size → byteAt w i ≠ 93)
 (h : TC n E s (p + w.size) { st with txt := st.txt ++ [c] } st' Q) : TC n E s p st st' Q := by
 obtain ⟨e1, e2⟩ := ext_sign hp hh
 refine tc_part (m := 0) h (sign_bytes hp hh h60) (sign_bytes hp hh h93) (fun f _ x => ⟨x, ?_⟩)
 have hs := tx_parts (k := w.size) e2 (sign_bytes hp hh h60)
 rw [e1] at hs
 exact pt_given hs (tx_tm hT (by omega)) hw h1 hb hr hg _
theorem tc_ent {w nm tx : ByteArray} {m : Nat} {st2 : Rs} (hT : Tm s) (hp : p ≤ s.size) (hh : hasAt s p w.data.toList = true) (hw : Tm w) (h1 : 1 < w.size) (hb : byteAt w 0 = 38) (hr : refZ w 0 = some (.inr nm, w.size)) (hg : givenZ nm = none) (h60 : ∀ i, i < w.size → byteAt w i ≠ 60) (h93 : ∀ i, i < w.size → byteAt w i ≠ 93)
 (ht : entTo st.dt st.wi st.spent nm = .ok tx) (hm : marksB tx = true) (hi : CN m none tx 0 { st with wi := nm :: st.wi, spent := st.spent + tx.size } st2 tx.size)
 (h : TC n E s (p + w.size) { st2 with wi := st.wi } st' Q) : TC (n + m) E s p st st' Q := by
 obtain ⟨e1, e2⟩ := ext_sign hp hh
 refine tc_part (m := m) h (sign_bytes hp hh h60) (sign_bytes hp hh h93) (fun f hf x => ?_)
 have hs := tx_parts (k := w.size) e2 (sign_bytes hp hh h60)
 rw [e1] at hs
 obtain ⟨y, hy⟩ := hi f hf x
 refine ⟨y, ?_⟩
 have := pt_ent (b := false) (EN := entC f) (σ := ({ st with pos := x }, [])) (tx := tx) (σ2 := ({ st2 with pos := y }, [])) hs (tx_tm hT (by omega)) hw h1 hb hr hg ht (by
  unfold entC goIn
  rw [if_neg (by rw [hm]; simp)]
  simp only
  rw [hy])
 rw [this]
 rfl
theorem next_end (hq : q = s.size) (x : Nat) : ∃ y, nextR { st with pos := x } s q true = ({ st with pos := y }, .ok ⟨0, 0, ⟨#[]⟩, ⟨#[]⟩, [], q⟩) := by
 obtain ⟨y, hy⟩ := at_pos st x q
 refine ⟨y, ?_⟩
 unfold nextR
 rw [if_pos hq, hy]; rfl
theorem next_mark {T : Tk} (hq : q < s.size) (hb : byteAt s q = 60) (hm : markZ s q = T) (hf : T.fl = 0) (x : Nat) : ∃ y, nextR { st with pos := x } s q true = ({ st with pos := y }, .ok T) := by
 obtain ⟨y, hy⟩ := at_pos st x q
 refine ⟨y, ?_⟩
 unfold nextR
 rw [if_neg (by omega), tok_mark hq hb, hm, if_pos hf, hy]
theorem tc_none (hq : q = s.size) : TC 1 none s q st st q := by
 refine tc_mark (by omega) (Or.inl hq) (fun f hf x => ?_)
 obtain ⟨g, rfl⟩ : ∃ g, f = g + 1 := ⟨f - 1, by omega⟩
 obtain ⟨y, hy⟩ := next_end (s := s) (st := st) hq x
 exact ⟨y, k_end hy rfl⟩
theorem tc_close {nm : ByteArray} {T : Tk} (hq : q < s.size) (hb : byteAt s q = 60) (hm : markZ s q = T) (hf : T.fl = 0) (hk : T.kind = 2) (hn : (T.name.toList == nm.toList) = true) : TC 1 (some nm) s q st st T.pos := by
 refine tc_mark (by omega) (Or.inr hb) (fun f hf' x => ?_)
 obtain ⟨g, rfl⟩ : ∃ g, f = g + 1 := ⟨f - 1, by omega⟩
 obtain ⟨y, hy⟩ := next_mark (st := st) hq hb hm hf x
 exact ⟨y, k_end hy (by unfold isEndR; simp only; rw [hn, hk]; rfl)⟩
theorem tc_aside {T : Tk} (hT : Tm s) (hq : q < s.size) (hb : byteAt s q = 60) (hm : markZ s q = T) (hf : T.fl = 0) (hk : T.kind = 6 ∨ T.kind = 7) (h : TC n E s T.pos (asideR st T) st' Q) : TC (n + 2) E s q st st' Q := by
 refine tc_mark (by omega) (Or.inr hb) (fun f hf' x => ?_)
 obtain ⟨g, rfl⟩ : ∃ g, f = g + 1 := ⟨f - 1, by omega⟩
 obtain ⟨y, hy⟩ := next_mark (st := st) hq hb hm hf x
 rw [k_aside hy (not_end (by omega) (by omega)) hk]
 exact cn_of hT h g (by omega) y
theorem tc_cdata {T : Tk} (hT : Tm s) (hq : q < s.size) (hb : byteAt s q = 60) (hm : markZ s q = T) (hf : T.fl = 0) (hk : T.kind = 5) (h : TC n E s T.pos { st with txt := st.txt ++ T.text.data.toList } st' Q) : TC (n + 2) E s q st st' Q := by
 refine tc_mark (by omega) (Or.inr hb) (fun f hf' x => ?_)
 obtain ⟨g, rfl⟩ : ∃ g, f = g + 1 := ⟨f - 1, by omega⟩
 obtain ⟨y, hy⟩ := next_mark (st := st) hq hb hm hf x
 rw [k_cdata hy (not_end (by omega) (by omega)) hk]
 exact cn_of hT h g (by omega) y
theorem tc_empty {T : Tk} {st2 : Rs} (hT : Tm s) (hq : q < s.size) (hb : byteAt s q = 60) (hm : markZ s q = T) (hf : T.fl = 0) (hk : T.kind = 3) (hs : ∀ x, startR { st with pos := x } T = ({ st2 with pos := x }, none)) (h : TC n E s T.pos (endR st2 T.name) st' Q) : TC (n + 2) E s q st st' Q := by
 refine tc_mark (by omega) (Or.inr hb) (fun f hf' x => ?_)
 obtain ⟨g, rfl⟩ : ∃ g, f = g + 1 := ⟨f - 1, by omega⟩
 obtain ⟨y, hy⟩ := next_mark (st := st) hq hb hm hf x
 rw [k_el hy (not_end (by omega) (by omega)) (Or.inr hk)]
 unfold elemR
 rw [hs y]
 simp only
 rw [if_neg (by omega)]
 exact cn_of hT h g (by omega) y
theorem tc_elem {T : Tk} {st2 st3 : Rs} {m q3 : Nat} (hT : Tm s) (hq : q < s.size) (hb : byteAt s q = 60) (hm : markZ s q = T) (hf : T.fl = 0) (hk : T.kind = 1) (hs : ∀ x, startR { st with pos := x } T = ({ st2 with pos := x }, none))
 (hi : TC m (some T.name) s T.pos { st2 with deep := st2.deep + 1 } st3 q3) (h : TC n E s q3 (endR { st3 with deep := st2.deep } T.name) st' Q) : TC (n + m + 2) E s q st st' Q := by
 refine tc_mark (by omega) (Or.inr hb) (fun f hf' x => ?_)
 obtain ⟨g, rfl⟩ : ∃ g, f = g + 1 := ⟨f - 1, by omega⟩
 obtain ⟨y, hy⟩ := next_mark (st := st) hq hb hm hf x
 rw [k_el hy (not_end (by omega) (by omega)) (Or.inl hk)]
 unfold elemR
 rw [hs y]
 simp only
 rw [if_pos hk]
 obtain ⟨y2, hy2⟩ := cn_of hT hi g (by omega) y
 rw [hy2]
 exact cn_of hT h g (by omega) y2
end Go.Proofs.YtmaoefokimjkbaaGreatDoor.PlainC
namespace Go.Proofs.YtmaoefokimjkbaaGreatDoor.PlainY
open Go.RowKit Strs Plain9 Plain10 Plain11 Plain12 Plain18 Plain23 Plain24 Plain25 PlainR PlainH PlainP PlainC Go.Lib
variable {E : Option ByteArray} {s : ByteArray} {st st' : Rs} {n p q Q : Nat}
theorem cut_two (hp : p ≤ s.size) : Sh (s.extract 0 p) (s.extract p s.size) s ∧ (s.extract 0 p).size = p := by
 refine ⟨?_, by rw [ext_size hp]; omega⟩
 unfold Sh
 rw [ext_list, ext_list, List.drop_zero, Nat.sub_zero]
 rw [List.take_of_length_le (l := List.drop p s.data.toList) (by rw [List.length_drop]; exact Nat.le_refl _), List.take_append_drop]
theorem has_ext {w : ByteArray} (hp : p ≤ s.size) (hh : hasAt s p w.data.toList = true) : ∃ t, Ext w (s.extract p s.size) t := by
 unfold hasAt at hh
 obtain ⟨t, ht⟩ := List.isPrefixOf_iff_prefix.1 hh
 exact ⟨t, by unfold Ext; rw [ext_rest, ht]⟩
theorem mark_has {w : ByteArray} (hT : Tm s) (hp : p < s.size) (hh : hasAt s p w.data.toList = true) (hw : 0 < w.size) (hb : byteAt w 0 = 60) (hd : hasAt w 0 [60, 33, 68, 79, 67, 84, 89, 80, 69] = false) (hd2 : (rest w 0).isPrefixOf [60, 33, 68, 79, 67, 84, 89, 80, 69] = false) (hf : (markZ w 0).fl = 0) : markZ s p = { markZ w 0 with pos := p + (markZ w 0).pos } ∧ byteAt s p = 60 := by
 obtain ⟨h1, h2⟩ := cut_two (s := s) (p := p) (by omega)
 obtain ⟨t, ht⟩ := has_ext (by omega) hh
 have hu : Tm (s.extract p s.size) := Tm.behind h1 hT
 have := mid_mark h1 ht (hu.at _) ((Tm.ahead ht hu).at _) hw hb hd hd2 hf
 rw [h2] at this
 refine ⟨this, ?_⟩
 have := has_byte hh (by omega) 0 hw
 rw [Nat.add_zero] at this
 rw [this, ← byteAt_head, hb]
theorem ref_has {w : ByteArray} {r : Rf} (hT : Tm s) (hp : p < s.size) (hh : hasAt s p w.data.toList = true) (h1 : 1 < w.size) (hr : refZ w 0 = some (r, w.size)) : refZ s p = some (r, p + w.size) := by
 obtain ⟨c1, c2⟩ := cut_two (s := s) (p := p) (by omega)
 obtain ⟨t, ht⟩ := has_ext (by omega) hh
 have hu : Tm (s.extract p s.size) := Tm.behind c1 hT
 have e := h_ref c1 (p := 0) (hu.at _)
 rw [Nat.add_zero, c2, e_ref ht h1 ((Tm.ahead ht hu).at _) hr] at e
 exact e
def addT (st : Rs) (l : List UInt8) : Rs := { st with txt := st.txt ++ l }
theorem addT_cons (st : Rs) (c : UInt8) (l : List UInt8) : addT { st with txt := st.txt ++ [c] } l = addT st (c :: l) := by
 unfold addT; simp
theorem addT_nil (st : Rs) : addT st [] = st := by unfold addT; simp
def okB (c : UInt8) : Bool := decide (c ≠ 60 ∧ c ≠ 38 ∧ c ≠ 93)
theorem has_next {c : UInt8} {l : List UInt8} (hp : p ≤ s.size) (h : hasAt s p (c :: l) = true) : p < s.size ∧ u8At s p = c ∧ hasAt s (p + 1) l = true := by
 have h1 := has_lt h
 refine ⟨h1, ?_, has_tail h h1⟩
 exact (u8At_eq (s := s) (p := p)).1 (byteAt_of_cons h h1)
theorem tc_bytes (hT : Tm s) : ∀ (l : List UInt8) (p : Nat) (st : Rs), l.all okB = true → p ≤ s.size → hasAt s p l = true → TC n E s (p + l.length) (addT st l) st' Q → TC n E s p st st' Q
 | [], p, st, _, _, _, h => by rw [addT_nil] at h; exact h
 | c :: l, p, st, ho, hp, hh, h => by
  obtain ⟨h1, h2, h3⟩ := has_next hp hh
  simp only [List.all_cons, Bool.and_eq_true, okB, decide_eq_true_eq] at ho
  refine tc_byte hT h1 h2 ho.1.1 ho.1.2.1 ho.1.2.2 (tc_bytes hT l (p + 1) _ ho.2 (by omega) h3 ?_)
  rw [addT_cons, Nat.add_assoc, Nat.add_comm 1 l.length]
  exact h
def pcRaw : List (List UInt8) := [[116, 101, 120, 116], [60, 98, 32, 107, 61, 39, 49, 39, 62, 105, 110, 60, 47, 98, 62], [38, 108, 116, 59], [60, 99, 47, 62], [38, 35, 54, 53, 59, 38, 35, 120, 52, 50, 59], [32, 97, 32], [60, 33, 45, 45, 32, 99, 32, 45, 45, 62], [60, 63, 112, 32, 120, 63, 62], [60, 33, 91, 67, 68, 65, 84, 65, 91, 60, 93, 93, 62]]
def pc (x : Bool) (k : Nat) : List UInt8 := if x = true ∧ k = 4 then [65, 66] else pcRaw.getD k []
def bB : ByteArray := ⟨#[98]⟩
def cB : ByteArray := ⟨#[99]⟩
def eB : ByteArray := ⟨#[]⟩
def eff (k : Nat) (st : Rs) : Rs :=
 if k = 0 then addT st [116, 101, 120, 116]
 else if k = 1 then tellZ (addT (tellZ st ⟨1, bB, eB, [(⟨#[107]⟩, ⟨#[49]⟩)]⟩) [105, 110]) ⟨2, bB, eB, []⟩
 else if k = 2 then addT st [60]
 else if k = 3 then tellZ (tellZ st ⟨1, cB, eB, []⟩) ⟨2, cB, eB, []⟩
 else if k = 4 then addT st [65, 66]
 else if k = 5 then addT st [32, 97, 32]
 else if k = 6 then tellZ st ⟨4, eB, ⟨#[32, 99, 32]⟩, []⟩
 else if k = 7 then tellZ st ⟨5, ⟨#[112]⟩, ⟨#[120]⟩, []⟩
 else addT st [60]
theorem val_one (st : Rs) : valueZ st ⟨#[49]⟩ false = (st, .ok ⟨#[49]⟩) := by rfl
theorem start_b {T : Tk} (hd : st.dt.atts = []) (hp : st.deep ≠ 30) (hn : T.name = bB) (ha : T.attrs = [(⟨#[107]⟩, ⟨#[49]⟩)]) : startR st T = (tellZ st ⟨1, bB, eB, [(⟨#[107]⟩, ⟨#[49]⟩)]⟩, none) := by
 unfold startR
 rw [if_neg hp, ha, hn]
 have e1 : ownA st.dt bB [(⟨#[107]⟩, ⟨#[49]⟩)] = [(⟨#[107]⟩, ⟨#[49]⟩, false)] := by unfold ownA; rw [hd]; rfl
 have e2 : defA st.dt bB [(⟨#[107]⟩, ⟨#[49]⟩)] = [] := by unfold defA; rw [hd]; rfl
 rw [e1, e2]
 simp only [List.append_nil, valsZ, val_one, List.nil_append]
 rfl
theorem start_c {T : Tk} (hd : st.dt.atts = []) (hp : st.deep ≠ 30) (hn : T.name = cB) (ha : T.attrs = []) : startR st T = (tellZ st ⟨1, cB, eB, []⟩, none) := by
 unfold startR
 rw [if_neg hp, ha, hn]
 have e1 : ownA st.dt cB [] = [] := by unfold ownA; rfl
 have e2 : defA st.dt cB [] = [] := by unfold defA; rw [hd]; rfl
 rw [e1, e2]
 rfl
def mB1 : ByteArray := ⟨#[60, 98, 32, 107, 61, 39, 49, 39, 62]⟩
def mB2 : ByteArray := ⟨#[60, 47, 98, 62]⟩
def mC : ByteArray := ⟨#[60, 99, 47, 62]⟩
def mN : ByteArray := ⟨#[60, 33, 45, 45, 32, 99, 32, 45, 45, 62]⟩
def mP : ByteArray := ⟨#[60, 63, 112, 32, 120, 63, 62]⟩
def mD : ByteArray := ⟨#[60, 33, 91, 67, 68, 65, 84, 65, 91, 60, 93, 93, 62]⟩
def rL : ByteArray := ⟨#[38, 108, 116, 59]⟩
def rA : ByteArray := ⟨#[38, 35, 54, 53, 59]⟩
def rB : ByteArray := ⟨#[38, 35, 120, 52, 50, 59]⟩
structure MkIs (w : ByteArray) (k : Int) (nm t : ByteArray) (l : List (ByteArray × ByteArray)) : Prop where
 a : 0 < w.size
 b : byteAt w 0 = 60
 c : hasAt w 0 [60, 33, 68, 79, 67, 84, 89, 80, 69] = false
 d : (rest w 0).isPrefixOf [60, 33, 68, 79, 67, 84, 89, 80, 69] = false
 fl : (markZ w 0).fl = 0
 kind : (markZ w 0).kind = k
 name : (markZ w 0).name = nm
 text : (markZ w 0).text = t
 attrs : (markZ w 0).attrs = l
 pos : (markZ w 0).pos = w.size
theorem isB1 : MkIs mB1 1 bB eB [(⟨#[107]⟩, ⟨#[49]⟩)] := ⟨by decide +kernel, by decide +kernel, by decide +kernel, by decide +kernel, by decide +kernel, by decide +kernel, by decide +kernel, by decide +kernel, by decide +kernel, by decide +kernel⟩
theorem isB2 : MkIs mB2 2 bB eB [] := ⟨by decide +kernel, by decide +kernel, by decide +kernel, by decide +kernel, by decide +kernel, by decide +kernel, by decide +kernel, by decide +kernel, by decide +kernel, by decide +kernel⟩
theorem isC : MkIs mC 3 cB eB [] := ⟨by decide +kernel, by decide +kernel, by decide +kernel, by decide +kernel, by decide +kernel, by decide +kernel, by decide +kernel, by decide +kernel, by decide +kernel, by decide +kernel⟩
theorem isN : MkIs mN 6 eB ⟨#[32, 99, 32]⟩ [] := ⟨by decide +kernel, by decide +kernel, by decide +kernel, by decide +kernel, by decide +kernel, by decide +kernel, by decide +kernel, by decide +kernel, by decide +kernel, by decide +kernel⟩
theorem isP : MkIs mP 7 ⟨#[112]⟩ ⟨#[120]⟩ [] := ⟨by decide +kernel, by decide +kernel, by decide +kernel, by decide +kernel, by decide +kernel, by decide +kernel, by decide +kernel, by decide +kernel, by decide +kernel, by decide +kernel⟩
theorem isD : MkIs mD 5 eB ⟨#[60]⟩ [] := ⟨by decide +kernel, by decide +kernel, by decide +kernel, by decide +kernel, by decide +kernel, by decide +kernel, by decide +kernel, by decide +kernel, by decide +kernel, by decide +kernel⟩
theorem MkIs.at {w : ByteArray} {k : Int} {nm t : ByteArray} {l : List (ByteArray × ByteArray)} (h : MkIs w k nm t l) (hT : Tm s) (hp : p ≤ s.size) (hh : hasAt s p w.data.toList = true) : p < s.size ∧ byteAt s p = 60 ∧ ∃ T, markZ s p = T ∧ T.fl = 0 ∧ T.kind = k ∧ T.name = nm ∧ T.text = t ∧ T.attrs = l ∧ T.pos = p + w.size := by
 have hr := has_room hh hp
 have hl : w.data.toList.length = w.size := rfl
 have ha := h.a
 obtain ⟨e1, e2⟩ := mark_has hT (by omega) hh h.a h.b h.c h.d h.fl
 exact ⟨by omega, e2, _, e1, h.fl, h.kind, h.name, h.text, h.attrs, by show p + (markZ w 0).pos = _; rw [h.pos]⟩
structure RfIs (w : ByteArray) (r : Rf) : Prop where
 tm : Tm w
 a : 1 < w.size
 b : byteAt w 0 = 38
 r : refZ w 0 = some (r, w.size)
 h60 : ∀ i, i < w.size → byteAt w i ≠ 60
 h93 : ∀ i, i < w.size → byteAt w i ≠ 93
theorem isL : RfIs rL (.inr ⟨#[108, 116]⟩) := ⟨by unfold Tm; decide +kernel, by decide +kernel, by decide +kernel, by decide +kernel, by decide +kernel, by decide +kernel⟩
theorem isA : RfIs rA (.inl 65) := ⟨by unfold Tm; decide +kernel, by decide +kernel, by decide +kernel, by decide +kernel, by decide +kernel, by decide +kernel⟩
theorem isB : RfIs rB (.inl 66) := ⟨by unfold Tm; decide +kernel, by decide +kernel, by decide +kernel, by decide +kernel, by decide +kernel, by decide +kernel⟩
theorem has_two {a b : List UInt8} (hp : p ≤ s.size) (h : hasAt s p (a ++ b) = true) : hasAt s p a = true ∧ p + a.length ≤ s.size ∧ hasAt s (p + a.length) b = true := by
 have h1 := has_pre h
 refine ⟨h1, has_room h1 hp, ?_⟩
 unfold hasAt at h ⊢
 rw [List.isPrefixOf_iff_prefix] at h ⊢
 obtain ⟨t, ht⟩ := h
 exact ⟨t, by rw [← rest_rest, ← ht, List.append_assoc, List.drop_left]⟩
structure Fit (st : Rs) : Prop where
 atts : st.dt.atts = []
 deep : st.deep ≤ 28
theorem Fit.same {a b : Rs} (h : Fit a) (h1 : b.dt = a.dt) (h2 : b.deep = a.deep) : Fit b := ⟨by rw [h1]; exact h.atts, by rw [h2]; exact h.deep⟩
theorem pc_raw (x : Bool) {k : Nat} (h : k ≠ 4) : pc x k = pcRaw.getD k [] := by unfold pc; rw [if_neg (fun hh => h hh.2)]
theorem tc_piece (hT : Tm s) (x : Bool) {k : Nat} (hk : k < 9) (hp : p ≤ s.size) (hf : Fit st) (hh : hasAt s p (pc x k) = true) (h : TC n E s (p + (pc x k).length) (eff k st) st' Q) : TC (n + 8) E s p st st' Q := by
 have hcase : k = 0 ∨ k = 1 ∨ k = 2 ∨ k = 3 ∨ k = 4 ∨ k = 5 ∨ k = 6 ∨ k = 7 ∨ k = 8 := by omega
 rcases hcase with rfl | rfl | rfl | rfl | rfl | rfl | rfl | rfl | rfl
 · rw [pc_raw x (by decide)] at hh h
   exact (tc_bytes hT _ p st (by decide) hp hh h).up (by omega)
 · rw [pc_raw x (by decide)] at hh h
   have hh1 : hasAt s p (mB1.data.toList ++ ([105, 110] ++ mB2.data.toList)) = true := hh
   obtain ⟨a1, a2, a3⟩ := has_two hp hh1
   obtain ⟨b1, b2, b3⟩ := has_two a2 a3
   obtain ⟨c1, c2, T, c3, c4, c5, c6, c7, c8, c9⟩ := isB1.at hT hp a1
   obtain ⟨d1, d2, T2, d3, d4, d5, d6, d7, d8, d9⟩ := isB2.at hT b2 b3
   have e1 : TC 1 (some T.name) s (p + 9 + 2) (addT { tellZ st ⟨1, bB, eB, [(⟨#[107]⟩, ⟨#[49]⟩)]⟩ with deep := st.deep + 1 } [105, 110]) (addT { tellZ st ⟨1, bB, eB, [(⟨#[107]⟩, ⟨#[49]⟩)]⟩ with deep := st.deep + 1 } [105, 110]) T2.pos :=
    tc_close d1 d2 d3 d4 d5 (by rw [d6, c6]; exact beq_self_eq_true _)
   have e2 : TC 1 (some T.name) s T.pos { tellZ st ⟨1, bB, eB, [(⟨#[107]⟩, ⟨#[49]⟩)]⟩ with deep := st.deep + 1 } (addT { tellZ st ⟨1, bB, eB, [(⟨#[107]⟩, ⟨#[49]⟩)]⟩ with deep := st.deep + 1 } [105, 110]) T2.pos := by
    rw [c9]
    exact tc_bytes hT [105, 110] (p + 9) _ (by decide) a2 b1 e1
   refine (tc_elem (st2 := tellZ st ⟨1, bB, eB, [(⟨#[107]⟩, ⟨#[49]⟩)]⟩) hT c1 c2 c3 c4 c5 (fun x => ?_) e2 ?_).up (n := n + 1 + 2) (by omega)
   · rw [start_b (st := { st with pos := x }) hf.atts (by have := hf.deep; show st.deep ≠ 30; omega) c6 c8]; rfl
   · rw [d9, c6]
     exact h
 · rw [pc_raw x (by decide)] at hh h
   exact (tc_given (w := rL) hT hp hh isL.tm isL.a isL.b isL.r (by decide +kernel) isL.h60 isL.h93 h).up (by omega)
 · rw [pc_raw x (by decide)] at hh h
   obtain ⟨c1, c2, T, c3, c4, c5, c6, c7, c8, c9⟩ := isC.at hT hp hh
   refine (tc_empty (st2 := tellZ st ⟨1, cB, eB, []⟩) hT c1 c2 c3 c4 c5 (fun x => ?_) ?_).up (n := n + 2) (by omega)
   · rw [start_c (st := { st with pos := x }) hf.atts (by have := hf.deep; show st.deep ≠ 30; omega) c6 c8]; rfl
   · rw [c9, c6]; exact h
 · cases x with
   | true => exact (tc_bytes hT [65, 66] p st (by decide) hp hh h).up (by omega)
   | false =>
    have hh1 : hasAt s p (rA.data.toList ++ rB.data.toList) = true := hh
    obtain ⟨a1, a2, a3⟩ := has_two hp hh1
    refine (tc_char (w := rA) hT hp a1 isA.tm isA.a isA.b isA.r isA.h60 isA.h93 (tc_char (w := rB) hT a2 a3 isB.tm isB.a isB.b isB.r isB.h60 isB.h93 ?_)).up (n := n) (by omega)
    have e : ({ st with txt := st.txt ++ encB 65 ++ encB 66 } : Rs) = addT st [65, 66] := by
     have e1 : encB 65 = [65] := by decide +kernel
     have e2 : encB 66 = [66] := by decide +kernel
     unfold addT
     rw [e1, e2, List.append_assoc]; rfl
    have h' : TC n E s (p + rA.size + rB.size) (addT st [65, 66]) st' Q := h
    rw [← e] at h'
    exact h'
 · rw [pc_raw x (by decide)] at hh h
   exact (tc_bytes hT _ p st (by decide) hp hh h).up (by omega)
 · rw [pc_raw x (by decide)] at hh h
   obtain ⟨c1, c2, T, c3, c4, c5, c6, c7, c8, c9⟩ := isN.at hT hp hh
   refine (tc_aside hT c1 c2 c3 c4 (Or.inl c5) ?_).up (n := n + 2) (by omega)
   unfold asideR
   rw [c9, c5, c6, c7]; exact h
 · rw [pc_raw x (by decide)] at hh h
   obtain ⟨c1, c2, T, c3, c4, c5, c6, c7, c8, c9⟩ := isP.at hT hp hh
   refine (tc_aside hT c1 c2 c3 c4 (Or.inr c5) ?_).up (n := n + 2) (by omega)
   unfold asideR
   rw [c9, c5, c6, c7]; exact h
 · rw [pc_raw x (by decide)] at hh h
   obtain ⟨c1, c2, T, c3, c4, c5, c6, c7, c8, c9⟩ := isD.at hT hp hh
   refine (tc_cdata hT c1 c2 c3 c4 c5 ?_).up (n := n + 2) (by omega)
   rw [c9, c7]; exact h
theorem eff_keeps (k : Nat) (st : Rs) : (eff k st).dt = st.dt ∧ (eff k st).deep = st.deep ∧ (eff k st).wi = st.wi ∧ (eff k st).spent = st.spent := by
 unfold eff
 split
 · exact ⟨rfl, rfl, rfl, rfl⟩
 split
 · exact ⟨rfl, rfl, rfl, rfl⟩
 split
 · exact ⟨rfl, rfl, rfl, rfl⟩
 split
 · exact ⟨rfl, rfl, rfl, rfl⟩
 split
 · exact ⟨rfl, rfl, rfl, rfl⟩
 split
 · exact ⟨rfl, rfl, rfl, rfl⟩
 split
 · exact ⟨rfl, rfl, rfl, rfl⟩
 split
 · exact ⟨rfl, rfl, rfl, rfl⟩
 · exact ⟨rfl, rfl, rfl, rfl⟩
def effs : List Nat → Rs → Rs
 | [], st => st
 | k :: l, st => effs l (eff k st)
def flat (x : Bool) : List Nat → List UInt8
 | [] => []
 | k :: l => pc x k ++ flat x l
theorem effs_keeps : ∀ (l : List Nat) (st : Rs), (effs l st).dt = st.dt ∧ (effs l st).deep = st.deep ∧ (effs l st).wi = st.wi ∧ (effs l st).spent = st.spent
 | [], st => ⟨rfl, rfl, rfl, rfl⟩
 | k :: l, st => by
  obtain ⟨a, b, c, d⟩ := effs_keeps l (eff k st)
  obtain ⟨a', b', c', d'⟩ := eff_keeps k st
  exact ⟨a.trans a', b.trans b', c.trans c', d.trans d'⟩
theorem tc_pieces (hT : Tm s) (x : Bool) : ∀ (l : List Nat) (p : Nat) (st : Rs), (∀ k ∈ l, k < 9) → p ≤ s.size → Fit st → hasAt s p (flat x l) = true → TC n E s (p + (flat x l).length) (effs l st) st' Q → TC (n + 8 * l.length) E s p st st' Q
 | [], p, st, _, _, _, _, h => h
 | k :: l, p, st, hk, hp, hf, hh, h => by
  obtain ⟨a1, a2, a3⟩ := has_two hp hh
  have e := eff_keeps k st
  have h2 := tc_pieces hT x l (p + (pc x k).length) (eff k st) (fun j hj => hk j (List.mem_cons_of_mem _ hj)) a2 (hf.same e.1 e.2.1) a3 (by
   rw [Nat.add_assoc, ← List.length_append]; exact h)
  exact (tc_piece hT x (hk k List.mem_cons_self) hp hf a1 h2).up (by rw [List.length_cons]; omega)
def Al (a b : Rs) : Prop := a.evs = b.evs ∧ a.txt = b.txt
theorem al_add {a b : Rs} (h : Al a b) (l : List UInt8) : Al (addT a l) (addT b l) := ⟨h.1, by unfold addT; simp only; rw [h.2]⟩
theorem al_tell {a b : Rs} (h : Al a b) (e : Ev) : Al (tellZ a e) (tellZ b e) := ⟨by unfold tellZ; simp only; rw [h.1, h.2], rfl⟩
theorem al_eff {a b : Rs} (h : Al a b) (k : Nat) : Al (eff k a) (eff k b) := by
 unfold eff
 split
 · exact al_add h _
 split
 · exact al_tell (al_add (al_tell h _) _) _
 split
 · exact al_add h _
 split
 · exact al_tell (al_tell h _) _
 split
 · exact al_add h _
 split
 · exact al_add h _
 split
 · exact al_tell h _
 split
 · exact al_tell h _
 · exact al_add h _
theorem al_effs : ∀ (l : List Nat) {a b : Rs}, Al a b → Al (effs l a) (effs l b)
 | [], _, _, h => h
 | k :: l, _, _, h => al_effs l (al_eff h k)
end Go.Proofs.YtmaoefokimjkbaaGreatDoor.PlainY
namespace Go.Proofs.YtmaoefokimjkbaaGreatDoor.PlainZ
open Go.RowKit Strs Plain9 Plain10 Plain11 Plain12 Plain18 Plain23 Plain24 Plain29 PlainR PlainP PlainC PlainY Go.Lib
variable {s V : ByteArray} {n p q i : Nat} {acc L : List Int}
def numL (l : List UInt8) : List Int := l.map fun b => (b.toNat : Int)
theorem numL_app (a b : List UInt8) : numL (a ++ b) = numL a ++ numL b := by unfold numL; rw [List.map_append]
def En (V : ByteArray) (i : Nat) (acc L : List Int) : Prop := ∀ f, V.size < i + f → entGo V f i acc = some L
theorem en_end (h : V.size ≤ i) : En V i acc acc := fun f hf => ent_end (by omega)
theorem en_bytes : ∀ (l : List UInt8) (i : Nat) (acc : List Int), l.all (fun c => decide (c ≠ 37 ∧ c ≠ 38)) = true → i ≤ V.size → hasAt V i l = true → En V (i + l.length) (acc ++ numL l) L → En V i acc L
 | [], i, acc, _, _, _, h => by
  have : acc ++ numL [] = acc := by unfold numL; simp
  rw [this] at h; exact h
 | c :: l, i, acc, ho, hi, hh, h => by
  obtain ⟨h1, h2, h3⟩ := has_next hi hh
  simp only [List.all_cons, Bool.and_eq_true, decide_eq_true_eq] at ho
  have hb := byte_u8 h2
  have hne : ∀ d : UInt8, c ≠ d → byteAt V i ≠ (d.toNat : Int) := fun d hd he => hd (UInt8.toNat_inj.1 (by rw [hb] at he; omega))
  have h4 := en_bytes l (i + 1) (acc ++ [(c.toNat : Int)]) ho.2 (by omega) h3 (by
   have e : acc ++ [(c.toNat : Int)] ++ numL l = acc ++ numL (c :: l) := by unfold numL; simp
   rw [e, Nat.add_assoc, Nat.add_comm 1 l.length]; exact h)
  intro f hf
  obtain ⟨g, rfl⟩ : ∃ g, f = g + 1 := ⟨f - 1, by omega⟩
  rw [ent_on h1 (hne 37 ho.1.1) (hne 38 ho.1.2), hb]
  exact h4 g (by omega)
theorem en_chr {w : ByteArray} {c : Int} (hT : Tm V) (hw : RfIs w (.inl c)) (hi : i ≤ V.size) (hh : hasAt V i w.data.toList = true) (h : En V (i + w.size) (acc ++ encodeRuneZ c) L) : En V i acc L := by
 have hr := has_room hh hi
 have hl : w.data.toList.length = w.size := rfl
 have ha := hw.a
 have hb : byteAt V i = 38 := by
  have := has_byte hh hi 0 (by omega)
  rw [Nat.add_zero] at this
  rw [this, ← byteAt_head, hw.b]
 intro f hf
 obtain ⟨g, rfl⟩ : ∃ g, f = g + 1 := ⟨f - 1, by omega⟩
 rw [ent_chr (by omega) hb (ref_has hT (by omega) hh hw.a hw.r)]
 exact h g (by omega)
theorem en_nam {w nm : ByteArray} (hT : Tm V) (hw : RfIs w (.inr nm)) (hi : i ≤ V.size) (hh : hasAt V i w.data.toList = true) (h : En V (i + w.size) (acc ++ numL w.data.toList) L) : En V i acc L := by
 have hr := has_room hh hi
 have hl : w.data.toList.length = w.size := rfl
 have ha := hw.a
 have hb : byteAt V i = 38 := by
  have := has_byte hh hi 0 (by omega)
  rw [Nat.add_zero] at this
  rw [this, ← byteAt_head, hw.b]
 intro f hf
 obtain ⟨g, rfl⟩ : ∃ g, f = g + 1 := ⟨f - 1, by omega⟩
 rw [ent_nam (by omega) hb (ref_has hT (by omega) hh hw.a hw.r), (ext_sign hi hh).1]
 exact h g (by omega)
theorem en_piece (hT : Tm V) {k : Nat} (hk : k < 9) (hi : i ≤ V.size) (hh : hasAt V i (pc false k) = true) (h : En V (i + (pc false k).length) (acc ++ numL (pc true k)) L) : En V i acc L := by
 have hcase : k = 0 ∨ k = 1 ∨ k = 2 ∨ k = 3 ∨ k = 4 ∨ k = 5 ∨ k = 6 ∨ k = 7 ∨ k = 8 := by omega
 rcases hcase with rfl | rfl | rfl | rfl | rfl | rfl | rfl | rfl | rfl
 · exact en_bytes _ _ _ (by decide) hi hh h
 · exact en_bytes _ _ _ (by decide) hi hh h
 · exact en_nam (w := rL) hT isL hi hh h
 · exact en_bytes _ _ _ (by decide) hi hh h
 · have hh1 : hasAt V i (rA.data.toList ++ rB.data.toList) = true := hh
   obtain ⟨a1, a2, a3⟩ := has_two hi hh1
   refine en_chr (w := rA) hT isA hi a1 (en_chr (w := rB) hT isB a2 a3 ?_)
   have e1 : encodeRuneZ 65 = [65] := by decide +kernel
   have e2 : encodeRuneZ 66 = [66] := by decide +kernel
   rw [e1, e2, List.append_assoc]
   exact h
 · exact en_bytes _ _ _ (by decide) hi hh h
 · exact en_bytes _ _ _ (by decide) hi hh h
 · exact en_bytes _ _ _ (by decide) hi hh h
 · exact en_bytes _ _ _ (by decide) hi hh h
theorem en_pieces (hT : Tm V) : ∀ (l : List Nat) (i : Nat) (acc : List Int), (∀ k ∈ l, k < 9) → i ≤ V.size → hasAt V i (flat false l) = true → En V (i + (flat false l).length) (acc ++ numL (flat true l)) L → En V i acc L
 | [], i, acc, _, _, _, h => by
  have : acc ++ numL (flat true []) = acc := by unfold numL flat; simp
  rw [this] at h; exact h
 | k :: l, i, acc, hk, hi, hh, h => by
  obtain ⟨a1, a2, a3⟩ := has_two hi hh
  refine en_piece hT (hk k List.mem_cons_self) hi a1 (en_pieces hT l _ _ (fun j hj => hk j (List.mem_cons_of_mem _ hj)) a2 a3 ?_)
  rw [List.append_assoc, ← numL_app, Nat.add_assoc, ← List.length_append]
  exact h
theorem has_all (s : ByteArray) : hasAt s 0 s.data.toList = true := by
 unfold hasAt rest; rw [List.drop_zero, List.isPrefixOf_iff_prefix]; exact List.prefix_rfl
theorem en_ent {t : List Int} (h : En V 0 [] t) : entO V = some t := h _ (by omega)
theorem strOf (l : List UInt8) : strOfNums (numL l) = ⟨l.toArray⟩ := by
 unfold strOfNums numL
 rw [List.map_map]
 congr 2
 conv => rhs; rw [← List.map_id l]
 apply List.map_congr_left
 intro b _
 simp
theorem fz_over {c : UInt8} : ∀ (k p : Nat), p + k ≤ s.size → (∀ i, p ≤ i → i < p + k → byteAt s i ≠ (c.toNat : Int)) → fz s p [c] = fz s (p + k) [c]
 | 0, p, _, _ => rfl
 | k + 1, p, hk, h => by
  have hh : hasAt s p [c] = false := by
   cases hc : hasAt s p [c] with
   | false => rfl
   | true => exact absurd (byteAt_of_cons hc (by omega)) (h p (Nat.le_refl _) (by omega))
  rw [fz_miss (by omega) hh, fz_over k (p + 1) (by omega) (fun i h1 h2 => h i (by omega) (by omega))]
  congr 1; omega
theorem up_over {c : UInt8} {k : Nat} (hk : p + k < s.size) (h : ∀ i, p ≤ i → i < p + k → byteAt s i ≠ (c.toNat : Int)) (hc : byteAt s (p + k) = (c.toNat : Int)) : upF s p [c] = 0 ∧ upT s p [c] = s.extract p (p + k) ∧ upP s p [c] = p + k + 1 := by
 have hh : hasAt s (p + k) [c] = true := by rw [has_cons hk, has_nil, u8At_eq.1 hc]; simp
 have e : fz s p [c] = ((p + k : Nat) : Int) := by rw [fz_over k p (by omega) h, fz_hit hk hh]
 unfold upF upT upP
 rw [e, if_neg (by omega), Int.toNat_natCast]
 exact ⟨rfl, rfl, rfl⟩
theorem white_no (hp : p < s.size) (hb : whiteB (byteAt s p) = false) : whiteZ s p = p := by
 unfold whiteZ
 exact whiteGo_stop (fun hh => by rw [hb] at hh; cases hh.2)
def dfL (c : UInt8) : List UInt8 := entL ++ [32, c, 32, 34]
def dfB (c : UInt8) : ByteArray := ⟨(dfL c).toArray⟩
structure DfOk (c : UInt8) : Prop where
 g1 : gapO (dfB c) 8 = some 9
 n : nameO (dfB c) 9 = some (⟨#[c]⟩, 10)
 g2 : gapO (dfB c) 10 = some 11
 vb : VB (dfB c) 9
 vb0 : VB (dfB c) 0
theorem ba_toList (l : List UInt8) : (⟨l.toArray⟩ : ByteArray).data.toList = l := rfl
theorem ba_size (l : List UInt8) : (⟨l.toArray⟩ : ByteArray).size = l.length := by show l.toArray.size = _; simp
theorem df_mark {H : ByteArray} {c : UInt8} {v : List UInt8} {t : List Int} (hc : DfOk c) (hH : H.data.toList = dfL c ++ (v ++ [34, 62])) (hv : ∀ b ∈ v, b ≠ 34) (he : entO ⟨v.toArray⟩ = some t) : markO H 0 = some ([.inl (⟨#[c]⟩, strOfNums t)], H.size) := by
 have hx : Ext (dfB c) H (v ++ [34, 62]) := hH
 have hz : H.size = 12 + (v.length + 2) := by
  rw [e_size hx]
  have : (dfB c).size = 12 := by rw [dfB, ba_size]; rfl
  rw [this, List.length_append]; rfl
 have hd : (dfB c).size = 12 := by rw [dfB, ba_size]; rfl
 have h8 : hasAt H 0 entL = true := by
  unfold hasAt rest; rw [List.drop_zero, hH, List.isPrefixOf_iff_prefix]
  unfold dfL; rw [List.append_assoc]; exact List.prefix_append _ _
 have hn1 : hasAt H 0 [60, 33, 45, 45] = false := by
  cases hh : hasAt H 0 [60, 33, 45, 45] with
  | false => rfl
  | true =>
   have a := has_byte hh (Nat.zero_le _) 2 (by decide)
   have b := has_byte h8 (Nat.zero_le _) 2 (by decide)
   rw [a] at b; exact absurd b (by decide)
 have hn2 : hasAt H 0 [60, 63] = false := by
  cases hh : hasAt H 0 [60, 63] with
  | false => rfl
  | true =>
   have a := has_byte hh (Nat.zero_le _) 1 (by decide)
   have b := has_byte h8 (Nat.zero_le _) 1 (by decide)
   rw [a] at b; exact absurd b (by decide)
 unfold markO
 rw [if_neg (by rw [hn1]; simp), if_neg (by rw [hn2]; simp), if_pos h8]
 unfold entityZ
 rw [Nat.zero_add, e_gap hx (by rw [hd]; decide) hc.g1]
 simp only [Option.bind_some]
 rw [(e_nameO hx hc.vb hc.n).1]
 simp only [Option.bind_some]
 rw [e_gap hx (by rw [hd]; decide) hc.g2]
 simp only [Option.bind_some]
 have hall := has_all H
 rw [hH] at hall
 have hall2 : hasAt H 0 ((entL ++ [32, c, 32]) ++ ([34] ++ (v ++ [34, 62]))) = true := by
  have e : (entL ++ [32, c, 32]) ++ ([34] ++ (v ++ [34, 62])) = dfL c ++ (v ++ [34, 62]) := by unfold dfL; simp
  rw [e]; exact hall
 obtain ⟨_, _, b1⟩ := has_two (Nat.zero_le _) hall2
 have b1' : hasAt H 11 ([34] ++ (v ++ [34, 62])) = true := b1
 obtain ⟨c1, c2, c3⟩ := has_two (by omega) b1'
 have c3' : hasAt H 12 (v ++ [34, 62]) = true := c3
 obtain ⟨d1, d2, d3⟩ := has_two (by omega) c3'
 obtain ⟨e1, e2, e3⟩ := has_next d2 d3
 obtain ⟨f1, f2, _⟩ := has_next (by omega) e3
 have hu : u8 H 11 = 34 := (has_next (by omega) c1).2.1
 have hbv : ∀ j, 12 ≤ j → j < 12 + v.length → byteAt H j ≠ ((34 : UInt8).toNat : Int) := by
  intro j h1 h2 hh
  have := has_byte d1 (by omega) (j - 12) (by omega)
  rw [show 12 + (j - 12) = j by omega] at this
  have hj : j - 12 < v.length := by omega
  rw [this, List.getD_eq_getElem?_getD, List.getElem?_eq_getElem hj, Option.getD_some] at hh
  exact hv _ (List.getElem_mem hj) (UInt8.toNat_inj.1 (by omega))
 obtain ⟨u1, u2, u3⟩ := up_over (c := 34) (p := 12) (k := v.length) e1 hbv (byte_u8 e2)
 have hq : qtO H 11 = some (⟨v.toArray⟩, 12 + v.length + 1) := by
  unfold qtO
  rw [hu, if_pos ⟨by omega, by rw [byte_u8 (s := H) (p := 11) hu]; decide, u1⟩, u2, u3]
  have := (ext_sign (s := H) (w := ⟨v.toArray⟩) (p := 12) (by omega) d1).1
  rw [ba_size] at this
  rw [this]
 rw [hq]
 simp only [Option.bind_some]
 rw [he]
 simp only [Option.bind_some]
 have hw : whiteZ H (12 + v.length + 1) = 12 + v.length + 1 := white_no f1 (by rw [byte_u8 f2]; decide)
 rw [hw]
 have hm : mustO H (12 + v.length + 1) [62] = some (12 + v.length + 1 + 1) := by
  unfold mustO
  rw [if_pos]; rfl
  rw [has_cons f1, has_nil, f2]; rfl
 rw [hm]
 simp only [Option.bind_some]
 rw [show 12 + v.length + 1 + 1 = H.size by omega]
end Go.Proofs.YtmaoefokimjkbaaGreatDoor.PlainZ
namespace Go.Proofs.YtmaoefokimjkbaaGreatDoor.PlainZ2
open Go.RowKit Strs Plain9 Plain10 Plain11 Plain12 Plain21 Plain23 Plain24 Plain25 PlainR PlainP PlainC PlainY PlainZ Go.Lib
variable {s h : ByteArray} {n p q i Q f : Nat}
def Sb (s : ByteArray) (p Q : Nat) : Prop := ∀ f, s.size < p + f → subGo s f p = (0, Q)
theorem sb_end (hp : p < s.size) (hb : byteAt s p = 93) : Sb s p (p + 1) := fun f hf => by
 obtain ⟨g, rfl⟩ : ∃ g, f = g + 1 := ⟨f - 1, by omega⟩
 unfold subGo
 rw [if_pos hp, if_pos hb]
theorem sb_byte (hp : p < s.size) (h1 : byteAt s p ≠ 93) (h2 : byteAt s p ≠ 34) (h3 : byteAt s p ≠ 39) (h4 : hasAt s p [60, 33, 45, 45] = false) (h5 : hasAt s p [60, 63] = false) (h : Sb s (p + 1) Q) : Sb s p Q := fun f hf => by
 obtain ⟨g, rfl⟩ : ∃ g, f = g + 1 := ⟨f - 1, by omega⟩
 unfold subGo
 rw [if_pos hp, if_neg h1, if_neg h2, if_neg h3, if_neg (by rw [h4]; simp), if_neg (by rw [h5]; simp)]
 exact h g (by omega)
theorem sb_quote {k : Nat} (hp : p < s.size) (hb : byteAt s p = 34) (hk : p + 1 + k < s.size) (hv : ∀ i, p + 1 ≤ i → i < p + 1 + k → byteAt s i ≠ 34) (he : byteAt s (p + 1 + k) = 34) (h : Sb s (p + 1 + k + 1) Q) : Sb s p Q := fun f hf => by
 obtain ⟨g, rfl⟩ : ∃ g, f = g + 1 := ⟨f - 1, by omega⟩
 obtain ⟨u1, u2, u3⟩ := up_over (c := 34) (p := p + 1) (k := k) hk hv he
 unfold subGo
 rw [if_pos hp, if_neg (by rw [hb]; decide), if_pos hb, if_pos u1, u3]
 exact h g (by omega)
theorem has_not {c d : UInt8} {l : List UInt8} (hp : p < s.size) (hb : u8At s p = c) (hn : c ≠ d) : hasAt s p (d :: l) = false := by
 rw [has_cons hp, hb]
 have : (d == c) = false := by simp; exact fun hh => hn hh.symm
 rw [this]; rfl
def plB (c : UInt8) : Bool := decide (c ≠ 93 ∧ c ≠ 34 ∧ c ≠ 39 ∧ c ≠ 60)
theorem u8_ne {c : UInt8} (h : u8At s p = c) (d : UInt8) (hn : c ≠ d) : byteAt s p ≠ (d.toNat : Int) := fun he => by
 rw [byte_u8 h] at he
 exact hn (UInt8.toNat_inj.1 (by omega))
theorem sb_bytes : ∀ (l : List UInt8) (p : Nat), l.all plB = true → p ≤ s.size → hasAt s p l = true → Sb s (p + l.length) Q → Sb s p Q
 | [], p, _, _, _, h => h
 | c :: l, p, ho, hp, hh, h => by
  obtain ⟨h1, h2, h3⟩ := has_next hp hh
  simp only [List.all_cons, Bool.and_eq_true, plB, decide_eq_true_eq] at ho
  refine sb_byte h1 (u8_ne h2 93 ho.1.1) (u8_ne h2 34 ho.1.2.1) (u8_ne h2 39 ho.1.2.2.1) (has_not h1 h2 ho.1.2.2.2) (has_not h1 h2 ho.1.2.2.2) (sb_bytes l (p + 1) ho.2 (by omega) h3 ?_)
  rw [Nat.add_assoc, Nat.add_comm 1 l.length]
  exact h
theorem sb_def {c : UInt8} {v : List UInt8} (hc : plB c = true) (hv : ∀ b ∈ v, b ≠ 34) (hp : p ≤ s.size) (hh : hasAt s p (dfL c ++ (v ++ [34, 62])) = true) (h : Sb s (p + (dfL c ++ (v ++ [34, 62])).length) Q) : Sb s p Q := by
 have hall : hasAt s p ([60] ++ ([33] ++ ([69, 78, 84, 73, 84, 89, 32, c, 32] ++ ([34] ++ (v ++ ([34] ++ [62])))))) = true := by
  have e : ([60] ++ ([33] ++ ([69, 78, 84, 73, 84, 89, 32, c, 32] ++ ([34] ++ (v ++ ([34] ++ [62]))))) : List UInt8) = dfL c ++ (v ++ [34, 62]) := rfl
  rw [e]; exact hh
 obtain ⟨a1, a2, a3⟩ := has_two hp hall
 obtain ⟨b1, b2, b3⟩ := has_two a2 a3
 obtain ⟨c1, c2, c3⟩ := has_two b2 b3
 obtain ⟨d1, d2, d3⟩ := has_two c2 c3
 obtain ⟨e1, e2, e3⟩ := has_two d2 d3
 obtain ⟨f1, f2, f3⟩ := has_two e2 e3
 simp only [List.length_cons, List.length_nil, Nat.zero_add] at *
 obtain ⟨g1, g2, _⟩ := has_next hp a1
 obtain ⟨g3, g4, _⟩ := has_next a2 b1
 have b3' := b3
 obtain ⟨g5, g6, _⟩ := has_next b2 b3'
 obtain ⟨g7, g8, _⟩ := has_next c2 d1
 obtain ⟨g9, g10, _⟩ := has_next e2 f1
 obtain ⟨g11, g12, _⟩ := has_next f2 f3
 have n1 : hasAt s p [60, 33, 45, 45] = false := by
  rw [has_cons g1, has_cons g3, has_not (c := 69) g5 g6 (by decide)]; simp
 have n2 : hasAt s p [60, 63] = false := by
  rw [has_cons g1, has_not g3 g4 (by decide)]; simp
 refine sb_byte g1 (u8_ne g2 93 (by decide)) (u8_ne g2 34 (by decide)) (u8_ne g2 39 (by decide)) n1 n2 ?_
 refine sb_byte g3 (u8_ne g4 93 (by decide)) (u8_ne g4 34 (by decide)) (u8_ne g4 39 (by decide)) (has_not g3 g4 (by decide)) (has_not g3 g4 (by decide)) ?_
 refine sb_bytes _ _ (by simp only [List.all_cons, List.all_nil, hc]; decide) b2 c1 ?_
 refine sb_quote (k := v.length) g7 (byte_u8 g8) g9 ?_ (byte_u8 g10) ?_
 · intro j h1 h2 hx
   have := has_byte e1 d2 (j - (p + 1 + 1 + 9 + 1)) (by simp only [List.length_cons, List.length_nil] at h1 h2; omega)
   rw [show p + 1 + 1 + 9 + 1 + (j - (p + 1 + 1 + 9 + 1)) = j by simp only [List.length_cons, List.length_nil] at h1 h2; omega] at this
   have hj : j - (p + 1 + 1 + 9 + 1) < v.length := by simp only [List.length_cons, List.length_nil] at h1 h2; omega
   rw [this, List.getD_eq_getElem?_getD, List.getElem?_eq_getElem hj, Option.getD_some] at hx
   exact hv _ (List.getElem_mem hj) (UInt8.toNat_inj.1 (by rw [show (34 : UInt8).toNat = 34 from rfl]; omega))
 · refine sb_bytes [62] _ (by decide) f2 f3 ?_
   have e : p + (dfL c ++ (v ++ [34, 62])).length = p + 1 + 1 + 9 + 1 + v.length + 1 + 1 := by
    rw [List.length_append, List.length_append]
    have : (dfL c).length = 12 := rfl
    rw [this]; simp only [List.length_cons, List.length_nil]; omega
   rw [e] at h
   exact h
theorem ig_def {c : UInt8} {v : List UInt8} {t : List Int} {d : Dt} (hT : Tm h) (hc : DfOk c) (hv : ∀ b ∈ v, b ≠ 34) (he : entO ⟨v.toArray⟩ = some t) (hp : p ≤ h.size) (hh : hasAt h p (dfL c ++ (v ++ [34, 62])) = true) (hd : fullB (addD d (.inl (⟨#[c]⟩, strOfNums t))) = false) :
 implGo h (f + 1) p d (-1) = implGo h f (p + (dfL c ++ (v ++ [34, 62])).length) (addD d (.inl (⟨#[c]⟩, strOfNums t))) (-1) := by
 obtain ⟨c1, c2⟩ := cut_two (s := h) (p := p) hp
 have hh' : hasAt h p (60 :: ([33, 69, 78, 84, 73, 84, 89, 32, c, 32, 34] ++ (v ++ [34, 62]))) = true := hh
 have hl := has_lt hh'
 obtain ⟨t1, ht1⟩ := has_ext (w := ⟨(dfL c ++ (v ++ [34, 62])).toArray⟩) hp hh
 have hu : Tm (h.extract p h.size) := Tm.behind c1 hT
 have hm := df_mark (H := ⟨(dfL c ++ (v ++ [34, 62])).toArray⟩) hc rfl hv he
 have e1 := (e_markO ht1 ((Tm.ahead ht1 hu).at _) (Nat.zero_le _) hm).1
 have e2 := h_mark c1 (hu.at 0) (p := 0) (Nat.zero_le _)
 rw [Nat.add_zero, c2, e1] at e2
 have e2' : markO h p = some ([.inl (⟨#[c]⟩, strOfNums t)], p + (dfL c ++ (v ++ [34, 62])).length) := by
  rw [e2]
  have : (⟨(dfL c ++ (v ++ [34, 62])).toArray⟩ : ByteArray).size = (dfL c ++ (v ++ [34, 62])).length := ba_size _
  rw [this]; rfl
 have hb : byteAt h p = 60 := byteAt_of_cons hh' hl
 have hw : whiteZ h p = p := white_no hl (by rw [hb]; decide)
 conv => lhs; unfold implGo
 rw [hw, if_pos hl, e2']
 simp only
 have ea : addAll d [.inl (⟨#[c]⟩, strOfNums t)] = addD d (.inl (⟨#[c]⟩, strOfNums t)) := rfl
 rw [ea, if_neg (by rw [hd]; simp)]
theorem tm_head (hT : Tm h) : headOk h := by
 refine ⟨scan_of_VB (hT.at 0), ?_⟩
 have : ∀ k p, h.size ≤ p + k → fz h p [13] = -1 := by
  intro k
  induction k with
  | zero => intro p hp; exact fz_nil (by simp) (by simp; omega)
  | succ k ih =>
   intro p hp
   by_cases hl : p < h.size
   · have hn : hasAt h p [13] = false := by
      cases hc : hasAt h p [13] with
      | false => rfl
      | true =>
       have := byteAt_of_cons hc hl
       have h2 := hT p hl
       rw [this] at h2
       exact absurd h2.1 (by decide)
     rw [fz_miss hl hn]
     exact ih (p + 1) (by omega)
   · exact fz_nil (by simp) (by simp; omega)
 exact this h.size 0 (by omega)
theorem tm_marks (hT : Tm h) : marksB h = true := by
 have := tm_head hT
 unfold marksB
 exact decide_eq_true this
theorem dfe : DfOk 101 := ⟨by decide +kernel, by decide +kernel, by decide +kernel, Tm.at (by unfold Tm; decide +kernel) _, Tm.at (by unfold Tm; decide +kernel) _⟩
theorem dff : DfOk 102 := ⟨by decide +kernel, by decide +kernel, by decide +kernel, Tm.at (by unfold Tm; decide +kernel) _, Tm.at (by unfold Tm; decide +kernel) _⟩
theorem dfw : DfOk 119 := ⟨by decide +kernel, by decide +kernel, by decide +kernel, Tm.at (by unfold Tm; decide +kernel) _, Tm.at (by unfold Tm; decide +kernel) _⟩
theorem dfl : DfOk 108 := ⟨by decide +kernel, by decide +kernel, by decide +kernel, Tm.at (by unfold Tm; decide +kernel) _, Tm.at (by unfold Tm; decide +kernel) _⟩
theorem dfm : DfOk 109 := ⟨by decide +kernel, by decide +kernel, by decide +kernel, Tm.at (by unfold Tm; decide +kernel) _, Tm.at (by unfold Tm; decide +kernel) _⟩
def dtL : List UInt8 := [60, 33, 68, 79, 67, 84, 89, 80, 69, 32, 114, 32, 91]
def df (c : UInt8) (v : List UInt8) : List UInt8 := dfL c ++ (v ++ [34, 62])
def headL (la lb : List Nat) (w : List UInt8) : List UInt8 :=
 df 101 (flat false la ++ [38, 102, 59]) ++ (df 102 (flat false lb) ++ (df 119 w ++ (df 108 [120, 38, 109, 59] ++ df 109 [38, 108, 59])))
def entsD (ta tb tw : ByteArray) : List (ByteArray × ByteArray) := [(⟨#[101]⟩, ta), (⟨#[102]⟩, tb), (⟨#[119]⟩, tw), (⟨#[108]⟩, ⟨#[120, 38, 109, 59]⟩), (⟨#[109]⟩, ⟨#[38, 108, 59]⟩)]
theorem add1 (ta : ByteArray) : addD ⟨[], []⟩ (.inl (⟨#[101]⟩, ta)) = ⟨[(⟨#[101]⟩, ta)], []⟩ := by kernel_rfl
theorem add2 (ta tb : ByteArray) : addD ⟨[(⟨#[101]⟩, ta)], []⟩ (.inl (⟨#[102]⟩, tb)) = ⟨[(⟨#[101]⟩, ta), (⟨#[102]⟩, tb)], []⟩ := by kernel_rfl
theorem add3 (ta tb tw : ByteArray) : addD ⟨[(⟨#[101]⟩, ta), (⟨#[102]⟩, tb)], []⟩ (.inl (⟨#[119]⟩, tw)) = ⟨[(⟨#[101]⟩, ta), (⟨#[102]⟩, tb), (⟨#[119]⟩, tw)], []⟩ := by kernel_rfl
theorem add4 (ta tb tw tl : ByteArray) : addD ⟨[(⟨#[101]⟩, ta), (⟨#[102]⟩, tb), (⟨#[119]⟩, tw)], []⟩ (.inl (⟨#[108]⟩, tl)) = ⟨[(⟨#[101]⟩, ta), (⟨#[102]⟩, tb), (⟨#[119]⟩, tw), (⟨#[108]⟩, tl)], []⟩ := by kernel_rfl
theorem add5 (ta tb tw tl tm : ByteArray) : addD ⟨[(⟨#[101]⟩, ta), (⟨#[102]⟩, tb), (⟨#[119]⟩, tw), (⟨#[108]⟩, tl)], []⟩ (.inl (⟨#[109]⟩, tm)) = ⟨[(⟨#[101]⟩, ta), (⟨#[102]⟩, tb), (⟨#[119]⟩, tw), (⟨#[108]⟩, tl), (⟨#[109]⟩, tm)], []⟩ := by kernel_rfl
def pcOk (k : Nat) : Bool := (pc false k).all (fun b => decide (b ≠ 34 ∧ 32 ≤ b.toNat ∧ b.toNat < 127)) && (pc true k).all (fun b => decide (b ≠ 34 ∧ 32 ≤ b.toNat ∧ b.toNat < 127)) && decide ((pc false k).length ≤ 15 ∧ (pc true k).length ≤ 15)
theorem pc_ok {k : Nat} (hk : k < 9) : pcOk k = true := by
 have : ∀ k, k < 9 → pcOk k = true := by decide
 exact this k hk
theorem flat_ok (x : Bool) : ∀ (l : List Nat), (∀ k ∈ l, k < 9) → (∀ b ∈ flat x l, b ≠ 34 ∧ 32 ≤ b.toNat ∧ b.toNat < 127) ∧ (flat x l).length ≤ 15 * l.length
 | [], _ => ⟨fun b hb => by simp [flat] at hb, by simp [flat]⟩
 | k :: l, hk => by
  obtain ⟨h1, h2⟩ := flat_ok x l (fun j hj => hk j (List.mem_cons_of_mem _ hj))
  have h3 := pc_ok (hk k List.mem_cons_self)
  unfold pcOk at h3
  simp only [Bool.and_eq_true, List.all_eq_true, decide_eq_true_eq] at h3
  constructor
  · intro b hb
    simp only [flat, List.mem_append] at hb
    rcases hb with hb | hb
    · cases x
      · exact h3.1.1 b hb
      · exact h3.1.2 b hb
    · exact h1 b hb
  · simp only [flat, List.length_append, List.length_cons]
    cases x <;> omega
theorem tm_list {l : List UInt8} (h : ∀ b ∈ l, 32 ≤ b.toNat ∧ b.toNat < 127) : Tm ⟨l.toArray⟩ := fun i hi => by
 rw [ba_size] at hi
 rw [byteAt_head, ba_toList, List.getD_eq_getElem?_getD, List.getElem?_eq_getElem hi, Option.getD_some]
 have := h _ (List.getElem_mem hi)
 omega
theorem tm_of {l : List UInt8} (hs : s.data.toList = l) (h : ∀ b ∈ l, 32 ≤ b.toNat ∧ b.toNat < 127) : Tm s := by
 have : s = ⟨l.toArray⟩ := ba_ext hs
 rw [this]; exact tm_list h
structure WdOk (w w' : List UInt8) : Prop where
 q : ∀ b ∈ w, b ≠ 34 ∧ 32 ≤ b.toNat ∧ b.toNat < 127
 e : entO ⟨w.toArray⟩ = some (numL w')
 len : w.length ≤ 10
theorem ent_l : entO ⟨([120, 38, 109, 59] : List UInt8).toArray⟩ = some (numL [120, 38, 109, 59]) := by decide +kernel
theorem ent_m : entO ⟨([38, 108, 59] : List UInt8).toArray⟩ = some (numL [38, 108, 59]) := by decide +kernel
def rF : ByteArray := ⟨#[38, 102, 59]⟩
def rE : ByteArray := ⟨#[38, 101, 59]⟩
theorem isF : RfIs rF (.inr ⟨#[102]⟩) := ⟨by unfold Tm; decide +kernel, by decide +kernel, by decide +kernel, by decide +kernel, by decide +kernel, by decide +kernel⟩
theorem isE : RfIs rE (.inr ⟨#[101]⟩) := ⟨by unfold Tm; decide +kernel, by decide +kernel, by decide +kernel, by decide +kernel, by decide +kernel, by decide +kernel⟩
theorem ent_e {la : List Nat} (hk : ∀ k ∈ la, k < 9) : entO ⟨(flat false la ++ [38, 102, 59]).toArray⟩ = some (numL (flat true la ++ [38, 102, 59])) := by
 have hT : Tm ⟨(flat false la ++ [38, 102, 59]).toArray⟩ := tm_list (fun b hb => by
  rcases List.mem_append.1 hb with hb | hb
  · exact ((flat_ok false la hk).1 b hb).2
  · have : ∀ b ∈ ([38, 102, 59] : List UInt8), 32 ≤ b.toNat ∧ b.toNat < 127 := by decide
    exact this b hb)
 have hall := has_all ⟨(flat false la ++ [38, 102, 59]).toArray⟩
 obtain ⟨a1, a2, a3⟩ := has_two (a := flat false la) (b := [38, 102, 59]) (Nat.zero_le _) hall
 refine en_ent (en_pieces hT la 0 [] hk (Nat.zero_le _) a1 (en_nam (w := rF) hT isF a2 a3 ?_))
 rw [List.nil_append, ← numL_app]
 exact en_end (by rw [ba_size, List.length_append, Nat.zero_add]; exact Nat.le_refl _)
theorem ent_f {lb : List Nat} (hk : ∀ k ∈ lb, k < 9) : entO ⟨(flat false lb).toArray⟩ = some (numL (flat true lb)) := by
 have hT : Tm ⟨(flat false lb).toArray⟩ := tm_list (fun b hb => ((flat_ok false lb hk).1 b hb).2)
 have hall := has_all ⟨(flat false lb).toArray⟩
 refine en_ent (en_pieces hT lb 0 [] hk (Nat.zero_le _) hall ?_)
 rw [List.nil_append]
 exact en_end (by rw [ba_size, Nat.zero_add]; exact Nat.le_refl _)
theorem df_bytes {c : UInt8} {v : List UInt8} (hc : 32 ≤ c.toNat ∧ c.toNat < 127) (hv : ∀ b ∈ v, 32 ≤ b.toNat ∧ b.toNat < 127) : ∀ b ∈ df c v, 32 ≤ b.toNat ∧ b.toNat < 127 := by
 intro b hb
 unfold df dfL at hb
 simp only [List.mem_append, List.mem_cons, List.not_mem_nil, or_false, entL] at hb
 rcases hb with (hb | hb) | (hb | hb)
 · rcases hb with rfl | rfl | rfl | rfl | rfl | rfl | rfl | rfl <;> decide
 · rcases hb with rfl | rfl | rfl | rfl
   · decide
   · exact hc
   · decide
   · decide
 · exact hv b hb
 · rcases hb with rfl | rfl <;> decide
theorem df_len (c : UInt8) (v : List UInt8) : (df c v).length = v.length + 14 := by
 unfold df dfL; simp only [List.length_append, List.length_cons, List.length_nil]
 have : entL.length = 8 := rfl
 omega
theorem e_bytes {la : List Nat} (hk : ∀ k ∈ la, k < 9) : ∀ b ∈ flat false la ++ [38, 102, 59], b ≠ 34 ∧ 32 ≤ b.toNat ∧ b.toNat < 127 := by
 intro b hb
 rcases List.mem_append.1 hb with hb | hb
 · exact (flat_ok false la hk).1 b hb
 · have : ∀ b ∈ ([38, 102, 59] : List UInt8), b ≠ 34 ∧ 32 ≤ b.toNat ∧ b.toNat < 127 := by decide
   exact this b hb
theorem lit_l : ∀ b ∈ ([120, 38, 109, 59] : List UInt8), b ≠ 34 ∧ 32 ≤ b.toNat ∧ b.toNat < 127 := by decide
theorem lit_m : ∀ b ∈ ([38, 108, 59] : List UInt8), b ≠ 34 ∧ 32 ≤ b.toNat ∧ b.toNat < 127 := by decide
structure HdArg (la lb : List Nat) (w w' : List UInt8) : Prop where
 a : ∀ k ∈ la, k < 9
 b : ∀ k ∈ lb, k < 9
 na : la.length ≤ 3
 nb : lb.length ≤ 3
 w : WdOk w w'
theorem head_bytes {la lb : List Nat} {w w' : List UInt8} (h : HdArg la lb w w') : (∀ b ∈ headL la lb w, 32 ≤ b.toNat ∧ b.toNat < 127) ∧ (headL la lb w).length ≤ 200 := by
 constructor
 · intro b hb
   unfold headL at hb
   simp only [List.mem_append] at hb
   rcases hb with hb | hb | hb | hb | hb
   · exact df_bytes (by decide) (fun b hb => (e_bytes h.a b hb).2) b hb
   · exact df_bytes (by decide) (fun b hb => ((flat_ok false lb h.b).1 b hb).2) b hb
   · exact df_bytes (by decide) (fun b hb => (h.w.q b hb).2) b hb
   · exact df_bytes (by decide) (fun b hb => (lit_l b hb).2) b hb
   · exact df_bytes (by decide) (fun b hb => (lit_m b hb).2) b hb
 · have h1 := (flat_ok false la h.a).2
   have h2 := (flat_ok false lb h.b).2
   have h3 := h.na
   have h4 := h.nb
   have h5 := h.w.len
   unfold headL
   simp only [List.length_append, df_len, List.length_cons, List.length_nil]
   omega
theorem head_dtd {la lb : List Nat} {w w' : List UInt8} (ha : HdArg la lb w w') : implDtd ⟨(headL la lb w).toArray⟩ = ⟨⟨entsD ⟨(flat true la ++ [38, 102, 59]).toArray⟩ ⟨(flat true lb).toArray⟩ ⟨w'.toArray⟩, []⟩, 0, 0⟩ := by
 obtain ⟨h1, h2⟩ := head_bytes ha
 have hT : Tm ⟨(headL la lb w).toArray⟩ := tm_list h1
 have hz : (⟨(headL la lb w).toArray⟩ : ByteArray).size = (headL la lb w).length := ba_size _
 have hall := has_all ⟨(headL la lb w).toArray⟩
 obtain ⟨a1, a2, a3⟩ := has_two (a := df 101 (flat false la ++ [38, 102, 59])) (b := df 102 (flat false lb) ++ (df 119 w ++ (df 108 [120, 38, 109, 59] ++ df 109 [38, 108, 59]))) (Nat.zero_le _) hall
 obtain ⟨b1, b2, b3⟩ := has_two a2 a3
 obtain ⟨c1, c2, c3⟩ := has_two b2 b3
 obtain ⟨d1, d2, d3⟩ := has_two c2 c3
 have ee := ent_e ha.a
 have ef := ent_f ha.b
 obtain ⟨g, hg⟩ : ∃ g, (⟨(headL la lb w).toArray⟩ : ByteArray).size + 1 = g + 1 + 1 + 1 + 1 + 1 + 1 := ⟨(headL la lb w).length - 5, by
  rw [hz]
  have : 70 ≤ (headL la lb w).length := by unfold headL; simp only [List.length_append, df_len, List.length_cons, List.length_nil]; omega
  omega⟩
 unfold implDtd
 rw [if_neg (by omega), if_pos (tm_head hT), hg]
 refine (ig_def (f := g + 1 + 1 + 1 + 1 + 1) hT dfe (fun b hb => (e_bytes ha.a b hb).1) ee (Nat.zero_le _) a1 (by rw [add1]; rfl)).trans ?_
 rw [add1]
 refine (ig_def (f := g + 1 + 1 + 1 + 1) hT dff (fun b hb => ((flat_ok false lb ha.b).1 b hb).1) ef a2 b1 (by rw [add2]; rfl)).trans ?_
 rw [add2]
 refine (ig_def (f := g + 1 + 1 + 1) hT dfw (fun b hb => (ha.w.q b hb).1) ha.w.e b2 c1 (by rw [add3]; rfl)).trans ?_
 rw [add3]
 refine (ig_def (f := g + 1 + 1) hT dfl (fun b hb => (lit_l b hb).1) ent_l c2 d1 (by rw [add4]; rfl)).trans ?_
 rw [add4]
 refine (ig_def (f := g + 1) hT dfm (fun b hb => (lit_m b hb).1) ent_m d2 d3 (by rw [add5]; rfl)).trans ?_
 rw [add5]
 conv => lhs; unfold implGo
 have hend : ∀ k, (headL la lb w).length ≤ k → ¬ whiteZ ⟨(headL la lb w).toArray⟩ k < (⟨(headL la lb w).toArray⟩ : ByteArray).size := by
  intro k hk
  have hge := whiteZ_ge ⟨(headL la lb w).toArray⟩ k
  rw [hz]; omega
 rw [if_neg (hend _ (by unfold headL df; simp only [List.length_append]; omega)), if_pos (by decide), strOf, strOf, strOf, strOf, strOf]
 rfl
end Go.Proofs.YtmaoefokimjkbaaGreatDoor.PlainZ2
namespace Go.Proofs.YtmaoefokimjkbaaGreatDoor.PlainZ3
open Go.RowKit Strs Plain7 Plain9 Plain10 Plain11 Plain12 Plain18 Plain21 Plain23 Plain25 PlainR PlainP PlainC PlainY PlainZ PlainZ2 Ents Go.Lib
variable {s h : ByteArray} {n p q i Q f : Nat} {st st1 st2 st3 : Rs} {T : Tk} {la lb : List Nat} {w w' : List UInt8}
def p14 : ByteArray := ⟨#[60, 33, 68, 79, 67, 84, 89, 80, 69, 32, 114, 32, 91, 60]⟩
def rN : ByteArray := ⟨#[114]⟩
theorem p_w9 : whiteZ p14 9 = 10 := by decide +kernel
theorem p_nm : nmF p14 10 = 0 := by decide +kernel
theorem p_nt : nmT p14 10 = rN := by decide +kernel
theorem p_np : nmP p14 10 = 11 := by decide +kernel
theorem p_w11 : whiteZ p14 11 = 12 := by decide +kernel
theorem p_tm : Tm p14 := by unfold Tm; decide +kernel
theorem doc_mark {body : List UInt8} (ha : HdArg la lb w w') (hs : s.data.toList = dtL ++ (headL la lb w ++ ([93, 62] ++ body))) : markZ s 0 = ⟨0, 8, rN, ⟨(headL la lb w).toArray⟩, [], 15 + (headL la lb w).length⟩ ∧ hasAt s (15 + (headL la lb w).length) body = true ∧ 15 + (headL la lb w).length ≤ s.size := by
 have hall := has_all s
 rw [hs] at hall
 obtain ⟨a1, a2, a3⟩ := has_two (Nat.zero_le _) hall
 obtain ⟨b1, b2, b3⟩ := has_two a2 a3
 obtain ⟨c1, c2, c3⟩ := has_two b2 b3
 have a2' : 13 ≤ s.size := a2
 have b1' : hasAt s 13 (headL la lb w) = true := b1
 have b2' : 13 + (headL la lb w).length ≤ s.size := b2
 have c1' : hasAt s (13 + (headL la lb w).length) [93, 62] = true := c1
 have c2' : 13 + (headL la lb w).length + 2 ≤ s.size := c2
 have c3' : hasAt s (13 + (headL la lb w).length + 2) body = true := c3
 have h60 : hasAt s 0 (dtL ++ [60]) = true := by
  obtain ⟨t, ht⟩ : ∃ t, headL la lb w = 60 :: t := ⟨_, rfl⟩
  have : hasAt s 0 ((dtL ++ [60]) ++ (t ++ ([93, 62] ++ body))) = true := by
   have e : (dtL ++ [60]) ++ (t ++ ([93, 62] ++ body)) = dtL ++ (headL la lb w ++ ([93, 62] ++ body)) := by rw [ht]; simp
   rw [e]; exact hall
  exact has_pre this
 obtain ⟨t, ht⟩ := has_ext (w := p14) (Nat.zero_le _) h60
 have hx : Ext p14 s t := by
  have e : s.extract 0 s.size = s := ba_ext (by rw [ext_rest]; rfl)
  rw [e] at ht; exact ht
 obtain ⟨g1, g2, g3⟩ := has_next (by omega) c1'
 obtain ⟨g4, g5, _⟩ := has_next (by omega) g3
 have hsb : Sb s 13 (13 + (headL la lb w).length + 1) := by
  obtain ⟨d1, d2, d3⟩ := has_two (s := s) (p := 13) (a := df 101 (flat false la ++ [38, 102, 59])) (b := df 102 (flat false lb) ++ (df 119 w ++ (df 108 [120, 38, 109, 59] ++ df 109 [38, 108, 59]))) (by omega) b1'
  obtain ⟨e1, e2, e3⟩ := has_two d2 d3
  obtain ⟨f1, f2, f3⟩ := has_two e2 e3
  obtain ⟨i1, i2, i3⟩ := has_two f2 f3
  refine sb_def (by decide) (fun b hb => (e_bytes ha.a b hb).1) (by omega) d1 ?_
  refine sb_def (by decide) (fun b hb => ((flat_ok false lb ha.b).1 b hb).1) d2 e1 ?_
  refine sb_def (by decide) (fun b hb => (ha.w.q b hb).1) e2 f1 ?_
  refine sb_def (by decide) (fun b hb => (lit_l b hb).1) f2 i1 ?_
  refine sb_def (by decide) (fun b hb => (lit_m b hb).1) i2 i3 ?_
  have e : 13 + (dfL 101 ++ (flat false la ++ [38, 102, 59] ++ [34, 62])).length + (dfL 102 ++ (flat false lb ++ [34, 62])).length + (dfL 119 ++ (w ++ [34, 62])).length + (dfL 108 ++ ([120, 38, 109, 59] ++ [34, 62])).length + (dfL 109 ++ ([38, 108, 59] ++ [34, 62])).length = 13 + (headL la lb w).length := by
   unfold headL df; simp only [List.length_append]; omega
  rw [e]
  exact sb_end g1 (byte_u8 g2)
 have hsub := hsb (s.size + 1) (by omega)
 have hF : subF s 13 = 0 := by unfold subF; rw [hsub]
 have hP : subP s 13 = 13 + (headL la lb w).length + 1 := by unfold subP; rw [hsub]
 have hTx : subT s 13 = ⟨(headL la lb w).toArray⟩ := by
  unfold subT
  rw [hP, show 13 + (headL la lb w).length + 1 - 1 = 13 + (headL la lb w).length by omega]
  have := (ext_sign (s := s) (w := ⟨(headL la lb w).toArray⟩) (p := 13) (by omega) b1').1
  rw [ba_size] at this
  exact this
 have hnot : ∀ (k : Nat) (l : List UInt8), hasAt s 0 l = true → k < l.length → k < 13 → (dtL.getD k 0).toNat = (l.getD k 0).toNat := by
  intro k l hl h1 h2
  have a := has_byte a1 (Nat.zero_le _) k h2
  have b := has_byte hl (Nat.zero_le _) k h1
  rw [a] at b; omega
 refine ⟨?_, by rw [show 15 + (headL la lb w).length = 13 + (headL la lb w).length + 2 by omega]; exact c3', by omega⟩
 unfold markZ
 rw [if_neg (fun hh => absurd (hnot 2 _ hh (by decide) (by decide)) (by decide)), if_neg (fun hh => absurd (hnot 2 _ hh (by decide) (by decide)) (by decide)), if_pos (has_pre (b := [32, 114, 32, 91]) a1)]
 unfold doctypeZ
 have hv10 : VB p14 10 := p_tm.at _
 have w9 : whiteZ s 9 = 10 := by rw [e_white hx (by rw [p_w9]; decide), p_w9]
 obtain ⟨n1, n2⟩ := e_nm hx hv10 (by rw [p_nm]; decide)
 obtain ⟨n3, n4⟩ := n2 p_nm
 have w11 : whiteZ s 11 = 12 := by rw [e_white hx (by rw [p_w11]; decide), p_w11]
 simp only [Nat.zero_add]
 rw [w9, if_neg (by decide), n1, p_nm, if_neg (by decide), n4, p_np, w11, n3, p_nt]
 have h91 : hasAt s 12 [91] = true := (has_two (s := s) (a := [60, 33, 68, 79, 67, 84, 89, 80, 69, 32, 114, 32]) (b := [91]) (Nat.zero_le _) a1).2.2
 rw [if_pos h91, hF, if_neg (by decide), hP, hTx]
 have hw : whiteZ s (13 + (headL la lb w).length + 1) = 13 + (headL la lb w).length + 1 := white_no g4 (by rw [byte_u8 g5]; decide)
 rw [hw, if_pos (must_has.2 (by rw [has_cons g4, has_nil, g5]; rfl))]
 congr 1
 omega
theorem next_st (hq : q < s.size) (hb : byteAt s q = 60) (hm : markZ s q = T) (hf : T.fl = 0) : nextR st s q true = (atZ st q, .ok T) := by
 unfold nextR
 rw [if_neg (by omega), tok_mark hq hb, hm, if_pos hf]
theorem cn_at {m : Nat} {E : Option ByteArray} (hT : Tm s) (hc : TC n E s q st st1 Q) (hn : n + 1 ≤ m) (x : Nat) : ∃ y, conGo m E s q true { st with pos := x } = ({ st1 with pos := y }, .ok Q) := cn_of hT hc m hn x
theorem el_in {y : Nat} (hp : p < s.size) (hb : byteAt s p = 60) (hm : markZ s p = T) (hf : T.fl = 0) (hk : T.kind = 1) (hs : startR (atZ st p) T = (st2, none))
 (hc : conGo conFuel (some T.name) s T.pos true { st2 with deep := st2.deep + 1 } = (st3, .ok s.size)) (f : Nat) (hd : Bool) : docGo (f + 1) s p true hd false st = docGo f s s.size true hd true (endR { st3 with deep := st2.deep } T.name) := by
 conv => lhs; unfold docGo
 rw [next_st hp hb hm hf]
 simp only
 rw [if_neg (by omega), if_neg (by omega), if_neg (by omega), if_neg (by omega), if_pos ⟨Or.inl hk, trivial⟩]
 unfold elemR
 rw [hs]
 simp only
 rw [if_pos hk, hc]
theorem dz_end (h : nextR st s p true = (st1, .ok T)) (hk : T.kind = 0) (f : Nat) (hd : Bool) : docGo (f + 1) s p true hd true st = (st1, none) := by
 conv => lhs; unfold docGo
 rw [h]
 simp only
 rw [if_pos hk, if_pos trivial]
theorem doc_end (f : Nat) (hd : Bool) : ∃ y, docGo (f + 1) s s.size true hd true st = ({ st with pos := y }, none) := by
 obtain ⟨z, hz⟩ := next_end (s := s) (st := st) (q := s.size) rfl st.pos
 exact ⟨z, dz_end hz rfl f hd⟩
theorem el_doc (hT : Tm s) (hp : p < s.size) (hb : byteAt s p = 60) (hm : markZ s p = T) (hf : T.fl = 0) (hk : T.kind = 1) (hs : ∀ x, startR { st with pos := x } T = ({ st2 with pos := x }, none))
 (hc : TC n (some T.name) s T.pos { st2 with deep := st2.deep + 1 } st3 s.size) (hn : n + 1 ≤ conFuel) (f : Nat) (hd : Bool) : ∃ y, docGo (f + 2) s p true hd false st = ({ endR { st3 with deep := st2.deep } T.name with pos := y }, none) := by
 obtain ⟨x, hx⟩ : ∃ x, atZ st p = { st with pos := x } := at_pos st st.pos p
 obtain ⟨y, hy⟩ := cn_at (m := conFuel) hT hc hn x
 have e1 := el_in (st2 := { st2 with pos := x }) (st3 := { st3 with pos := y }) (y := 0) hp hb hm hf hk (by rw [hx]; exact hs x) hy (f + 1) hd
 obtain ⟨z, hz⟩ := doc_end (s := s) (st := endR { { st3 with pos := y } with deep := st2.deep } T.name) f hd
 exact ⟨z, e1.trans hz⟩
theorem el_bad {c : Int} (hp : p < s.size) (hb : byteAt s p = 60) (hm : markZ s p = T) (hf : T.fl = 0) (hk : T.kind = 1) (hs : startR (atZ st p) T = (st2, none))
 (hc : conGo conFuel (some T.name) s T.pos true { st2 with deep := st2.deep + 1 } = (st3, .error c)) (f : Nat) (hd : Bool) : docGo (f + 1) s p true hd false st = (st3, some c) := by
 conv => lhs; unfold docGo
 rw [next_st hp hb hm hf]
 simp only
 rw [if_neg (by omega), if_neg (by omega), if_neg (by omega), if_neg (by omega), if_pos ⟨Or.inl hk, trivial⟩]
 unfold elemR
 rw [hs]
 simp only
 rw [if_pos hk, hc]
theorem ends_same : ∀ (l : List UInt8), (∀ b ∈ l, b ≠ 13) → endsE l = l
 | [], _ => rfl
 | c :: l, h => by
  have h1 := h c List.mem_cons_self
  have h2 := ends_same l (fun b hb => h b (List.mem_cons_of_mem _ hb))
  show (if c ≠ 13 then c :: endsE l else _) = _
  rw [if_pos h1, h2]
theorem tm_mem (hT : Tm s) : ∀ b ∈ s.data.toList, 32 ≤ b.toNat ∧ b.toNat < 127 := by
 intro b hb
 obtain ⟨i, hi, hx⟩ := List.mem_iff_getElem.1 hb
 have := hT i hi
 rw [byteAt_head, List.getD_eq_getElem?_getD, List.getElem?_eq_getElem hi, Option.getD_some, hx] at this
 omega
theorem read_tm (hT : Tm s) (hz : s.size ≤ 4000) (cl : Bool) : readZ s cl = match docR s cl with | (st, none) => ⟨st.evs, st.pos, 0⟩ | (st, some c) => ⟨st.evs, st.pos, c⟩ := by
 have e : (⟨(endsE s.data.toList).toArray⟩ : ByteArray) = s := ba_ext (by rw [ends_same _ (fun b hb he => by have := (tm_mem hT b hb).1; rw [he] at this; exact absurd this (by decide))])
 unfold readZ
 rw [if_neg (by omega), e, if_neg (by have := scan_of_VB (hT.at 0); omega)]
 cases docR s cl with
 | mk a b => cases b <;> rfl
theorem doc_R (h1 : u8At s 1 ≠ 63) (h2 : 1 < s.size) : docR s true = docGo (s.size + 1) s 0 true false false st0 := by
 have hn : ∀ l : List UInt8, hasAt s 0 (60 :: 63 :: l) = false := by
  intro l
  rw [has_cons (by omega), has_cons (by omega)]
  have : ((63 : UInt8) == u8At s 1) = false := beq_eq_false_iff_ne.2 (fun hh => h1 hh.symm)
  rw [this]; simp
 unfold docR
 rw [if_neg (by rw [show verL = 60 :: 63 :: verL.tail.tail from rfl, hn]; simp), if_neg (by rw [show encL = 60 :: 63 :: encL.tail.tail from rfl, hn]; simp), if_neg (by simp)]
end Go.Proofs.YtmaoefokimjkbaaGreatDoor.PlainZ3
namespace Go.Proofs.YtmaoefokimjkbaaGreatDoor.PlainZ4
open Go.RowKit Plain9 Plain10 Plain23 PlainR PlainP PlainC PlainY PlainZ PlainZ2 PlainZ3 Ents Go.Lib
variable {s h : ByteArray} {n p q i Q f : Nat} {st st1 st2 st3 : Rs} {T : Tk} {la lb : List Nat} {w w' g : List UInt8} {val : ByteArray}
def kN : ByteArray := ⟨#[107]⟩
theorem start_r {v : ByteArray} (hd : st.dt.atts = []) (hp : st.deep ≠ 30) (ha : T.attrs = [(kN, v)]) (hn : T.name = rN) (hv : valueZ st v false = (st1, .ok val)) : startR st T = (tellZ st1 ⟨1, rN, ⟨#[]⟩, [(kN, val)]⟩, none) := by
 unfold startR
 rw [if_neg hp, ha, hn]
 have e1 : ownA st.dt rN [(kN, v)] = [(kN, v, false)] := by unfold ownA; rw [hd]; rfl
 have e2 : defA st.dt rN [(kN, v)] = [] := by unfold defA; rw [hd]; rfl
 rw [e1, e2]
 simp only [List.append_nil, valsZ, hv, List.nil_append]
def mX : ByteArray := ⟨#[60, 114, 32, 107, 61, 39, 49, 38, 119, 59, 50, 39, 62]⟩
def vX : ByteArray := ⟨#[49, 38, 119, 59, 50]⟩
theorem isX : MkIs mX 1 rN eB [(kN, vX)] := ⟨by decide +kernel, by decide +kernel, by decide +kernel, by decide +kernel, by decide +kernel, by decide +kernel, by decide +kernel, by decide +kernel, by decide +kernel, by decide +kernel⟩
def mZ : ByteArray := ⟨#[60, 114, 62]⟩
theorem isZ : MkIs mZ 1 rN eB [] := ⟨by decide +kernel, by decide +kernel, by decide +kernel, by decide +kernel, by decide +kernel, by decide +kernel, by decide +kernel, by decide +kernel, by decide +kernel, by decide +kernel⟩
def mE : ByteArray := ⟨#[60, 47, 114, 62]⟩
theorem isEnd : MkIs mE 2 rN eB [] := ⟨by decide +kernel, by decide +kernel, by decide +kernel, by decide +kernel, by decide +kernel, by decide +kernel, by decide +kernel, by decide +kernel, by decide +kernel, by decide +kernel⟩
def mY (g : List UInt8) : ByteArray := ⟨([60, 114, 32, 107, 61, 39, 49] ++ (g ++ [50, 39, 62])).toArray⟩
def vY (g : List UInt8) : ByteArray := ⟨(49 :: (g ++ [50])).toArray⟩
structure Wd (w w' g : List UInt8) (val : ByteArray) : Prop where
 ok : WdOk w w'
 vx : ∀ (ta tb : ByteArray) (x : Nat), valueZ ⟨⟨entsD ta tb ⟨w'.toArray⟩, []⟩, [], [], x, 0, [], 0⟩ vX false = (⟨⟨entsD ta tb ⟨w'.toArray⟩, []⟩, [], [], x, 0, [], w'.length⟩, .ok val)
 vy : ∀ x : Nat, valueZ ⟨⟨[], []⟩, [], [], x, 0, [], 0⟩ (vY g) false = (⟨⟨[], []⟩, [], [], x, 0, [], 0⟩, .ok val)
 my : MkIs (mY g) 1 rN eB [(kN, vY g)]
 gb : ∀ b ∈ g, 32 ≤ b.toNat ∧ b.toNat < 127
 gl : g.length ≤ 10
 wl : w'.length ≤ 10
def chain (la lb : List Nat) (st : Rs) : Rs := effs lb (addT (effs lb (effs la (addT st [120]))) [121])
theorem al_chain {a b : Rs} (h : Al a b) : Al (chain la lb a) (chain la lb b) := al_effs lb (al_add (al_effs lb (al_effs la (al_add h _))) _)
theorem ent_ok {D : Dt} {wi : List ByteArray} {sp : Nat} {nm tx : ByteArray} (h1 : entR D.ents nm = (nm, tx)) (h2 : nm.size ≠ 0) (h3 : inB wi nm = false) (h4 : sp + tx.size ≤ 4000) : entTo D wi sp nm = .ok tx := by
 unfold entTo
 rw [h1]
 simp only
 rw [if_neg h2, if_neg (by rw [h3]; simp), if_neg (by omega)]
theorem ents_e (ta tb tw : ByteArray) : entR (entsD ta tb tw) ⟨#[101]⟩ = (⟨#[101]⟩, ta) := by kernel_rfl
theorem ents_f (ta tb tw : ByteArray) : entR (entsD ta tb tw) ⟨#[102]⟩ = (⟨#[102]⟩, tb) := by kernel_rfl
theorem in_ef : inB [⟨#[101]⟩] ⟨#[102]⟩ = false := by decide +kernel
theorem fit_with {a : Rs} (h : Fit a) (x : List ByteArray) (y : Nat) : Fit { a with wi := x, spent := y } := ⟨h.atts, h.deep⟩
theorem fit_add {a : Rs} (h : Fit a) (l : List UInt8) : Fit (addT a l) := ⟨h.atts, h.deep⟩
theorem fit_effs {a : Rs} (h : Fit a) (l : List Nat) : Fit (effs l a) := h.same (effs_keeps l a).1 (effs_keeps l a).2.1
theorem al_wi (a : Rs) (x : List ByteArray) (y : Nat) : Al { a with wi := x, spent := y } a := ⟨rfl, rfl⟩
theorem al_wo (a : Rs) (x : List ByteArray) : Al { a with wi := x } a := ⟨rfl, rfl⟩
theorem al_tr {a b c : Rs} (h1 : Al a b) (h2 : Al b c) : Al a c := ⟨h1.1.trans h2.1, h1.2.trans h2.2⟩
theorem run_f (hk : ∀ k ∈ lb, k < 9) (hf : Fit st) : CN (1 + 8 * lb.length + 1) none ⟨(flat true lb).toArray⟩ 0 st (effs lb st) (⟨(flat true lb).toArray⟩ : ByteArray).size := by
 have hT : Tm ⟨(flat true lb).toArray⟩ := tm_list (fun b hb => ((flat_ok true lb hk).1 b hb).2)
 refine cn_of hT (tc_pieces hT true lb 0 st hk (Nat.zero_le _) hf (has_all _) ?_)
 rw [Nat.zero_add, ← ba_size]
 exact tc_none rfl
theorem tc_f {E : Option ByteArray} {ta tw : ByteArray} (hT : Tm s) (hp : p ≤ s.size) (hh : hasAt s p rF.data.toList = true) (hk : ∀ k ∈ lb, k < 9) (hf : Fit st) (hd : st.dt.ents = entsD ta ⟨(flat true lb).toArray⟩ tw) (hw : inB st.wi ⟨#[102]⟩ = false) (hsp : st.spent + (flat true lb).length ≤ 4000)
 (h : TC n E s (p + 3) { effs lb { st with wi := ⟨#[102]⟩ :: st.wi, spent := st.spent + (flat true lb).length } with wi := st.wi } st3 Q) : TC (n + (1 + 8 * lb.length + 1)) E s p st st3 Q := by
 have e : (⟨(flat true lb).toArray⟩ : ByteArray).size = (flat true lb).length := ba_size _
 have ht : entTo st.dt st.wi st.spent ⟨#[102]⟩ = .ok ⟨(flat true lb).toArray⟩ := ent_ok (by rw [hd]; exact ents_f _ _ _) (by decide) hw (by rw [e]; exact hsp)
 refine tc_ent (w := rF) hT hp hh isF.tm isF.a isF.b isF.r (by decide +kernel) isF.h60 isF.h93 ht (tm_marks (tm_list (fun b hb => ((flat_ok true lb hk).1 b hb).2))) ?_ h
 rw [e]
 exact run_f hk (fit_with hf _ _)
theorem run_e {ta tw : ByteArray} (hta : ta = ⟨(flat true la ++ [38, 102, 59]).toArray⟩) (ha : ∀ k ∈ la, k < 9) (hb : ∀ k ∈ lb, k < 9) (hf : Fit st) (hd : st.dt.ents = entsD ta ⟨(flat true lb).toArray⟩ tw) (hw : inB st.wi ⟨#[102]⟩ = false) (hsp : st.spent + (flat true lb).length ≤ 4000) :
 ∃ m st2, CN m none ta 0 st st2 ta.size ∧ m ≤ 8 * (la.length + lb.length) + 10 ∧ st2.dt = st.dt ∧ st2.deep = st.deep ∧ st2.spent = st.spent + (flat true lb).length ∧ Al st2 (effs lb (effs la st)) := by
 subst hta
 have hT : Tm ⟨(flat true la ++ [38, 102, 59]).toArray⟩ := tm_list (fun b hb => by
  rcases List.mem_append.1 hb with hb | hb
  · exact ((flat_ok true la ha).1 b hb).2
  · have : ∀ b ∈ ([38, 102, 59] : List UInt8), 32 ≤ b.toNat ∧ b.toNat < 127 := by decide
    exact this b hb)
 obtain ⟨a1, a2, a3⟩ := has_two (a := flat true la) (b := [38, 102, 59]) (Nat.zero_le _) (has_all ⟨(flat true la ++ [38, 102, 59]).toArray⟩)
 obtain ⟨k1, k2, k3, k4⟩ := effs_keeps la st
 have hz : (⟨(flat true la ++ [38, 102, 59]).toArray⟩ : ByteArray).size = (flat true la).length + 3 := by rw [ba_size, List.length_append]; rfl
 have hq : 0 + (flat true la).length + 3 = (⟨(flat true la ++ [38, 102, 59]).toArray⟩ : ByteArray).size := by rw [hz]; omega
 have t1 : ∀ X : Rs, TC 1 none ⟨(flat true la ++ [38, 102, 59]).toArray⟩ (0 + (flat true la).length + 3) X X (⟨(flat true la ++ [38, 102, 59]).toArray⟩ : ByteArray).size := fun X => by rw [hq]; exact tc_none rfl
 have t2 := tc_f (lb := lb) (st := effs la st) hT a2 a3 hb (fit_effs hf la) (by rw [k1]; exact hd) (by rw [k3]; exact hw) (by rw [k4]; exact hsp) (t1 _)
 have t3 := cn_of hT (tc_pieces hT true la 0 st ha (Nat.zero_le _) hf a1 t2)
 refine ⟨_, _, t3, by omega, ?_, ?_, ?_, ?_⟩
 · show (effs lb _).dt = _
   rw [(effs_keeps lb _).1]; exact k1
 · show (effs lb _).deep = _
   rw [(effs_keeps lb _).2.1]; exact k2
 · show (effs lb _).spent = _
   rw [(effs_keeps lb _).2.2.2]; show (effs la st).spent + _ = _; rw [k4]
 · exact al_tr (al_wo _ _) (al_effs lb (al_wi _ _ _))
theorem run_x {ta tw : ByteArray} (hta : ta = ⟨(flat true la ++ [38, 102, 59]).toArray⟩) (ha : ∀ k ∈ la, k < 9) (hb : ∀ k ∈ lb, k < 9) (na : la.length ≤ 3) (nb : lb.length ≤ 3) (hT : Tm s) (hp : p ≤ s.size) (hh : hasAt s p ([120] ++ (rE.data.toList ++ ([121] ++ (rF.data.toList ++ mE.data.toList)))) = true) (hz : p + 12 = s.size)
 (hf : Fit st) (hd : st.dt.ents = entsD ta ⟨(flat true lb).toArray⟩ tw) (hw : st.wi = []) (hsp : st.spent ≤ 10) : ∃ st3, TC 200 (some rN) s p st st3 s.size ∧ Al st3 (chain la lb st) := by
 have fa := (flat_ok true la ha).2
 have fb := (flat_ok true lb hb).2
 obtain ⟨a1, a2, a3⟩ := has_two hp hh
 obtain ⟨b1, b2, b3⟩ := has_two a2 a3
 obtain ⟨c1, c2, c3⟩ := has_two b2 b3
 obtain ⟨d1, d2, d3⟩ := has_two c2 c3
 obtain ⟨e1, e2, T, e3, e4, e5, e6, e7, e8, e9⟩ := isEnd.at hT d2 d3
 have hts : ta.size = (flat true la).length + 3 := by rw [hta, ba_size, List.length_append]; rfl
 obtain ⟨m, st2, r1, r2, r3, r4, r5, r6⟩ := run_e (st := { addT st [120] with wi := ⟨#[101]⟩ :: st.wi, spent := st.spent + ta.size }) hta ha hb (fit_with (fit_add hf _) _ _) hd (by rw [hw]; exact in_ef) (by show st.spent + ta.size + _ ≤ 4000; omega)
 have hte : entTo (addT st [120]).dt (addT st [120]).wi (addT st [120]).spent ⟨#[101]⟩ = .ok ta := ent_ok (by show entR st.dt.ents _ = _; rw [hd]; exact ents_e _ _ _) (by decide) (by show inB st.wi _ = _; rw [hw]; rfl) (by show st.spent + ta.size ≤ 4000; omega)
 have fit2 : Fit { st2 with wi := (addT st [120]).wi } := ⟨by show st2.dt.atts = []; rw [r3]; exact hf.atts, by show st2.deep ≤ 28; rw [r4]; exact hf.deep⟩
 have hm : marksB ta = true := by
  rw [hta]
  exact tm_marks (tm_list (fun b hb => by
   rcases List.mem_append.1 hb with hb | hb
   · exact ((flat_ok true la ha).1 b hb).2
   · have : ∀ b ∈ ([38, 102, 59] : List UInt8), 32 ≤ b.toNat ∧ b.toNat < 127 := by decide
     exact this b hb))
 have t1 : ∀ X : Rs, TC 1 (some rN) s (p + 1 + 3 + 1 + 3) X X s.size := fun X => by
  have := tc_close (st := X) e1 e2 e3 e4 e5 (nm := rN) (by rw [e6]; exact beq_self_eq_true _)
  rw [e9] at this
  have hq : p + ([120] : List UInt8).length + rE.data.toList.length + ([121] : List UInt8).length + rF.data.toList.length + mE.size = s.size := by show p + 1 + 3 + 1 + 3 + 4 = s.size; omega
  rw [hq] at this
  exact this
 have t2 := tc_f (lb := lb) (st := addT { st2 with wi := (addT st [120]).wi } [121]) hT c2 d1 hb (fit_add fit2 _) (by show st2.dt.ents = _; rw [r3]; exact hd) (by show inB st.wi _ = _; rw [hw]; rfl) (by show st2.spent + _ ≤ 4000; rw [r5]; show st.spent + ta.size + _ + _ ≤ 4000; omega) (t1 _)
 have t3 := tc_bytes (E := some rN) hT [121] (p + 1 + 3) { st2 with wi := (addT st [120]).wi } (by decide) b2 c1 t2
 have t4 := tc_ent (w := rE) (st := addT st [120]) (tx := ta) hT a2 b1 isE.tm isE.a isE.b isE.r (by decide +kernel) isE.h60 isE.h93 hte hm r1 t3
 have t5 := tc_bytes hT [120] p st (by decide) hp a1 t4
 refine ⟨_, t5.up (by omega), ?_⟩
 refine al_tr (al_wo _ _) (al_effs lb ?_)
 refine al_tr (al_wi _ _ _) (al_add ?_ _)
 exact al_tr (al_wo _ _) (al_tr r6 (al_effs lb (al_effs la (al_wi _ _ _))))
theorem run_y (ha : ∀ k ∈ la, k < 9) (hb : ∀ k ∈ lb, k < 9) (na : la.length ≤ 3) (nb : lb.length ≤ 3) (hT : Tm s) (hp : p ≤ s.size) (hh : hasAt s p ([120] ++ (flat false la ++ (flat false lb ++ ([121] ++ (flat false lb ++ mE.data.toList))))) = true) (hz : p + ([120] ++ (flat false la ++ (flat false lb ++ ([121] ++ (flat false lb ++ mE.data.toList))))).length = s.size)
 (hf : Fit st) : TC 200 (some rN) s p st (chain la lb st) s.size := by
 obtain ⟨a1, a2, a3⟩ := has_two hp hh
 obtain ⟨b1, b2, b3⟩ := has_two a2 a3
 obtain ⟨c1, c2, c3⟩ := has_two b2 b3
 obtain ⟨d1, d2, d3⟩ := has_two c2 c3
 obtain ⟨f1, f2, f3⟩ := has_two d2 d3
 obtain ⟨e1, e2, T, e3, e4, e5, e6, e7, e8, e9⟩ := isEnd.at hT f2 f3
 have t1 := tc_close (st := chain la lb st) e1 e2 e3 e4 e5 (nm := rN) (by rw [e6]; exact beq_self_eq_true _)
 rw [e9] at t1
 have hq : p + ([120] : List UInt8).length + (flat false la).length + (flat false lb).length + ([121] : List UInt8).length + (flat false lb).length + mE.size = s.size := by
  rw [← hz]; simp only [List.length_append]; show _ = p + (([120] : List UInt8).length + (_ + (_ + (([121] : List UInt8).length + (_ + mE.size))))); omega
 rw [hq] at t1
 have t2 := tc_pieces hT false lb _ (addT (effs lb (effs la (addT st [120]))) [121]) hb d2 (fit_add (fit_effs (fit_effs (fit_add hf _) la) lb) _) f1 t1
 have t3 := tc_bytes hT [121] _ (effs lb (effs la (addT st [120]))) (by decide) c2 d1 t2
 have t4 := tc_pieces hT false lb _ (effs la (addT st [120])) hb b2 (fit_effs (fit_add hf _) la) c1 t3
 have t5 := tc_pieces hT false la _ (addT st [120]) ha a2 (fit_add hf _) b1 t4
 exact (tc_bytes hT [120] p st (by decide) hp a1 t5).up (by omega)
end Go.Proofs.YtmaoefokimjkbaaGreatDoor.PlainZ4
namespace Go.Proofs.YtmaoefokimjkbaaGreatDoor.PlainZ5
open Go.RowKit Strs Plain9 Plain10 Plain12 Plain18 Plain23 PlainR PlainP PlainC PlainY PlainZ PlainZ2 PlainZ3 PlainZ4 Go.Lib
variable {s h : ByteArray} {n p q i Q f : Nat} {st st1 st2 st3 : Rs} {T : Tk} {la lb : List Nat} {w w' g : List UInt8} {val : ByteArray}
def bodyX : List UInt8 := [120] ++ (rE.data.toList ++ ([121] ++ (rF.data.toList ++ mE.data.toList)))
def docX (la lb : List Nat) (w : List UInt8) : List UInt8 := dtL ++ (headL la lb w ++ ([93, 62] ++ (mX.data.toList ++ bodyX)))
def docY (la lb : List Nat) (g : List UInt8) : List UInt8 := (mY g).data.toList ++ ([120] ++ (flat false la ++ (flat false lb ++ ([121] ++ (flat false lb ++ mE.data.toList)))))
def docZ (la lb : List Nat) (w : List UInt8) : List UInt8 := dtL ++ (headL la lb w ++ ([93, 62] ++ (mZ.data.toList ++ ([38, 108, 59] ++ mE.data.toList))))
theorem dt_doc {D : DOut} (hp : p < s.size) (hb : byteAt s p = 60) (hm : markZ s p = T) (hf : T.fl = 0) (hk : T.kind = 8) (hD : implDtd T.text = D) (hc : D.code = 0) (f : Nat) : docGo (f + 1) s p true false false st = docGo f s T.pos true true false { atZ st p with dt := D.dtd } := by
 conv => lhs; unfold docGo
 rw [next_st hp hb hm hf]
 simp only
 rw [if_neg (by omega), if_neg (by omega), if_neg (by omega), if_pos ⟨hk, trivial, trivial⟩, hD, if_pos hc]
theorem mem_tm {l m : List UInt8} (h1 : ∀ b ∈ l, 32 ≤ b.toNat ∧ b.toNat < 127) (h2 : ∀ b ∈ m, 32 ≤ b.toNat ∧ b.toNat < 127) : ∀ b ∈ l ++ m, 32 ≤ b.toNat ∧ b.toNat < 127 := fun b hb => (List.mem_append.1 hb).elim (h1 b) (h2 b)
theorem tm_dt : ∀ b ∈ dtL, 32 ≤ b.toNat ∧ b.toNat < 127 := by decide
theorem tm_end : ∀ b ∈ ([93, 62] : List UInt8), 32 ≤ b.toNat ∧ b.toNat < 127 := by decide
theorem tm_x : ∀ b ∈ mX.data.toList ++ bodyX, 32 ≤ b.toNat ∧ b.toNat < 127 := by decide
theorem tm_z : ∀ b ∈ mZ.data.toList ++ ([38, 108, 59] ++ mE.data.toList), 32 ≤ b.toNat ∧ b.toNat < 127 := by decide
theorem tm_e : ∀ b ∈ mE.data.toList, 32 ≤ b.toNat ∧ b.toNat < 127 := by decide
theorem byte_one {l : List UInt8} {c : UInt8} (hs : s.data.toList = 60 :: c :: l) : u8At s 1 = c ∧ 1 < s.size := by
 have hz : s.size = (60 :: c :: l).length := by rw [← hs]; rfl
 refine ⟨?_, by rw [hz]; simp only [List.length_cons]; omega⟩
 show s.data.toList.getD 1 0 = c
 rw [hs]; rfl
theorem fuel_200 : 200 + 1 ≤ conFuel := by unfold conFuel; omega
theorem read_x (ha : HdArg la lb w w') (hW : Wd w w' g val) (hs : s.data.toList = docX la lb w) : ∃ S3, (readZ s true).code = 0 ∧ Al S3 (chain la lb ⟨⟨[], []⟩, [⟨1, rN, ⟨#[]⟩, [(kN, val)]⟩], [], 0, 1, [], 0⟩) ∧ (readZ s true).evs = (endR S3 rN).evs := by
 obtain ⟨h1, h2⟩ := head_bytes ha
 have hT : Tm s := tm_of hs (mem_tm tm_dt (mem_tm h1 (mem_tm tm_end tm_x)))
 have hz : s.size = 13 + ((headL la lb w).length + (2 + (13 + 12))) := by
  rw [← sz_list, hs]; unfold docX; simp only [List.length_append]; rfl
 obtain ⟨m1, m2, m3⟩ := doc_mark ha hs
 have hb0 : byteAt s 0 = 60 := by
  rw [byteAt_head, hs]; rfl
 obtain ⟨a1, a2, a3⟩ := has_two m3 m2
 obtain ⟨e1, e2, T, e3, e4, e5, e6, e7, e8, e9⟩ := isX.at hT m3 a1
 have hb1 := byte_one (s := s) (c := 33) (l := (docX la lb w).tail.tail) hs
 have hD := head_dtd ha
 have hst : ∀ x, startR { { st0 with dt := ⟨entsD ⟨(flat true la ++ [38, 102, 59]).toArray⟩ ⟨(flat true lb).toArray⟩ ⟨w'.toArray⟩, []⟩ } with pos := x } T = ({ tellZ { st0 with dt := ⟨entsD ⟨(flat true la ++ [38, 102, 59]).toArray⟩ ⟨(flat true lb).toArray⟩ ⟨w'.toArray⟩, []⟩, spent := w'.length } ⟨1, rN, ⟨#[]⟩, [(kN, val)]⟩ with pos := x }, none) := by
  intro x
  exact start_r rfl (show (0 : Nat) ≠ 30 by decide) e8 e6 (hW.vx _ _ x)
 obtain ⟨S3, c1, c2⟩ := run_x (st := { tellZ { st0 with dt := ⟨entsD ⟨(flat true la ++ [38, 102, 59]).toArray⟩ ⟨(flat true lb).toArray⟩ ⟨w'.toArray⟩, []⟩, spent := w'.length } ⟨1, rN, ⟨#[]⟩, [(kN, val)]⟩ with deep := 1 }) rfl ha.a ha.b ha.na ha.nb hT a2 a3 (by show 15 + (headL la lb w).length + 13 + 12 = s.size; omega) ⟨rfl, show (1 : Nat) ≤ 28 by decide⟩ rfl rfl hW.wl
 have c1' : TC 200 (some T.name) s T.pos { tellZ { st0 with dt := ⟨entsD ⟨(flat true la ++ [38, 102, 59]).toArray⟩ ⟨(flat true lb).toArray⟩ ⟨w'.toArray⟩, []⟩, spent := w'.length } ⟨1, rN, ⟨#[]⟩, [(kN, val)]⟩ with deep := 0 + 1 } S3 s.size := by rw [e6, e9]; exact c1
 obtain ⟨k, hk⟩ : ∃ k, s.size + 1 = k + 2 + 1 := ⟨s.size - 2, by omega⟩
 obtain ⟨y, hy⟩ := el_doc (st2 := tellZ { st0 with dt := ⟨entsD ⟨(flat true la ++ [38, 102, 59]).toArray⟩ ⟨(flat true lb).toArray⟩ ⟨w'.toArray⟩, []⟩, spent := w'.length } ⟨1, rN, ⟨#[]⟩, [(kN, val)]⟩) hT e1 e2 e3 e4 e5 hst c1' fuel_200 k true
 have hr : docR s true = ({ endR { S3 with deep := 0 } T.name with pos := y }, none) := by
  rw [doc_R (by rw [hb1.1]; decide) hb1.2, hk, dt_doc (by omega) hb0 m1 rfl rfl hD rfl]
  exact hy
 have hrd : readZ s true = ⟨(endR { S3 with deep := 0 } T.name).evs, (y : Int), 0⟩ := by
  rw [read_tm hT (by omega), hr]
 refine ⟨S3, by rw [hrd], ?_, by rw [hrd, e6]; rfl⟩
 exact al_tr c2 (al_chain ⟨rfl, rfl⟩)
theorem read_y (ha : HdArg la lb w w') (hW : Wd w w' g val) (hs : s.data.toList = docY la lb g) : (readZ s true).code = 0 ∧ (readZ s true).evs = (endR (chain la lb ⟨⟨[], []⟩, [⟨1, rN, ⟨#[]⟩, [(kN, val)]⟩], [], 0, 1, [], 0⟩) rN).evs := by
 have fa := flat_ok false la ha.a
 have fb := flat_ok false lb ha.b
 have na := ha.na
 have nb := ha.nb
 have hg : ∀ b ∈ (mY g).data.toList, 32 ≤ b.toNat ∧ b.toNat < 127 := by
  have e : (mY g).data.toList = [60, 114, 32, 107, 61, 39, 49] ++ (g ++ [50, 39, 62]) := rfl
  rw [e]
  have t1 : ∀ b ∈ ([60, 114, 32, 107, 61, 39, 49] : List UInt8), 32 ≤ b.toNat ∧ b.toNat < 127 := by decide
  have t2 : ∀ b ∈ ([50, 39, 62] : List UInt8), 32 ≤ b.toNat ∧ b.toNat < 127 := by decide
  exact mem_tm t1 (mem_tm hW.gb t2)
 have t3 : ∀ b ∈ ([120] : List UInt8), 32 ≤ b.toNat ∧ b.toNat < 127 := by decide
 have t4 : ∀ b ∈ ([121] : List UInt8), 32 ≤ b.toNat ∧ b.toNat < 127 := by decide
 have hT : Tm s := tm_of hs (mem_tm hg (mem_tm t3 (mem_tm (fun b hb => (fa.1 b hb).2) (mem_tm (fun b hb => (fb.1 b hb).2) (mem_tm t4 (mem_tm (fun b hb => (fb.1 b hb).2) tm_e))))))
 have hml : (mY g).data.toList.length = 10 + g.length := by
  have e : (mY g).data.toList = [60, 114, 32, 107, 61, 39, 49] ++ (g ++ [50, 39, 62]) := rfl
  rw [e]; simp only [List.length_append, List.length_cons, List.length_nil]; omega
 have hz : s.size = 10 + g.length + ([120] ++ (flat false la ++ (flat false lb ++ ([121] ++ (flat false lb ++ mE.data.toList))))).length := by
  rw [← sz_list, hs]; unfold docY; rw [List.length_append, hml]
 have hz4 : s.size ≤ 4000 := by
  rw [hz]
  simp only [List.length_append, List.length_cons, List.length_nil]
  have : mE.data.toList.length = 4 := rfl
  have := hW.gl
  omega
 have hall := has_all s
 rw [hs] at hall
 obtain ⟨a1, a2, a3⟩ := has_two (Nat.zero_le _) hall
 obtain ⟨e1, e2, T, e3, e4, e5, e6, e7, e8, e9⟩ := hW.my.at hT (Nat.zero_le _) a1
 have hb1 := byte_one (s := s) (c := 114) (l := (docY la lb g).tail.tail) hs
 have hst : ∀ x, startR { st0 with pos := x } T = ({ tellZ st0 ⟨1, rN, ⟨#[]⟩, [(kN, val)]⟩ with pos := x }, none) := by
  intro x
  exact start_r rfl (show (0 : Nat) ≠ 30 by decide) e8 e6 (hW.vy x)
 have c1 := run_y (st := { tellZ st0 ⟨1, rN, ⟨#[]⟩, [(kN, val)]⟩ with deep := 1 }) ha.a ha.b ha.na ha.nb hT a2 a3 (by rw [hz, hml]; omega) ⟨rfl, show (1 : Nat) ≤ 28 by decide⟩
 have c1' : TC 200 (some T.name) s T.pos { tellZ st0 ⟨1, rN, ⟨#[]⟩, [(kN, val)]⟩ with deep := 0 + 1 } (chain la lb { tellZ st0 ⟨1, rN, ⟨#[]⟩, [(kN, val)]⟩ with deep := 1 }) s.size := by rw [e6, e9]; exact c1
 obtain ⟨k, hk⟩ : ∃ k, s.size + 1 = k + 2 := ⟨s.size - 1, by omega⟩
 obtain ⟨y, hy⟩ := el_doc (st2 := tellZ st0 ⟨1, rN, ⟨#[]⟩, [(kN, val)]⟩) hT e1 e2 e3 e4 e5 hst c1' fuel_200 k false
 have hr : docR s true = ({ endR { chain la lb { tellZ st0 ⟨1, rN, ⟨#[]⟩, [(kN, val)]⟩ with deep := 1 } with deep := 0 } T.name with pos := y }, none) := by
  rw [doc_R (by rw [hb1.1]; decide) hb1.2, hk]
  exact hy
 have hrd : readZ s true = ⟨(endR { chain la lb { tellZ st0 ⟨1, rN, ⟨#[]⟩, [(kN, val)]⟩ with deep := 1 } with deep := 0 } T.name).evs, (y : Int), 0⟩ := by
  rw [read_tm hT hz4, hr]
 refine ⟨by rw [hrd], ?_⟩
 rw [hrd, e6]
 rfl
def lB : ByteArray := ⟨#[38, 108, 59]⟩
theorem loop_l (ta tb tw : ByteArray) (evs : List Ev) (x d g : Nat) : (partsG false (entC (g + 3)) 4 lB 0 (⟨⟨entsD ta tb tw, []⟩, evs, [], x, d, [], 0⟩, [])).2 = some 9 := by kernel_rfl
theorem start_z (hd : st.dt.atts = []) (hp : st.deep ≠ 30) (ha : T.attrs = []) (hn : T.name = rN) : startR st T = (tellZ st ⟨1, rN, ⟨#[]⟩, []⟩, none) := by
 unfold startR
 rw [if_neg hp, ha, hn]
 have e1 : ownA st.dt rN [] = [] := by unfold ownA; rfl
 have e2 : defA st.dt rN [] = [] := by unfold defA; rw [hd]; rfl
 rw [e1, e2]
 rfl
theorem read_z (ha : HdArg la lb w w') (hs : s.data.toList = docZ la lb w) : (readZ s true).code = 9 := by
 obtain ⟨h1, h2⟩ := head_bytes ha
 have hT : Tm s := tm_of hs (mem_tm tm_dt (mem_tm h1 (mem_tm tm_end tm_z)))
 have hz : s.size = 13 + ((headL la lb w).length + (2 + (3 + (3 + 4)))) := by
  rw [← sz_list, hs]; unfold docZ; simp only [List.length_append]; rfl
 obtain ⟨m1, m2, m3⟩ := doc_mark ha hs
 have hb0 : byteAt s 0 = 60 := by
  rw [byteAt_head, hs]; rfl
 obtain ⟨a1, a2, a3⟩ := has_two m3 m2
 obtain ⟨b1, b2, b3⟩ := has_two a2 a3
 obtain ⟨e1, e2, T, e3, e4, e5, e6, e7, e8, e9⟩ := isZ.at hT m3 a1
 obtain ⟨f1, f2, T2, _⟩ := isEnd.at hT b2 b3
 have hb1 := byte_one (s := s) (c := 33) (l := (docZ la lb w).tail.tail) hs
 have hD := head_dtd ha
 obtain ⟨k, hk⟩ : ∃ k, s.size + 1 = k + 1 + 1 := ⟨s.size - 1, by omega⟩
 obtain ⟨F, hF⟩ : ∃ F, conFuel = F + 3 + 1 := ⟨4001 * 5000 + 4996, rfl⟩
 have hne : ∀ d : Int, (∀ i, i < lB.size → byteAt lB i ≠ d) → ∀ i, T.pos ≤ i → i < T.pos + 3 → byteAt s i ≠ d := by
  intro d hd
  rw [e9]
  exact sign_bytes (w := lB) a2 b1 hd
 have hp3 : T.pos + 3 < s.size := by rw [e9]; exact f1
 have hE : textE s T.pos = T.pos + 3 := by
  rw [tx_over 3 T.pos (by omega) (hne 60 (by decide +kernel)), tx_at hp3 (by rw [e9]; exact f2)]
 have hx : txT s T.pos = lB := by
  unfold txT
  rw [hE, e9]
  exact (ext_sign (w := lB) a2 b1).1
 have hq : byteAt s T.pos ≠ 60 := hne 60 (by decide +kernel) _ (Nat.le_refl _) (by omega)
 have htx := tx_text hT (q := T.pos) (fun i hi1 hi2 => hne 93 (by decide +kernel) i hi1 (by omega)) (by omega)
 have key : ∀ (dt : Dt) (evs : List Ev) (x d : Nat), dt = ⟨entsD ⟨(flat true la ++ [38, 102, 59]).toArray⟩ ⟨(flat true lb).toArray⟩ ⟨w'.toArray⟩, []⟩ → ∃ S3, conGo conFuel (some T.name) s T.pos true ⟨dt, evs, [], x, d, [], 0⟩ = (S3, .error 9) := by
  intro dt evs x d hdt
  subst hdt
  have hn : nextR ⟨⟨entsD ⟨(flat true la ++ [38, 102, 59]).toArray⟩ ⟨(flat true lb).toArray⟩ ⟨w'.toArray⟩, []⟩, evs, [], x, d, [], 0⟩ s T.pos true = (⟨⟨entsD ⟨(flat true la ++ [38, 102, 59]).toArray⟩ ⟨(flat true lb).toArray⟩ ⟨w'.toArray⟩, []⟩, evs, [], T.pos, d, [], 0⟩, .ok ⟨0, 4, ByteArray.empty, lB, [], T.pos + 3⟩) := by
   unfold nextR
   rw [if_neg (by omega), tok_text (by omega) hq, htx, if_pos rfl, hx, hE]
   rfl
  have hl := loop_l ⟨(flat true la ++ [38, 102, 59]).toArray⟩ ⟨(flat true lb).toArray⟩ ⟨w'.toArray⟩ evs T.pos d F
  rw [hF, k_text hn (not_end (show (4 : Int) ≠ 0 by decide) (show (4 : Int) ≠ 2 by decide)) rfl]
  simp only
  have e4 : lB.size + 1 = 4 := rfl
  rw [e4]
  revert hl
  generalize partsG false (entC (F + 3)) 4 lB 0 (⟨⟨entsD ⟨(flat true la ++ [38, 102, 59]).toArray⟩ ⟨(flat true lb).toArray⟩ ⟨w'.toArray⟩, []⟩, evs, [], T.pos, d, [], 0⟩, []) = R
  intro hl
  obtain ⟨σ, c⟩ := R
  simp only at hl
  subst hl
  exact ⟨σ.1, rfl⟩
 obtain ⟨S3, hS3⟩ := key ⟨entsD ⟨(flat true la ++ [38, 102, 59]).toArray⟩ ⟨(flat true lb).toArray⟩ ⟨w'.toArray⟩, []⟩ [⟨1, rN, ⟨#[]⟩, []⟩] (15 + (headL la lb w).length) 1 rfl
 have hr : docR s true = (S3, some 9) := by
  rw [doc_R (by rw [hb1.1]; decide) hb1.2, hk, dt_doc (by omega) hb0 m1 rfl rfl hD rfl]
  exact el_bad (st2 := ⟨⟨entsD ⟨(flat true la ++ [38, 102, 59]).toArray⟩ ⟨(flat true lb).toArray⟩ ⟨w'.toArray⟩, []⟩, [⟨1, rN, ⟨#[]⟩, []⟩], [], 15 + (headL la lb w).length, 0, [], 0⟩) e1 e2 e3 e4 e5 (start_z rfl (show (0 : Nat) ≠ 30 by decide) e8 e6) hS3 k true
 rw [read_tm hT (by omega), hr]
theorem wd0 : Wd [118] [118] [118] ⟨#[49, 118, 50]⟩ := ⟨⟨by decide, by decide +kernel, by decide⟩, fun ta tb x => by kernel_rfl, fun x => by kernel_rfl, ⟨by decide +kernel, by decide +kernel, by decide +kernel, by decide +kernel, by decide +kernel, by decide +kernel, by decide +kernel, by decide +kernel, by decide +kernel, by decide +kernel⟩, by decide, by decide, by decide⟩
theorem wd1 : Wd [97, 32, 98] [97, 32, 98] [97, 32, 98] ⟨#[49, 97, 32, 98, 50]⟩ := ⟨⟨by decide, by decide +kernel, by decide⟩, fun ta tb x => by kernel_rfl, fun x => by kernel_rfl, ⟨by decide +kernel, by decide +kernel, by decide +kernel, by decide +kernel, by decide +kernel, by decide +kernel, by decide +kernel, by decide +kernel, by decide +kernel, by decide +kernel⟩, by decide, by decide, by decide⟩
theorem wd2 : Wd [38, 108, 116, 59, 120] [38, 108, 116, 59, 120] [38, 108, 116, 59, 120] ⟨#[49, 60, 120, 50]⟩ := ⟨⟨by decide, by decide +kernel, by decide⟩, fun ta tb x => by kernel_rfl, fun x => by kernel_rfl, ⟨by decide +kernel, by decide +kernel, by decide +kernel, by decide +kernel, by decide +kernel, by decide +kernel, by decide +kernel, by decide +kernel, by decide +kernel, by decide +kernel⟩, by decide, by decide, by decide⟩
theorem wd3 : Wd [38, 35, 51, 56, 59, 108, 116, 59] [38, 108, 116, 59] [38, 108, 116, 59] ⟨#[49, 60, 50]⟩ := ⟨⟨by decide, by decide +kernel, by decide⟩, fun ta tb x => by kernel_rfl, fun x => by kernel_rfl, ⟨by decide +kernel, by decide +kernel, by decide +kernel, by decide +kernel, by decide +kernel, by decide +kernel, by decide +kernel, by decide +kernel, by decide +kernel, by decide +kernel⟩, by decide, by decide, by decide⟩
end Go.Proofs.YtmaoefokimjkbaaGreatDoor.PlainZ5
