import Derived.Test.YtocnfoeaikiecaaGreatDoorMsE
set_option maxRecDepth 10000
set_option maxHeartbeats 1000000
set_option linter.unusedVariables false
namespace Go.Proofs.YtocnfoeaikiecaaGreatDoor.PlainX
open Go.RowKit Plain6 Plain9 Plain10 PlainS PlainR PlainN PlainW Go.Lib
theorem cKy {a b : ByteArray} (h : aQx a b = true) : a = b := by
 unfold aQx at h
 have h1 : a.toList = b.toList := by simpa using h
 have h2 : a.data.toList = b.data.toList := by rw [← ByteArray.toList_eq, ← ByteArray.toList_eq]; exact h1
 cases a; cases b
 simp only [ByteArray.mk.injEq]
 exact Array.toList_inj.1 h2
theorem aYb (a b : ByteArray) : aQx a b = aQx b a := by unfold aQx; exact BEq.comm
theorem bQ3 (p : ByteArray) : empB p = aQx p ⟨#[]⟩ := by
 unfold empB aQx
 have : (⟨#[]⟩ : ByteArray).toList = [] := by decide +kernel
 rw [this]
 cases p.toList <;> rfl
theorem dQf {s : ByteArray} : ∀ (f i : Nat) (k r : Int), k < s.size → aKd s f i k = some r → r < s.size
 | 0, i, k, r, hk, h => by cases h; exact hk
 | f + 1, i, k, r, hk, h => by
  unfold aKd at h
  split at h
  · split at h
    · split at h
      · cases h
      · exact dQf f (i + 1) i r (by omega) h
    · exact dQf f (i + 1) k r hk h
  · cases h; exact hk
theorem cKm {s : ByteArray} (h : (aQo s).2.2 = true) : s.size ≤ 4000 := by
 unfold aQo at h
 cases hc : colZ s with
 | none => rw [hc] at h; cases h
 | some k =>
  rw [hc] at h
  simp only at h
  split at h
  · by_cases hl : 60 < s.size
    · simp only [aWi hl] at h; cases h
    · omega
  · rename_i hk
    have hlt := dQf _ _ (-1) k (by omega) hc
    simp only [Bool.and_eq_true] at h
    have h1 : ¬ 60 < (s.extract 0 k.toNat).size := fun hl => by rw [aWi hl] at h; cases h.1
    have h2 : ¬ 60 < (s.extract (k.toNat + 1) s.size).size := fun hl => by rw [aWi hl] at h; cases h.2
    rw [aXy (by omega)] at h1 h2
    omega
theorem cKp {s : ByteArray} (h : (aQo s).2.2 = true) : aQu s = ((aQo s).1, (aQo s).2.1, 0) := by
 unfold aQu; rw [if_neg (by have := cKm h; omega), if_pos h]
theorem bZb (s : ByteArray) : decide ((aQu s).2.2 ≠ 0) = !(aQo s).2.2 := by
 cases h : (aQo s).2.2 with
 | true => rw [cKp h]; rfl
 | false =>
  unfold aQu
  split
  · rfl
  · rw [if_neg (by rw [h]; simp)]; rfl
theorem cKk : (aQu aJk).1 = ⟨#[]⟩ := by decide +kernel
theorem bY4 {a : BB} (h : (aQo a.1).2.2 = true) : bQf a = if (aZ9 a).2 = true then .inl ((aZ9 a).1, a.2) else .inr ⟨(aQo a.1).1, (aQo a.1).2.1, ⟨#[]⟩, a.2⟩ := by
 unfold bQf aZ9
 cases hx : aQx a.1 aJk with
 | true =>
  have he := cKy hx
  rw [he, cKk]
  have : aQx (⟨#[]⟩ : ByteArray) aJk = false := by decide +kernel
  rw [this]
  simp
 | false =>
  rw [cKp h]
  simp only [Bool.false_eq_true, if_false]
theorem dZr (d v : ByteArray) : badM d v = !aZv (d, v) := by
 unfold badM aZv
 rw [bQ3, bQ3]
 simp only
 cases aQx d ⟨#[]⟩ <;> cases aQx v ⟨#[]⟩ <;> cases aQx d xmlB <;> cases aQx v xmlS <;> cases aQx d aJk <;> cases aQx v cZ2 <;> rfl
theorem cJ4 (l : List BB) (p : ByteArray) : ∀ k, k ≤ l.length → bJk l p k = match (l.take k).reverse.find? (fun d => aQx d.1 p) with | some d => (d.2, !empB d.2 || empB p) | none => (⟨#[]⟩, empB p)
 | 0, _ => by simp [bJk]
 | k + 1, hk => by
  have hg : l.getD k (⟨#[]⟩, ⟨#[]⟩) = l[k]'(by omega) := by rw [List.getD_eq_getElem?_getD, List.getElem?_eq_getElem (by omega)]; rfl
  unfold bJk
  rw [hg, List.take_succ_eq_append_getElem (by omega), List.reverse_append, cJ4 l p k (by omega)]
  cases hs : aQx (l[k]'(by omega)).1 p with
  | true => simp [hs]
  | false => simp [hs]
theorem bJj (l : List BB) (p : ByteArray) : aWv l p = match l.reverse.find? (fun d => aQx d.1 p) with | some d => (d.2, !empB d.2 || empB p) | none => (⟨#[]⟩, empB p) := by
 unfold aWv
 rw [cJ4 l p _ (Nat.le_refl _), List.take_of_length_le (Nat.le_refl _)]
theorem cWy (l m : List BB) (p : ByteArray) : aWv (l ++ m) p = match m.reverse.find? (fun d => aQx d.1 p) with | some d => (d.2, !empB d.2 || empB p) | none => aWv l p := by
 rw [bJj, bJj, List.reverse_append, List.find?_append]
 cases m.reverse.find? (fun d => aQx d.1 p) <;> rfl
theorem cZi (sc : List (List BB)) (m : List BB) (p : ByteArray) : ∀ k, k ≤ sc.length → aW7 (sc ++ [m]) p k = aW7 sc p k
 | 0, _ => rfl
 | k + 1, hk => by
  unfold aW7
  have : (sc ++ [m]).getD k [] = sc.getD k [] := by
   rw [List.getD_eq_getElem?_getD, List.getD_eq_getElem?_getD, List.getElem?_append_left (by omega)]
  rw [this, cZi sc m p k (by omega)]
theorem cV0 (sc : List (List BB)) (m : List BB) (p : ByteArray) : aZp (sc ++ [m]) p = match bXk m p with | some v => some v | none => aZp sc p := by
 unfold aZp
 rw [List.length_append]
 show aW7 (sc ++ [m]) p (sc.length + 1) = _
 conv => lhs; unfold aW7
 have : (sc ++ [m]).getD sc.length [] = m := by rw [List.getD_eq_getElem?_getD, List.getElem?_append_right (Nat.le_refl _)]; simp
 rw [this, cZi sc m p _ (Nat.le_refl _)]
 cases bXk m p <;> rfl
def xmlD : BB := (xmlB, xmlS)
theorem dJ2 {P : List (List BB) → Prop} (h0 : P []) (h1 : ∀ sc m, P sc → P (sc ++ [m])) : ∀ (n : Nat) (sc : List (List BB)), sc.length = n → P sc
 | 0, sc, h => by rw [List.eq_nil_of_length_eq_zero h]; exact h0
 | n + 1, sc, h => by
  have hne : sc ≠ [] := fun e => by rw [e] at h; cases h
  rw [← List.dropLast_concat_getLast hne]
  exact h1 _ _ (dJ2 h0 h1 n _ (by rw [List.length_dropLast]; omega))
theorem cWx (sc : List (List BB)) (h : ∀ s ∈ sc, ∀ d ∈ s, aZv d = true) (p : ByteArray) : aWv (xmlD :: sc.flatten) p = match aZp sc p with | some v => (v, true) | none => (⟨#[]⟩, false) := by
 refine dJ2 (P := fun sc => (∀ s ∈ sc, ∀ d ∈ s, aZv d = true) → aWv (xmlD :: sc.flatten) p = match aZp sc p with | some v => (v, true) | none => (⟨#[]⟩, false)) ?_ ?_ _ sc rfl h
 · intro _
   rw [bJj]
   simp only [List.flatten_nil, List.reverse_cons, List.reverse_nil, List.nil_append]
   unfold aZp
   simp only [List.length_nil]
   unfold aW7
   rw [aYb p xmlB, bQ3 p]
   have hxe : empB xmlS = false := by decide +kernel
   cases hs : aQx xmlB p with
   | true => simp [xmlD, hs, hxe]
   | false =>
    cases he : aQx p ⟨#[]⟩ with
    | true => simp [xmlD, hs]
    | false => simp [xmlD, hs]
 · intro sc m ih hd
   rw [List.flatten_append, ← List.cons_append, cV0]
   simp only [List.flatten_cons, List.flatten_nil, List.append_nil]
   rw [cWy, ih (fun s hs => hd s (List.mem_append_left _ hs))]
   unfold bXk
   cases hf : m.reverse.find? (fun d => aQx d.1 p) with
   | none => rfl
   | some d =>
    have hm : d ∈ m := List.mem_reverse.1 (List.mem_of_find?_eq_some hf)
    have hs : aQx d.1 p = true := by have := List.find?_some hf; simpa using this
    have hok := hd m (List.mem_append_right _ (by simp)) d hm
    have : (!empB d.2 || empB p) = true := by
     rw [← cKy hs, bQ3, bQ3]
     unfold aZv at hok
     cases h1 : aQx d.1 ⟨#[]⟩ <;> cases h2 : aQx d.2 ⟨#[]⟩ <;> simp_all
    simp [this]
theorem dJ0 (sc : List (List BB)) (h : ∀ s ∈ sc, ∀ d ∈ s, aZv d = true) (p : ByteArray) : aZp sc p = if (aWv (xmlD :: sc.flatten) p).2 = true then some (aWv (xmlD :: sc.flatten) p).1 else none := by
 rw [cWx sc h]
 cases aZp sc p <;> simp
theorem bK0 (sc : List (List BB)) (h : ∀ s ∈ sc, ∀ d ∈ s, aZv d = true) : ∀ (l : List BB), (l.all fun a => (aQo a.1).2.2) = true → aXh sc (aZt l) = if okM (xmlD :: sc.flatten) l = true then some (aV4 (xmlD :: sc.flatten) l) else none
 | [], _ => by simp [aZt, aV4, okM, aXh]
 | a :: l, hl => by
  simp only [List.all_cons, Bool.and_eq_true] at hl
  have ih := bK0 sc h l hl.2
  have ho : aZt (a :: l) = if (aZ9 a).2 = true then aZt l else ⟨(aQo a.1).1, (aQo a.1).2.1, ⟨#[]⟩, a.2⟩ :: aZt l := by
   unfold aZt
   rw [List.filterMap_cons, bY4 hl.1]
   cases (aZ9 a).2 <;> rfl
  have hm : aV4 (xmlD :: sc.flatten) (a :: l) = if (aZ9 a).2 = true then aV4 (xmlD :: sc.flatten) l else bXr (xmlD :: sc.flatten) a :: aV4 (xmlD :: sc.flatten) l := by
   unfold aV4
   rw [List.filterMap_cons]
   cases (aZ9 a).2 <;> rfl
  have hk : okM (xmlD :: sc.flatten) (a :: l) = (((aZ9 a).2 || aWt (xmlD :: sc.flatten) a) && okM (xmlD :: sc.flatten) l) := by
   unfold okM; rw [List.all_cons]
  rw [ho, hm, hk]
  cases hd : (aZ9 a).2 with
  | true => simp only [if_true, Bool.true_or, Bool.true_and]; exact ih
  | false =>
   simp only [Bool.false_eq_true, if_false, Bool.false_or]
   unfold aXh
   simp only
   rw [ih, ← bQ3, dJ0 sc h]
   unfold aWt bXr
   cases he : empB (aQo a.1).1 with
   | true => cases okM (xmlD :: sc.flatten) l <;> simp
   | false =>
    cases (aWv (xmlD :: sc.flatten) (aQo a.1).1).2 <;> cases okM (xmlD :: sc.flatten) l <;> simp
theorem cZ7 : ∀ (l seen : List Nm), aJ7 seen l = (List.range l.length).any fun i => (List.range (seen.length + i)).any fun k => aKw (seen ++ l) (seen.length + i) k
 | [], seen => by simp [aJ7]
 | a :: l, seen => by
  unfold aJ7
  rw [cZ7 l (seen ++ [a]), List.length_cons, List.range_succ_eq_map, List.any_cons, List.any_map]
  have e1 : (seen ++ [a]) ++ l = seen ++ a :: l := by simp
  rw [e1]
  congr 1
  · rw [Nat.add_zero]
    have hget : ∀ k, k < seen.length → (seen ++ a :: l).getD k zNm = seen.getD k zNm := fun k hk => by
     rw [List.getD_eq_getElem?_getD, List.getD_eq_getElem?_getD, List.getElem?_append_left hk]
    have hga : (seen ++ a :: l).getD seen.length zNm = a := by
     rw [List.getD_eq_getElem?_getD, List.getElem?_append_right (Nat.le_refl _)]; simp
    apply Bool.eq_iff_iff.2
    rw [List.any_eq_true, List.any_eq_true]
    constructor
    · rintro ⟨b, hb, ht⟩
      obtain ⟨k, hk, rfl⟩ := List.getElem_of_mem hb
      refine ⟨k, List.mem_range.2 hk, ?_⟩
      unfold aKw
      rw [hget k hk, hga, List.getD_eq_getElem?_getD, List.getElem?_eq_getElem hk]
      unfold bVe at ht
      simp only [Option.getD_some]
      rw [aYb (seen[k]).spc, aYb (seen[k]).loc]
      exact ht
    · rintro ⟨k, hk, ht⟩
      have hk := List.mem_range.1 hk
      refine ⟨seen[k]'hk, List.getElem_mem hk, ?_⟩
      unfold aKw at ht
      rw [hget k hk, hga, List.getD_eq_getElem?_getD, List.getElem?_eq_getElem hk] at ht
      unfold bVe
      simp only [Option.getD_some] at ht
      rw [aYb a.spc, aYb a.loc]
      exact ht
  · apply congrArg
    funext i
    simp only [Function.comp, List.length_append, List.length_cons, List.length_nil]
    have : seen.length + (0 + 1) + i = seen.length + (i + 1) := by omega
    rw [this]
theorem cJu (l : List Nm) : aJ7 [] l = (List.range l.length).any fun i => (List.range i).any fun k => aKw l i k := by
 rw [cZ7]; simp
theorem bKa : ∀ (l : List BB), (l.all fun a => (aQo a.1).2.2) = true → aJm l = aVa l
 | [], _ => rfl
 | a :: l, hl => by
  simp only [List.all_cons, Bool.and_eq_true] at hl
  have ih := bKa l hl.2
  unfold aJm aVa at ih ⊢
  rw [List.filterMap_cons, List.filterMap_cons, bY4 hl.1, ih]
  cases (aZ9 a).2 <;> rfl
theorem bWb : ∀ (l : List BB), (aVa l).all aZv = l.all fun a => !((aZ9 a).2 && badM (aZ9 a).1 a.2)
 | [] => rfl
 | a :: l => by
  have ih := bWb l
  rw [List.all_cons, ← ih]
  unfold aVa
  rw [List.filterMap_cons]
  cases hd : (aZ9 a).2 with
  | true => simp [dZr]
  | false => simp
theorem cJw (sc : List (List BB)) (h : ∀ s ∈ sc, ∀ d ∈ s, aZv d = true) (e : Ev) : bQq (xmlD :: sc.flatten) e = aZo sc e := by
 unfold bQq aZo
 by_cases h1 : (aQo e.name).2.2 = false
 · have hw : aY7 e = true := by unfold aY7; rw [bZb, h1]; rfl
   have hn : aZw e = 3 := by unfold aZw; rw [if_pos (Or.inl h1)]
   rw [if_pos (Or.inl hw), if_pos (by rw [hn]; decide)]
 · have h1t : (aQo e.name).2.2 = true := by simpa using h1
   by_cases h2 : (e.attrs.all fun a => (aQo a.1).2.2) = false
   · have hw : aY7 e = true := by
      unfold aY7
      have : (e.attrs.any fun a => decide ((aQu a.1).2.2 ≠ 0)) = true := by
       have h2' : ¬ (e.attrs.all fun a => (aQo a.1).2.2) = true := by rw [h2]; simp
       rw [List.all_eq_true] at h2'
       rw [List.any_eq_true]
       apply Classical.byContradiction
       intro hne
       apply h2'
       intro a ha
       apply Classical.byContradiction
       intro hf
       exact hne ⟨a, ha, by rw [bZb]; simpa using hf⟩
      rw [this]; simp
     have hn : aZw e = 3 := by
      unfold aZw
      split
      · rfl
      · rfl
     rw [if_pos (Or.inl hw), if_pos (by rw [hn]; decide)]
   · have h2t : (e.attrs.all fun a => (aQo a.1).2.2) = true := by simpa using h2
     have hw : aY7 e = false := by
      unfold aY7
      rw [bZb, h1t]
      have : (e.attrs.any fun a => decide ((aQu a.1).2.2 ≠ 0)) = false := by
       rw [List.any_eq_false]
       intro a ha
       rw [bZb, List.all_eq_true.1 h2t a ha]; simp
      rw [this]; rfl
     rw [bKa _ h2t, cKp h1t]
     simp only
     by_cases h3 : aQx (aQo e.name).1 aJk = true
     · have hn : aZw e = 3 := by unfold aZw; rw [if_pos (Or.inr h3)]
       rw [if_pos (Or.inr (Or.inl h3)), if_pos (by rw [hn]; decide)]
     · by_cases h4 : (aVa e.attrs).all aZv = false
       · have hn : aZw e = 3 := by
          unfold aZw
          rw [if_neg (by
           rintro (h | h)
           · exact h1 h
           · exact h3 h), if_neg h2, if_pos (by rw [← bWb]; exact h4)]
         rw [if_pos (Or.inr (Or.inr h4)), if_pos (by rw [hn]; decide)]
       · have hn : aZw e = 0 := by
          unfold aZw
          rw [if_neg (by
           rintro (h | h)
           · exact h1 h
           · exact h3 h), if_neg h2, if_neg (by rw [← bWb]; exact h4)]
         have hnb : ¬ (aY7 e = true ∨ aQx (aQo e.name).1 aJk = true ∨ (aVa e.attrs).all aZv = false) := by
          rintro (h | h | h)
          · rw [hw] at h; cases h
          · exact h3 h
          · exact h4 h
         rw [if_neg (show ¬ aZw e ≠ 0 by rw [hn]; simp), if_neg hnb]
         have h4t : (aVa e.attrs).all aZv = true := by simpa using h4
         have hsc : ∀ s ∈ sc ++ [aVa e.attrs], ∀ d ∈ s, aZv d = true := by
          intro s hs d hd
          rcases List.mem_append.1 hs with hs | hs
          · exact h s hs d hd
          · rw [List.mem_singleton] at hs
            subst hs
            exact List.all_eq_true.1 h4t d hd
         have hall : (xmlD :: sc.flatten) ++ aVa e.attrs = xmlD :: (sc ++ [aVa e.attrs]).flatten := by simp
         rw [hall, dJ0 _ hsc, bK0 _ hsc _ h2t]
         cases (aWv (xmlD :: (sc ++ [aVa e.attrs]).flatten) (aQo e.name).1).2 with
         | false => simp
         | true =>
          cases okM (xmlD :: (sc ++ [aVa e.attrs]).flatten) e.attrs with
          | false => simp
          | true =>
           simp only [if_true, Bool.and_self, Bool.true_eq_false, if_false]
           rw [← cJu]
theorem cQq {sc : List (List BB)} {e : Ev} {n : Nd} (h : aZo sc e = .ok n) : ∀ d ∈ n.decls, aZv d = true := by
 unfold aZo at h
 split at h
 · cases h
 · rename_i hno
   have hall : (aJm e.attrs).all aZv = true := by
    cases hh : (aJm e.attrs).all aZv with
    | true => rfl
    | false => exact absurd (Or.inr (Or.inr hh)) hno
   split at h
   · cases h
   · split at h
     · cases h
     · split at h
       · cases h
       · cases h
         exact fun d hd => List.all_eq_true.1 hall d hd
end Go.Proofs.YtocnfoeaikiecaaGreatDoor.PlainX
namespace Go.Proofs.YtocnfoeaikiecaaGreatDoor
open Go.RowKit Lists Plain9 PlainN PlainW PlainX Ents Tryz
theorem cYh (s : ByteArray) (p : Nat) (what : ByteArray) (w : World) (hs : s.size ≤ 1048576) (hw : what.size ≤ 1048576) (hp : p ≤ s.size) :
 Calls prog 33 #[.string s, .int .i64 p, .string what] w fun e w' => e = .returned (.int .i64 (bXn s p what)) ∧ w' = w := by
 obtain ⟨R, hR⟩ := nmE (bXn s p what)
 rw [hR]
 have HR : Hid (aVd s what (s.size + 1) p = R) := hR
 clear hR
 go_enter func33, ntmps33
 go_wp2
 go_loop [7] (fun i => ∃ (f k : Nat), k ≤ s.size + 1 ∧ i = .int .i64 k ∧ aVd s what f k = R ∧ s.size + 1 ≤ k + f) (fun i => s.size + 1 - (intOf i).toNat)
 case atStart => exact ⟨s.size + 1, p, by omega, rfl, HR.out, by omega⟩
 case round =>
  obtain ⟨f, k, hk, rfl, hf, hfu⟩ := hrel
  have HF : Hid (aVd s what f k = R) := hf
  clear hf
  by_cases hlt : k + what.size ≤ s.size
  · obtain ⟨f', rfl⟩ : ∃ f', f = f' + 1 := ⟨f - 1, by omega⟩
    cases hst : aKy s k what with
    | true =>
     have hh := find_hit (f := f') hlt hst
     rw [HF.out] at hh
     have hst' : ((s.extract k (k + what.size)).toList == what.toList) = true := hst
     clear hst
     go_wp2
     go_ret
     exact ⟨rfl, rfl⟩
    | false =>
     have hh := bJy (f := f') hlt hst
     rw [HF.out] at hh
     have HG : Hid (R = aVd s what f' (k + 1)) := hh
     have hst' : ((s.extract k (k + what.size)).toList == what.toList) = false := hst
     clear hst hh
     go_wp2
     go_round
     case rel => exact ⟨f', k + 1, by omega, by go_num, HG.out.symm, by omega⟩
     case measure => simp [intOf]; omega
  · have hh := find_end (f := f) hlt
    rw [HF.out] at hh
    go_wp2
    go_ret
    exact ⟨rfl, rfl⟩
theorem dZ9 (s : ByteArray) : decide (0 ≤ bXn s 0 ⟨#[58]⟩) = bXz s := by
 unfold bXn bXz
 rw [cXo (by decide) _ _ (by omega)]
 show decide (0 ≤ fz s 0 [58]) = decide (fz s 0 [58] ≠ -1)
 apply decide_eq_decide.2
 unfold fz
 split
 · simp
 · rename_i h
   rcases Lib.index_spec (rest s 0) [58] with ⟨h1, _⟩ | ⟨i, h1, _⟩
   · exact absurd h1 h
   · constructor
     · intro _ ; omega
     · intro _ ; omega
def aKu (st : List Scp) : List BB := xmlD :: (st.map (·.2)).flatten
structure Lp (w W : World) (rb ob : Nat) (st : List Scp) (ns : List Nm) (svs : List Value) (sv nv : Value) (nds : List Nd) (vs : List (Value × Value)) (dv : Value) : Prop where
 res : W.heap[rb]? = some (.cells #[.slice none 0 0, .int .i64 0, .int .i64 0] 27)
 out : W.heap[ob]? = some (.cells #[dv, .int .i64 0, .int .i64 0] 27)
 ro : rb ≠ ob
 r0 : w.heap.size ≤ rb
 o0 : w.heap.size ≤ ob
 sc : W.ownsRow w.heap.size 31 1 sv svs.length svs
 scl : svs.length = st.length + 1
 ent : ∀ (k : Nat) (hk : k < svs.length), W.ownsRow w.heap.size 54 2 (svs[k]'hk) (aKu (st.take k)).length (aQc (aKu (st.take k)))
 nm : W.ownsRow w.heap.size 30 4 nv ns.length (aQg ns)
 nd : aJc W w.heap.size dv nds vs
 sep : ∀ p ∈ vs, ∀ k, p.2.ownBlock = some k → nv.ownBlock ≠ some k
 bel : Below w.heap.size w W
theorem aJc.keepx {W W' : World} {B : Nat} {v : Value} {nds : List Nd} {vs : List (Value × Value)} (h : aJc W B v nds vs) (hk : ∀ (k : Nat) (cs : Array Value) (t : TypeId), W.heap[k]? = some (.cells cs t (0, 0)) → (t = 34 ∨ t = 54 ∨ ∃ p ∈ vs, p.2.ownBlock = some k) → W'.heap[k]? = W.heap[k]?) : aJc W' B v nds vs := by
 refine ⟨h.len, aQ4 h.row (fun k hkk => ?_), fun p hp => ⟨aQ4 (h.rows p hp).1 (fun k hkk => ?_), aQ4 (h.rows p hp).2 (fun k hkk => ?_)⟩, h.nodup⟩
 · obtain ⟨cs, hc⟩ := aQ3 h.row hkk
   exact hk _ _ _ hc (Or.inl rfl)
 · obtain ⟨cs, hc⟩ := aQ3 (h.rows p hp).1 hkk
   exact hk _ _ _ hc (Or.inr (Or.inl rfl))
 · obtain ⟨cs, hc⟩ := aQ3 (h.rows p hp).2 hkk
   exact hk _ _ _ hc (Or.inr (Or.inr ⟨p.2, (List.of_mem_zip hp).2, hkk⟩))
section
variable {w W W' wa : World} {rb ob : Nat} {st : List Scp} {ns : List Nm} {svs : List Value} {sv nv : Value} {nds : List Nd} {vs : List (Value × Value)} {dv : Value}
theorem Lp.below (h : Lp w W rb ob st ns svs sv nv nds vs dv) (hb : Below W.heap.size W W') : Lp w W' rb ob st ns svs sv nv nds vs dv :=
 ⟨(hb.block _ (gLt h.res)).trans h.res, (hb.block _ (gLt h.out)).trans h.out, h.ro, h.r0, h.o0, aQ4 h.sc (fun k hk => hb.block _ (h.sc.lt k hk).2), h.scl, fun k hk => aQ4 (h.ent k hk) (fun j hj => hb.block _ ((h.ent k hk).lt j hj).2), aQ4 h.nm (fun k hk => hb.block _ (h.nm.lt k hk).2), h.nd.below hb, h.sep, h.bel.trans (hb.mono h.bel.size)⟩
theorem cYe (st : List Scp) (x : Scp) : aKu (st ++ [x]) = aKu st ++ x.2 := by unfold aKu; simp
theorem Lp.scope (h : Lp w W rb ob st ns svs sv nv nds vs dv) (o : Obj) {v' x : Value} {dl : List BB} (nm : Nm) (hx : W.ownsRow w.heap.size 54 2 x (aKu st ++ dl).length (aQc (aKu st ++ dl)))
 (ho : wa.ownsRow w.heap.size 31 1 v' (svs.length + 1) (svs ++ [x])) (hg : (W.alloc o).grownBy wa sv.ownBlock) :
 Lp w wa rb ob (st ++ [(nm, dl)]) ns (svs ++ [x]) v' nv nds vs dv ∧ (∀ {b : Nat} {t : TypeId} {size : Nat} {v : Value} {m : Nat} {xs : List Value}, W.ownsRow b t size v m xs → t ≠ 31 → wa.ownsRow b t size v m xs) ∧ (∀ {k : Nat} {c : Array Value} {s : TypeId} {f : Nat × Nat}, W.heap[k]? = some (.cells c s f) → s ≠ 31 → wa.heap[k]? = W.heap[k]?) := by
 have h1 := h.below ((Below.refl _ _).alloc (Nat.le_refl _) o)
 have hoff : ∀ {k : Nat} {c : Array Value} {s : TypeId} {f : Nat × Nat}, W.heap[k]? = some (.cells c s f) → s ≠ 31 → wa.heap[k]? = W.heap[k]? := fun hc hs => by
  have hlt := (gLt hc)
  rw [← heap_alloc_old W o hlt] at hc ⊢
  exact (aXe hg).block _ (gLt hc) (fun hm => by
   obtain ⟨cs, h2⟩ := aQ3 h1.sc (by rw [Option.mem_toList] at hm; exact hm)
   exact aQ5 hc h2 hs rfl)
 have hrows : ∀ {b : Nat} {t : TypeId} {size : Nat} {v : Value} {m : Nat} {xs : List Value}, W.ownsRow b t size v m xs → t ≠ 31 → wa.ownsRow b t size v m xs := fun hr ht => aQ4 hr (fun k hkk => by
  obtain ⟨cs, hc⟩ := aQ3 hr hkk
  exact hoff hc ht)
 refine ⟨⟨(hoff h.res (by decide)).trans h.res, (hoff h.out (by decide)).trans h.out, h.ro, h.r0, h.o0, ?_, by simp [h.scl], ?_, hrows h.nm (by decide), h.nd.keep (fun k cs t hc ht => hoff hc (by rcases ht with rfl | rfl | rfl <;> decide)), h.sep, h1.bel.grown hg h1.bel.size (fun k hk => (h1.sc.lt k hk).1)⟩, hrows, hoff⟩
 · rw [List.length_append]; exact ho
 · intro k hk
   have hscl := h.scl
   by_cases hks : k < svs.length
   · rw [List.getElem_append_left hks, List.take_append_of_le_length (by omega)]
     exact hrows (h.ent k hks) (by decide)
   · have hke : k = svs.length := by rw [List.length_append] at hk; simp at hk; omega
     subst hke
     rw [List.getElem_append_right (Nat.le_refl _)]
     simp only [Nat.sub_self, List.getElem_cons_zero]
     rw [List.take_of_length_le (by simp [hscl]), cYe]
     exact hrows hx (by decide)
theorem Lp.name (h : Lp w W rb ob st ns svs sv nv nds vs dv) (o : Obj) (nm : Nm) {v' : Value} (ho : wa.ownsRow w.heap.size 30 4 v' (ns.length + 1) (aQg ns ++ nmC nm)) (hg : (W.alloc o).grownBy wa nv.ownBlock) (hat : v'.ownBlock = nv.ownBlock ∨ v'.ownBlock = some (W.alloc o).heap.size) :
 Lp w wa rb ob st (ns ++ [nm]) svs sv v' nds vs dv ∧ (∀ {b : Nat} {t : TypeId} {size : Nat} {v : Value} {m : Nat} {xs : List Value}, W.ownsRow b t size v m xs → (∀ k, v.ownBlock = some k → nv.ownBlock ≠ some k) → wa.ownsRow b t size v m xs) ∧ (∀ {k : Nat} {c : Array Value} {s : TypeId} {f : Nat × Nat}, W.heap[k]? = some (.cells c s f) → nv.ownBlock ≠ some k → wa.heap[k]? = W.heap[k]?) ∧ (∀ k, k < W.heap.size → nv.ownBlock ≠ some k → v'.ownBlock ≠ some k) := by
 have h1 := h.below ((Below.refl _ _).alloc (Nat.le_refl _) o)
 have hoff : ∀ {k : Nat} {c : Array Value} {s : TypeId} {f : Nat × Nat}, W.heap[k]? = some (.cells c s f) → nv.ownBlock ≠ some k → wa.heap[k]? = W.heap[k]? := fun hc hs => by
  have hlt := (gLt hc)
  rw [← heap_alloc_old W o hlt] at hc ⊢
  exact (aXe hg).block _ (gLt hc) (fun hm => by
   rw [Option.mem_toList] at hm
   exact hs hm)
 have hrows : ∀ {b : Nat} {t : TypeId} {size : Nat} {v : Value} {m : Nat} {xs : List Value}, W.ownsRow b t size v m xs → (∀ k, v.ownBlock = some k → nv.ownBlock ≠ some k) → wa.ownsRow b t size v m xs := fun hr ht => aQ4 hr (fun k hkk => by
  obtain ⟨cs, hc⟩ := aQ3 hr hkk
  exact hoff hc (ht k hkk))
 have hty : ∀ {k : Nat} {c : Array Value} {s : TypeId} {f : Nat × Nat}, W.heap[k]? = some (.cells c s f) → s ≠ 30 → nv.ownBlock ≠ some k := fun hc hs he => by
  obtain ⟨cs, h2⟩ := aQ3 h.nm he
  exact aQ5 hc h2 hs rfl
 have hrt : ∀ {b : Nat} {t : TypeId} {size : Nat} {v : Value} {m : Nat} {xs : List Value}, W.ownsRow b t size v m xs → t ≠ 30 → wa.ownsRow b t size v m xs := fun hr ht => hrows hr (fun k hk => by
  obtain ⟨cs, hc⟩ := aQ3 hr hk
  exact hty hc ht)
 have hnew : ∀ k, k < W.heap.size → nv.ownBlock ≠ some k → v'.ownBlock ≠ some k := fun k hk hne he => by
  rcases hat with e | e
  · rw [e] at he; exact hne he
  · rw [e] at he
    have : (W.alloc o).heap.size = k := by simpa using he
    simp at this; omega
 refine ⟨⟨(hoff h.res (hty h.res (by decide))).trans h.res, (hoff h.out (hty h.out (by decide))).trans h.out, h.ro, h.r0, h.o0, hrt h.sc (by decide), h.scl, fun k hk => hrt (h.ent k hk) (by decide), ?_, ?_, ?_, h1.bel.grown hg h1.bel.size (fun k hk => (h1.nm.lt k hk).1)⟩, hrows, hoff, hnew⟩
 · have : aQg (ns ++ [nm]) = aQg ns ++ nmC nm := by rw [aKh]; simp [aQg]
   rw [this, List.length_append]; exact ho
 · refine h.nd.keepx (fun k cs t hc ht => hoff hc ?_)
   rcases ht with rfl | rfl | ⟨p, hp, hpk⟩
   · exact hty hc (by decide)
   · exact hty hc (by decide)
   · exact h.sep p hp k hpk
 · intro p hp k hpk
   have hlt : k < W.heap.size := h.nd.lt (List.mem_flatMap.2 ⟨p, hp, List.mem_append_right _ (by unfold blk; rw [Option.mem_toList]; exact hpk)⟩)
   exact hnew k hlt (h.sep p hp k hpk)
theorem Lp.node {C : Nat} {n : Nd} {nd na v' : Value} (h : Lp w W rb ob st ns svs sv nv nds vs dv) (hBC : w.heap.size ≤ C) (hC : ∀ k ∈ vs.flatMap fun p => blk p.1 ++ blk p.2, k < C) (hd : W.ownsRow C 54 2 nd n.decls.length (aQc n.decls)) (ha : W.ownsRow C 30 4 na n.attrs.length (aQg n.attrs)) (hs : ∀ k, na.ownBlock = some k → nv.ownBlock ≠ some k) (o : Obj)
 (ho : wa.ownsRow w.heap.size 34 8 v' (nds.length + 1) (aJo (nds.zip vs) ++ (aQb n nd na).toList)) (hg : (W.alloc o).grownBy wa dv.ownBlock) :
 Lp w (wa.setCell ⟨ob, 0, none⟩ v') rb ob st ns svs sv nv (nds ++ [n]) (vs ++ [(nd, na)]) v' ∧ wa.cell? ⟨ob, 0, none⟩ = some dv ∧ wa.frozen? ⟨ob, 0, none⟩ = false := by
 have h1 := h.below ((Below.refl _ _).alloc (Nat.le_refl _) o)
 have hN := h.nd.push hBC hC hd ha o ho hg
 have hoff : ∀ {k : Nat} {c : Array Value} {s : TypeId} {f : Nat × Nat}, W.heap[k]? = some (.cells c s f) → s ≠ 34 → wa.heap[k]? = W.heap[k]? := fun hc hs => by
  have hlt := (gLt hc)
  rw [← heap_alloc_old W o hlt] at hc ⊢
  exact (aXe hg).block _ (gLt hc) (fun hm => by
   obtain ⟨cs, h2⟩ := aQ3 h1.nd.row (by rw [Option.mem_toList] at hm; exact hm)
   exact aQ5 hc h2 hs rfl)
 have hout : wa.heap[ob]? = some (.cells #[dv, .int .i64 0, .int .i64 0] 27) := (hoff h.out (by decide)).trans h.out
 have hset : ∀ k, k ≠ ob → (wa.setCell ⟨ob, 0, none⟩ v').heap[k]? = wa.heap[k]? := fun k hk => Below.heap_setCell wa ⟨ob, 0, none⟩ v' k hk
 have hrows : ∀ {b : Nat} {t : TypeId} {size : Nat} {v : Value} {m : Nat} {xs : List Value}, W.ownsRow b t size v m xs → t ≠ 34 → t ≠ 27 → (wa.setCell ⟨ob, 0, none⟩ v').ownsRow b t size v m xs := fun hr ht ht2 => aQ4 hr (fun k hkk => by
  obtain ⟨cs, hc⟩ := aQ3 hr hkk
  rw [hset k (aQ5 hc h.out ht2), hoff hc ht])
 have hb : Below w.heap.size w wa := h1.bel.grown hg h1.bel.size (fun k hk => (h1.nd.row.lt k hk).1)
 obtain ⟨q0, _, _, g0, _, _⟩ := aQz hout
 refine ⟨⟨?_, ?_, h.ro, h.r0, h.o0, hrows h.sc (by decide) (by decide), h.scl, fun k hk => hrows (h.ent k hk) (by decide) (by decide), hrows h.nm (by decide) (by decide), ?_, ?_, hb.setCell h.o0 _⟩, q0, g0⟩
 · rw [hset rb h.ro, hoff h.res (by decide), h.res]
 · rw [heap_setCell_same wa ob 0 _ _ _ hout]; rfl
 · exact hN.keep (fun k cs t hc ht => hset k (aQ5 hc hout (by rcases ht with rfl | rfl | rfl <;> decide)))
 · intro p hp k hpk
   rcases List.mem_append.1 hp with hp | hp
   · exact h.sep p hp k hpk
   · rw [List.mem_singleton] at hp
     subst hp
     exact hs k hpk
theorem Lp.pop {sg sn scap ng nn ncap : Nat} (h : Lp w W rb ob st ns svs (.slice (some ⟨sg, 0, none⟩) (sn + 1) scap) (.slice (some ⟨ng, 0, none⟩) (nn + 1) ncap) nds vs dv) (hsn : svs.length = sn + 1) (hnn : ns.length = nn + 1) (hst : st.length = sn) :
 Lp w W rb ob (st.take (sn - 1)) (ns.take nn) (svs.take sn) (.slice (some ⟨sg, 0, none⟩) sn scap) (.slice (some ⟨ng, 0, none⟩) nn ncap) nds vs dv ∨ sn = 0 := by
 by_cases h0 : sn = 0
 · exact Or.inr h0
 · left
   have h1 := h.sc
   have h2 := h.nm
   rw [hsn] at h1
   rw [hnn] at h2
   have c1 := aW8 (m := sn) h1 (by omega)
   have c2 := aW8 (m := nn) h2 (by omega)
   refine ⟨h.res, h.out, h.ro, h.r0, h.o0, ?_, ?_, ?_, ?_, h.nd, fun p hp k hk => ?_, h.bel⟩
   · rw [List.length_take, hsn, Nat.min_eq_left (by omega)]
     rw [Nat.mul_one] at c1; exact c1
   · rw [List.length_take, List.length_take]; omega
   · intro k hk
     have hk' : k < sn := by rw [List.length_take] at hk; omega
     rw [List.getElem_take, List.take_take, Nat.min_eq_left (by omega)]
     exact h.ent k (by omega)
   · rw [List.length_take, hnn, Nat.min_eq_left (by omega)]
     have : aQg (ns.take nn) = (aQg ns).take (nn * 4) := by
      clear h h1 h2 c1 c2 hnn
      induction nn generalizing ns with
      | zero => simp [aQg]
      | succ m ih =>
       cases ns with
       | nil => simp [aQg]
       | cons x l =>
        have e := ih (ns := l)
        rw [List.take_succ_cons]
        have e2 : ∀ (y : Nm) (l : List Nm), aQg (y :: l) = nmC y ++ aQg l := fun y l => by simp [aQg]
        rw [e2, e2, e, show (m + 1) * 4 = (nmC x).length + m * 4 by simp [nmC]; omega, List.take_length_add_append]
     rw [this]
     exact c2
   · exact h.sep p hp k hk
end
end Go.Proofs.YtocnfoeaikiecaaGreatDoor
