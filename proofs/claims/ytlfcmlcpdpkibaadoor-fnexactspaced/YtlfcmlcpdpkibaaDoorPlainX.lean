/- Plain mathematics: the model's Spaced is the program's. Nothing of the program is named here. -/
import Derived.Test.YtlfcmlcpdpkibaaDoorMsQ
namespace Go.Proofs.YtlfcmlcpdpkibaaDoor.PlainX
open Go.RowKit Plain1 Plain2 Strs Strs2 Lists Bytes Plain3 Plain4 Plain5 Plain6 Plain9 Plain10 Plain11 Plain12 Plain13 PlainS PlainR PlainN PlainW Go.Lib
set_option maxRecDepth 10000

theorem same_eq {a b : ByteArray} (h : sameB a b = true) : a = b := by
  unfold sameB at h
  have h1 : a.toList = b.toList := by simpa using h
  have h2 : a.data.toList = b.data.toList := by rw [← ByteArray.toList_eq, ← ByteArray.toList_eq]; exact h1
  cases a; cases b
  simp only [ByteArray.mk.injEq]
  exact Array.toList_inj.1 h2
theorem same_symm (a b : ByteArray) : sameB a b = sameB b a := by unfold sameB; exact BEq.comm
theorem same_refl (a : ByteArray) : sameB a a = true := by unfold sameB; simp
theorem emp_same (p : ByteArray) : empB p = sameB p ⟨#[]⟩ := by
  unfold empB sameB
  have : (⟨#[]⟩ : ByteArray).toList = [] := by decide +kernel
  rw [this]
  cases p.toList <;> rfl
/-- A name that is right is short. -/
theorem col_lt {s : ByteArray} : ∀ (f i : Nat) (k r : Int), k < s.size → splGo s f i k = some r → r < s.size
  | 0, i, k, r, hk, h => by cases h; exact hk
  | f + 1, i, k, r, hk, h => by
    unfold splGo at h
    split at h
    · split at h
      · split at h
        · cases h
        · exact col_lt f (i + 1) i r (by omega) h
      · exact col_lt f (i + 1) k r hk h
    · cases h; exact hk
theorem spl_short {s : ByteArray} (h : (splitZ s).2.2 = true) : s.size ≤ 4000 := by
  unfold splitZ at h
  cases hc : colZ s with
  | none => rw [hc] at h; cases h
  | some k =>
    rw [hc] at h
    simp only at h
    split at h
    · by_cases hl : 60 < s.size
      · simp only [nameB_long hl] at h; cases h
      · omega
    · rename_i hk
      have hlt := col_lt _ _ (-1) k (by omega) hc
      simp only [Bool.and_eq_true] at h
      have h1 : ¬ 60 < (s.extract 0 k.toNat).size := fun hl => by rw [nameB_long hl] at h; cases h.1
      have h2 : ¬ 60 < (s.extract (k.toNat + 1) s.size).size := fun hl => by rw [nameB_long hl] at h; cases h.2
      rw [ext_size (by omega)] at h1 h2
      omega
theorem spl_ok {s : ByteArray} (h : (splitZ s).2.2 = true) : splOut s = ((splitZ s).1, (splitZ s).2.1, 0) := by
  unfold splOut; rw [if_neg (by have := spl_short h; omega), if_pos h]
theorem spl_code (s : ByteArray) : decide ((splOut s).2.2 ≠ 0) = !(splitZ s).2.2 := by
  cases h : (splitZ s).2.2 with
  | true => rw [spl_ok h]; rfl
  | false =>
    unfold splOut
    split
    · rfl
    · rw [if_neg (by rw [h]; simp)]; rfl
theorem spl_xmlns : (splOut xmlnsB).1 = ⟨#[]⟩ := by decide +kernel
theorem part_same {a : BB} (h : (splitZ a.1).2.2 = true) : partZ a = if (declM a).2 = true then .inl ((declM a).1, a.2) else .inr ⟨(splitZ a.1).1, (splitZ a.1).2.1, ⟨#[]⟩, a.2⟩ := by
  unfold partZ declM
  cases hx : sameB a.1 xmlnsB with
  | true =>
    have he := same_eq hx
    rw [he, spl_xmlns]
    have : sameB (⟨#[]⟩ : ByteArray) xmlnsB = false := by decide +kernel
    rw [this]
    simp
  | false =>
    rw [spl_ok h]
    simp only [Bool.false_eq_true, if_false]
theorem bad_same (d v : ByteArray) : badM d v = !declOk (d, v) := by
  unfold badM declOk
  rw [emp_same, emp_same]
  simp only
  cases sameB d ⟨#[]⟩ <;> cases sameB v ⟨#[]⟩ <;> cases sameB d xmlB <;> cases sameB v xmlS <;> cases sameB d xmlnsB <;> cases sameB v xmlnsS <;> rfl
/-- The last of a name. -/
theorem look_rev (l : List BB) (p : ByteArray) : ∀ k, k ≤ l.length → lookGo l p k = match (l.take k).reverse.find? (fun d => sameB d.1 p) with | some d => (d.2, !empB d.2 || empB p) | none => (⟨#[]⟩, empB p)
  | 0, _ => by simp [lookGo]
  | k + 1, hk => by
    have hg : l.getD k (⟨#[]⟩, ⟨#[]⟩) = l[k]'(by omega) := by rw [List.getD_eq_getElem?_getD, List.getElem?_eq_getElem (by omega)]; rfl
    unfold lookGo
    rw [hg, List.take_succ_eq_append_getElem (by omega), List.reverse_append, look_rev l p k (by omega)]
    cases hs : sameB (l[k]'(by omega)).1 p with
    | true => simp [hs]
    | false => simp [hs]
theorem lookM_rev (l : List BB) (p : ByteArray) : lookM l p = match l.reverse.find? (fun d => sameB d.1 p) with | some d => (d.2, !empB d.2 || empB p) | none => (⟨#[]⟩, empB p) := by
  unfold lookM
  rw [look_rev l p _ (Nat.le_refl _), List.take_of_length_le (Nat.le_refl _)]
theorem lookM_app (l m : List BB) (p : ByteArray) : lookM (l ++ m) p = match m.reverse.find? (fun d => sameB d.1 p) with | some d => (d.2, !empB d.2 || empB p) | none => lookM l p := by
  rw [lookM_rev, lookM_rev, List.reverse_append, List.find?_append]
  cases m.reverse.find? (fun d => sameB d.1 p) <;> rfl
theorem space_go (sc : List (List BB)) (m : List BB) (p : ByteArray) : ∀ k, k ≤ sc.length → spaceGo (sc ++ [m]) p k = spaceGo sc p k
  | 0, _ => rfl
  | k + 1, hk => by
    unfold spaceGo
    have : (sc ++ [m]).getD k [] = sc.getD k [] := by
      rw [List.getD_eq_getElem?_getD, List.getD_eq_getElem?_getD, List.getElem?_append_left (by omega)]
    rw [this, space_go sc m p k (by omega)]
theorem space_snoc (sc : List (List BB)) (m : List BB) (p : ByteArray) : spaceZ (sc ++ [m]) p = match lookD m p with | some v => some v | none => spaceZ sc p := by
  unfold spaceZ
  rw [List.length_append]
  show spaceGo (sc ++ [m]) p (sc.length + 1) = _
  conv => lhs; unfold spaceGo
  have : (sc ++ [m]).getD sc.length [] = m := by rw [List.getD_eq_getElem?_getD, List.getElem?_append_right (Nat.le_refl _)]; simp
  rw [this, space_go sc m p _ (Nat.le_refl _)]
  cases lookD m p <;> rfl
def xmlD : BB := (xmlB, xmlS)
theorem sc_ind {P : List (List BB) → Prop} (h0 : P []) (h1 : ∀ sc m, P sc → P (sc ++ [m])) : ∀ (n : Nat) (sc : List (List BB)), sc.length = n → P sc
  | 0, sc, h => by rw [List.eq_nil_of_length_eq_zero h]; exact h0
  | n + 1, sc, h => by
    have hne : sc ≠ [] := fun e => by rw [e] at h; cases h
    rw [← List.dropLast_concat_getLast hne]
    exact h1 _ _ (sc_ind h0 h1 n _ (by rw [List.length_dropLast]; omega))
theorem look_same (sc : List (List BB)) (h : ∀ s ∈ sc, ∀ d ∈ s, declOk d = true) (p : ByteArray) : lookM (xmlD :: sc.flatten) p = match spaceZ sc p with | some v => (v, true) | none => (⟨#[]⟩, false) := by
  refine sc_ind (P := fun sc => (∀ s ∈ sc, ∀ d ∈ s, declOk d = true) → lookM (xmlD :: sc.flatten) p = match spaceZ sc p with | some v => (v, true) | none => (⟨#[]⟩, false)) ?_ ?_ _ sc rfl h
  · intro _
    rw [lookM_rev]
    simp only [List.flatten_nil, List.reverse_cons, List.reverse_nil, List.nil_append]
    unfold spaceZ
    simp only [List.length_nil]
    unfold spaceGo
    rw [same_symm p xmlB, emp_same p]
    have hxe : empB xmlS = false := by decide +kernel
    cases hs : sameB xmlB p with
    | true => simp [xmlD, hs, hxe]
    | false =>
      cases he : sameB p ⟨#[]⟩ with
      | true => simp [xmlD, hs]
      | false => simp [xmlD, hs]
  · intro sc m ih hd
    rw [List.flatten_append, ← List.cons_append, space_snoc]
    simp only [List.flatten_cons, List.flatten_nil, List.append_nil]
    rw [lookM_app, ih (fun s hs => hd s (List.mem_append_left _ hs))]
    unfold lookD
    cases hf : m.reverse.find? (fun d => sameB d.1 p) with
    | none => rfl
    | some d =>
      have hm : d ∈ m := List.mem_reverse.1 (List.mem_of_find?_eq_some hf)
      have hs : sameB d.1 p = true := by have := List.find?_some hf; simpa using this
      have hok := hd m (List.mem_append_right _ (by simp)) d hm
      have : (!empB d.2 || empB p) = true := by
        rw [← same_eq hs, emp_same, emp_same]
        unfold declOk at hok
        cases h1 : sameB d.1 ⟨#[]⟩ <;> cases h2 : sameB d.2 ⟨#[]⟩ <;> simp_all
      simp [this]
theorem spc_of (sc : List (List BB)) (h : ∀ s ∈ sc, ∀ d ∈ s, declOk d = true) (p : ByteArray) : spaceZ sc p = if (lookM (xmlD :: sc.flatten) p).2 = true then some (lookM (xmlD :: sc.flatten) p).1 else none := by
  rw [look_same sc h]
  cases spaceZ sc p <;> simp
/-- The attributes' names are placed. -/
theorem place_same (sc : List (List BB)) (h : ∀ s ∈ sc, ∀ d ∈ s, declOk d = true) : ∀ (l : List BB), (l.all fun a => (splitZ a.1).2.2) = true → placeA sc (othersZ l) = if okM (xmlD :: sc.flatten) l = true then some (othersM (xmlD :: sc.flatten) l) else none
  | [], _ => by simp [othersZ, othersM, okM, placeA]
  | a :: l, hl => by
    simp only [List.all_cons, Bool.and_eq_true] at hl
    have ih := place_same sc h l hl.2
    have ho : othersZ (a :: l) = if (declM a).2 = true then othersZ l else ⟨(splitZ a.1).1, (splitZ a.1).2.1, ⟨#[]⟩, a.2⟩ :: othersZ l := by
      unfold othersZ
      rw [List.filterMap_cons, part_same hl.1]
      cases (declM a).2 <;> rfl
    have hm : othersM (xmlD :: sc.flatten) (a :: l) = if (declM a).2 = true then othersM (xmlD :: sc.flatten) l else otherM (xmlD :: sc.flatten) a :: othersM (xmlD :: sc.flatten) l := by
      unfold othersM
      rw [List.filterMap_cons]
      cases (declM a).2 <;> rfl
    have hk : okM (xmlD :: sc.flatten) (a :: l) = (((declM a).2 || otherOk (xmlD :: sc.flatten) a) && okM (xmlD :: sc.flatten) l) := by
      unfold okM; rw [List.all_cons]
    rw [ho, hm, hk]
    cases hd : (declM a).2 with
    | true => simp only [if_true, Bool.true_or, Bool.true_and]; exact ih
    | false =>
      simp only [Bool.false_eq_true, if_false, Bool.false_or]
      unfold placeA
      simp only
      rw [ih, ← emp_same, spc_of sc h]
      unfold otherOk otherM
      cases he : empB (splitZ a.1).1 with
      | true => cases okM (xmlD :: sc.flatten) l <;> simp
      | false =>
        cases (lookM (xmlD :: sc.flatten) (splitZ a.1).1).2 <;> cases okM (xmlD :: sc.flatten) l <;> simp
/-- Twins. -/
theorem twins_go : ∀ (l seen : List Nm), twinsGo seen l = (List.range l.length).any fun i => (List.range (seen.length + i)).any fun k => twinAt (seen ++ l) (seen.length + i) k
  | [], seen => by simp [twinsGo]
  | a :: l, seen => by
    unfold twinsGo
    rw [twins_go l (seen ++ [a]), List.length_cons, List.range_succ_eq_map, List.any_cons, List.any_map]
    have e1 : (seen ++ [a]) ++ l = seen ++ a :: l := by simp
    rw [e1]
    congr 1
    · rw [Nat.add_zero]
      have hget : ∀ k, k < seen.length → (seen ++ a :: l).getD k zNm = seen.getD k zNm := fun k hk => by
        rw [List.getD_eq_getElem?_getD, List.getD_eq_getElem?_getD, List.getElem?_append_left hk]
      have hga : (seen ++ a :: l).getD seen.length zNm = a := by
        rw [List.getD_eq_getElem?_getD, List.getElem?_append_right (Nat.le_refl _)]; simp
      apply Bool.eq_iff_iff.2
      rw [List.any_eq_true, List.any_eq_true]
      constructor
      · rintro ⟨b, hb, ht⟩
        obtain ⟨k, hk, rfl⟩ := List.getElem_of_mem hb
        refine ⟨k, List.mem_range.2 hk, ?_⟩
        unfold twinAt
        rw [hget k hk, hga, List.getD_eq_getElem?_getD, List.getElem?_eq_getElem hk]
        unfold twinB at ht
        simp only [Option.getD_some]
        rw [same_symm (seen[k]).spc, same_symm (seen[k]).loc]
        exact ht
      · rintro ⟨k, hk, ht⟩
        have hk := List.mem_range.1 hk
        refine ⟨seen[k]'hk, List.getElem_mem hk, ?_⟩
        unfold twinAt at ht
        rw [hget k hk, hga, List.getD_eq_getElem?_getD, List.getElem?_eq_getElem hk] at ht
        unfold twinB
        simp only [Option.getD_some] at ht
        rw [same_symm a.spc, same_symm a.loc]
        exact ht
    · apply congrArg
      funext i
      simp only [Function.comp, List.length_append, List.length_cons, List.length_nil]
      have : seen.length + (0 + 1) + i = seen.length + (i + 1) := by omega
      rw [this]
theorem twins_same (l : List Nm) : twinsGo [] l = (List.range l.length).any fun i => (List.range i).any fun k => twinAt l i k := by
  rw [twins_go]; simp
theorem decls_same : ∀ (l : List BB), (l.all fun a => (splitZ a.1).2.2) = true → declsZ l = declsM l
  | [], _ => rfl
  | a :: l, hl => by
    simp only [List.all_cons, Bool.and_eq_true] at hl
    have ih := decls_same l hl.2
    unfold declsZ declsM at ih ⊢
    rw [List.filterMap_cons, List.filterMap_cons, part_same hl.1, ih]
    cases (declM a).2 <;> rfl
theorem decls_ok : ∀ (l : List BB), (declsM l).all declOk = l.all fun a => !((declM a).2 && badM (declM a).1 a.2)
  | [] => rfl
  | a :: l => by
    have ih := decls_ok l
    rw [List.all_cons, ← ih]
    unfold declsM
    rw [List.filterMap_cons]
    cases hd : (declM a).2 with
    | true => simp [bad_same]
    | false => simp
/-- The node of a start, by the model and by the program. -/
theorem start_same (sc : List (List BB)) (h : ∀ s ∈ sc, ∀ d ∈ s, declOk d = true) (e : Ev) : startM (xmlD :: sc.flatten) e = startZ sc e := by
  unfold startM startZ
  by_cases h1 : (splitZ e.name).2.2 = false
  · have hw : wrongZ e = true := by unfold wrongZ; rw [spl_code, h1]; rfl
    have hn : namesM e = 3 := by unfold namesM; rw [if_pos (Or.inl h1)]
    rw [if_pos (Or.inl hw), if_pos (by rw [hn]; decide)]
  · have h1t : (splitZ e.name).2.2 = true := by simpa using h1
    by_cases h2 : (e.attrs.all fun a => (splitZ a.1).2.2) = false
    · have hw : wrongZ e = true := by
        unfold wrongZ
        have : (e.attrs.any fun a => decide ((splOut a.1).2.2 ≠ 0)) = true := by
          have h2' : ¬ (e.attrs.all fun a => (splitZ a.1).2.2) = true := by rw [h2]; simp
          rw [List.all_eq_true] at h2'
          rw [List.any_eq_true]
          apply Classical.byContradiction
          intro hne
          apply h2'
          intro a ha
          apply Classical.byContradiction
          intro hf
          exact hne ⟨a, ha, by rw [spl_code]; simpa using hf⟩
        rw [this]; simp
      have hn : namesM e = 3 := by
        unfold namesM
        split
        · rfl
        · rfl
        
      rw [if_pos (Or.inl hw), if_pos (by rw [hn]; decide)]
    · have h2t : (e.attrs.all fun a => (splitZ a.1).2.2) = true := by simpa using h2
      have hw : wrongZ e = false := by
        unfold wrongZ
        rw [spl_code, h1t]
        have : (e.attrs.any fun a => decide ((splOut a.1).2.2 ≠ 0)) = false := by
          rw [List.any_eq_false]
          intro a ha
          rw [spl_code, List.all_eq_true.1 h2t a ha]; simp
        rw [this]; rfl
      rw [decls_same _ h2t, spl_ok h1t]
      simp only
      by_cases h3 : sameB (splitZ e.name).1 xmlnsB = true
      · have hn : namesM e = 3 := by unfold namesM; rw [if_pos (Or.inr h3)]
        rw [if_pos (Or.inr (Or.inl h3)), if_pos (by rw [hn]; decide)]
      · by_cases h4 : (declsM e.attrs).all declOk = false
        · have hn : namesM e = 3 := by
            unfold namesM
            rw [if_neg (by
              rintro (h | h)
              · exact h1 h
              · exact h3 h), if_neg h2, if_pos (by rw [← decls_ok]; exact h4)]
          rw [if_pos (Or.inr (Or.inr h4)), if_pos (by rw [hn]; decide)]
        · have hn : namesM e = 0 := by
            unfold namesM
            rw [if_neg (by
              rintro (h | h)
              · exact h1 h
              · exact h3 h), if_neg h2, if_neg (by rw [← decls_ok]; exact h4)]
          have hnb : ¬ (wrongZ e = true ∨ sameB (splitZ e.name).1 xmlnsB = true ∨ (declsM e.attrs).all declOk = false) := by
            rintro (h | h | h)
            · rw [hw] at h; cases h
            · exact h3 h
            · exact h4 h
          rw [if_neg (show ¬ namesM e ≠ 0 by rw [hn]; simp), if_neg hnb]
          have h4t : (declsM e.attrs).all declOk = true := by simpa using h4
          have hsc : ∀ s ∈ sc ++ [declsM e.attrs], ∀ d ∈ s, declOk d = true := by
            intro s hs d hd
            rcases List.mem_append.1 hs with hs | hs
            · exact h s hs d hd
            · rw [List.mem_singleton] at hs
              subst hs
              exact List.all_eq_true.1 h4t d hd
          have hall : (xmlD :: sc.flatten) ++ declsM e.attrs = xmlD :: (sc ++ [declsM e.attrs]).flatten := by simp
          rw [hall, spc_of _ hsc, place_same _ hsc _ h2t]
          cases (lookM (xmlD :: (sc ++ [declsM e.attrs]).flatten) (splitZ e.name).1).2 with
          | false => simp
          | true =>
            cases okM (xmlD :: (sc ++ [declsM e.attrs]).flatten) e.attrs with
            | false => simp
            | true =>
              simp only [if_true, Bool.and_self, Bool.true_eq_false, if_false]
              rw [← twins_same]
/-- What a start declares may be. -/
theorem start_decls {sc : List (List BB)} {e : Ev} {n : Nd} (h : startZ sc e = .ok n) : ∀ d ∈ n.decls, declOk d = true := by
  unfold startZ at h
  split at h
  · cases h
  · rename_i hno
    have hall : (declsZ e.attrs).all declOk = true := by
      cases hh : (declsZ e.attrs).all declOk with
      | true => rfl
      | false => exact absurd (Or.inr (Or.inr hh)) hno
    split at h
    · cases h
    · split at h
      · cases h
      · split at h
        · cases h
        · cases h
          exact fun d hd => List.all_eq_true.1 hall d hd
end Go.Proofs.YtlfcmlcpdpkibaaDoor.PlainX
