import Derived.Test.YtocnfoeaikiecaaGreatDoorQqI
namespace Go.Proofs.YtocnfoeaikiecaaGreatDoor.PlainT
open Go.RowKit Strs Plain10 PlainS PlainR PlainN PlainJ Go.Lib
theorem bY2 : ∀ (l : List (ByteArray × ByteArray)), (aJm l).length + (aZt l).length = l.length
 | [] => rfl
 | a :: l => by
  have ih := bY2 l
  unfold aJm aZt at ih ⊢
  cases h : bQf a with
  | inl d => simp only [List.filterMap_cons, h, Sum.elim_inl, List.length_cons]; omega
  | inr d => simp only [List.filterMap_cons, h, Sum.elim_inr, List.length_cons]; omega
theorem bJ4 {sc : List (List (ByteArray × ByteArray))} : ∀ (l l' : List Nm), aXh sc l = some l' → l'.length = l.length
 | [], l', h => by cases h; rfl
 | a :: l, l', h => by
  unfold aXh at h
  split at h
  · cases hp : aXh sc l with
    | none => rw [hp] at h; cases h
    | some x => rw [hp] at h; cases h; simp [bJ4 l x hp]
  · cases hs : aZp sc a.pre with
    | none => rw [hs] at h; cases h
    | some v =>
     rw [hs] at h
     cases hp : aXh sc l with
     | none => rw [hp] at h; cases h
     | some x => rw [hp] at h; cases h; simp [bJ4 l x hp]
structure Like (e : Ev) (n : Nd) : Prop where
 kind : n.kind = e.kind
 text : e.kind ≠ 1 → n.text = e.text
 none : e.kind = 1 → n.text = ⟨#[]⟩
 attrs : e.kind = 1 → n.decls.length + n.attrs.length = e.attrs.length
theorem cJy {sc : List (List (ByteArray × ByteArray))} {e : Ev} {n : Nd} (hk : e.kind = 1) (h : aZo sc e = .ok n) : Like e n := by
 unfold aZo at h
 split at h
 · cases h
 · split at h
   · cases h
   · split at h
     · cases h
     · rename_i l hp
       split at h
       · cases h
       · cases h
         exact ⟨rfl, fun h => absurd hk h, fun _ => rfl, fun _ => by have := bJ4 _ _ hp; have := bY2 e.attrs; simp only; omega⟩
theorem cWk {st st' : List Scp} {e : Ev} {n : Nd} (h : aVn st e = (st', .ok n)) : Like e n := by
 unfold aVn at h
 by_cases h1 : e.kind = 1
 · rw [if_pos h1] at h
   cases hs : aZo (st.map (·.2)) e with
   | error c => rw [hs] at h; cases h
   | ok m => rw [hs] at h; cases h; exact cJy h1 hs
 rw [if_neg h1] at h
 by_cases h2 : e.kind = 2
 · rw [if_pos h2] at h; cases h
   exact ⟨rfl, fun _ => rfl, fun h => absurd h h1, fun h => absurd h h1⟩
 rw [if_neg h2] at h
 by_cases h5 : e.kind = 5
 · rw [if_pos h5] at h
   split at h
   · cases h
   · cases h
     exact ⟨rfl, fun _ => rfl, fun h => absurd h h1, fun h => absurd h h1⟩
 rw [if_neg h5] at h
 cases h
 exact ⟨rfl, fun _ => rfl, fun h => absurd h h1, fun h => absurd h h1⟩
theorem cZh : ∀ (l : List Ev) (i : Nat) (st : List Scp) (acc : List Nd), (aW6 l i st acc).nodes = [] ∨ ∃ ns, (aW6 l i st acc).nodes = acc ++ ns ∧ ns.length = l.length ∧ ∀ (j : Nat) (hj : j < l.length) (hj' : j < ns.length), Like (l[j]'hj) (ns[j]'hj')
 | [], i, st, acc => .inr ⟨[], by simp [aW6], rfl, fun j hj => by simp at hj⟩
 | e :: l, i, st, acc => by
  unfold aW6
  cases hn : aVn st e with
  | mk st' r =>
   cases r with
   | error c => exact .inl rfl
   | ok n =>
    simp only
    rcases cZh l (i + 1) st' (acc ++ [n]) with h | ⟨ns, h1, h2, h3⟩
    · exact .inl h
    · refine .inr ⟨n :: ns, by rw [h1, List.append_assoc]; rfl, by simp [h2], fun j hj hj' => ?_⟩
      cases j with
      | zero => exact cWk hn
      | succ j => exact h3 j (by simpa using hj) (by simpa using hj')
theorem cQu (l : List Ev) (hg : PlainJ.Good l) (j : Nat) (hn : j < (aZr l).nodes.length) : ∃ hj : j < l.length, ((aZr l).nodes[j]'hn).kind = (l[j]'hj).kind ∧ ((aZr l).nodes[j]'hn).text = (l[j]'hj).text ∧ ((l[j]'hj).kind = 1 → ((aZr l).nodes[j]'hn).decls.length + ((aZr l).nodes[j]'hn).attrs.length = (l[j]'hj).attrs.length) := by
 unfold aZr at hn ⊢
 by_cases h4 : 400 < l.length
 · simp only [if_pos h4, List.length_nil] at hn; omega
 simp only [if_neg h4] at hn ⊢
 by_cases hr : aXr l [] 0 = false
 · simp only [if_pos hr, List.length_nil] at hn; omega
 simp only [if_neg hr] at hn ⊢
 rcases cZh l 0 [] [] with h | ⟨ns, h1, h2, h3⟩
 · rw [h] at hn; simp at hn
 · rw [List.nil_append] at h1
   simp only [h1] at hn ⊢
   have hj : j < l.length := by omega
   refine ⟨hj, ?_⟩
   have hL := h3 j hj hn
   refine ⟨hL.kind, ?_, hL.attrs⟩
   by_cases hk : (l[j]'hj).kind = 1
   · rw [hL.none hk]
     have hz := hg (by simpa using hr) _ (List.getElem_mem hj) hk
     have hd : (l[j]'hj).text = ⟨#[]⟩ := by
      apply ByteArray.ext
      apply Array.eq_empty_of_size_eq_zero
      exact hz
     rw [hd]
   · rw [hL.text hk]
theorem cKr {s : ByteArray} : ∀ (f i : Nat) (k0 k : Int), aKd s f i k0 = some k → k = k0 ∨ (0 ≤ k ∧ k.toNat < s.size ∧ aQ1 s k.toNat = 58)
 | 0, i, k0, k, h => by
  unfold aKd at h
  exact .inl (Option.some.inj h).symm
 | f + 1, i, k0, k, h => by
  unfold aKd at h
  split at h
  · rename_i hi
    split at h
    · rename_i hb
      split at h
      · cases h
      · rcases cKr f (i + 1) i k h with h | h
        · subst h; exact .inr ⟨by omega, by simpa using hi, by simpa using hb⟩
        · exact .inr h
    · exact cKr f (i + 1) k0 k h
  · exact .inl (Option.some.inj h).symm
theorem dVt {s : ByteArray} {k : Nat} (hk : k < s.size) (hb : aQ1 s k = 58) : s.extract 0 k ++ ⟨#[58]⟩ ++ s.extract (k + 1) s.size = s := by
 have hk' : k < s.data.toList.length := hk
 apply ByteArray.ext
 apply Array.toList_inj.1
 have e1 : (s.extract 0 k).data.toList = s.data.toList.take k := by simp [ByteArray.data_extract]
 have e2 : (s.extract (k + 1) s.size).data.toList = s.data.toList.drop (k + 1) := by
  simp [ByteArray.data_extract]
  rw [List.take_of_length_le]
  simp
 have hk58 : s.data.toList[k]'hk' = 58 := by
  unfold aQ1 at hb
  rw [List.getD_eq_getElem?_getD, List.getElem?_eq_getElem hk', Option.getD_some] at hb
  apply UInt8.toNat_inj.1
  have : (s.data.toList[k]'hk').toNat = 58 := by omega
  rw [this]; rfl
 simp only [ByteArray.data_append, Array.toList_append, e1, e2]
 rw [List.append_assoc, List.singleton_append, ← hk58, ← List.drop_eq_getElem_cons hk', List.take_append_drop]
theorem dX9 (s : ByteArray) (h : (aQu s).2.2 = 0) : ((aQu s).1 = ⟨#[]⟩ ∧ (aQu s).2.1 = s) ∨ (aQu s).1 ++ ⟨#[58]⟩ ++ (aQu s).2.1 = s := by
 unfold aQu at h ⊢
 by_cases h4 : 4000 < s.size
 · rw [if_pos h4] at h; cases h
 rw [if_neg h4] at h ⊢
 by_cases hz : (aQo s).2.2 = true
 · rw [if_pos hz]
   unfold aQo at hz ⊢
   cases hc : colZ s with
   | none => rw [hc] at hz; cases hz
   | some k =>
    simp only
    by_cases hk : k < 0
    · rw [if_pos hk]; exact .inl ⟨rfl, rfl⟩
    · rw [if_neg hk]
      unfold colZ at hc
      rcases cKr _ _ _ _ hc with h | ⟨h0, h1, h2⟩
      · omega
      · exact .inr (dVt h1 h2)
 · rw [if_neg hz] at h; cases h
end Go.Proofs.YtocnfoeaikiecaaGreatDoor.PlainT
