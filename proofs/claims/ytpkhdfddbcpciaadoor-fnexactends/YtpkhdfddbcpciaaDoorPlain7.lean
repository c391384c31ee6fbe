/- Plain mathematics of lines' ends: the model's way byte by byte, and the program's way by two replacements. Nothing of the program is named here. -/
import Derived.Test.YtpkhdfddbcpciaaDoorStrs
import Derived.Lib.Replace
import Derived.Lib.CountLaws
import Derived.Laws.BytesArg
namespace Go.Proofs.YtpkhdfddbcpciaaDoor.Plain7
open Go.Lib Strs

def endsE : List UInt8 → List UInt8
  | [] => []
  | c :: t => if c ≠ 13 then c :: endsE t else if t.head? = some 10 then endsE t else 10 :: endsE t

section
variable {old new : List UInt8}
theorem rep_eq (h : (old == new) = false) (s : List UInt8) : replaceAll s old new = replaceK old new (count s old) s := by
  unfold replaceAll replace
  rw [h]
  simp [replaceNum]
theorem rep_nil (h : (old == new) = false) (ho : old ≠ []) : replaceAll [] old new = [] := by
  have hi : index [] old = -1 := by
    cases old with
    | nil => exact absurd rfl ho
    | cons a l => rfl
  rw [rep_eq h, count_miss hi]
  rfl
theorem rep_pre (h : (old == new) = false) (ho : old ≠ []) {c : UInt8} {t : List UInt8} (hp : old.isPrefixOf (c :: t) = true) : replaceAll (c :: t) old new = new ++ replaceAll ((c :: t).drop old.length) old new := by
  have hi : index (c :: t) old = ((0 : Nat) : Int) := by unfold index; rw [if_pos hp]; rfl
  rw [rep_eq h, rep_eq h, count_hit ho hi, Nat.add_comm 1, replaceK_hit _ _ _ _ 0 hi]
  simp
theorem rep_cons (h : (old == new) = false) (ho : old ≠ []) {c : UInt8} {t : List UInt8} (hp : old.isPrefixOf (c :: t) = false) : replaceAll (c :: t) old new = c :: replaceAll t old new := by
  rw [rep_eq h, rep_eq h]
  have hge := index_ge t old
  by_cases hm : index t old = -1
  · have hi : index (c :: t) old = -1 := by unfold index; rw [if_neg (by simp [hp]), if_pos (by simp [hm])]
    rw [count_miss hi, count_miss hm]
    rfl
  · obtain ⟨i, hi⟩ : ∃ i : Nat, index t old = i := ⟨(index t old).toNat, by omega⟩
    have hi' : index (c :: t) old = ((i + 1 : Nat) : Int) := by unfold index; rw [if_neg (by simp [hp]), if_neg (by simp [hm]), hi]; omega
    rw [count_hit ho hi', count_hit ho hi, Nat.add_comm 1, Nat.add_comm 1, replaceK_hit _ _ _ _ (i + 1) hi', replaceK_hit _ _ _ _ i hi]
    simp [Nat.add_right_comm i 1]
end

theorem pre1 (c : UInt8) (t : List UInt8) : [(13 : UInt8)].isPrefixOf (c :: t) = decide (c = 13) := by
  simp [List.isPrefixOf]
  by_cases h : c = 13
  · simp [h]
  · simp [h]; intro e; exact h e.symm
theorem pre2 (c : UInt8) (t : List UInt8) : [(13 : UInt8), 10].isPrefixOf (c :: t) = (decide (c = 13) && decide (t.head? = some 10)) := by
  cases t with
  | nil => simp [List.isPrefixOf]
  | cons d u =>
    apply Bool.eq_iff_iff.2
    simp only [List.isPrefixOf, Bool.and_true, Bool.and_eq_true, beq_iff_eq, decide_eq_true_eq, List.head?_cons, Option.some.injEq]
    exact ⟨fun ⟨a, b⟩ => ⟨a.symm, b.symm⟩, fun ⟨a, b⟩ => ⟨a.symm, b.symm⟩⟩

theorem ends_two : ∀ (n : Nat) (l : List UInt8), l.length ≤ n → replaceAll (replaceAll l [13, 10] [10]) [13] [10] = endsE l
  | _, [], _ => by rw [rep_nil rfl (by simp), rep_nil rfl (by simp)]; rfl
  | 0, c :: t, h => by simp at h
  | n + 1, c :: t, h => by
    simp at h
    have p1 := fun x => pre1 c x
    have p2 := pre2 c t
    by_cases hc : c = 13
    · subst hc
      by_cases ht : t.head? = some 10
      · obtain ⟨u, rfl⟩ : ∃ u, t = 10 :: u := by
          cases t with
          | nil => simp at ht
          | cons d u => simp at ht; exact ⟨u, by rw [ht]⟩
        rw [rep_pre (old := [13, 10]) (new := [10]) rfl (by simp) (by rw [p2]; simp)]
        simp only [List.length_cons, List.length_nil, List.drop_succ_cons, List.drop_zero, List.cons_append, List.nil_append]
        rw [rep_cons (old := [13]) (new := [10]) rfl (by simp) (by rw [pre1]; decide), ends_two n u (by simp at h; omega)]
        simp [endsE]
      · rw [rep_cons (old := [13, 10]) (new := [10]) rfl (by simp) (by rw [p2]; simp [ht]), rep_pre (old := [13]) (new := [10]) rfl (by simp) (by rw [p1]; simp)]
        simp only [List.length_cons, List.length_nil, List.drop_succ_cons, List.drop_zero, List.cons_append, List.nil_append]
        rw [ends_two n t (by omega)]
        simp [endsE, ht]
    · rw [rep_cons (old := [13, 10]) (new := [10]) rfl (by simp) (by rw [p2]; simp [hc]), rep_cons (old := [13]) (new := [10]) rfl (by simp) (by rw [p1]; simp [hc]), ends_two n t (by omega)]
      simp [endsE, hc]

theorem rep_len (new : List UInt8) : ∀ (n : Nat) (old l : List UInt8), l.length ≤ n → old ≠ [] → (old == new) = false → new.length ≤ old.length → (replaceAll l old new).length ≤ l.length
  | _, old, [], _, ho, hne, _ => by rw [rep_nil hne ho]; simp
  | 0, _, c :: t, h, _, _, _ => by simp at h
  | n + 1, old, c :: t, h, ho, hne, hl => by
    cases hp : old.isPrefixOf (c :: t) with
    | true =>
      rw [rep_pre hne ho hp, List.length_append]
      have hol : 1 ≤ old.length := by cases old with | nil => exact absurd rfl ho | cons a b => simp
      have hpl : old.length ≤ (c :: t).length := (List.isPrefixOf_iff_prefix.1 hp).length_le
      have := rep_len new n old ((c :: t).drop old.length) (by simp at h ⊢; omega) ho hne hl
      rw [List.length_drop] at this
      omega
    | false =>
      rw [rep_cons hne ho hp]
      have := rep_len new n old t (by simp at h; omega) ho hne hl
      simp; omega
theorem endsE_len (l : List UInt8) : (endsE l).length ≤ l.length := by
  induction l with
  | nil => simp [endsE]
  | cons c t ih =>
    unfold endsE
    split
    · simp; omega
    · split
      · simp; omega
      · simp; omega

/-- The model's answer so far, at place k. -/
theorem ends_step {l acc : List UInt8} {k : Nat} (h : endsE l = acc ++ endsE (l.drop k)) (hk : k < l.length) :
    (l.getD k 0 ≠ 13 → endsE l = (acc ++ [l.getD k 0]) ++ endsE (l.drop (k + 1))) ∧ (l.getD k 0 = 13 → k + 1 < l.length → l.getD (k + 1) 0 = 10 → endsE l = acc ++ endsE (l.drop (k + 1))) ∧
    (l.getD k 0 = 13 → (l.length ≤ k + 1 ∨ l.getD (k + 1) 0 ≠ 10) → endsE l = (acc ++ [10]) ++ endsE (l.drop (k + 1))) := by
  have e : l.drop k = l.getD k 0 :: l.drop (k + 1) := by rw [List.drop_eq_getElem_cons hk]; simp [List.getD, hk]
  have hh : (l.drop (k + 1)).head? = l[k + 1]? := by simp
  rw [e] at h
  refine ⟨fun h1 => ?_, fun h1 h2 h3 => ?_, fun h1 h2 => ?_⟩
  · rw [h]; simp only [endsE]; rw [if_pos h1]; simp
  · rw [h]; simp only [endsE]; rw [if_neg (by simpa using h1), if_pos]
    rw [hh]
    simp [List.getD, h2] at h3
    simp [h2, h3]
  · rw [h]; simp only [endsE]; rw [if_neg (by simpa using h1), if_neg]
    · simp
    · rw [hh]
      intro hx
      rcases h2 with h2 | h2
      · rw [List.getElem?_eq_none (by omega)] at hx; cases hx
      · apply h2; simp [List.getD, hx]

def numsOf (l : List UInt8) : List Int := l.map fun b => (b.toNat : Int)
theorem strOf_nums (l : List UInt8) : strOfNums (numsOf l) = ⟨l.toArray⟩ := by
  unfold strOfNums numsOf
  congr 2
  rw [List.map_map]
  apply List.ext_getElem
  · simp
  · intro i h1 h2
    simp
theorem numsOf_snoc (l : List UInt8) (c : UInt8) : numsOf (l ++ [c]) = numsOf l ++ [(c.toNat : Int)] := by simp [numsOf]
theorem byteAt_get (s : ByteArray) (k : Nat) : byteAt s k = ((s.data.toList.getD k 0).toNat : Int) := rfl
theorem u8_toNat_eq (x y : UInt8) : (x.toNat : Int) = (y.toNat : Int) ↔ x = y := by
  constructor
  · intro h; exact UInt8.toNat.inj (by omega)
  · intro h; rw [h]
end Go.Proofs.YtpkhdfddbcpciaaDoor.Plain7
