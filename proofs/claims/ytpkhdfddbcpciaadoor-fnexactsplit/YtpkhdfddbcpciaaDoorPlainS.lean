/- Plain mathematics: a name parted at its colon. Nothing of the program is named here. -/
import Derived.Test.YtpkhdfddbcpciaaDoorPlain13
namespace Go.Proofs.YtpkhdfddbcpciaaDoor.PlainS
open Go.RowKit Plain1 Plain2 Strs Plain3 Plain4 Plain5 Plain6 Plain9 Plain10 Plain11 Plain12 Plain13

/-- The model's search: the colon's place, -1 without one; none, if there are two. -/
def splGo (s : ByteArray) : Nat → Nat → Int → Option Int
  | 0, _, k => some k
  | f + 1, i, k => if i < s.size then (if byteAt s i = 58 then (if 0 ≤ k then none else splGo s f (i + 1) i) else splGo s f (i + 1) k) else some k
theorem spl_end {s : ByteArray} {f i : Nat} {k : Int} (h : ¬ i < s.size) : splGo s f i k = some k := by
  cases f with
  | zero => rfl
  | succ f => unfold splGo; rw [if_neg h]
theorem spl_two {s : ByteArray} {f i : Nat} {k : Int} (h : i < s.size) (hb : byteAt s i = 58) (hk : 0 ≤ k) : splGo s (f + 1) i k = none := by
  conv => lhs; unfold splGo
  rw [if_pos h, if_pos hb, if_pos hk]
theorem spl_one {s : ByteArray} {f i : Nat} {k : Int} (h : i < s.size) (hb : byteAt s i = 58) (hk : ¬ 0 ≤ k) : splGo s (f + 1) i k = splGo s f (i + 1) i := by
  conv => lhs; unfold splGo
  rw [if_pos h, if_pos hb, if_neg hk]
theorem spl_on {s : ByteArray} {f i : Nat} {k : Int} (h : i < s.size) (hb : ¬ byteAt s i = 58) : splGo s (f + 1) i k = splGo s f (i + 1) k := by
  conv => lhs; unfold splGo
  rw [if_pos h, if_neg hb]
def colZ (s : ByteArray) : Option Int := splGo s (s.size + 1) 0 (-1)
/-- A name's two parts, and whether it may be parted. -/
def splitZ (s : ByteArray) : ByteArray × ByteArray × Bool :=
  match colZ s with
  | none => (⟨#[]⟩, ⟨#[]⟩, false)
  | some k => if k < 0 then (⟨#[]⟩, s, nameB s) else (s.extract 0 k.toNat, s.extract (k.toNat + 1) s.size, nameB (s.extract 0 k.toNat) && nameB (s.extract (k.toNat + 1) s.size))
/-- What Split answers. -/
def splOut (s : ByteArray) : ByteArray × ByteArray × Int :=
  if 4000 < s.size then (⟨#[]⟩, ⟨#[]⟩, 2) else if (splitZ s).2.2 = true then ((splitZ s).1, (splitZ s).2.1, 0) else (⟨#[]⟩, ⟨#[]⟩, 3)

theorem col_has {s : ByteArray} {i : Nat} (hi : i < s.size) : hasAt s i [58] = decide (byteAt s i = 58) := by
  unfold hasAt
  rw [rest_cons hi]
  unfold byteAt
  have e : (List.isPrefixOf [58] (s.data.toList.getD i 0 :: rest s (i + 1))) = decide (s.data.toList.getD i 0 = 58) := by
    simp [List.isPrefixOf, Bool.beq_eq_decide_eq, eq_comm]
  first
    | rw [e]
    | (simp only [List.isPrefixOf, Bool.and_true]; rw [Bool.beq_eq_decide_eq])
  apply decide_eq_decide.2
  constructor
  · intro h; rw [h]; rfl
  · intro h; exact UInt8.toNat_inj.1 (by have : ((58 : UInt8).toNat : Int) = 58 := rfl; omega)
theorem spl_fz1 {s : ByteArray} {k : Int} (hk : 0 ≤ k) : ∀ (f i : Nat), s.size < i + f → splGo s f i k = if fz s i [58] = -1 then some k else none
  | 0, i, h => by rw [fz_nil (by simp) (by simp; omega), if_pos rfl]; rfl
  | f + 1, i, h => by
    by_cases hi : i < s.size
    · by_cases hb : byteAt s i = 58
      · rw [spl_two hi hb hk, fz_hit hi (by rw [col_has hi]; exact decide_eq_true hb), if_neg (by omega)]
      · rw [spl_on hi hb, fz_miss hi (by rw [col_has hi]; exact decide_eq_false hb)]
        exact spl_fz1 hk f (i + 1) (by omega)
    · rw [spl_end hi, fz_nil (by simp) (by simp; omega), if_pos rfl]
theorem spl_fz0 {s : ByteArray} : ∀ (f i : Nat), s.size < i + f → splGo s f i (-1) = if fz s i [58] = -1 then some (-1) else if fz s ((fz s i [58]).toNat + 1) [58] = -1 then some (fz s i [58]) else none
  | 0, i, h => by rw [fz_nil (by simp) (by simp; omega), if_pos rfl]; rfl
  | f + 1, i, h => by
    by_cases hi : i < s.size
    · by_cases hb : byteAt s i = 58
      · rw [spl_one hi hb (by omega), fz_hit hi (by rw [col_has hi]; exact decide_eq_true hb), if_neg (by omega), Int.toNat_natCast]
        exact spl_fz1 (by omega) f (i + 1) (by omega)
      · rw [spl_on hi hb, fz_miss hi (by rw [col_has hi]; exact decide_eq_false hb)]
        exact spl_fz0 f (i + 1) (by omega)
    · rw [spl_end hi, fz_nil (by simp) (by simp; omega), if_pos rfl]
/-- No colon. -/
theorem split_no {s : ByteArray} (h : upF s 0 [58] ≠ 0) : splitZ s = (⟨#[]⟩, s, nameB s) ∧ Lib.contains s.data.toList [58] = false := by
  have h0 : fz s 0 [58] = -1 := by unfold upF at h; by_cases h0 : fz s 0 [58] = -1 <;> simp_all
  refine ⟨?_, ?_⟩
  · unfold splitZ colZ
    rw [spl_fz0 _ _ (by omega), if_pos h0]
    rfl
  · have := (fz_index s 0 [58]).1 h0
    unfold rest at this
    rw [List.drop_zero] at this
    unfold Lib.contains
    rw [this]; rfl
/-- A colon: the parts, and whether there is another one. -/
theorem split_yes {s : ByteArray} (h : upF s 0 [58] = 0) : upP s 0 [58] ≤ s.size ∧ (upT s 0 [58]).size ≤ s.size ∧ (s.extract (upP s 0 [58]) s.size).size ≤ s.size ∧ (Lib.cut s.data.toList [58]).2.2 = true ∧ (⟨(Lib.cut s.data.toList [58]).1.toArray⟩ : ByteArray) = upT s 0 [58] ∧ (⟨(Lib.cut s.data.toList [58]).2.1.toArray⟩ : ByteArray) = s.extract (upP s 0 [58]) s.size ∧
    splitZ s = if Lib.contains (s.extract (upP s 0 [58]) s.size).data.toList [58] = true then (⟨#[]⟩, ⟨#[]⟩, false) else (upT s 0 [58], s.extract (upP s 0 [58]) s.size, nameB (upT s 0 [58]) && nameB (s.extract (upP s 0 [58]) s.size)) := by
  have hr : rest s 0 = s.data.toList := by unfold rest; rw [List.drop_zero]
  have hc := cut_yes (s := s) (p := 0) (sg := [58]) (Nat.zero_le _) h
  have hz := upT_size (s := s) (p := 0) (sg := [58]) (Nat.zero_le _) h
  rw [hr] at hc
  rcases fz_spec s 0 [58] (Nat.zero_le _) with h0 | ⟨i, h0, h1, h2, h3, h4⟩
  · unfold upF at h; rw [if_pos h0] at h; cases h
  have hP : upP s 0 [58] = i + 1 := by unfold upP; rw [h0]; rfl
  have hT : upT s 0 [58] = s.extract 0 i := by unfold upT; rw [h0]; rfl
  simp only [List.length_cons, List.length_nil] at h2
  refine ⟨hz.2, hz.1, by rw [hP, ext_sz]; omega, hc.1, hc.2.1, ?_, ?_⟩
  · rw [hP]
    unfold Lib.cut
    rw [hr] at h4
    rw [h4, if_pos (by omega)]
    apply ByteArray.ext
    apply Array.toList_inj.1
    rw [ext_rest]
    unfold rest
    simp
  · unfold splitZ colZ
    rw [spl_fz0 _ _ (by omega), h0, if_neg (by omega), Int.toNat_natCast, hP, hT]
    have hcon : Lib.contains (s.extract (i + 1) s.size).data.toList [58] = true ↔ ¬ fz s (i + 1) [58] = -1 := by
      rw [fz_index, ext_rest]
      unfold Lib.contains
      have := Lib.index_ge (rest s (i + 1)) [58]
      rw [decide_eq_true_iff]
      omega
    by_cases hn : fz s (i + 1) [58] = -1
    · rw [if_pos hn, if_neg (by rw [hcon]; simpa using hn)]
      simp only
      rw [if_neg (by omega), Int.toNat_natCast]
    · rw [if_neg hn, if_pos (hcon.2 hn)]
end Go.Proofs.YtpkhdfddbcpciaaDoor.PlainS
