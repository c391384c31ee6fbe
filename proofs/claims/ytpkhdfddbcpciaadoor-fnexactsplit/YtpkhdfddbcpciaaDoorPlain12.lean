/- Plain mathematics: a mark told by its first bytes. Nothing of the program is named here. -/
import Derived.Test.YtpkhdfddbcpciaaDoorPlain11
namespace Go.Proofs.YtpkhdfddbcpciaaDoor.Plain12
open Plain1 Plain2 Strs Plain3 Plain4 Plain5 Plain6 Plain9 Plain10 Plain11

abbrev u8At (s : ByteArray) (p : Nat) : UInt8 := s.data.toList.getD p 0
theorem u8At_eq {s : ByteArray} {p : Nat} {c : UInt8} : byteAt s p = (c.toNat : Int) ↔ u8At s p = c := by
  rw [byteAt_head]
  constructor
  · intro h; exact UInt8.toNat_inj.1 (Int.ofNat.inj h)
  · intro h; rw [← h]
theorem u8At_is {s : ByteArray} {p : Nat} (n : Nat) (c : UInt8) (hc : c.toNat = n) : byteAt s p = (n : Int) ↔ u8At s p = c := by
  subst hc; exact u8At_eq
theorem has_cons {s : ByteArray} {p : Nat} (h : p < s.size) (c : UInt8) (t : List UInt8) : hasAt s p (c :: t) = (c == u8At s p && hasAt s (p + 1) t) := by
  unfold hasAt; rw [rest_cons h]; rfl
theorem has_nil (s : ByteArray) (p : Nat) : hasAt s p [] = true := by unfold hasAt; simp [List.isPrefixOf]
theorem has_end {s : ByteArray} {p : Nat} (h : s.size ≤ p) (c : UInt8) (t : List UInt8) : hasAt s p (c :: t) = false := by unfold hasAt; rw [rest_nil h]; rfl
theorem pre_cons {s : ByteArray} {p : Nat} (h : p < s.size) (c : UInt8) (t : List UInt8) : (rest s p).isPrefixOf (c :: t) = (u8At s p == c && (rest s (p + 1)).isPrefixOf t) := by rw [rest_cons h]; rfl
theorem pre_end {s : ByteArray} {p : Nat} (h : s.size ≤ p) (t : List UInt8) : (rest s p).isPrefixOf t = true := by rw [rest_nil h]; simp [List.isPrefixOf]
variable {s : ByteArray} {p : Nat}
theorem mark_end1 (hp : p < s.size) (h0 : byteAt s p = 60) (h1 : s.size ≤ p + 1) : markZ s p = failT 1 := by
  have u0 := (u8At_is 60 60 rfl).1 h0
  unfold markZ
  simp only [has_cons hp, u0, has_end h1, Bool.and_false, Bool.false_eq_true, if_false]
  unfold tagZ
  have : nmF s (p + 1) = 1 := by
    unfold nmF
    have hn : nameZ s (p + 1) = 0 := nameGo_end (by omega)
    rw [hn, if_neg (by omega), if_pos (by omega)]
  rw [this]; simp
theorem mark_slash (hp : p + 1 < s.size) (h0 : byteAt s p = 60) (h1 : byteAt s (p + 1) = 47) : markZ s p = endZ s (p + 2) := by
  have u0 := (u8At_is 60 60 rfl).1 h0
  have u1 := (u8At_is 47 47 rfl).1 h1
  unfold markZ
  simp [has_cons (show p < s.size by omega), has_cons hp, u0, u1, has_nil, -List.getD_eq_getElem?_getD]
theorem mark_pi (hp : p + 1 < s.size) (h0 : byteAt s p = 60) (h1 : byteAt s (p + 1) = 63) : markZ s p = piZ s (p + 2) := by
  have u0 := (u8At_is 60 60 rfl).1 h0
  have u1 := (u8At_is 63 63 rfl).1 h1
  unfold markZ
  simp [has_cons (show p < s.size by omega), has_cons hp, u0, u1, has_nil, -List.getD_eq_getElem?_getD]
theorem mark_tag (hp : p + 1 < s.size) (h0 : byteAt s p = 60) (h1 : byteAt s (p + 1) ≠ 47) (h2 : byteAt s (p + 1) ≠ 63) (h3 : byteAt s (p + 1) ≠ 33) : markZ s p = tagZ s (p + 1) := by
  have u0 := (u8At_is 60 60 rfl).1 h0
  have e1 : (47 == u8At s (p + 1)) = false := beq_eq_false_iff_ne.2 fun h => h1 ((u8At_is 47 47 rfl).2 h.symm)
  have e2 : (63 == u8At s (p + 1)) = false := beq_eq_false_iff_ne.2 fun h => h2 ((u8At_is 63 63 rfl).2 h.symm)
  have e3 : (33 == u8At s (p + 1)) = false := beq_eq_false_iff_ne.2 fun h => h3 ((u8At_is 33 33 rfl).2 h.symm)
  unfold markZ
  simp only [has_cons (show p < s.size by omega), has_cons hp, u0, e1, e2, e3, Bool.false_and, Bool.and_false, Bool.false_eq_true, if_false]
theorem mark_excl_end (hp : p + 1 < s.size) (h0 : byteAt s p = 60) (h1 : byteAt s (p + 1) = 33) (h2 : s.size ≤ p + 2) : markZ s p = failT 1 := by
  have u0 := (u8At_is 60 60 rfl).1 h0
  have u1 := (u8At_is 33 33 rfl).1 h1
  have e : p + 1 + 1 = p + 2 := rfl
  unfold markZ
  simp [has_cons (show p < s.size by omega), has_cons hp, e, has_end h2, u0, u1, has_nil, pre_cons (show p < s.size by omega), pre_cons hp, pre_end h2, -List.getD_eq_getElem?_getD]
theorem mark_dash (hp : p + 2 < s.size) (h0 : byteAt s p = 60) (h1 : byteAt s (p + 1) = 33) (h2 : byteAt s (p + 2) = 45) :
    markZ s p = if mustF s (p + 2) [45, 45] = 0 then commentZ s (p + 4) else failT (mustF s (p + 2) [45, 45]) := by
  have u0 := (u8At_is 60 60 rfl).1 h0
  have u1 := (u8At_is 33 33 rfl).1 h1
  have u2 := (u8At_is 45 45 rfl).1 h2
  have e : p + 1 + 1 = p + 2 := rfl
  have e3 : p + 2 + 1 = p + 3 := rfl
  have hl : lackZ s (p + 2) [45, 45] = if (rest s (p + 2)).isPrefixOf [45, 45] = true then 1 else 2 := rfl
  unfold markZ mustF
  rw [hl]
  simp only [has_cons (show p < s.size by omega), has_cons (show p + 1 < s.size by omega), e, has_cons hp, e3, u0, u1, u2, pre_cons (show p < s.size by omega), pre_cons (show p + 1 < s.size by omega), pre_cons hp, has_nil]
  cases hh : hasAt s (p + 3) [45] <;> cases hq : (rest s (p + 3)).isPrefixOf [45] <;> simp
theorem mark_brack (hp : p + 2 < s.size) (h0 : byteAt s p = 60) (h1 : byteAt s (p + 1) = 33) (h2 : byteAt s (p + 2) = 91) :
    markZ s p = if mustF s (p + 2) [91, 67, 68, 65, 84, 65, 91] = 0 then cdataZ s (p + 9) else failT (mustF s (p + 2) [91, 67, 68, 65, 84, 65, 91]) := by
  have u0 := (u8At_is 60 60 rfl).1 h0
  have u1 := (u8At_is 33 33 rfl).1 h1
  have u2 := (u8At_is 91 91 rfl).1 h2
  have e : p + 1 + 1 = p + 2 := rfl
  have e3 : p + 2 + 1 = p + 3 := rfl
  have hl : lackZ s (p + 2) [91, 67, 68, 65, 84, 65, 91] = if (rest s (p + 2)).isPrefixOf [91, 67, 68, 65, 84, 65, 91] = true then 1 else 2 := rfl
  unfold markZ mustF
  rw [hl]
  simp only [has_cons (show p < s.size by omega), has_cons (show p + 1 < s.size by omega), e, has_cons hp, e3, u0, u1, u2, pre_cons (show p < s.size by omega), pre_cons (show p + 1 < s.size by omega), pre_cons hp, has_nil]
  cases hh : hasAt s (p + 3) [67, 68, 65, 84, 65, 91] <;> cases hq : (rest s (p + 3)).isPrefixOf [67, 68, 65, 84, 65, 91] <;> simp
theorem mark_doc (hp : p + 2 < s.size) (h0 : byteAt s p = 60) (h1 : byteAt s (p + 1) = 33) (h2 : byteAt s (p + 2) ≠ 45) (h3 : byteAt s (p + 2) ≠ 91) :
    markZ s p = if mustF s (p + 2) [68, 79, 67, 84, 89, 80, 69] = 0 then doctypeZ s (p + 9) else failT (mustF s (p + 2) [68, 79, 67, 84, 89, 80, 69]) := by
  have u0 := (u8At_is 60 60 rfl).1 h0
  have u1 := (u8At_is 33 33 rfl).1 h1
  have d1 : (45 == u8At s (p + 2)) = false := beq_eq_false_iff_ne.2 fun h => h2 ((u8At_is 45 45 rfl).2 h.symm)
  have d2 : (91 == u8At s (p + 2)) = false := beq_eq_false_iff_ne.2 fun h => h3 ((u8At_is 91 91 rfl).2 h.symm)
  have d3 : (u8At s (p + 2) == 45) = false := beq_eq_false_iff_ne.2 fun h => h2 ((u8At_is 45 45 rfl).2 h)
  have d4 : (u8At s (p + 2) == 91) = false := beq_eq_false_iff_ne.2 fun h => h3 ((u8At_is 91 91 rfl).2 h)
  have e : p + 1 + 1 = p + 2 := rfl
  have e3 : p + 2 + 1 = p + 3 := rfl
  have hl : lackZ s (p + 2) [68, 79, 67, 84, 89, 80, 69] = if (rest s (p + 2)).isPrefixOf [68, 79, 67, 84, 89, 80, 69] = true then 1 else 2 := rfl
  unfold markZ mustF
  rw [hl]
  simp only [has_cons (show p < s.size by omega), has_cons (show p + 1 < s.size by omega), e, has_cons hp, e3, u0, u1, d1, d2, pre_cons (show p < s.size by omega), pre_cons (show p + 1 < s.size by omega), pre_cons hp, d3, d4, has_nil]
  cases hk : (68 == u8At s (p + 2)) <;> cases hm : (u8At s (p + 2) == 68) <;> cases hh : hasAt s (p + 3) [79, 67, 84, 89, 80, 69] <;> cases hq : (rest s (p + 3)).isPrefixOf [79, 67, 84, 89, 80, 69] <;> simp
end Go.Proofs.YtpkhdfddbcpciaaDoor.Plain12
