/- Plain mathematics: a start read part by part. Nothing of the program is named here. -/
import Derived.Test.YtefahocflhlgiaaGreatDoorPlain14
namespace Go.Proofs.YtefahocflhlgiaaGreatDoor.Plain15
open Plain1 Plain2 Strs Plain3 Plain4 Plain5 Plain6 Plain9 Plain10 Plain11 Plain12 Plain13 Plain14

def tagV (s nm : ByteArray) (f v : Nat) (an : ByteArray) (acc : List (ByteArray × ByteArray)) : Tk :=
  if valF s v ≠ 0 then failT (valF s v) else if hasZ acc an = true then failT 3 else tagGo s nm f (valP s v) (acc ++ [(an, valT s v)])
def tagS (s nm : ByteArray) (f p : Nat) (an : ByteArray) (acc : List (ByteArray × ByteArray)) : Tk :=
  if mustF s (whiteZ s p) [61] ≠ 0 then failT (mustF s (whiteZ s p) [61]) else tagV s nm f (whiteZ s (whiteZ s p + 1)) an acc
def tagN (s nm : ByteArray) (f q : Nat) (acc : List (ByteArray × ByteArray)) : Tk :=
  if nmF s q ≠ 0 then failT (nmF s q) else tagS s nm f (nmP s q) (nmT s q) acc
/-- Why neither of a start's two ends stands there. -/
def endL (s : ByteArray) (q : Nat) : Nat := if (rest s q).isPrefixOf [47, 62] = true ∨ (rest s q).isPrefixOf [62] = true then 1 else 2
def tagE (s nm : ByteArray) (q : Nat) (acc : List (ByteArray × ByteArray)) : Tk :=
  if hasAt s q [47, 62] = true then ⟨0, 3, nm, ByteArray.empty, acc, q + 2⟩ else if hasAt s q [62] = true then ⟨0, 1, nm, ByteArray.empty, acc, q + 1⟩ else failT (endL s q)
theorem tag_step (s nm : ByteArray) (f p : Nat) (acc : List (ByteArray × ByteArray)) : tagGo s nm (f + 1) p acc =
    if s.size ≤ whiteZ s p then failT 1 else if byteAt s (whiteZ s p) = 62 then ⟨0, 1, nm, ByteArray.empty, acc, whiteZ s p + 1⟩
    else if byteAt s (whiteZ s p) = 47 then (if mustF s (whiteZ s p) [47, 62] = 0 then ⟨0, 3, nm, ByteArray.empty, acc, whiteZ s p + 2⟩ else failT (mustF s (whiteZ s p) [47, 62]))
    else if whiteZ s p = p then failT 2 else tagN s nm f (whiteZ s p) acc := rfl
theorem nmF_end {s : ByteArray} {q : Nat} (h : s.size ≤ q) : nmF s q = 1 := by
  unfold nmF
  have hn : nameZ s q = 0 := nameGo_end (by omega)
  rw [hn, if_neg (by omega), if_pos (by omega)]
theorem one_sign {s : ByteArray} {k : Nat} (hk : k < s.size) (n : Nat) (c : UInt8) (hc : c.toNat = n) : hasAt s k [c] = decide (byteAt s k = (n : Int)) := by
  rw [has_cons hk, has_nil, Bool.and_true]
  by_cases h : byteAt s k = (n : Int)
  · rw [decide_eq_true h, (u8At_is n c hc).1 h]; simp
  · rw [decide_eq_false h]
    exact beq_eq_false_iff_ne.2 fun e => h ((u8At_is n c hc).2 e.symm)
theorem has47 {s : ByteArray} {k : Nat} (hk : k < s.size) : hasAt s k [47] = decide (byteAt s k = 47) := one_sign hk 47 47 rfl
theorem has62 {s : ByteArray} {k : Nat} (hk : k < s.size) : hasAt s k [62] = decide (byteAt s k = 62) := one_sign hk 62 62 rfl
/-- White was there, and neither end's first sign: a name must come. -/
theorem tag_name {s nm : ByteArray} {f p : Nat} {acc : List (ByteArray × ByteArray)} (h1 : p < whiteZ s p) (h2 : hasAt s (whiteZ s p) [47] = false) (h3 : hasAt s (whiteZ s p) [62] = false) : tagGo s nm (f + 1) p acc = tagN s nm f (whiteZ s p) acc := by
  rw [tag_step]
  by_cases he : s.size ≤ whiteZ s p
  · rw [if_pos he]; unfold tagN; rw [nmF_end he, if_pos (by simp)]
  · have hl : whiteZ s p < s.size := by omega
    rw [has47 hl] at h2
    rw [has62 hl] at h3
    have n2 := of_decide_eq_false h2
    have n3 := of_decide_eq_false h3
    rw [if_neg he, if_neg n3, if_neg n2, if_neg (by omega)]
/-- Else the end must come. -/
theorem tag_end {s nm : ByteArray} {f p : Nat} {acc : List (ByteArray × ByteArray)} (h : whiteZ s p = p ∨ hasAt s (whiteZ s p) [47] = true ∨ hasAt s (whiteZ s p) [62] = true) : tagGo s nm (f + 1) p acc = tagE s nm (whiteZ s p) acc := by
  rw [tag_step]
  unfold tagE endL
  by_cases he : s.size ≤ whiteZ s p
  · rw [if_pos he, has_end he, has_end he, pre_end he]
    simp
  · have hl : whiteZ s p < s.size := by omega
    rw [if_neg he]
    rw [has62 hl, has47 hl] at h
    rw [has62 hl]
    by_cases c1 : byteAt s (whiteZ s p) = 62
    · have c2 : hasAt s (whiteZ s p) [47, 62] = false := by
        rw [has_cons hl]
        have : (47 == u8At s (whiteZ s p)) = false := by rw [(u8At_is 62 62 rfl).1 c1]; rfl
        rw [this]; rfl
      rw [if_pos c1, c2, if_neg (by simp), decide_eq_true c1, if_pos rfl]
    · rw [if_neg c1]
      by_cases c2 : byteAt s (whiteZ s p) = 47
      · rw [if_pos c2]
        have u2 := (u8At_is 47 47 rfl).1 c2
        have p1 : (rest s (whiteZ s p)).isPrefixOf [62] = false := by rw [pre_cons hl, u2]; rfl
        rw [p1]
        unfold mustF lackZ
        by_cases c3 : hasAt s (whiteZ s p) [47, 62] = true
        · rw [c3]; simp
        · have c3' : hasAt s (whiteZ s p) [47, 62] = false := eq_false_of_ne_true c3
          rw [c3', decide_eq_false c1]
          by_cases c4 : (rest s (whiteZ s p)).isPrefixOf [47, 62] = true
          · rw [c4]; simp
          · have c4' : (rest s (whiteZ s p)).isPrefixOf [47, 62] = false := eq_false_of_ne_true c4
            rw [c4']; simp
      · rw [if_neg c2]
        rcases h with h | h | h
        · rw [if_pos h]
          have n1 : (47 == u8At s (whiteZ s p)) = false := beq_eq_false_iff_ne.2 fun e => c2 ((u8At_is 47 47 rfl).2 e.symm)
          have n2 : (u8At s (whiteZ s p) == 47) = false := beq_eq_false_iff_ne.2 fun e => c2 ((u8At_is 47 47 rfl).2 e)
          have n3 : (u8At s (whiteZ s p) == 62) = false := beq_eq_false_iff_ne.2 fun e => c1 ((u8At_is 62 62 rfl).2 e)
          rw [has_cons hl, n1, pre_cons hl, pre_cons hl, n2, n3, decide_eq_false c1]
          simp
        · exact absurd (of_decide_eq_true h) c2
        · exact absurd (of_decide_eq_true h) c1
end Go.Proofs.YtefahocflhlgiaaGreatDoor.Plain15
