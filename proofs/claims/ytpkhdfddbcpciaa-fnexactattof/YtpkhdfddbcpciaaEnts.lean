/- Lists of entities and of attributes that a head tells, in memory, and the first of a name. Nothing of the program is named here. -/
import Derived.Test.YtpkhdfddbcpciaaLists
import Derived.Below
namespace Go.Proofs.Ytpkhdfddbcpciaa.Ents
open Go.RowKit Lists

def EntsAt (w : World) (a : Option Addr) (l : List (ByteArray × ByteArray)) : Prop :=
  ∃ b off, (0 < l.length → a = some ⟨b, off, none⟩) ∧ ∀ i (h : i < l.length), w.cell? ⟨b, off + i * 2, none⟩ = some (.string (l[i]'h).1) ∧ w.cell? ⟨b, off + i * 2 + 1, none⟩ = some (.string (l[i]'h).2)
structure At5 where
  of : ByteArray
  nm : ByteArray
  words : Bool
  has : Bool
  val : ByteArray
def AttsAt (w : World) (a : Option Addr) (l : List At5) : Prop :=
  ∃ b off, (0 < l.length → a = some ⟨b, off, none⟩) ∧ ∀ i (h : i < l.length), w.cell? ⟨b, off + i * 5, none⟩ = some (.string (l[i]'h).of) ∧ w.cell? ⟨b, off + i * 5 + 1, none⟩ = some (.string (l[i]'h).nm) ∧
    w.cell? ⟨b, off + i * 5 + 2, none⟩ = some (.bool (l[i]'h).words) ∧ w.cell? ⟨b, off + i * 5 + 3, none⟩ = some (.bool (l[i]'h).has) ∧ w.cell? ⟨b, off + i * 5 + 4, none⟩ = some (.string (l[i]'h).val)
theorem cell_keep {w w' : World} (h : ∀ k, k < w.heap.size → w'.heap[k]? = w.heap[k]?) {b o : Nat} {v : Value} (hc : w.cell? ⟨b, o, none⟩ = some v) : w'.cell? ⟨b, o, none⟩ = some v := by
  have := h b (block_lt hc)
  rw [World.cell?_of_block (a := ⟨b, o, none⟩) this]; exact hc
theorem EntsAt.keep {w w' : World} {a : Option Addr} {l : List (ByteArray × ByteArray)} (h : EntsAt w a l) (hk : ∀ k, k < w.heap.size → w'.heap[k]? = w.heap[k]?) : EntsAt w' a l := by
  obtain ⟨b, off, h1, h2⟩ := h
  exact ⟨b, off, h1, fun i hi => ⟨cell_keep hk (h2 i hi).1, cell_keep hk (h2 i hi).2⟩⟩
theorem AttsAt.keep {w w' : World} {a : Option Addr} {l : List At5} (h : AttsAt w a l) (hk : ∀ k, k < w.heap.size → w'.heap[k]? = w.heap[k]?) : AttsAt w' a l := by
  obtain ⟨b, off, h1, h2⟩ := h
  exact ⟨b, off, h1, fun i hi => ⟨cell_keep hk (h2 i hi).1, cell_keep hk (h2 i hi).2.1, cell_keep hk (h2 i hi).2.2.1, cell_keep hk (h2 i hi).2.2.2.1, cell_keep hk (h2 i hi).2.2.2.2⟩⟩
theorem EntsAt.grown {w w' : World} {a : Option Addr} {l : List (ByteArray × ByteArray)} (h : EntsAt w a l) (hg : w.grownBy w' none) : EntsAt w' a l := h.keep fun k hk => hg.block k hk (by simp)
theorem AttsAt.grown {w w' : World} {a : Option Addr} {l : List At5} (h : AttsAt w a l) (hg : w.grownBy w' none) : AttsAt w' a l := h.keep fun k hk => hg.block k hk (by simp)
theorem EntsAt.below {w w' : World} {a : Option Addr} {l : List (ByteArray × ByteArray)} (h : EntsAt w a l) (hg : Below w.heap.size w w') : EntsAt w' a l := h.keep fun k hk => hg.block k hk
theorem AttsAt.below {w w' : World} {a : Option Addr} {l : List At5} (h : AttsAt w a l) (hg : Below w.heap.size w w') : AttsAt w' a l := h.keep fun k hk => hg.block k hk
theorem grown_below {w w' : World} (h : w.grownBy w' none) : Below w.heap.size w w' := ⟨h.os, h.tape, h.output, h.size, fun k hk => h.block k hk (by simp)⟩
theorem below_grown {w w' : World} (h : Below w.heap.size w w') : w.grownBy w' none := ⟨h.os, h.tape, h.output, h.size, fun k hk _ => h.block k hk⟩

/-- The first of a list that a test takes, or the zero one. -/
theorem find_hit {α : Type} {l : List α} {p : α → Bool} {k : Nat} (hk : k < l.length) (h0 : (l.take k).find? p = none) (h1 : p (l[k]'hk) = true) : l.find? p = some (l[k]'hk) := by
  have e : l = l.take k ++ (l[k]'hk) :: l.drop (k + 1) := by simp
  conv => lhs; rw [e]
  rw [List.find?_append, h0, List.find?_cons_of_pos h1]
  rfl
theorem find_on {α : Type} {l : List α} {p : α → Bool} {k : Nat} (hk : k < l.length) (h0 : (l.take k).find? p = none) (h1 : p (l[k]'hk) = false) : (l.take (k + 1)).find? p = none := by
  rw [List.take_succ_eq_append_getElem hk, List.find?_append, h0]
  simp [h1]
theorem find_end {α : Type} {l : List α} {p : α → Bool} {k : Nat} (hk : l.length ≤ k) (h0 : (l.take k).find? p = none) : l.find? p = none := by
  rw [List.take_of_length_le hk] at h0; exact h0
def isEnt (n : ByteArray) (e : ByteArray × ByteArray) : Bool := e.1.toList == n.toList
def isAtt (o n : ByteArray) (e : At5) : Bool := (e.of.toList == o.toList) && (e.nm.toList == n.toList)
def zAtt : At5 := ⟨⟨#[]⟩, ⟨#[]⟩, false, false, ⟨#[]⟩⟩
def entR (l : List (ByteArray × ByteArray)) (n : ByteArray) : ByteArray × ByteArray := if 4000 < n.size then (⟨#[]⟩, ⟨#[]⟩) else (l.find? (isEnt n)).getD (⟨#[]⟩, ⟨#[]⟩)
def attR (l : List At5) (o n : ByteArray) : At5 := if 4000 < o.size ∨ 4000 < n.size then zAtt else (l.find? (isAtt o n)).getD zAtt
theorem ent_long {l : List (ByteArray × ByteArray)} {n : ByteArray} (h : 4000 < n.size) : entR l n = (⟨#[]⟩, ⟨#[]⟩) := by unfold entR; rw [if_pos h]
theorem ent_hit {l : List (ByteArray × ByteArray)} {n : ByteArray} {k : Nat} (h : ¬ 4000 < n.size) (hk : k < l.length) (h0 : (l.take k).find? (isEnt n) = none) (h1 : isEnt n (l[k]'hk) = true) : entR l n = l[k]'hk := by
  unfold entR; rw [if_neg h, find_hit hk h0 h1]; rfl
theorem ent_none {l : List (ByteArray × ByteArray)} {n : ByteArray} {k : Nat} (h : ¬ 4000 < n.size) (hk : l.length ≤ k) (h0 : (l.take k).find? (isEnt n) = none) : entR l n = (⟨#[]⟩, ⟨#[]⟩) := by
  unfold entR; rw [if_neg h, find_end hk h0]; rfl
theorem att_long {l : List At5} {o n : ByteArray} (h : 4000 < o.size ∨ 4000 < n.size) : attR l o n = zAtt := by unfold attR; rw [if_pos h]
theorem att_hit {l : List At5} {o n : ByteArray} {k : Nat} (h : ¬ (4000 < o.size ∨ 4000 < n.size)) (hk : k < l.length) (h0 : (l.take k).find? (isAtt o n) = none) (h1 : isAtt o n (l[k]'hk) = true) : attR l o n = l[k]'hk := by
  unfold attR; rw [if_neg h, find_hit hk h0 h1]; rfl
theorem att_none {l : List At5} {o n : ByteArray} {k : Nat} (h : ¬ (4000 < o.size ∨ 4000 < n.size)) (hk : l.length ≤ k) (h0 : (l.take k).find? (isAtt o n) = none) : attR l o n = zAtt := by
  unfold attR; rw [if_neg h, find_end hk h0]; rfl
end Go.Proofs.Ytpkhdfddbcpciaa.Ents
