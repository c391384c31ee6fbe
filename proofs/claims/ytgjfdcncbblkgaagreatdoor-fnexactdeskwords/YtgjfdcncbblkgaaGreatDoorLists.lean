/- Lists of integers in memory: what a slice of int64 reads as, and how that is kept. Nothing of the program is named here. -/
import Derived.WalkKit
import Derived.WalkSmall
import Derived.Laws.OwnMore
namespace Go.Proofs.YtgjfdcncbblkgaaGreatDoor.Lists
open Go.RowKit

/-- A slice that begins at 'a' and has as many elements as l reads as l. -/
def Ints (k : IntKind) (w : World) (a : Option Addr) (l : List Int) : Prop :=
  ∃ b off, (0 < l.length → a = some ⟨b, off, none⟩) ∧ ∀ i, i < l.length → w.cell? ⟨b, off + i, none⟩ = some (.int k (l.getD i 0))

theorem block_lt {w : World} {b o : Nat} {v : Value} (h : w.cell? ⟨b, o, none⟩ = some v) : b < w.heap.size := by
  by_cases hb : b < w.heap.size
  · exact hb
  · have : w.heap[b]? = none := by simp; omega
    simp [World.cell?, this] at h

theorem Ints.below {k : IntKind} {w w' : World} {a : Option Addr} {l : List Int} {B : Nat} (h : Ints k w a l) (hb : Below B w w') (hB : w.heap.size ≤ B) : Ints k w' a l := by
  obtain ⟨b, off, ha, hc⟩ := h
  exact ⟨b, off, ha, fun i hi => (hb.cell (p := ⟨b, off + i, none⟩) (Nat.lt_of_lt_of_le (block_lt (hc i hi)) hB)).trans (hc i hi)⟩

theorem Ints.nil (k : IntKind) (w : World) (a : Option Addr) : Ints k w a [] := ⟨0, 0, by simp, by simp⟩

theorem owns_forms {w : World} {base size n : Nat} {e : TypeId} {v : Value} {xs : List Value} (h : w.ownsRow base e size v n xs) : (v = .slice none 0 0 ∧ n = 0) ∨ ∃ g cap, v = .slice (some ⟨g, 0, none⟩) n cap := by
  rcases h.2 with h' | ⟨g, cap, _, h', _⟩
  · exact .inl h'
  · exact .inr ⟨g, cap, h'⟩

/-- A row that the call owns reads as the list it holds. -/
theorem ints_of_owns {k : IntKind} {w : World} {B : Nat} {e : TypeId} {v : Value} {n : Nat} {l : List Int} (h : w.ownsRow B e 1 v n (l.map (Value.int k))) : ∃ a cap, v = .slice a l.length cap ∧ Ints k w a l := by
  have hl : l.length = n := by have := h.1; simpa using this
  rcases owns_forms h with ⟨rfl, hn⟩ | ⟨g, cap, rfl⟩
  · have : l = [] := List.eq_nil_of_length_eq_zero (by omega)
    subst this
    exact ⟨none, 0, rfl, Ints.nil _ _ _⟩
  · refine ⟨some ⟨g, 0, none⟩, cap, by rw [hl], g, 0, fun _ => rfl, fun i hi => ?_⟩
    rw [Nat.zero_add, h.cellAt i (by omega)]
    simp [List.getD, hi]
theorem ints_at_owns {k : IntKind} {w : World} {B : Nat} {e : TypeId} {a : Option Addr} {n c : Nat} {l : List Int} (h : w.ownsRow B e 1 (.slice a n c) n (l.map (Value.int k))) : Ints k w a l := by
  obtain ⟨a', c', hv, hA⟩ := ints_of_owns h
  simp only [Value.slice.injEq] at hv
  rw [hv.1]
  exact hA
end Go.Proofs.YtgjfdcncbblkgaaGreatDoor.Lists
