/- What the texts on the two EntOf have in common. -/
import Derived.Test.YtpkhdfddbcpciaaProg
import Derived.Test.YtpkhdfddbcpciaaEnts
import Derived.WalkKit
import Derived.WalkSmall
import Derived.Deep.QuietTactic
import Derived.BigQuiet
namespace Go.Proofs.Ytpkhdfddbcpciaa
open Go.RowKit Lists Ents

theorem mkHidEn {p : Prop} (h : p) : Hid p := h
/-- The head that came in and the answer's place, as a call keeps them. -/
structure DBox (w W : World) (a : Option Addr) (n c : Nat) (a' : Option Addr) (n' c' : Nat) (o : Obj) : Prop where
  head : W.heap[w.heap.size]? = some (.cells #[.slice a n c, .slice a' n' c'] 45)
  res : W.heap[w.heap.size + 1]? = some o
  grown : w.grownBy W none
theorem dbox_start (w : World) (a : Option Addr) (n c : Nat) (a' : Option Addr) (n' c' : Nat) (o : Obj) : DBox w ((w.alloc (.cells #[.slice a n c, .slice a' n' c'] 45)).alloc o) a n c a' n' c' o :=
  ⟨by rw [heap_alloc_old _ _ (by simp)]; exact heap_alloc_new _ _, by have := heap_alloc_new (w.alloc (.cells #[.slice a n c, .slice a' n' c'] 45)) o; simpa using this,
   ⟨rfl, rfl, rfl, by simp; omega, fun k hk _ => by rw [heap_alloc_old _ _ (by simp; omega), heap_alloc_old _ _ hk]⟩⟩
theorem DBox.cells {w W : World} {a a' : Option Addr} {n c n' c' : Nat} {o : Obj} (h : DBox w W a n c a' n' c' o) : W.cell? ⟨w.heap.size, 0, none⟩ = some (.slice a n c) ∧ W.cell? ⟨w.heap.size, 1, none⟩ = some (.slice a' n' c') := by
  simp [World.cell?, h.head]
theorem grown_new {w W : World} (h : w.grownBy W none) {k j : Nat} (hk : w.heap.size ≤ k) (u : Value) : w.grownBy (W.setCell ⟨k, j, none⟩ u) none :=
  ⟨h.os, h.tape, h.output, by have := h.size; simpa using this, fun i hi hr => by rw [Below.heap_setCell W ⟨k, j, none⟩ u i (by simp only; omega)]; exact h.block i hi hr⟩
end Go.Proofs.Ytpkhdfddbcpciaa
