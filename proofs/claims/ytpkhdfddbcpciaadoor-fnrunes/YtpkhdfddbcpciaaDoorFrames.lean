/- What a proof's frame tells of a slice of integers that came in, and what it reads as. Nothing of the program is named here. -/
import Derived.Test.YtpkhdfddbcpciaaDoorLists
import Derived.OpenShut
namespace Go.Proofs.YtpkhdfddbcpciaaDoor
open Go.RowKit Lists

def IsRow (k : IntKind) (w : World) (a : Option Addr) (len cap : Nat) (zs : List Int) : Prop :=
  (a = none ∧ len = 0 ∧ cap = 0 ∧ zs = []) ∨
  ∃ x, a = some x ∧ len ≤ cap ∧ cap ≤ maxLen ∧ zs.length = cap ∧ (∀ i, i < zs.length → w.cell? (x.add i) = some (.int k (zs.getD i 0))) ∧ ∀ n ∈ zs, (Lit.int k n).wf = true

theorem ints_of_row {k : IntKind} {w : World} {a : Option Addr} {len cap : Nat} {zs : List Int} (h : IsRow k w a len cap zs) : ∃ l, len = l.length ∧ Ints k w a l := by
  rcases h with ⟨rfl, rfl, rfl, rfl⟩ | ⟨x, rfl, h1, _, h3, hc, _⟩
  · exact ⟨[], rfl, Ints.nil _ _ _⟩
  · refine ⟨zs.take len, by simp; omega, ?_⟩
    by_cases h0 : 0 < cap
    · obtain ⟨b, off, rfl, hc'⟩ := ints_at hc (by omega)
      refine ⟨b, off, fun _ => rfl, fun i hi => ?_⟩
      simp at hi
      have := hc' i (by omega)
      rw [this]
      have hz : i < zs.length := by omega
      simp [List.getD, hi, hz]
    · have : zs = [] := List.eq_nil_of_length_eq_zero (by omega)
      subst this
      simp
      exact Ints.nil _ _ _
end Go.Proofs.YtpkhdfddbcpciaaDoor
