/- What the texts on the two AttOf have in common. -/
import Derived.Test.YtpkhdfddbcpciaaEntP
namespace Go.Proofs.Ytpkhdfddbcpciaa
open Go.RowKit Lists Ents

def zObj5 : Obj := .cells #[.string ⟨#[]⟩, .string ⟨#[]⟩, .bool false, .bool false, .string ⟨#[]⟩] 51
theorem att_no1 {o n : ByteArray} {e : At5} (h : (e.of.toList == o.toList) = false) : isAtt o n e = false := by unfold isAtt; rw [h]; rfl
theorem att_no2 {o n : ByteArray} {e : At5} (h : (e.nm.toList == n.toList) = false) : isAtt o n e = false := by unfold isAtt; rw [h, Bool.and_false]
theorem att_yes {o n : ByteArray} {e : At5} (h1 : (e.of.toList == o.toList) = true) (h2 : (e.nm.toList == n.toList) = true) : isAtt o n e = true := by unfold isAtt; rw [h1, h2]; rfl
theorem res5 {w W : World} {a a' : Option Addr} {n c n' c' : Nat} (h : DBox w W a n c a' n' c' zObj5) :
    W.cell? ⟨w.heap.size + 1, 0, none⟩ = some (.string ⟨#[]⟩) ∧ W.cell? ⟨w.heap.size + 1, 1, none⟩ = some (.string ⟨#[]⟩) ∧ W.cell? ⟨w.heap.size + 1, 2, none⟩ = some (.bool false) ∧ W.cell? ⟨w.heap.size + 1, 3, none⟩ = some (.bool false) ∧ W.cell? ⟨w.heap.size + 1, 4, none⟩ = some (.string ⟨#[]⟩) ∧
    W.frozen? ⟨w.heap.size + 1, 0, none⟩ = false ∧ W.frozen? ⟨w.heap.size + 1, 1, none⟩ = false ∧ W.frozen? ⟨w.heap.size + 1, 2, none⟩ = false ∧ W.frozen? ⟨w.heap.size + 1, 3, none⟩ = false ∧ W.frozen? ⟨w.heap.size + 1, 4, none⟩ = false := by
  have hr := h.res
  unfold zObj5 at hr
  simp [World.cell?, World.frozen?, hr]
theorem grown5 {w W : World} (h : w.grownBy W none) {k : Nat} (hk : w.heap.size ≤ k) (u0 u1 u2 u3 u4 : Value) :
    w.grownBy (((((W.setCell ⟨k, 0, none⟩ u0).setCell ⟨k, 1, none⟩ u1).setCell ⟨k, 2, none⟩ u2).setCell ⟨k, 3, none⟩ u3).setCell ⟨k, 4, none⟩ u4) none :=
  grown_new (grown_new (grown_new (grown_new (grown_new h hk _) hk _) hk _) hk _) hk _
end Go.Proofs.Ytpkhdfddbcpciaa
