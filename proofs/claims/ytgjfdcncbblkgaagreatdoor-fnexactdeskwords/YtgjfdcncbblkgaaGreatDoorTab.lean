/- Tables: what the cells of an array of pairs of integers hold, when it reads as a list of such pairs. Nothing of the program is named here. -/
import Derived.WalkKit
import Derived.ProofKit
import Derived.OpenShut
import Derived.Lib.LaidTab
namespace Go.Proofs.YtgjfdcncbblkgaaGreatDoor.Tab
open Go.ChangeShapes Go.WideShapes Go.ChangeAt Go.RowKit

theorem flat_of_chunks {α : Type} (f : α → List Value) : ∀ (zs : List α) (cs : List Value), cs.length = zs.length * 2 → (∀ i (h : i < zs.length), (cs.drop (i * 2)).take 2 = f zs[i]) → cs = zs.flatMap f
  | [], cs, hl, _ => by simp at hl; simp [hl]
  | z :: zs, cs, hl, hf => by
    have h0 := hf 0 (by simp)
    simp at h0
    have hr := flat_of_chunks f zs (cs.drop 2) (by simp at hl ⊢; omega) (fun i h => by
      have := hf (i + 1) (by simpa using h)
      rw [List.drop_drop]
      rw [show 2 + i * 2 = (i + 1) * 2 by omega]
      simpa using this)
    rw [List.flatMap_cons, ← hr, ← h0, List.take_append_drop]

theorem cells_of_pairs {H : Type} {enc : TypeId × Value → H} {P : Program} {w : World} {base : Nat} {sp : Nat → Bool} {held : Bool} {fuel : Nat} {t e i : TypeId} {n : Nat} {k : IntKind} {f0 f1 : Field} {cs : List Value} {zs : List (Int × Int)} {p : List MemPlace}
    (ht : P.underlying t = some (.array n e)) (he : P.underlying e = some (.struct #[f0, f1])) (t0 : f0.type = i) (t1 : f1.type = i) (o0 : f0.offset = 0) (o1 : f1.offset = 1)
    (hi : P.underlying i = some (.int k)) (hci : P.cellsOf i = 1) (hce : P.cellsOf e = 2) (hct : P.cellsOf t = n * 2)
    (h : DataW.trod enc P w base sp held fuel t cs = some (.agg (zs.map fun z => .agg [.lit (.int k z.1), .lit (.int k z.2)]), p)) :
    cs = zs.flatMap fun z => [Value.int k z.1, .int k z.2] := by
  obtain ⟨xs, m, _, hx, hl, hlen, hf⟩ := DataW.trod_array ht h
  simp only [Prod.mk.injEq, DataW.agg.injEq] at hx
  obtain ⟨hx, _⟩ := hx
  have hzl : zs.length = n := by
    have := congrArg List.length hx
    simp at this; omega
  refine flat_of_chunks _ zs cs (by rw [hl, hct, hzl]) (fun j hj => ?_)
  have h1 := hf j (by omega)
  rw [hce] at h1
  have hj' : j < xs.length := by omega
  rw [List.getElem?_eq_getElem hj'] at h1
  have hxj : xs[j].1 = .agg [.lit (.int k zs[j].1), .lit (.int k zs[j].2)] := by
    have := congrArg (fun l => l[j]?) hx
    simp [hj, hj'] at this
    exact this.symm
  obtain ⟨y0, y1, m', hy, hcl, q0, q1⟩ := trod_struct2 he h1
  rw [t0, o0, hci] at q0
  rw [t1, o1, hci] at q1
  obtain ⟨a, ea, rfl, _⟩ := DataW.trod_int hi q0
  obtain ⟨b, eb, rfl, _⟩ := DataW.trod_int hi q1
  rw [hy] at hxj
  simp only [DataW.agg.injEq, List.cons.injEq, DataW.lit.injEq, Lit.int.injEq, true_and, and_true] at hxj
  obtain ⟨rfl, rfl⟩ := hxj
  generalize hch : (cs.drop (j * 2)).take 2 = ch at *
  rw [hce] at hcl
  match ch, hcl with
  | [c0, c1], _ =>
    simp at ea eb
    rw [ea, eb]

/-- A heap with a block's cells put anew (for a witness). -/
def putCells (h : Array Obj) (g : Nat) (cs : Array Value) : Array Obj := h.modify g fun
  | .cells _ t fr => .cells cs t fr
  | o => o
/-- The block of a variable that reads as such a list. -/
theorem block_of_var {P : Program} {W : World} {name : String} {g : Nat} {cs : Array Value} (hg : P.globalNamed name = some g) (h : W.var? P name = some cs) : ∃ t fr, W.heap[g]? = some (.cells cs t fr) := by
  unfold World.var? at h
  rw [hg] at h
  simp only [Option.bind_some] at h
  split at h
  · rename_i c t fr hh
    simp at h
    subst h
    exact ⟨t, fr, hh⟩
  · cases h
end Go.Proofs.YtgjfdcncbblkgaaGreatDoor.Tab
