import Derived.ProofKit
import Derived.OpenShut
import Derived.Lib.LaidTab
import Derived.Test.YtocnfoeaikiecaaGreatDoorRows
import Derived.Test.YtocnfoeaikiecaaGreatDoorPlA
namespace Go.Proofs.YtocnfoeaikiecaaGreatDoor.Tab
open Go.ChangeShapes Go.WideShapes Go.ChangeAt Go.RowKit
theorem bQ9 {α : Type} (f : α → List Value) : ∀ (zs : List α) (cs : List Value), cs.length = zs.length * 2 → (∀ i (h : i < zs.length), (cs.drop (i * 2)).take 2 = f zs[i]) → cs = zs.flatMap f
 | [], cs, hl, _ => by simp at hl; simp [hl]
 | z :: zs, cs, hl, hf => by
  have h0 := hf 0 (by simp)
  simp at h0
  have hr := bQ9 f zs (cs.drop 2) (by simp at hl ⊢; omega) (fun i h => by
   have := hf (i + 1) (by simpa using h)
   rw [List.drop_drop]
   rw [show 2 + i * 2 = (i + 1) * 2 by omega]
   simpa using this)
  rw [List.flatMap_cons, ← hr, ← h0, List.take_append_drop]
theorem bQb {H : Type} {enc : TypeId × Value → H} {P : Program} {w : World} {base : Nat} {sp : Nat → Bool} {held : Bool} {fuel : Nat} {t e i : TypeId} {n : Nat} {k : IntKind} {f0 f1 : Field} {cs : List Value} {zs : List (Int × Int)} {p : List MemPlace}
 (ht : P.underlying t = some (.array n e)) (he : P.underlying e = some (.struct #[f0, f1])) (t0 : f0.type = i) (t1 : f1.type = i) (o0 : f0.offset = 0) (o1 : f1.offset = 1)
 (hi : P.underlying i = some (.int k)) (hci : P.cellsOf i = 1) (hce : P.cellsOf e = 2) (hct : P.cellsOf t = n * 2)
 (h : DataW.trod enc P w base sp held fuel t cs = some (.agg (zs.map fun z => .agg [.lit (.int k z.1), .lit (.int k z.2)]), p)) :
 cs = zs.flatMap fun z => [Value.int k z.1, .int k z.2] := by
 obtain ⟨xs, m, _, hx, hl, hlen, hf⟩ := DataW.trod_array ht h
 simp only [Prod.mk.injEq, DataW.agg.injEq] at hx
 obtain ⟨hx, _⟩ := hx
 have hzl : zs.length = n := by
  have := congrArg List.length hx
  simp at this; omega
 refine bQ9 _ zs cs (by rw [hl, hct, hzl]) (fun j hj => ?_)
 have h1 := hf j (by omega)
 rw [hce] at h1
 have hj' : j < xs.length := by omega
 rw [List.getElem?_eq_getElem hj'] at h1
 have hxj : xs[j].1 = .agg [.lit (.int k zs[j].1), .lit (.int k zs[j].2)] := by
  have := congrArg (fun l => l[j]?) hx
  simp [hj, hj'] at this
  exact this.symm
 obtain ⟨y0, y1, m', hy, hcl, q0, q1⟩ := trod_struct2 he h1
 rw [t0, o0, hci] at q0
 rw [t1, o1, hci] at q1
 obtain ⟨a, ea, rfl, _⟩ := DataW.trod_int hi q0
 obtain ⟨b, eb, rfl, _⟩ := DataW.trod_int hi q1
 rw [hy] at hxj
 simp only [DataW.agg.injEq, List.cons.injEq, DataW.lit.injEq, Lit.int.injEq, true_and, and_true] at hxj
 obtain ⟨rfl, rfl⟩ := hxj
 generalize hch : (cs.drop (j * 2)).take 2 = ch at *
 rw [hce] at hcl
 match ch, hcl with
 | [c0, c1], _ =>
  simp at ea eb
  rw [ea, eb]
def aYz (h : Array Obj) (g : Nat) (cs : Array Value) : Array Obj := h.modify g fun
 | .cells _ t fr => .cells cs t fr
 | o => o
theorem bZ1 {P : Program} {W : World} {name : String} {g : Nat} {cs : Array Value} (hg : P.globalNamed name = some g) (h : W.var? P name = some cs) : ∃ t fr, W.heap[g]? = some (.cells cs t fr) := by
 unfold World.var? at h
 rw [hg] at h
 simp only [Option.bind_some] at h
 split at h
 · rename_i c t fr hh
   simp at h
   subst h
   exact ⟨t, fr, hh⟩
 · cases h
end Go.Proofs.YtocnfoeaikiecaaGreatDoor.Tab
namespace Go.Proofs.YtocnfoeaikiecaaGreatDoor
open Go.ChangeShapes Go.WideShapes Go.ChangeAt Go.RowKit Plain2 Go.Proofs.Tryz
theorem cY9 : prog.globalNamed "loop.example/g00352/impl.nameStarts" = some 0 := by kernel_rfl
theorem cXm : (prog.globals[0]?).map (·.type) = some 121 := by kernel_rfl
theorem cQo {rest : List (String × DataW Unit)} {W : World} (h : laidMet prog (("loop.example/g00352/impl.nameStarts", Rows.laid_loop_example_g00352_impl_nameStarts) :: rest) W) : ∃ t fr, W.heap[0]? = some (.cells aQi t fr) := by
 obtain ⟨ps, ⟨g', t', cs, fuel, p, q, hg', ht', hvar, hd, _, _⟩, _⟩ := h
 obtain rfl := Option.some.inj (cY9.symm.trans hg')
 obtain rfl := Option.some.inj (cXm.symm.trans ht')
 have e := Tab.bQb (zs := aQl) underlying121 underlying120 rfl rfl rfl rfl underlying2 (by kernel_rfl) (by kernel_rfl) (by kernel_rfl) hd
 have e' : cs = aQi := by
  unfold aQi bZ8
  rw [← e]
 subst e'
 exact Tab.bZ1 cY9 hvar
theorem dJg : prog.globalNamed "loop.example/g00352/impl.nameParts" = some 1 := by kernel_rfl
theorem cVe : (prog.globals[1]?).map (·.type) = some 122 := by kernel_rfl
theorem cKe {rest : List (String × DataW Unit)} {W : World} (h : laidMet prog (("loop.example/g00352/impl.nameStarts", Rows.laid_loop_example_g00352_impl_nameStarts) :: ("loop.example/g00352/impl.nameParts", Rows.laid_loop_example_g00352_impl_nameParts) :: rest) W) :
 (∃ t fr, W.heap[0]? = some (.cells aQi t fr)) ∧ (∃ t fr, W.heap[1]? = some (.cells aXg t fr)) := by
 refine ⟨cQo h, ?_⟩
 obtain ⟨ps, ⟨_, _, _, _, _, _, _, _, _, _, ⟨g', t', cs, fuel, p, q, hg', ht', hvar, hd, _, _⟩, _⟩, _⟩ := h
 obtain rfl := Option.some.inj (dJg.symm.trans hg')
 obtain rfl := Option.some.inj (cVe.symm.trans ht')
 have e := Tab.bQb (zs := aZd) underlying122 underlying120 rfl rfl rfl rfl underlying2 (by kernel_rfl) (by kernel_rfl) (by kernel_rfl) hd
 have e' : cs = aXg := by
  unfold aXg bZ8
  rw [← e]
 subst e'
 exact Tab.bZ1 dJg hvar
open Go.RowKit
def dZv (k : IntKind) (w : World) (a : Option Addr) (len cap : Nat) (zs : List Int) : Prop :=
 (a = none ∧ len = 0 ∧ cap = 0 ∧ zs = []) ∨
 ∃ x, a = some x ∧ len ≤ cap ∧ cap ≤ maxLen ∧ zs.length = cap ∧ (∀ i, i < zs.length → w.cell? (x.add i) = some (.int k (zs.getD i 0))) ∧ ∀ n ∈ zs, (Lit.int k n).wf = true
end Go.Proofs.YtocnfoeaikiecaaGreatDoor
