/- What the row's list of package-level variables gives of the tables of ranges: the blocks that hold them. -/
import Derived.Test.YtpkhdfddbcpciaaDoorRows
import Derived.Test.YtpkhdfddbcpciaaDoorPlain2
import Derived.Test.YtpkhdfddbcpciaaDoorTab
namespace Go.Proofs.YtpkhdfddbcpciaaDoor
open Go.ChangeShapes Go.WideShapes Go.ChangeAt Go.RowKit Plain2

theorem gStarts : Tryd.prog.globalNamed "loop.example/g00352/impl.nameStarts" = some 0 := by kernel_rfl
theorem gStartsType : (Tryd.prog.globals[0]?).map (·.type) = some 56 := by kernel_rfl

theorem tableStarts {rest : List (String × DataW Unit)} {W : World} (h : laidMet Tryd.prog (("loop.example/g00352/impl.nameStarts", Rows.laid_loop_example_g00352_impl_nameStarts) :: rest) W) : ∃ t fr, W.heap[0]? = some (.cells startCells t fr) := by
  obtain ⟨ps, ⟨g', t', cs, fuel, p, q, hg', ht', hvar, hd, _, _⟩, _⟩ := h
  obtain rfl := Option.some.inj (gStarts.symm.trans hg')
  obtain rfl := Option.some.inj (gStartsType.symm.trans ht')
  have e := Tab.cells_of_pairs (zs := startsL) Tryd.underlying56 Tryd.underlying55 rfl rfl rfl rfl Tryd.underlying2 (by kernel_rfl) (by kernel_rfl) (by kernel_rfl) hd
  have e' : cs = startCells := by
    unfold startCells tabCells
    rw [← e]
  subst e'
  exact Tab.block_of_var gStarts hvar

theorem gParts : Tryd.prog.globalNamed "loop.example/g00352/impl.nameParts" = some 1 := by kernel_rfl
theorem gPartsType : (Tryd.prog.globals[1]?).map (·.type) = some 57 := by kernel_rfl

/-- Both tables, from a list that holds them one behind the other. -/
theorem tableBoth {rest : List (String × DataW Unit)} {W : World} (h : laidMet Tryd.prog (("loop.example/g00352/impl.nameStarts", Rows.laid_loop_example_g00352_impl_nameStarts) :: ("loop.example/g00352/impl.nameParts", Rows.laid_loop_example_g00352_impl_nameParts) :: rest) W) :
    (∃ t fr, W.heap[0]? = some (.cells startCells t fr)) ∧ (∃ t fr, W.heap[1]? = some (.cells partCells t fr)) := by
  refine ⟨tableStarts h, ?_⟩
  obtain ⟨ps, ⟨_, _, _, _, _, _, _, _, _, _, ⟨g', t', cs, fuel, p, q, hg', ht', hvar, hd, _, _⟩, _⟩, _⟩ := h
  obtain rfl := Option.some.inj (gParts.symm.trans hg')
  obtain rfl := Option.some.inj (gPartsType.symm.trans ht')
  have e := Tab.cells_of_pairs (zs := partsL) Tryd.underlying57 Tryd.underlying55 rfl rfl rfl rfl Tryd.underlying2 (by kernel_rfl) (by kernel_rfl) (by kernel_rfl) hd
  have e' : cs = partCells := by
    unfold partCells tabCells
    rw [← e]
  subst e'
  exact Tab.block_of_var gParts hvar
end Go.Proofs.YtpkhdfddbcpciaaDoor
