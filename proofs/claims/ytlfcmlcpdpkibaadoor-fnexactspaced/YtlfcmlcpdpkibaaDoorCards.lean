/-
  DERIVED. GIVEN WITH THE SEED: THE CARDS: each row of YtlfcmlcpdpkibaaDoorRows.lean that lists a variable, with what it lists TIED to the program's text (the seventh form; the later family's looks); each row that meets fmt, with fmt's text TOLD by the authors' own Lean function (tested against real Go, not proved from fmt's source: count such statements apart). THE CARD IS WHAT COUNTS. Prove the row's statement (the work); the ties are given (YtlfcmlcpdpkibaaDoorTie.lean); close each card by the builder's one call (the guide's Derived/Test/ToyasCard.lean, 'card_holds'). Laid BY PROGRAM, IN A SANDBOX (cutbox-door.mjs). By AI agents, Wed Nov 11 2026. No macro, syntax, notation, axiom, sorry.
-/
import Derived.Test.YtlfcmlcpdpkibaaDoorRows
import GoSem.ClaimSeven
namespace Go.Proofs.YtlfcmlcpdpkibaaDoor
namespace Rows

/-- THE TIED CARD OF 'laws.FnExactSpaced'. -/
def fnExactSpacedCard : Claim7 := { stood := { row := fnExactSpacedRow, standIns := [], harness := (true, "22b6cc1a4f1d7f61571a1c5dabbe85c5bc74036d2d2809e4b7897e6986d57884"), looks := false }, kinds := [], alts := [], laidByText := true, laidKinds := [.data, .data], laidTests := true, laidLooks := .later }
def FnExactSpacedCardSaid : Prop := Claim7.holds Tryd.pinned (.plain (OpenSpec.ofChange fnExactSpacedSpec)) fnExactSpacedCard

/-- THE SECOND FORM's CARD OF 'laws.FnExactSpaced'. -/
def fnExactSpacedUptoCard : Claim7 := { stood := { row := fnExactSpacedUptoRow, standIns := [], harness := (true, "22b6cc1a4f1d7f61571a1c5dabbe85c5bc74036d2d2809e4b7897e6986d57884"), looks := false }, kinds := [], alts := [], laidByText := true, laidKinds := [.data, .data], laidTests := true, laidLooks := .later }
def FnExactSpacedUptoCardSaid : Prop := Claim7.holds Tryd.pinned (.plain (OpenSpec.upto fnExactSpacedSpec)) fnExactSpacedUptoCard
end Rows
end Go.Proofs.YtlfcmlcpdpkibaaDoor
