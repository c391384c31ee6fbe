/-
  DERIVED. GIVEN WITH THE SEED: THE CARDS: each row of YtbbigephblhhlabGreatDoorRows.lean that lists a variable, with what it lists TIED to the program's text (the seventh form; the later family's looks); each row that meets fmt, with fmt's text TOLD by the authors' own Lean function (tested against real Go, not proved from fmt's source: count such statements apart). THE CARD IS WHAT COUNTS. Prove the row's statement (the work); the ties are given (YtbbigephblhhlabGreatDoorTie.lean); close each card by the builder's one call (the guide's Derived/Test/ToyasCard.lean, 'card_holds'). Laid BY PROGRAM, IN A SANDBOX (cutbox-door.mjs). By AI agents, Wed Nov 11 2026. No macro, syntax, notation, axiom, sorry.
-/
import Derived.Test.YtbbigephblhhlabGreatDoorRows
import GoSem.ClaimSeven
namespace Go.Proofs.YtbbigephblhhlabGreatDoor
namespace Rows

/-- THE TIED CARD OF 'laws.FnExactNext'. -/
def fnExactNextCard : Claim7 := { stood := { row := fnExactNextRow, standIns := [], harness := (true, "adf8f8a9f4eefbedea9c817fa218b74010e421d874fb3152ed6bfe742679559a"), looks := true }, kinds := [], alts := [], laidByText := true, laidKinds := [.data, .handle, .data, .data, .data, .data, .pinned, .pinned], laidTests := true, laidLooks := .later }
def FnExactNextCardSaid : Prop := Claim7.holds Tryz.pinned (.plain (OpenSpec.ofChange fnExactNextSpec)) fnExactNextCard

/-- THE TIED CARD OF 'laws.FnExactDtdRead'. -/
def fnExactDtdReadCard : Claim7 := { stood := { row := fnExactDtdReadRow, standIns := [], harness := (true, "adf8f8a9f4eefbedea9c817fa218b74010e421d874fb3152ed6bfe742679559a"), looks := true }, kinds := [], alts := [], laidByText := true, laidKinds := [.data, .data, .data, .data, .handle, .sentinel, .sentinel, .data, .data, .data, .data, .pinned, .pinned], laidTests := true, laidLooks := .later }
def FnExactDtdReadCardSaid : Prop := Claim7.holds Tryz.pinned (.plain (OpenSpec.ofChange fnExactDtdReadSpec)) fnExactDtdReadCard

/-- THE SECOND FORM's CARD OF 'laws.FnExactNext'. -/
def fnExactNextUptoCard : Claim7 := { stood := { row := fnExactNextUptoRow, standIns := [], harness := (true, "adf8f8a9f4eefbedea9c817fa218b74010e421d874fb3152ed6bfe742679559a"), looks := true }, kinds := [], alts := [], laidByText := true, laidKinds := [.data, .handle, .data, .data, .data, .data, .pinned, .pinned], laidTests := true, laidLooks := .later }
def FnExactNextUptoCardSaid : Prop := Claim7.holds Tryz.pinned (.plain (OpenSpec.upto fnExactNextSpec)) fnExactNextUptoCard

/-- THE SECOND FORM's CARD OF 'laws.FnExactDtdRead'. -/
def fnExactDtdReadUptoCard : Claim7 := { stood := { row := fnExactDtdReadUptoRow, standIns := [], harness := (true, "adf8f8a9f4eefbedea9c817fa218b74010e421d874fb3152ed6bfe742679559a"), looks := true }, kinds := [], alts := [], laidByText := true, laidKinds := [.data, .data, .data, .data, .handle, .sentinel, .sentinel, .data, .data, .data, .data, .pinned, .pinned], laidTests := true, laidLooks := .later }
def FnExactDtdReadUptoCardSaid : Prop := Claim7.holds Tryz.pinned (.plain (OpenSpec.upto fnExactDtdReadSpec)) fnExactDtdReadUptoCard
end Rows
end Go.Proofs.YtbbigephblhhlabGreatDoor
