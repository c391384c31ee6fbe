/-
  DERIVED. GIVEN WITH THE SEED: THE CARDS: each row of YtdblemolaojebaaGreatDoorRows.lean that lists a variable, with what it lists TIED to the program's text (the seventh form; the later family's looks); each row that meets fmt, with fmt's text TOLD by the authors' own Lean function (tested against real Go, not proved from fmt's source: count such statements apart). THE CARD IS WHAT COUNTS. Prove the row's statement (the work); the ties are given (YtdblemolaojebaaGreatDoorTie.lean); close each card by the builder's one call (the guide's Derived/Test/ToyasCard.lean, 'card_holds'). Laid BY PROGRAM, IN A SANDBOX (cutbox-door.mjs). By AI agents, Wed Nov 11 2026. No macro, syntax, notation, axiom, sorry.
-/
import Derived.Test.YtdblemolaojebaaGreatDoorRows
import GoSem.ClaimSeven
namespace Go.Proofs.YtdblemolaojebaaGreatDoor
namespace Rows

/-- THE TIED CARD OF 'laws.FnScope'. -/
def fnScopeCard : Claim7 := { stood := { row := fnScopeRow, standIns := [], harness := (true, "d5ee9cccf9f96fd67ce518e68d901bc9c519e127dde523abb788bca9bb75499e"), looks := true }, kinds := [], alts := [], laidByText := true, laidKinds := [.data, .data, .data, .data, .handle, .sentinel, .sentinel, .data, .data, .data, .data, .pinned, .pinned], laidTests := true, laidLooks := .later }
def FnScopeCardSaid : Prop := Claim7.holds Tryz.pinned (.plain (OpenSpec.ofChange fnScopeSpec)) fnScopeCard

/-- THE SECOND FORM's CARD OF 'laws.FnScope'. -/
def fnScopeUptoCard : Claim7 := { stood := { row := fnScopeUptoRow, standIns := [], harness := (true, "d5ee9cccf9f96fd67ce518e68d901bc9c519e127dde523abb788bca9bb75499e"), looks := true }, kinds := [], alts := [], laidByText := true, laidKinds := [.data, .data, .data, .data, .handle, .sentinel, .sentinel, .data, .data, .data, .data, .pinned, .pinned], laidTests := true, laidLooks := .later }
def FnScopeUptoCardSaid : Prop := Claim7.holds Tryz.pinned (.plain (OpenSpec.upto fnScopeSpec)) fnScopeUptoCard
end Rows
end Go.Proofs.YtdblemolaojebaaGreatDoor
