/-
  DERIVED. GIVEN WITH THE SEED: THE CARDS: each row of YtmaoefokimjkbaaGreatDoorRows.lean that lists a variable, with what it lists TIED to the program's text (the seventh form; the later family's looks); each row that meets fmt, with fmt's text TOLD by the authors' own Lean function (tested against real Go, not proved from fmt's source: count such statements apart). THE CARD IS WHAT COUNTS. Prove the row's statement (the work); the ties are given (YtmaoefokimjkbaaGreatDoorTie.lean); close each card by the builder's one call (the guide's Derived/Test/ToyasCard.lean, 'card_holds'). Laid BY PROGRAM, IN A SANDBOX (cutbox-door.mjs). By AI agents, Wed Nov 11 2026. No macro, syntax, notation, axiom, sorry.
-/
import Derived.Test.YtmaoefokimjkbaaGreatDoorRows
import GoSem.ClaimSeven
namespace Go.Proofs.YtmaoefokimjkbaaGreatDoor
namespace Rows

/-- THE TIED CARD OF 'laws.FnEntity'. -/
def fnEntityCard : Claim7 := { stood := { row := fnEntityRow, standIns := [], harness := (true, "d0d50efa4ea8f2dd983299cbbc5781679fde25dbdad78d8f0fd83f3a867d71c3"), looks := true }, kinds := [], alts := [], laidByText := true, laidKinds := [.data, .data, .data, .data, .handle, .sentinel, .sentinel, .data, .data, .data, .data, .pinned, .pinned], laidTests := true, laidLooks := .later }
def FnEntityCardSaid : Prop := Claim7.holds Tryz.pinned (.plain (OpenSpec.ofChange fnEntitySpec)) fnEntityCard

/-- THE TIED CARD OF 'laws.FnDefaults'. -/
def fnDefaultsCard : Claim7 := { stood := { row := fnDefaultsRow, standIns := [], harness := (true, "d0d50efa4ea8f2dd983299cbbc5781679fde25dbdad78d8f0fd83f3a867d71c3"), looks := true }, kinds := [], alts := [], laidByText := true, laidKinds := [.data, .data, .data, .data, .handle, .sentinel, .sentinel, .data, .data, .data, .data, .pinned, .pinned], laidTests := true, laidLooks := .later }
def FnDefaultsCardSaid : Prop := Claim7.holds Tryz.pinned (.plain (OpenSpec.ofChange fnDefaultsSpec)) fnDefaultsCard

/-- THE TIED CARD OF 'laws.FnScope'. -/
def fnScopeCard : Claim7 := { stood := { row := fnScopeRow, standIns := [], harness := (true, "d0d50efa4ea8f2dd983299cbbc5781679fde25dbdad78d8f0fd83f3a867d71c3"), looks := true }, kinds := [], alts := [], laidByText := true, laidKinds := [.data, .data, .data, .data, .handle, .sentinel, .sentinel, .data, .data, .data, .data, .pinned, .pinned], laidTests := true, laidLooks := .later }
def FnScopeCardSaid : Prop := Claim7.holds Tryz.pinned (.plain (OpenSpec.ofChange fnScopeSpec)) fnScopeCard

/-- THE SECOND FORM's CARD OF 'laws.FnEntity'. -/
def fnEntityUptoCard : Claim7 := { stood := { row := fnEntityUptoRow, standIns := [], harness := (true, "d0d50efa4ea8f2dd983299cbbc5781679fde25dbdad78d8f0fd83f3a867d71c3"), looks := true }, kinds := [], alts := [], laidByText := true, laidKinds := [.data, .data, .data, .data, .handle, .sentinel, .sentinel, .data, .data, .data, .data, .pinned, .pinned], laidTests := true, laidLooks := .later }
def FnEntityUptoCardSaid : Prop := Claim7.holds Tryz.pinned (.plain (OpenSpec.upto fnEntitySpec)) fnEntityUptoCard

/-- THE SECOND FORM's CARD OF 'laws.FnDefaults'. -/
def fnDefaultsUptoCard : Claim7 := { stood := { row := fnDefaultsUptoRow, standIns := [], harness := (true, "d0d50efa4ea8f2dd983299cbbc5781679fde25dbdad78d8f0fd83f3a867d71c3"), looks := true }, kinds := [], alts := [], laidByText := true, laidKinds := [.data, .data, .data, .data, .handle, .sentinel, .sentinel, .data, .data, .data, .data, .pinned, .pinned], laidTests := true, laidLooks := .later }
def FnDefaultsUptoCardSaid : Prop := Claim7.holds Tryz.pinned (.plain (OpenSpec.upto fnDefaultsSpec)) fnDefaultsUptoCard

/-- THE SECOND FORM's CARD OF 'laws.FnScope'. -/
def fnScopeUptoCard : Claim7 := { stood := { row := fnScopeUptoRow, standIns := [], harness := (true, "d0d50efa4ea8f2dd983299cbbc5781679fde25dbdad78d8f0fd83f3a867d71c3"), looks := true }, kinds := [], alts := [], laidByText := true, laidKinds := [.data, .data, .data, .data, .handle, .sentinel, .sentinel, .data, .data, .data, .data, .pinned, .pinned], laidTests := true, laidLooks := .later }
def FnScopeUptoCardSaid : Prop := Claim7.holds Tryz.pinned (.plain (OpenSpec.upto fnScopeSpec)) fnScopeUptoCard
end Rows
end Go.Proofs.YtmaoefokimjkbaaGreatDoor
