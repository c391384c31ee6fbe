/-
  DERIVED. GIVEN WITH THE SEED: THE CARDS: each row of YtpkhdfddbcpciaaDoorRows.lean that lists a variable, with what it lists TIED to the program's text (the seventh form; the later family's looks); each row that meets fmt, with fmt's text TOLD by the authors' own Lean function (tested against real Go, not proved from fmt's source: count such statements apart). THE CARD IS WHAT COUNTS. Prove the row's statement (the work); the ties are given (YtpkhdfddbcpciaaDoorTie.lean); close each card by the builder's one call (the guide's Derived/Test/ToyasCard.lean, 'card_holds'). Laid BY PROGRAM, IN A SANDBOX (cutbox-door.mjs). By AI agents, Wed Nov 11 2026. No macro, syntax, notation, axiom, sorry.
-/
import Derived.Test.YtpkhdfddbcpciaaDoorRows
import GoSem.ClaimSeven
namespace Go.Proofs.YtpkhdfddbcpciaaDoor
namespace Rows

/-- THE TIED CARD OF 'laws.FnRunes'. -/
def fnRunesCard : Claim7 := { stood := { row := fnRunesRow, standIns := [], harness := (true, "83c08d0cc2e9012ffa1d269c887d0055bdbd4b1d466275f2f13530c435ecf2c8"), looks := false }, kinds := [], alts := [], laidByText := true, laidKinds := [.data, .data, .data, .pinned], laidTests := true, laidLooks := .later }
def FnRunesCardSaid : Prop := Claim7.holds Tryd.pinned (.plain (OpenSpec.ofChange fnRunesSpec)) fnRunesCard

/-- THE TIED CARD OF 'laws.FnExactNameStart'. -/
def fnExactNameStartCard : Claim7 := { stood := { row := fnExactNameStartRow, standIns := [], harness := (true, "83c08d0cc2e9012ffa1d269c887d0055bdbd4b1d466275f2f13530c435ecf2c8"), looks := false }, kinds := [], alts := [], laidByText := true, laidKinds := [.data], laidTests := true, laidLooks := .later }
def FnExactNameStartCardSaid : Prop := Claim7.holds Tryd.pinned (.plain (OpenSpec.ofChange fnExactNameStartSpec)) fnExactNameStartCard

/-- THE TIED CARD OF 'laws.FnExactNamePart'. -/
def fnExactNamePartCard : Claim7 := { stood := { row := fnExactNamePartRow, standIns := [], harness := (true, "83c08d0cc2e9012ffa1d269c887d0055bdbd4b1d466275f2f13530c435ecf2c8"), looks := false }, kinds := [], alts := [], laidByText := true, laidKinds := [.data, .data], laidTests := true, laidLooks := .later }
def FnExactNamePartCardSaid : Prop := Claim7.holds Tryd.pinned (.plain (OpenSpec.ofChange fnExactNamePartSpec)) fnExactNamePartCard

/-- THE TIED CARD OF 'laws.FnExactEnds'. -/
def fnExactEndsCard : Claim7 := { stood := { row := fnExactEndsRow, standIns := [], harness := (true, "83c08d0cc2e9012ffa1d269c887d0055bdbd4b1d466275f2f13530c435ecf2c8"), looks := false }, kinds := [], alts := [], laidByText := true, laidKinds := [.data, .pinned], laidTests := true, laidLooks := .later }
def FnExactEndsCardSaid : Prop := Claim7.holds Tryd.pinned (.plain (OpenSpec.ofChange fnExactEndsSpec)) fnExactEndsCard

/-- THE TIED CARD OF 'laws.FnExactNameRight'. -/
def fnExactNameRightCard : Claim7 := { stood := { row := fnExactNameRightRow, standIns := [], harness := (true, "83c08d0cc2e9012ffa1d269c887d0055bdbd4b1d466275f2f13530c435ecf2c8"), looks := false }, kinds := [], alts := [], laidByText := true, laidKinds := [.data, .data], laidTests := true, laidLooks := .later }
def FnExactNameRightCardSaid : Prop := Claim7.holds Tryd.pinned (.plain (OpenSpec.ofChange fnExactNameRightSpec)) fnExactNameRightCard

/-- THE TIED CARD OF 'laws.FnExactSplit'. -/
def fnExactSplitCard : Claim7 := { stood := { row := fnExactSplitRow, standIns := [], harness := (true, "83c08d0cc2e9012ffa1d269c887d0055bdbd4b1d466275f2f13530c435ecf2c8"), looks := false }, kinds := [], alts := [], laidByText := true, laidKinds := [.data, .data], laidTests := true, laidLooks := .later }
def FnExactSplitCardSaid : Prop := Claim7.holds Tryd.pinned (.plain (OpenSpec.ofChange fnExactSplitSpec)) fnExactSplitCard

/-- THE SECOND FORM's CARD OF 'laws.FnRunes'. -/
def fnRunesUptoCard : Claim7 := { stood := { row := fnRunesUptoRow, standIns := [], harness := (true, "83c08d0cc2e9012ffa1d269c887d0055bdbd4b1d466275f2f13530c435ecf2c8"), looks := false }, kinds := [], alts := [], laidByText := true, laidKinds := [.data, .data, .data, .pinned], laidTests := true, laidLooks := .later }
def FnRunesUptoCardSaid : Prop := Claim7.holds Tryd.pinned (.plain (OpenSpec.upto fnRunesSpec)) fnRunesUptoCard

/-- THE SECOND FORM's CARD OF 'laws.FnExactNameStart'. -/
def fnExactNameStartUptoCard : Claim7 := { stood := { row := fnExactNameStartUptoRow, standIns := [], harness := (true, "83c08d0cc2e9012ffa1d269c887d0055bdbd4b1d466275f2f13530c435ecf2c8"), looks := false }, kinds := [], alts := [], laidByText := true, laidKinds := [.data], laidTests := true, laidLooks := .later }
def FnExactNameStartUptoCardSaid : Prop := Claim7.holds Tryd.pinned (.plain (OpenSpec.upto fnExactNameStartSpec)) fnExactNameStartUptoCard

/-- THE SECOND FORM's CARD OF 'laws.FnExactNamePart'. -/
def fnExactNamePartUptoCard : Claim7 := { stood := { row := fnExactNamePartUptoRow, standIns := [], harness := (true, "83c08d0cc2e9012ffa1d269c887d0055bdbd4b1d466275f2f13530c435ecf2c8"), looks := false }, kinds := [], alts := [], laidByText := true, laidKinds := [.data, .data], laidTests := true, laidLooks := .later }
def FnExactNamePartUptoCardSaid : Prop := Claim7.holds Tryd.pinned (.plain (OpenSpec.upto fnExactNamePartSpec)) fnExactNamePartUptoCard

/-- THE SECOND FORM's CARD OF 'laws.FnExactEnds'. -/
def fnExactEndsUptoCard : Claim7 := { stood := { row := fnExactEndsUptoRow, standIns := [], harness := (true, "83c08d0cc2e9012ffa1d269c887d0055bdbd4b1d466275f2f13530c435ecf2c8"), looks := false }, kinds := [], alts := [], laidByText := true, laidKinds := [.data, .pinned], laidTests := true, laidLooks := .later }
def FnExactEndsUptoCardSaid : Prop := Claim7.holds Tryd.pinned (.plain (OpenSpec.upto fnExactEndsSpec)) fnExactEndsUptoCard

/-- THE SECOND FORM's CARD OF 'laws.FnExactNameRight'. -/
def fnExactNameRightUptoCard : Claim7 := { stood := { row := fnExactNameRightUptoRow, standIns := [], harness := (true, "83c08d0cc2e9012ffa1d269c887d0055bdbd4b1d466275f2f13530c435ecf2c8"), looks := false }, kinds := [], alts := [], laidByText := true, laidKinds := [.data, .data], laidTests := true, laidLooks := .later }
def FnExactNameRightUptoCardSaid : Prop := Claim7.holds Tryd.pinned (.plain (OpenSpec.upto fnExactNameRightSpec)) fnExactNameRightUptoCard

/-- THE SECOND FORM's CARD OF 'laws.FnExactSplit'. -/
def fnExactSplitUptoCard : Claim7 := { stood := { row := fnExactSplitUptoRow, standIns := [], harness := (true, "83c08d0cc2e9012ffa1d269c887d0055bdbd4b1d466275f2f13530c435ecf2c8"), looks := false }, kinds := [], alts := [], laidByText := true, laidKinds := [.data, .data], laidTests := true, laidLooks := .later }
def FnExactSplitUptoCardSaid : Prop := Claim7.holds Tryd.pinned (.plain (OpenSpec.upto fnExactSplitSpec)) fnExactSplitUptoCard
end Rows
end Go.Proofs.YtpkhdfddbcpciaaDoor
