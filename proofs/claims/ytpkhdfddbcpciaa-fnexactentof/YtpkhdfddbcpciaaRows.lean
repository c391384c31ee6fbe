/-
  No cell of these rows narrows 'for every input' (looked for: loops, veiled, ifaces, maps, wideKeys, modest, calm, conditions, laid).
  DERIVED. THE GIVEN ROWS OF THIS SEAT. 5 by the template 'for every input the law returns true; each argument reads behind the call as it read before'; 0 by the template 'total and deterministic' (their statements: YtpkhdfddbcpciaaTotals.lean).
  GIVEN WITH THE SEED: the statements are not yours to turn. If you find one false, say at which input.
  Laid BY PROGRAM, IN A SANDBOX (cutbox-rows.mjs): the forced cells as the released guide's own fill.sh prints them over the translation 690b5a445a47ed61… (all of the seat's roots in one cut). By AI agents, Wed Nov 11 2026. No macro, syntax, notation, axiom, sorry.
-/
import Derived.Test.YtpkhdfddbcpciaaChecked
import GoSem.Claim
import GoSem.ClaimJoined
import GoSem.ClaimMapViews
import Derived.JoinedTies
import Derived.KernelRfl
namespace Go.Proofs.Ytpkhdfddbcpciaa
/- THE CELL 'sum', in the pinned program and in every row, IS THE sha256 OF THE DUMP (.gsa) THAT YtpkhdfddbcpciaaProg.lean LOADS. Nothing in Lean hashes anything: it is a label: what it is worth is what the hold of that sum in a sandbox is worth. -/
noncomputable def Try.pinned : Pinned := { name := "ytpkhdfddbcpciaa", sum := "690b5a445a47ed61969779332a846203e1b2f8cc15b08c278238403fc7f03f13", checked := Try.checked }
namespace Rows
def none {H : Type} : Left H := { results := [], args := [] }

/-- 'laws.FnExactCharRight': WHATEVER THE INPUT: true; the input reads as it did. -/
def fnExactCharRightSpec : ChangeSpec := { name := "fnExactCharRight", fn := fun _ => fun
  | [d] => { results := [.lit (.bool true)], args := [d] }
  | _ => none }
def fnExactCharRightRow : OpenClaim := { program := "ytpkhdfddbcpciaa", sum := "690b5a445a47ed61969779332a846203e1b2f8cc15b08c278238403fc7f03f13", func := "loop.example/g00352/laws.FnExactCharRight", spec := "fnExactCharRight", apart := false }
def FnExactCharRightSaid : Prop := fnExactCharRightRow.holds Try.pinned (OpenSpec.ofChange fnExactCharRightSpec)

/-- ITS FALSE NEIGHBOUR: 'it returns false'. Refute it at one input. -/
def fnExactCharRightWrong : ChangeSpec := { name := "fnExactCharRight", fn := fun _ => fun
  | [d] => { results := [.lit (.bool false)], args := [d] }
  | _ => none }
def FnExactCharRightWrongFalsely : Prop := fnExactCharRightRow.holds Try.pinned (OpenSpec.ofChange fnExactCharRightWrong)

/-- 'laws.FnExactRunes': WHATEVER THE INPUT: true; the input reads as it did. -/
def fnExactRunesSpec : ChangeSpec := { name := "fnExactRunes", fn := fun _ => fun
  | [d] => { results := [.lit (.bool true)], args := [d] }
  | _ => none }
def fnExactRunesRow : OpenClaim := { program := "ytpkhdfddbcpciaa", sum := "690b5a445a47ed61969779332a846203e1b2f8cc15b08c278238403fc7f03f13", func := "loop.example/g00352/laws.FnExactRunes", spec := "fnExactRunes", apart := false }
def FnExactRunesSaid : Prop := fnExactRunesRow.holds Try.pinned (OpenSpec.ofChange fnExactRunesSpec)

/-- ITS FALSE NEIGHBOUR: 'it returns false'. Refute it at one input. -/
def fnExactRunesWrong : ChangeSpec := { name := "fnExactRunes", fn := fun _ => fun
  | [d] => { results := [.lit (.bool false)], args := [d] }
  | _ => none }
def FnExactRunesWrongFalsely : Prop := fnExactRunesRow.holds Try.pinned (OpenSpec.ofChange fnExactRunesWrong)

/-- 'laws.FnExactUtf': WHATEVER THE INPUT: true; the input reads as it did. -/
def fnExactUtfSpec : ChangeSpec := { name := "fnExactUtf", fn := fun _ => fun
  | [d] => { results := [.lit (.bool true)], args := [d] }
  | _ => none }
def fnExactUtfRow : OpenClaim := { program := "ytpkhdfddbcpciaa", sum := "690b5a445a47ed61969779332a846203e1b2f8cc15b08c278238403fc7f03f13", func := "loop.example/g00352/laws.FnExactUtf", spec := "fnExactUtf", apart := false }
def FnExactUtfSaid : Prop := fnExactUtfRow.holds Try.pinned (OpenSpec.ofChange fnExactUtfSpec)

/-- ITS FALSE NEIGHBOUR: 'it returns false'. Refute it at one input. -/
def fnExactUtfWrong : ChangeSpec := { name := "fnExactUtf", fn := fun _ => fun
  | [d] => { results := [.lit (.bool false)], args := [d] }
  | _ => none }
def FnExactUtfWrongFalsely : Prop := fnExactUtfRow.holds Try.pinned (OpenSpec.ofChange fnExactUtfWrong)

/-- 'laws.FnExactEntOf': WHATEVER THE INPUT: true; the input reads as it did. -/
def fnExactEntOfSpec : ChangeSpec := { name := "fnExactEntOf", fn := fun _ => fun
  | [d1, d2] => { results := [.lit (.bool true)], args := [d1, d2] }
  | _ => none }
def fnExactEntOfRow : OpenClaim := { program := "ytpkhdfddbcpciaa", sum := "690b5a445a47ed61969779332a846203e1b2f8cc15b08c278238403fc7f03f13", func := "loop.example/g00352/laws.FnExactEntOf", spec := "fnExactEntOf", apart := false }
def FnExactEntOfSaid : Prop := fnExactEntOfRow.holds Try.pinned (OpenSpec.ofChange fnExactEntOfSpec)

/-- ITS FALSE NEIGHBOUR: 'it returns false'. Refute it at one input. -/
def fnExactEntOfWrong : ChangeSpec := { name := "fnExactEntOf", fn := fun _ => fun
  | [d1, d2] => { results := [.lit (.bool false)], args := [d1, d2] }
  | _ => none }
def FnExactEntOfWrongFalsely : Prop := fnExactEntOfRow.holds Try.pinned (OpenSpec.ofChange fnExactEntOfWrong)

/-- 'laws.FnExactAttOf': WHATEVER THE INPUT: true; the input reads as it did. -/
def fnExactAttOfSpec : ChangeSpec := { name := "fnExactAttOf", fn := fun _ => fun
  | [d1, d2, d3] => { results := [.lit (.bool true)], args := [d1, d2, d3] }
  | _ => none }
def fnExactAttOfRow : OpenClaim := { program := "ytpkhdfddbcpciaa", sum := "690b5a445a47ed61969779332a846203e1b2f8cc15b08c278238403fc7f03f13", func := "loop.example/g00352/laws.FnExactAttOf", spec := "fnExactAttOf", apart := false }
def FnExactAttOfSaid : Prop := fnExactAttOfRow.holds Try.pinned (OpenSpec.ofChange fnExactAttOfSpec)

/-- ITS FALSE NEIGHBOUR: 'it returns false'. Refute it at one input. -/
def fnExactAttOfWrong : ChangeSpec := { name := "fnExactAttOf", fn := fun _ => fun
  | [d1, d2, d3] => { results := [.lit (.bool false)], args := [d1, d2, d3] }
  | _ => none }
def FnExactAttOfWrongFalsely : Prop := fnExactAttOfRow.holds Try.pinned (OpenSpec.ofChange fnExactAttOfWrong)

/- THE SECOND FORM. 'bulk': how many values and letters a reading holds, each counted each time it is reached (what is shared counts as often as it is met; a slice's spare places count too). A statement '..UptoSaid' is the law's where the arguments, and the package variables that the reading takes, are together of bulk at most 1048576: NARROWER than '..Said'. Prove '..Said' where nothing that the law and all that it calls make is longer than what came in: it says more and counts as full. Else prove '..UptoSaid'. A law counts once. -/
mutual
def uptoBulk {H : Type} : DataW H → Nat
  | .lit (.string bytes) => bytes.length + 1
  | .lit _ => 1
  | .nil => 1
  | .ptr d => uptoBulk d + 1
  | .slice elems spare => uptoBulkAll elems + uptoBulkAll spare + 1
  | .agg parts => uptoBulkAll parts + 1
  | .iface _ d => uptoBulk d + 1
  | .map entries => uptoBulkEntries entries + 1
  | .held _ => 1
def uptoBulkAll {H : Type} : List (DataW H) → Nat
  | [] => 0
  | d :: r => uptoBulk d + uptoBulkAll r
def uptoBulkEntries {H : Type} : List (Lit × DataW H) → Nat
  | [] => 0
  | x :: r => uptoBulkEntry x + uptoBulkEntries r
def uptoBulkEntry {H : Type} : Lit × DataW H → Nat
  | (.string bytes, d) => bytes.length + uptoBulk d + 1
  | (_, d) => uptoBulk d + 1
 end
def uptoSmall : (H : Type) → List (DataW H) → Bool := fun _ ds => decide (uptoBulkAll ds ≤ 1048576)
def OpenSpec.upto (s : _root_.Go.ChangeSpec) : _root_.Go.OpenSpec := { _root_.Go.OpenSpec.ofChange s with cond := some uptoSmall }

/-- 'laws.FnExactCharRight', WHERE WHAT IT READS IS OF BULK AT MOST 1048576: true; the input reads as it did. -/
def fnExactCharRightUptoRow : OpenClaim := { program := "ytpkhdfddbcpciaa", sum := "690b5a445a47ed61969779332a846203e1b2f8cc15b08c278238403fc7f03f13", func := "loop.example/g00352/laws.FnExactCharRight", spec := "fnExactCharRight", apart := false, narrowed := true }
def FnExactCharRightUptoSaid : Prop := fnExactCharRightUptoRow.holds Try.pinned (OpenSpec.upto fnExactCharRightSpec)

/-- 'laws.FnExactRunes', WHERE WHAT IT READS IS OF BULK AT MOST 1048576: true; the input reads as it did. -/
def fnExactRunesUptoRow : OpenClaim := { program := "ytpkhdfddbcpciaa", sum := "690b5a445a47ed61969779332a846203e1b2f8cc15b08c278238403fc7f03f13", func := "loop.example/g00352/laws.FnExactRunes", spec := "fnExactRunes", apart := false, narrowed := true }
def FnExactRunesUptoSaid : Prop := fnExactRunesUptoRow.holds Try.pinned (OpenSpec.upto fnExactRunesSpec)

/-- 'laws.FnExactUtf', WHERE WHAT IT READS IS OF BULK AT MOST 1048576: true; the input reads as it did. -/
def fnExactUtfUptoRow : OpenClaim := { program := "ytpkhdfddbcpciaa", sum := "690b5a445a47ed61969779332a846203e1b2f8cc15b08c278238403fc7f03f13", func := "loop.example/g00352/laws.FnExactUtf", spec := "fnExactUtf", apart := false, narrowed := true }
def FnExactUtfUptoSaid : Prop := fnExactUtfUptoRow.holds Try.pinned (OpenSpec.upto fnExactUtfSpec)

/-- 'laws.FnExactEntOf', WHERE WHAT IT READS IS OF BULK AT MOST 1048576: true; the input reads as it did. -/
def fnExactEntOfUptoRow : OpenClaim := { program := "ytpkhdfddbcpciaa", sum := "690b5a445a47ed61969779332a846203e1b2f8cc15b08c278238403fc7f03f13", func := "loop.example/g00352/laws.FnExactEntOf", spec := "fnExactEntOf", apart := false, narrowed := true }
def FnExactEntOfUptoSaid : Prop := fnExactEntOfUptoRow.holds Try.pinned (OpenSpec.upto fnExactEntOfSpec)

/-- 'laws.FnExactAttOf', WHERE WHAT IT READS IS OF BULK AT MOST 1048576: true; the input reads as it did. -/
def fnExactAttOfUptoRow : OpenClaim := { program := "ytpkhdfddbcpciaa", sum := "690b5a445a47ed61969779332a846203e1b2f8cc15b08c278238403fc7f03f13", func := "loop.example/g00352/laws.FnExactAttOf", spec := "fnExactAttOf", apart := false, narrowed := true }
def FnExactAttOfUptoSaid : Prop := fnExactAttOfUptoRow.holds Try.pinned (OpenSpec.upto fnExactAttOfSpec)

end Rows
end Go.Proofs.Ytpkhdfddbcpciaa
