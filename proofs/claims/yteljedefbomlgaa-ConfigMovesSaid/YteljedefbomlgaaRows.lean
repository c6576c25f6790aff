/-
  No cell of these rows narrows 'for every input' (looked for: loops, veiled, ifaces, maps, wideKeys, modest, calm, conditions, laid).
  DERIVED. THE GIVEN ROWS OF THIS SEAT. 5 by the template 'for every input the law returns true; each argument reads behind the call as it read before'; 0 by the template 'total and deterministic' (their statements: YteljedefbomlgaaTotals.lean).
  GIVEN WITH THE SEED: the statements are not yours to turn. If you find one false, say at which input.
  Laid BY PROGRAM, IN A SANDBOX (cutbox-rows.mjs): the forced cells as the released guide's own fill.sh prints them over the translation a7c72b6ed8a7f651… (all of the seat's roots in one cut). By AI agents, Wed Nov 11 2026. No macro, syntax, notation, axiom, sorry.
-/
import Derived.Test.YteljedefbomlgaaChecked
import GoSem.Claim
import GoSem.ClaimJoined
import GoSem.ClaimMapViews
import Derived.JoinedTies
import Derived.KernelRfl
namespace Go.Proofs.Yteljedefbomlgaa
/- THE CELL 'sum', in the pinned program and in every row, IS THE sha256 OF THE DUMP (.gsa) THAT YteljedefbomlgaaProg.lean LOADS. Nothing in Lean hashes anything: it is a label: what it is worth is what the hold of that sum in a sandbox is worth. -/
noncomputable def Try.pinned : Pinned := { name := "yteljedefbomlgaa", sum := "a7c72b6ed8a7f6512b3dfa791b368aa2eb19046973d116ea5ee90898b54f3279", checked := Try.checked }
namespace Rows
def none {H : Type} : Left H := { results := [], args := [] }

/-- 'abacistlaw13.ConfigValues': WHATEVER THE INPUT: true; the input reads as it did. -/
def configValuesSpec : ChangeSpec := { name := "configValues", fn := fun _ => fun
  | [d1, d2] => { results := [.lit (.bool true)], args := [d1, d2] }
  | _ => none }
def configValuesRow : OpenClaim := { program := "yteljedefbomlgaa", sum := "a7c72b6ed8a7f6512b3dfa791b368aa2eb19046973d116ea5ee90898b54f3279", func := "abacist/abacistlaw13.ConfigValues", spec := "configValues", apart := false }
def ConfigValuesSaid : Prop := configValuesRow.holds Try.pinned (OpenSpec.ofChange configValuesSpec)

/-- ITS FALSE NEIGHBOUR: 'it returns false'. Refute it at one input. -/
def configValuesWrong : ChangeSpec := { name := "configValues", fn := fun _ => fun
  | [d1, d2] => { results := [.lit (.bool false)], args := [d1, d2] }
  | _ => none }
def ConfigValuesWrongFalsely : Prop := configValuesRow.holds Try.pinned (OpenSpec.ofChange configValuesWrong)

/-- 'abacistlaw13.ConfigMoves': WHATEVER THE INPUT: true; the input reads as it did. -/
def configMovesSpec : ChangeSpec := { name := "configMoves", fn := fun _ => fun
  | [d1, d2, d3] => { results := [.lit (.bool true)], args := [d1, d2, d3] }
  | _ => none }
def configMovesRow : OpenClaim := { program := "yteljedefbomlgaa", sum := "a7c72b6ed8a7f6512b3dfa791b368aa2eb19046973d116ea5ee90898b54f3279", func := "abacist/abacistlaw13.ConfigMoves", spec := "configMoves", apart := false }
def ConfigMovesSaid : Prop := configMovesRow.holds Try.pinned (OpenSpec.ofChange configMovesSpec)

/-- ITS FALSE NEIGHBOUR: 'it returns false'. Refute it at one input. -/
def configMovesWrong : ChangeSpec := { name := "configMoves", fn := fun _ => fun
  | [d1, d2, d3] => { results := [.lit (.bool false)], args := [d1, d2, d3] }
  | _ => none }
def ConfigMovesWrongFalsely : Prop := configMovesRow.holds Try.pinned (OpenSpec.ofChange configMovesWrong)

/-- 'abacistlaw13.ConfigFits': WHATEVER THE INPUT: true; the input reads as it did. -/
def configFitsSpec : ChangeSpec := { name := "configFits", fn := fun _ => fun
  | [d1, d2] => { results := [.lit (.bool true)], args := [d1, d2] }
  | _ => none }
def configFitsRow : OpenClaim := { program := "yteljedefbomlgaa", sum := "a7c72b6ed8a7f6512b3dfa791b368aa2eb19046973d116ea5ee90898b54f3279", func := "abacist/abacistlaw13.ConfigFits", spec := "configFits", apart := false }
def ConfigFitsSaid : Prop := configFitsRow.holds Try.pinned (OpenSpec.ofChange configFitsSpec)

/-- ITS FALSE NEIGHBOUR: 'it returns false'. Refute it at one input. -/
def configFitsWrong : ChangeSpec := { name := "configFits", fn := fun _ => fun
  | [d1, d2] => { results := [.lit (.bool false)], args := [d1, d2] }
  | _ => none }
def ConfigFitsWrongFalsely : Prop := configFitsRow.holds Try.pinned (OpenSpec.ofChange configFitsWrong)

/-- 'abacistlaw13.ConfigBounds': WHATEVER THE INPUT: true; the input reads as it did. -/
def configBoundsSpec : ChangeSpec := { name := "configBounds", fn := fun _ => fun
  | [d1, d2, d3] => { results := [.lit (.bool true)], args := [d1, d2, d3] }
  | _ => none }
def configBoundsRow : OpenClaim := { program := "yteljedefbomlgaa", sum := "a7c72b6ed8a7f6512b3dfa791b368aa2eb19046973d116ea5ee90898b54f3279", func := "abacist/abacistlaw13.ConfigBounds", spec := "configBounds", apart := false }
def ConfigBoundsSaid : Prop := configBoundsRow.holds Try.pinned (OpenSpec.ofChange configBoundsSpec)

/-- ITS FALSE NEIGHBOUR: 'it returns false'. Refute it at one input. -/
def configBoundsWrong : ChangeSpec := { name := "configBounds", fn := fun _ => fun
  | [d1, d2, d3] => { results := [.lit (.bool false)], args := [d1, d2, d3] }
  | _ => none }
def ConfigBoundsWrongFalsely : Prop := configBoundsRow.holds Try.pinned (OpenSpec.ofChange configBoundsWrong)

/-- 'abacistlaw13.ConfigSigned': WHATEVER THE INPUT: true; the input reads as it did. -/
def configSignedSpec : ChangeSpec := { name := "configSigned", fn := fun _ => fun
  | [d] => { results := [.lit (.bool true)], args := [d] }
  | _ => none }
def configSignedRow : OpenClaim := { program := "yteljedefbomlgaa", sum := "a7c72b6ed8a7f6512b3dfa791b368aa2eb19046973d116ea5ee90898b54f3279", func := "abacist/abacistlaw13.ConfigSigned", spec := "configSigned", apart := false }
def ConfigSignedSaid : Prop := configSignedRow.holds Try.pinned (OpenSpec.ofChange configSignedSpec)

/-- ITS FALSE NEIGHBOUR: 'it returns false'. Refute it at one input. -/
def configSignedWrong : ChangeSpec := { name := "configSigned", fn := fun _ => fun
  | [d] => { results := [.lit (.bool false)], args := [d] }
  | _ => none }
def ConfigSignedWrongFalsely : Prop := configSignedRow.holds Try.pinned (OpenSpec.ofChange configSignedWrong)

/- THE SECOND FORM. 'bulk': how many values and letters a reading holds, each counted each time it is reached (what is shared counts as often as it is met; a slice's spare places count too). A statement '..UptoSaid' is the law's where the arguments, and the package variables that the reading takes, are together of bulk at most 1048576: NARROWER than '..Said'. Prove '..Said' where nothing that the law and all that it calls make is longer than what came in: it says more and counts as full. Else prove '..UptoSaid'. A law counts once. -/
mutual
def uptoBulk {H : Type} : DataW H → Nat
  | .lit (.string bytes) => bytes.length + 1
  | .lit _ => 1
  | .nil => 1
  | .ptr d => uptoBulk d + 1
  | .slice elems spare => uptoBulkAll elems + uptoBulkAll spare + 1
  | .agg parts => uptoBulkAll parts + 1
  | .iface _ d => uptoBulk d + 1
  | .map entries => uptoBulkEntries entries + 1
  | .held _ => 1
def uptoBulkAll {H : Type} : List (DataW H) → Nat
  | [] => 0
  | d :: r => uptoBulk d + uptoBulkAll r
def uptoBulkEntries {H : Type} : List (Lit × DataW H) → Nat
  | [] => 0
  | x :: r => uptoBulkEntry x + uptoBulkEntries r
def uptoBulkEntry {H : Type} : Lit × DataW H → Nat
  | (.string bytes, d) => bytes.length + uptoBulk d + 1
  | (_, d) => uptoBulk d + 1
 end
def uptoSmall : (H : Type) → List (DataW H) → Bool := fun _ ds => decide (uptoBulkAll ds ≤ 1048576)
def OpenSpec.upto (s : _root_.Go.ChangeSpec) : _root_.Go.OpenSpec := { _root_.Go.OpenSpec.ofChange s with cond := some uptoSmall }

/-- 'abacistlaw13.ConfigValues', WHERE WHAT IT READS IS OF BULK AT MOST 1048576: true; the input reads as it did. -/
def configValuesUptoRow : OpenClaim := { program := "yteljedefbomlgaa", sum := "a7c72b6ed8a7f6512b3dfa791b368aa2eb19046973d116ea5ee90898b54f3279", func := "abacist/abacistlaw13.ConfigValues", spec := "configValues", apart := false, narrowed := true }
def ConfigValuesUptoSaid : Prop := configValuesUptoRow.holds Try.pinned (OpenSpec.upto configValuesSpec)

/-- 'abacistlaw13.ConfigMoves', WHERE WHAT IT READS IS OF BULK AT MOST 1048576: true; the input reads as it did. -/
def configMovesUptoRow : OpenClaim := { program := "yteljedefbomlgaa", sum := "a7c72b6ed8a7f6512b3dfa791b368aa2eb19046973d116ea5ee90898b54f3279", func := "abacist/abacistlaw13.ConfigMoves", spec := "configMoves", apart := false, narrowed := true }
def ConfigMovesUptoSaid : Prop := configMovesUptoRow.holds Try.pinned (OpenSpec.upto configMovesSpec)

/-- 'abacistlaw13.ConfigFits', WHERE WHAT IT READS IS OF BULK AT MOST 1048576: true; the input reads as it did. -/
def configFitsUptoRow : OpenClaim := { program := "yteljedefbomlgaa", sum := "a7c72b6ed8a7f6512b3dfa791b368aa2eb19046973d116ea5ee90898b54f3279", func := "abacist/abacistlaw13.ConfigFits", spec := "configFits", apart := false, narrowed := true }
def ConfigFitsUptoSaid : Prop := configFitsUptoRow.holds Try.pinned (OpenSpec.upto configFitsSpec)

/-- 'abacistlaw13.ConfigBounds', WHERE WHAT IT READS IS OF BULK AT MOST 1048576: true; the input reads as it did. -/
def configBoundsUptoRow : OpenClaim := { program := "yteljedefbomlgaa", sum := "a7c72b6ed8a7f6512b3dfa791b368aa2eb19046973d116ea5ee90898b54f3279", func := "abacist/abacistlaw13.ConfigBounds", spec := "configBounds", apart := false, narrowed := true }
def ConfigBoundsUptoSaid : Prop := configBoundsUptoRow.holds Try.pinned (OpenSpec.upto configBoundsSpec)

/-- 'abacistlaw13.ConfigSigned', WHERE WHAT IT READS IS OF BULK AT MOST 1048576: true; the input reads as it did. -/
def configSignedUptoRow : OpenClaim := { program := "yteljedefbomlgaa", sum := "a7c72b6ed8a7f6512b3dfa791b368aa2eb19046973d116ea5ee90898b54f3279", func := "abacist/abacistlaw13.ConfigSigned", spec := "configSigned", apart := false, narrowed := true }
def ConfigSignedUptoSaid : Prop := configSignedUptoRow.holds Try.pinned (OpenSpec.upto configSignedSpec)

end Rows
end Go.Proofs.Yteljedefbomlgaa
