/-
  No cell of these rows narrows 'for every input' (looked for: loops, veiled, ifaces, maps, wideKeys, modest, calm, conditions, laid).
  DERIVED. THE GIVEN ROWS OF THIS SEAT. 6 by the template 'for every input the law returns true; each argument reads behind the call as it read before'; 0 by the template 'total and deterministic' (their statements: YtaonjhhpiihejaaTotals.lean).
  GIVEN WITH THE SEED: the statements are not yours to turn. If you find one false, say at which input.
  Laid BY PROGRAM, IN A SANDBOX (cutbox-rows.mjs): the forced cells as the released guide's own fill.sh prints them over the translation c8ff490e93788119… (all of the seat's roots in one cut). By AI agents, Wed Nov 11 2026. No macro, syntax, notation, axiom, sorry.
-/
import Derived.Test.YtaonjhhpiihejaaChecked
import GoSem.Claim
import GoSem.ClaimJoined
import GoSem.ClaimMapViews
import Derived.JoinedTies
import Derived.KernelRfl
namespace Go.Proofs.Ytaonjhhpiihejaa
/- THE CELL 'sum', in the pinned program and in every row, IS THE sha256 OF THE DUMP (.gsa) THAT YtaonjhhpiihejaaProg.lean LOADS. Nothing in Lean hashes anything: it is a label: what it is worth is what the hold of that sum in a sandbox is worth. -/
noncomputable def Try.pinned : Pinned := { name := "ytaonjhhpiihejaa", sum := "c8ff490e93788119ed5728bf1a8d38af958ba16579307cf8a2512817c8e29c17", checked := Try.checked }
namespace Rows
def none {H : Type} : Left H := { results := [], args := [] }

/-- 'abacistlaw09.SystemNames': WHATEVER THE INPUT: true; the input reads as it did. -/
def systemNamesSpec : ChangeSpec := { name := "systemNames", fn := fun _ => fun
  | [d1, d2] => { results := [.lit (.bool true)], args := [d1, d2] }
  | _ => none }
def systemNamesRow : OpenClaim := { program := "ytaonjhhpiihejaa", sum := "c8ff490e93788119ed5728bf1a8d38af958ba16579307cf8a2512817c8e29c17", func := "abacist/abacistlaw09.SystemNames", spec := "systemNames", inPlace := ["internal/abi.NoEscape"], recurses := true, apart := false }
def SystemNamesSaid : Prop := systemNamesRow.holds Try.pinned (OpenSpec.ofChange systemNamesSpec)

/-- ITS FALSE NEIGHBOUR: 'it returns false'. Refute it at one input. -/
def systemNamesWrong : ChangeSpec := { name := "systemNames", fn := fun _ => fun
  | [d1, d2] => { results := [.lit (.bool false)], args := [d1, d2] }
  | _ => none }
def SystemNamesWrongFalsely : Prop := systemNamesRow.holds Try.pinned (OpenSpec.ofChange systemNamesWrong)

/-- 'abacistlaw09.SystemDigits': WHATEVER THE INPUT: true; the input reads as it did. -/
def systemDigitsSpec : ChangeSpec := { name := "systemDigits", fn := fun _ => fun
  | [d1, d2, d3, d4] => { results := [.lit (.bool true)], args := [d1, d2, d3, d4] }
  | _ => none }
def systemDigitsRow : OpenClaim := { program := "ytaonjhhpiihejaa", sum := "c8ff490e93788119ed5728bf1a8d38af958ba16579307cf8a2512817c8e29c17", func := "abacist/abacistlaw09.SystemDigits", spec := "systemDigits", inPlace := ["internal/abi.NoEscape"], apart := false }
def SystemDigitsSaid : Prop := systemDigitsRow.holds Try.pinned (OpenSpec.ofChange systemDigitsSpec)

/-- ITS FALSE NEIGHBOUR: 'it returns false'. Refute it at one input. -/
def systemDigitsWrong : ChangeSpec := { name := "systemDigits", fn := fun _ => fun
  | [d1, d2, d3, d4] => { results := [.lit (.bool false)], args := [d1, d2, d3, d4] }
  | _ => none }
def SystemDigitsWrongFalsely : Prop := systemDigitsRow.holds Try.pinned (OpenSpec.ofChange systemDigitsWrong)

/-- 'abacistlaw09.SystemShapes': WHATEVER THE INPUT: true; the input reads as it did. -/
def systemShapesSpec : ChangeSpec := { name := "systemShapes", fn := fun _ => fun
  | [d1, d2, d3] => { results := [.lit (.bool true)], args := [d1, d2, d3] }
  | _ => none }
def systemShapesRow : OpenClaim := { program := "ytaonjhhpiihejaa", sum := "c8ff490e93788119ed5728bf1a8d38af958ba16579307cf8a2512817c8e29c17", func := "abacist/abacistlaw09.SystemShapes", spec := "systemShapes", inPlace := ["internal/abi.NoEscape"], apart := false }
def SystemShapesSaid : Prop := systemShapesRow.holds Try.pinned (OpenSpec.ofChange systemShapesSpec)

/-- ITS FALSE NEIGHBOUR: 'it returns false'. Refute it at one input. -/
def systemShapesWrong : ChangeSpec := { name := "systemShapes", fn := fun _ => fun
  | [d1, d2, d3] => { results := [.lit (.bool false)], args := [d1, d2, d3] }
  | _ => none }
def SystemShapesWrongFalsely : Prop := systemShapesRow.holds Try.pinned (OpenSpec.ofChange systemShapesWrong)

/-- 'abacistlaw09.SystemReads': WHATEVER THE INPUT: true; the input reads as it did. -/
def systemReadsSpec : ChangeSpec := { name := "systemReads", fn := fun _ => fun
  | [d1, d2, d3, d4, d5, d6] => { results := [.lit (.bool true)], args := [d1, d2, d3, d4, d5, d6] }
  | _ => none }
def systemReadsRow : OpenClaim := { program := "ytaonjhhpiihejaa", sum := "c8ff490e93788119ed5728bf1a8d38af958ba16579307cf8a2512817c8e29c17", func := "abacist/abacistlaw09.SystemReads", spec := "systemReads", inPlace := ["internal/abi.NoEscape"], apart := false }
def SystemReadsSaid : Prop := systemReadsRow.holds Try.pinned (OpenSpec.ofChange systemReadsSpec)

/-- ITS FALSE NEIGHBOUR: 'it returns false'. Refute it at one input. -/
def systemReadsWrong : ChangeSpec := { name := "systemReads", fn := fun _ => fun
  | [d1, d2, d3, d4, d5, d6] => { results := [.lit (.bool false)], args := [d1, d2, d3, d4, d5, d6] }
  | _ => none }
def SystemReadsWrongFalsely : Prop := systemReadsRow.holds Try.pinned (OpenSpec.ofChange systemReadsWrong)

/-- 'abacistlaw09.SystemConverts': WHATEVER THE INPUT: true; the input reads as it did. -/
def systemConvertsSpec : ChangeSpec := { name := "systemConverts", fn := fun _ => fun
  | [d1, d2, d3, d4, d5] => { results := [.lit (.bool true)], args := [d1, d2, d3, d4, d5] }
  | _ => none }
def systemConvertsRow : OpenClaim := { program := "ytaonjhhpiihejaa", sum := "c8ff490e93788119ed5728bf1a8d38af958ba16579307cf8a2512817c8e29c17", func := "abacist/abacistlaw09.SystemConverts", spec := "systemConverts", inPlace := ["internal/abi.NoEscape"], apart := false }
def SystemConvertsSaid : Prop := systemConvertsRow.holds Try.pinned (OpenSpec.ofChange systemConvertsSpec)

/-- ITS FALSE NEIGHBOUR: 'it returns false'. Refute it at one input. -/
def systemConvertsWrong : ChangeSpec := { name := "systemConverts", fn := fun _ => fun
  | [d1, d2, d3, d4, d5] => { results := [.lit (.bool false)], args := [d1, d2, d3, d4, d5] }
  | _ => none }
def SystemConvertsWrongFalsely : Prop := systemConvertsRow.holds Try.pinned (OpenSpec.ofChange systemConvertsWrong)

/-- 'abacistlaw09.SystemOf': WHATEVER THE INPUT: true; the input reads as it did. -/
def systemOfSpec : ChangeSpec := { name := "systemOf", fn := fun _ => fun
  | [d1, d2] => { results := [.lit (.bool true)], args := [d1, d2] }
  | _ => none }
def systemOfRow : OpenClaim := { program := "ytaonjhhpiihejaa", sum := "c8ff490e93788119ed5728bf1a8d38af958ba16579307cf8a2512817c8e29c17", func := "abacist/abacistlaw09.SystemOf", spec := "systemOf", inPlace := ["internal/abi.NoEscape"], apart := false }
def SystemOfSaid : Prop := systemOfRow.holds Try.pinned (OpenSpec.ofChange systemOfSpec)

/-- ITS FALSE NEIGHBOUR: 'it returns false'. Refute it at one input. -/
def systemOfWrong : ChangeSpec := { name := "systemOf", fn := fun _ => fun
  | [d1, d2] => { results := [.lit (.bool false)], args := [d1, d2] }
  | _ => none }
def SystemOfWrongFalsely : Prop := systemOfRow.holds Try.pinned (OpenSpec.ofChange systemOfWrong)

/- THE SECOND FORM. 'bulk': how many values and letters a reading holds, each counted each time it is reached (what is shared counts as often as it is met; a slice's spare places count too). A statement '..UptoSaid' is the law's where the arguments, and the package variables that the reading takes, are together of bulk at most 1048576: NARROWER than '..Said'. Prove '..Said' where nothing that the law and all that it calls make is longer than what came in: it says more and counts as full. Else prove '..UptoSaid'. A law counts once. -/
mutual
def uptoBulk {H : Type} : DataW H → Nat
  | .lit (.string bytes) => bytes.length + 1
  | .lit _ => 1
  | .nil => 1
  | .ptr d => uptoBulk d + 1
  | .slice elems spare => uptoBulkAll elems + uptoBulkAll spare + 1
  | .agg parts => uptoBulkAll parts + 1
  | .iface _ d => uptoBulk d + 1
  | .map entries => uptoBulkEntries entries + 1
  | .held _ => 1
def uptoBulkAll {H : Type} : List (DataW H) → Nat
  | [] => 0
  | d :: r => uptoBulk d + uptoBulkAll r
def uptoBulkEntries {H : Type} : List (Lit × DataW H) → Nat
  | [] => 0
  | x :: r => uptoBulkEntry x + uptoBulkEntries r
def uptoBulkEntry {H : Type} : Lit × DataW H → Nat
  | (.string bytes, d) => bytes.length + uptoBulk d + 1
  | (_, d) => uptoBulk d + 1
 end
def uptoSmall : (H : Type) → List (DataW H) → Bool := fun _ ds => decide (uptoBulkAll ds ≤ 1048576)
def OpenSpec.upto (s : _root_.Go.ChangeSpec) : _root_.Go.OpenSpec := { _root_.Go.OpenSpec.ofChange s with cond := some uptoSmall }

/-- 'abacistlaw09.SystemNames', WHERE WHAT IT READS IS OF BULK AT MOST 1048576: true; the input reads as it did. -/
def systemNamesUptoRow : OpenClaim := { program := "ytaonjhhpiihejaa", sum := "c8ff490e93788119ed5728bf1a8d38af958ba16579307cf8a2512817c8e29c17", func := "abacist/abacistlaw09.SystemNames", spec := "systemNames", inPlace := ["internal/abi.NoEscape"], recurses := true, apart := false, narrowed := true }
def SystemNamesUptoSaid : Prop := systemNamesUptoRow.holds Try.pinned (OpenSpec.upto systemNamesSpec)

/-- 'abacistlaw09.SystemDigits', WHERE WHAT IT READS IS OF BULK AT MOST 1048576: true; the input reads as it did. -/
def systemDigitsUptoRow : OpenClaim := { program := "ytaonjhhpiihejaa", sum := "c8ff490e93788119ed5728bf1a8d38af958ba16579307cf8a2512817c8e29c17", func := "abacist/abacistlaw09.SystemDigits", spec := "systemDigits", inPlace := ["internal/abi.NoEscape"], apart := false, narrowed := true }
def SystemDigitsUptoSaid : Prop := systemDigitsUptoRow.holds Try.pinned (OpenSpec.upto systemDigitsSpec)

/-- 'abacistlaw09.SystemShapes', WHERE WHAT IT READS IS OF BULK AT MOST 1048576: true; the input reads as it did. -/
def systemShapesUptoRow : OpenClaim := { program := "ytaonjhhpiihejaa", sum := "c8ff490e93788119ed5728bf1a8d38af958ba16579307cf8a2512817c8e29c17", func := "abacist/abacistlaw09.SystemShapes", spec := "systemShapes", inPlace := ["internal/abi.NoEscape"], apart := false, narrowed := true }
def SystemShapesUptoSaid : Prop := systemShapesUptoRow.holds Try.pinned (OpenSpec.upto systemShapesSpec)

/-- 'abacistlaw09.SystemReads', WHERE WHAT IT READS IS OF BULK AT MOST 1048576: true; the input reads as it did. -/
def systemReadsUptoRow : OpenClaim := { program := "ytaonjhhpiihejaa", sum := "c8ff490e93788119ed5728bf1a8d38af958ba16579307cf8a2512817c8e29c17", func := "abacist/abacistlaw09.SystemReads", spec := "systemReads", inPlace := ["internal/abi.NoEscape"], apart := false, narrowed := true }
def SystemReadsUptoSaid : Prop := systemReadsUptoRow.holds Try.pinned (OpenSpec.upto systemReadsSpec)

/-- 'abacistlaw09.SystemConverts', WHERE WHAT IT READS IS OF BULK AT MOST 1048576: true; the input reads as it did. -/
def systemConvertsUptoRow : OpenClaim := { program := "ytaonjhhpiihejaa", sum := "c8ff490e93788119ed5728bf1a8d38af958ba16579307cf8a2512817c8e29c17", func := "abacist/abacistlaw09.SystemConverts", spec := "systemConverts", inPlace := ["internal/abi.NoEscape"], apart := false, narrowed := true }
def SystemConvertsUptoSaid : Prop := systemConvertsUptoRow.holds Try.pinned (OpenSpec.upto systemConvertsSpec)

/-- 'abacistlaw09.SystemOf', WHERE WHAT IT READS IS OF BULK AT MOST 1048576: true; the input reads as it did. -/
def systemOfUptoRow : OpenClaim := { program := "ytaonjhhpiihejaa", sum := "c8ff490e93788119ed5728bf1a8d38af958ba16579307cf8a2512817c8e29c17", func := "abacist/abacistlaw09.SystemOf", spec := "systemOf", inPlace := ["internal/abi.NoEscape"], apart := false, narrowed := true }
def SystemOfUptoSaid : Prop := systemOfUptoRow.holds Try.pinned (OpenSpec.upto systemOfSpec)

end Rows
end Go.Proofs.Ytaonjhhpiihejaa
