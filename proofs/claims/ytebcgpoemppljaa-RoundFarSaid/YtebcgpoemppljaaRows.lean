/-
  No cell of these rows narrows 'for every input' (looked for: loops, veiled, ifaces, maps, wideKeys, modest, calm, conditions, laid).
  DERIVED. THE GIVEN ROWS OF THIS SEAT. 7 by the template 'for every input the law returns true; each argument reads behind the call as it read before'; 0 by the template 'total and deterministic' (their statements: YtebcgpoemppljaaTotals.lean).
  GIVEN WITH THE SEED: the statements are not yours to turn. If you find one false, say at which input.
  Laid BY PROGRAM, IN A SANDBOX (cutbox-rows.mjs): the forced cells as the released guide's own fill.sh prints them over the translation b74a6a47c51f4e55… (all of the seat's roots in one cut). By AI agents, Wed Nov 11 2026. No macro, syntax, notation, axiom, sorry.
-/
import Derived.Test.YtebcgpoemppljaaChecked
import GoSem.Claim
import GoSem.ClaimJoined
import GoSem.ClaimMapViews
import Derived.JoinedTies
import Derived.KernelRfl
namespace Go.Proofs.Ytebcgpoemppljaa
/- THE CELL 'sum', in the pinned program and in every row, IS THE sha256 OF THE DUMP (.gsa) THAT YtebcgpoemppljaaProg.lean LOADS. Nothing in Lean hashes anything: it is a label: what it is worth is what the hold of that sum in a sandbox is worth. -/
noncomputable def Try.pinned : Pinned := { name := "ytebcgpoemppljaa", sum := "b74a6a47c51f4e55e168e6063ad3c0ab827ab2cdda863c57bf4cf28cfb26c0de", checked := Try.checked }
namespace Rows
def none {H : Type} : Left H := { results := [], args := [] }

/-- 'abacistlaw07.RoundTo': WHATEVER THE INPUT: true; the input reads as it did. -/
def roundToSpec : ChangeSpec := { name := "roundTo", fn := fun _ => fun
  | [d1, d2, d3] => { results := [.lit (.bool true)], args := [d1, d2, d3] }
  | _ => none }
def roundToRow : OpenClaim := { program := "ytebcgpoemppljaa", sum := "b74a6a47c51f4e55e168e6063ad3c0ab827ab2cdda863c57bf4cf28cfb26c0de", func := "abacist/abacistlaw07.RoundTo", spec := "roundTo", apart := false }
def RoundToSaid : Prop := roundToRow.holds Try.pinned (OpenSpec.ofChange roundToSpec)

/-- ITS FALSE NEIGHBOUR: 'it returns false'. Refute it at one input. -/
def roundToWrong : ChangeSpec := { name := "roundTo", fn := fun _ => fun
  | [d1, d2, d3] => { results := [.lit (.bool false)], args := [d1, d2, d3] }
  | _ => none }
def RoundToWrongFalsely : Prop := roundToRow.holds Try.pinned (OpenSpec.ofChange roundToWrong)

/-- 'abacistlaw07.RoundExact': WHATEVER THE INPUT: true; the input reads as it did. -/
def roundExactSpec : ChangeSpec := { name := "roundExact", fn := fun _ => fun
  | [d1, d2, d3, d4] => { results := [.lit (.bool true)], args := [d1, d2, d3, d4] }
  | _ => none }
def roundExactRow : OpenClaim := { program := "ytebcgpoemppljaa", sum := "b74a6a47c51f4e55e168e6063ad3c0ab827ab2cdda863c57bf4cf28cfb26c0de", func := "abacist/abacistlaw07.RoundExact", spec := "roundExact", apart := false }
def RoundExactSaid : Prop := roundExactRow.holds Try.pinned (OpenSpec.ofChange roundExactSpec)

/-- ITS FALSE NEIGHBOUR: 'it returns false'. Refute it at one input. -/
def roundExactWrong : ChangeSpec := { name := "roundExact", fn := fun _ => fun
  | [d1, d2, d3, d4] => { results := [.lit (.bool false)], args := [d1, d2, d3, d4] }
  | _ => none }
def RoundExactWrongFalsely : Prop := roundExactRow.holds Try.pinned (OpenSpec.ofChange roundExactWrong)

/-- 'abacistlaw07.RoundRow': WHATEVER THE INPUT: true; the input reads as it did. -/
def roundRowSpec : ChangeSpec := { name := "roundRow", fn := fun _ => fun
  | [d1, d2, d3, d4] => { results := [.lit (.bool true)], args := [d1, d2, d3, d4] }
  | _ => none }
def roundRowRow : OpenClaim := { program := "ytebcgpoemppljaa", sum := "b74a6a47c51f4e55e168e6063ad3c0ab827ab2cdda863c57bf4cf28cfb26c0de", func := "abacist/abacistlaw07.RoundRow", spec := "roundRow", apart := false }
def RoundRowSaid : Prop := roundRowRow.holds Try.pinned (OpenSpec.ofChange roundRowSpec)

/-- ITS FALSE NEIGHBOUR: 'it returns false'. Refute it at one input. -/
def roundRowWrong : ChangeSpec := { name := "roundRow", fn := fun _ => fun
  | [d1, d2, d3, d4] => { results := [.lit (.bool false)], args := [d1, d2, d3, d4] }
  | _ => none }
def RoundRowWrongFalsely : Prop := roundRowRow.holds Try.pinned (OpenSpec.ofChange roundRowWrong)

/-- 'abacistlaw07.RoundFar': WHATEVER THE INPUT: true; the input reads as it did. -/
def roundFarSpec : ChangeSpec := { name := "roundFar", fn := fun _ => fun
  | [d1, d2, d3] => { results := [.lit (.bool true)], args := [d1, d2, d3] }
  | _ => none }
def roundFarRow : OpenClaim := { program := "ytebcgpoemppljaa", sum := "b74a6a47c51f4e55e168e6063ad3c0ab827ab2cdda863c57bf4cf28cfb26c0de", func := "abacist/abacistlaw07.RoundFar", spec := "roundFar", apart := false }
def RoundFarSaid : Prop := roundFarRow.holds Try.pinned (OpenSpec.ofChange roundFarSpec)

/-- ITS FALSE NEIGHBOUR: 'it returns false'. Refute it at one input. -/
def roundFarWrong : ChangeSpec := { name := "roundFar", fn := fun _ => fun
  | [d1, d2, d3] => { results := [.lit (.bool false)], args := [d1, d2, d3] }
  | _ => none }
def RoundFarWrongFalsely : Prop := roundFarRow.holds Try.pinned (OpenSpec.ofChange roundFarWrong)

/-- 'abacistlaw07.RoundMirror': WHATEVER THE INPUT: true; the input reads as it did. -/
def roundMirrorSpec : ChangeSpec := { name := "roundMirror", fn := fun _ => fun
  | [d1, d2, d3] => { results := [.lit (.bool true)], args := [d1, d2, d3] }
  | _ => none }
def roundMirrorRow : OpenClaim := { program := "ytebcgpoemppljaa", sum := "b74a6a47c51f4e55e168e6063ad3c0ab827ab2cdda863c57bf4cf28cfb26c0de", func := "abacist/abacistlaw07.RoundMirror", spec := "roundMirror", apart := false }
def RoundMirrorSaid : Prop := roundMirrorRow.holds Try.pinned (OpenSpec.ofChange roundMirrorSpec)

/-- ITS FALSE NEIGHBOUR: 'it returns false'. Refute it at one input. -/
def roundMirrorWrong : ChangeSpec := { name := "roundMirror", fn := fun _ => fun
  | [d1, d2, d3] => { results := [.lit (.bool false)], args := [d1, d2, d3] }
  | _ => none }
def RoundMirrorWrongFalsely : Prop := roundMirrorRow.holds Try.pinned (OpenSpec.ofChange roundMirrorWrong)

/-- 'abacistlaw07.RoundClamps': WHATEVER THE INPUT: true; the input reads as it did. -/
def roundClampsSpec : ChangeSpec := { name := "roundClamps", fn := fun _ => fun
  | [d1, d2, d3] => { results := [.lit (.bool true)], args := [d1, d2, d3] }
  | _ => none }
def roundClampsRow : OpenClaim := { program := "ytebcgpoemppljaa", sum := "b74a6a47c51f4e55e168e6063ad3c0ab827ab2cdda863c57bf4cf28cfb26c0de", func := "abacist/abacistlaw07.RoundClamps", spec := "roundClamps", apart := false }
def RoundClampsSaid : Prop := roundClampsRow.holds Try.pinned (OpenSpec.ofChange roundClampsSpec)

/-- ITS FALSE NEIGHBOUR: 'it returns false'. Refute it at one input. -/
def roundClampsWrong : ChangeSpec := { name := "roundClamps", fn := fun _ => fun
  | [d1, d2, d3] => { results := [.lit (.bool false)], args := [d1, d2, d3] }
  | _ => none }
def RoundClampsWrongFalsely : Prop := roundClampsRow.holds Try.pinned (OpenSpec.ofChange roundClampsWrong)

/-- 'abacistlaw07.RoundNames': WHATEVER THE INPUT: true; the input reads as it did. -/
def roundNamesSpec : ChangeSpec := { name := "roundNames", fn := fun _ => fun
  | [d1, d2] => { results := [.lit (.bool true)], args := [d1, d2] }
  | _ => none }
def roundNamesRow : OpenClaim := { program := "ytebcgpoemppljaa", sum := "b74a6a47c51f4e55e168e6063ad3c0ab827ab2cdda863c57bf4cf28cfb26c0de", func := "abacist/abacistlaw07.RoundNames", spec := "roundNames", apart := false }
def RoundNamesSaid : Prop := roundNamesRow.holds Try.pinned (OpenSpec.ofChange roundNamesSpec)

/-- ITS FALSE NEIGHBOUR: 'it returns false'. Refute it at one input. -/
def roundNamesWrong : ChangeSpec := { name := "roundNames", fn := fun _ => fun
  | [d1, d2] => { results := [.lit (.bool false)], args := [d1, d2] }
  | _ => none }
def RoundNamesWrongFalsely : Prop := roundNamesRow.holds Try.pinned (OpenSpec.ofChange roundNamesWrong)

/- THE SECOND FORM. 'bulk': how many values and letters a reading holds, each counted each time it is reached (what is shared counts as often as it is met; a slice's spare places count too). A statement '..UptoSaid' is the law's where the arguments, and the package variables that the reading takes, are together of bulk at most 1048576: NARROWER than '..Said'. Prove '..Said' where nothing that the law and all that it calls make is longer than what came in: it says more and counts as full. Else prove '..UptoSaid'. A law counts once. -/
mutual
def uptoBulk {H : Type} : DataW H → Nat
  | .lit (.string bytes) => bytes.length + 1
  | .lit _ => 1
  | .nil => 1
  | .ptr d => uptoBulk d + 1
  | .slice elems spare => uptoBulkAll elems + uptoBulkAll spare + 1
  | .agg parts => uptoBulkAll parts + 1
  | .iface _ d => uptoBulk d + 1
  | .map entries => uptoBulkEntries entries + 1
  | .held _ => 1
def uptoBulkAll {H : Type} : List (DataW H) → Nat
  | [] => 0
  | d :: r => uptoBulk d + uptoBulkAll r
def uptoBulkEntries {H : Type} : List (Lit × DataW H) → Nat
  | [] => 0
  | x :: r => uptoBulkEntry x + uptoBulkEntries r
def uptoBulkEntry {H : Type} : Lit × DataW H → Nat
  | (.string bytes, d) => bytes.length + uptoBulk d + 1
  | (_, d) => uptoBulk d + 1
 end
def uptoSmall : (H : Type) → List (DataW H) → Bool := fun _ ds => decide (uptoBulkAll ds ≤ 1048576)
def OpenSpec.upto (s : _root_.Go.ChangeSpec) : _root_.Go.OpenSpec := { _root_.Go.OpenSpec.ofChange s with cond := some uptoSmall }

/-- 'abacistlaw07.RoundTo', WHERE WHAT IT READS IS OF BULK AT MOST 1048576: true; the input reads as it did. -/
def roundToUptoRow : OpenClaim := { program := "ytebcgpoemppljaa", sum := "b74a6a47c51f4e55e168e6063ad3c0ab827ab2cdda863c57bf4cf28cfb26c0de", func := "abacist/abacistlaw07.RoundTo", spec := "roundTo", apart := false, narrowed := true }
def RoundToUptoSaid : Prop := roundToUptoRow.holds Try.pinned (OpenSpec.upto roundToSpec)

/-- 'abacistlaw07.RoundExact', WHERE WHAT IT READS IS OF BULK AT MOST 1048576: true; the input reads as it did. -/
def roundExactUptoRow : OpenClaim := { program := "ytebcgpoemppljaa", sum := "b74a6a47c51f4e55e168e6063ad3c0ab827ab2cdda863c57bf4cf28cfb26c0de", func := "abacist/abacistlaw07.RoundExact", spec := "roundExact", apart := false, narrowed := true }
def RoundExactUptoSaid : Prop := roundExactUptoRow.holds Try.pinned (OpenSpec.upto roundExactSpec)

/-- 'abacistlaw07.RoundRow', WHERE WHAT IT READS IS OF BULK AT MOST 1048576: true; the input reads as it did. -/
def roundRowUptoRow : OpenClaim := { program := "ytebcgpoemppljaa", sum := "b74a6a47c51f4e55e168e6063ad3c0ab827ab2cdda863c57bf4cf28cfb26c0de", func := "abacist/abacistlaw07.RoundRow", spec := "roundRow", apart := false, narrowed := true }
def RoundRowUptoSaid : Prop := roundRowUptoRow.holds Try.pinned (OpenSpec.upto roundRowSpec)

/-- 'abacistlaw07.RoundFar', WHERE WHAT IT READS IS OF BULK AT MOST 1048576: true; the input reads as it did. -/
def roundFarUptoRow : OpenClaim := { program := "ytebcgpoemppljaa", sum := "b74a6a47c51f4e55e168e6063ad3c0ab827ab2cdda863c57bf4cf28cfb26c0de", func := "abacist/abacistlaw07.RoundFar", spec := "roundFar", apart := false, narrowed := true }
def RoundFarUptoSaid : Prop := roundFarUptoRow.holds Try.pinned (OpenSpec.upto roundFarSpec)

/-- 'abacistlaw07.RoundMirror', WHERE WHAT IT READS IS OF BULK AT MOST 1048576: true; the input reads as it did. -/
def roundMirrorUptoRow : OpenClaim := { program := "ytebcgpoemppljaa", sum := "b74a6a47c51f4e55e168e6063ad3c0ab827ab2cdda863c57bf4cf28cfb26c0de", func := "abacist/abacistlaw07.RoundMirror", spec := "roundMirror", apart := false, narrowed := true }
def RoundMirrorUptoSaid : Prop := roundMirrorUptoRow.holds Try.pinned (OpenSpec.upto roundMirrorSpec)

/-- 'abacistlaw07.RoundClamps', WHERE WHAT IT READS IS OF BULK AT MOST 1048576: true; the input reads as it did. -/
def roundClampsUptoRow : OpenClaim := { program := "ytebcgpoemppljaa", sum := "b74a6a47c51f4e55e168e6063ad3c0ab827ab2cdda863c57bf4cf28cfb26c0de", func := "abacist/abacistlaw07.RoundClamps", spec := "roundClamps", apart := false, narrowed := true }
def RoundClampsUptoSaid : Prop := roundClampsUptoRow.holds Try.pinned (OpenSpec.upto roundClampsSpec)

/-- 'abacistlaw07.RoundNames', WHERE WHAT IT READS IS OF BULK AT MOST 1048576: true; the input reads as it did. -/
def roundNamesUptoRow : OpenClaim := { program := "ytebcgpoemppljaa", sum := "b74a6a47c51f4e55e168e6063ad3c0ab827ab2cdda863c57bf4cf28cfb26c0de", func := "abacist/abacistlaw07.RoundNames", spec := "roundNames", apart := false, narrowed := true }
def RoundNamesUptoSaid : Prop := roundNamesUptoRow.holds Try.pinned (OpenSpec.upto roundNamesSpec)

end Rows
end Go.Proofs.Ytebcgpoemppljaa
