/-
  No cell of these rows narrows 'for every input' (looked for: loops, veiled, ifaces, maps, wideKeys, modest, calm, conditions, laid).
  DERIVED. THE GIVEN ROWS OF THIS SEAT. 8 by the template 'for every input the law returns true; each argument reads behind the call as it read before'; 0 by the template 'total and deterministic' (their statements: YtilbefdeanhnpaaTotals.lean).
  GIVEN WITH THE SEED: the statements are not yours to turn. If you find one false, say at which input.
  Laid BY PROGRAM, IN A SANDBOX (cutbox-rows.mjs): the forced cells as the released guide's own fill.sh prints them over the translation 7250c31f601e339a… (all of the seat's roots in one cut). By AI agents, Wed Nov 11 2026. No macro, syntax, notation, axiom, sorry.
-/
import Derived.Test.YtilbefdeanhnpaaChecked
import GoSem.Claim
import GoSem.ClaimJoined
import GoSem.ClaimMapViews
import Derived.JoinedTies
import Derived.KernelRfl
namespace Go.Proofs.Ytilbefdeanhnpaa
/- THE CELL 'sum', in the pinned program and in every row, IS THE sha256 OF THE DUMP (.gsa) THAT YtilbefdeanhnpaaProg.lean LOADS. Nothing in Lean hashes anything: it is a label: what it is worth is what the hold of that sum in a sandbox is worth. -/
noncomputable def Try.pinned : Pinned := { name := "ytilbefdeanhnpaa", sum := "7250c31f601e339a3212cb344b9bdb7ecb2278ffbca4720096a717bd49d5d187", checked := Try.checked }
namespace Rows
def none {H : Type} : Left H := { results := [], args := [] }

/-- 'abacistlaw06.DecimalParses': WHATEVER THE INPUT: true; the input reads as it did. -/
def decimalParsesSpec : ChangeSpec := { name := "decimalParses", fn := fun _ => fun
  | [d1, d2, d3, d4] => { results := [.lit (.bool true)], args := [d1, d2, d3, d4] }
  | _ => none }
def decimalParsesRow : OpenClaim := { program := "ytilbefdeanhnpaa", sum := "7250c31f601e339a3212cb344b9bdb7ecb2278ffbca4720096a717bd49d5d187", func := "abacist/abacistlaw06.DecimalParses", spec := "decimalParses", apart := false }
def DecimalParsesSaid : Prop := decimalParsesRow.holds Try.pinned (OpenSpec.ofChange decimalParsesSpec)

/-- ITS FALSE NEIGHBOUR: 'it returns false'. Refute it at one input. -/
def decimalParsesWrong : ChangeSpec := { name := "decimalParses", fn := fun _ => fun
  | [d1, d2, d3, d4] => { results := [.lit (.bool false)], args := [d1, d2, d3, d4] }
  | _ => none }
def DecimalParsesWrongFalsely : Prop := decimalParsesRow.holds Try.pinned (OpenSpec.ofChange decimalParsesWrong)

/-- 'abacistlaw06.DecimalPrints': WHATEVER THE INPUT: true; the input reads as it did. -/
def decimalPrintsSpec : ChangeSpec := { name := "decimalPrints", fn := fun _ => fun
  | [d] => { results := [.lit (.bool true)], args := [d] }
  | _ => none }
def decimalPrintsRow : OpenClaim := { program := "ytilbefdeanhnpaa", sum := "7250c31f601e339a3212cb344b9bdb7ecb2278ffbca4720096a717bd49d5d187", func := "abacist/abacistlaw06.DecimalPrints", spec := "decimalPrints", apart := false }
def DecimalPrintsSaid : Prop := decimalPrintsRow.holds Try.pinned (OpenSpec.ofChange decimalPrintsSpec)

/-- ITS FALSE NEIGHBOUR: 'it returns false'. Refute it at one input. -/
def decimalPrintsWrong : ChangeSpec := { name := "decimalPrints", fn := fun _ => fun
  | [d] => { results := [.lit (.bool false)], args := [d] }
  | _ => none }
def DecimalPrintsWrongFalsely : Prop := decimalPrintsRow.holds Try.pinned (OpenSpec.ofChange decimalPrintsWrong)

/-- 'abacistlaw06.DecimalTrims': WHATEVER THE INPUT: true; the input reads as it did. -/
def decimalTrimsSpec : ChangeSpec := { name := "decimalTrims", fn := fun _ => fun
  | [d] => { results := [.lit (.bool true)], args := [d] }
  | _ => none }
def decimalTrimsRow : OpenClaim := { program := "ytilbefdeanhnpaa", sum := "7250c31f601e339a3212cb344b9bdb7ecb2278ffbca4720096a717bd49d5d187", func := "abacist/abacistlaw06.DecimalTrims", spec := "decimalTrims", apart := false }
def DecimalTrimsSaid : Prop := decimalTrimsRow.holds Try.pinned (OpenSpec.ofChange decimalTrimsSpec)

/-- ITS FALSE NEIGHBOUR: 'it returns false'. Refute it at one input. -/
def decimalTrimsWrong : ChangeSpec := { name := "decimalTrims", fn := fun _ => fun
  | [d] => { results := [.lit (.bool false)], args := [d] }
  | _ => none }
def DecimalTrimsWrongFalsely : Prop := decimalTrimsRow.holds Try.pinned (OpenSpec.ofChange decimalTrimsWrong)

/-- 'abacistlaw06.DecimalRow': WHATEVER THE INPUT: true; the input reads as it did. -/
def decimalRowSpec : ChangeSpec := { name := "decimalRow", fn := fun _ => fun
  | [d1, d2, d3] => { results := [.lit (.bool true)], args := [d1, d2, d3] }
  | _ => none }
def decimalRowRow : OpenClaim := { program := "ytilbefdeanhnpaa", sum := "7250c31f601e339a3212cb344b9bdb7ecb2278ffbca4720096a717bd49d5d187", func := "abacist/abacistlaw06.DecimalRow", spec := "decimalRow", apart := false }
def DecimalRowSaid : Prop := decimalRowRow.holds Try.pinned (OpenSpec.ofChange decimalRowSpec)

/-- ITS FALSE NEIGHBOUR: 'it returns false'. Refute it at one input. -/
def decimalRowWrong : ChangeSpec := { name := "decimalRow", fn := fun _ => fun
  | [d1, d2, d3] => { results := [.lit (.bool false)], args := [d1, d2, d3] }
  | _ => none }
def DecimalRowWrongFalsely : Prop := decimalRowRow.holds Try.pinned (OpenSpec.ofChange decimalRowWrong)

/-- 'abacistlaw06.DecimalAdds': WHATEVER THE INPUT: true; the input reads as it did. -/
def decimalAddsSpec : ChangeSpec := { name := "decimalAdds", fn := fun _ => fun
  | [d1, d2] => { results := [.lit (.bool true)], args := [d1, d2] }
  | _ => none }
def decimalAddsRow : OpenClaim := { program := "ytilbefdeanhnpaa", sum := "7250c31f601e339a3212cb344b9bdb7ecb2278ffbca4720096a717bd49d5d187", func := "abacist/abacistlaw06.DecimalAdds", spec := "decimalAdds", apart := false }
def DecimalAddsSaid : Prop := decimalAddsRow.holds Try.pinned (OpenSpec.ofChange decimalAddsSpec)

/-- ITS FALSE NEIGHBOUR: 'it returns false'. Refute it at one input. -/
def decimalAddsWrong : ChangeSpec := { name := "decimalAdds", fn := fun _ => fun
  | [d1, d2] => { results := [.lit (.bool false)], args := [d1, d2] }
  | _ => none }
def DecimalAddsWrongFalsely : Prop := decimalAddsRow.holds Try.pinned (OpenSpec.ofChange decimalAddsWrong)

/-- 'abacistlaw06.DecimalTimes': WHATEVER THE INPUT: true; the input reads as it did. -/
def decimalTimesSpec : ChangeSpec := { name := "decimalTimes", fn := fun _ => fun
  | [d1, d2] => { results := [.lit (.bool true)], args := [d1, d2] }
  | _ => none }
def decimalTimesRow : OpenClaim := { program := "ytilbefdeanhnpaa", sum := "7250c31f601e339a3212cb344b9bdb7ecb2278ffbca4720096a717bd49d5d187", func := "abacist/abacistlaw06.DecimalTimes", spec := "decimalTimes", apart := false }
def DecimalTimesSaid : Prop := decimalTimesRow.holds Try.pinned (OpenSpec.ofChange decimalTimesSpec)

/-- ITS FALSE NEIGHBOUR: 'it returns false'. Refute it at one input. -/
def decimalTimesWrong : ChangeSpec := { name := "decimalTimes", fn := fun _ => fun
  | [d1, d2] => { results := [.lit (.bool false)], args := [d1, d2] }
  | _ => none }
def DecimalTimesWrongFalsely : Prop := decimalTimesRow.holds Try.pinned (OpenSpec.ofChange decimalTimesWrong)

/-- 'abacistlaw06.DecimalAligns': WHATEVER THE INPUT: true; the input reads as it did. -/
def decimalAlignsSpec : ChangeSpec := { name := "decimalAligns", fn := fun _ => fun
  | [d1, d2] => { results := [.lit (.bool true)], args := [d1, d2] }
  | _ => none }
def decimalAlignsRow : OpenClaim := { program := "ytilbefdeanhnpaa", sum := "7250c31f601e339a3212cb344b9bdb7ecb2278ffbca4720096a717bd49d5d187", func := "abacist/abacistlaw06.DecimalAligns", spec := "decimalAligns", apart := false }
def DecimalAlignsSaid : Prop := decimalAlignsRow.holds Try.pinned (OpenSpec.ofChange decimalAlignsSpec)

/-- ITS FALSE NEIGHBOUR: 'it returns false'. Refute it at one input. -/
def decimalAlignsWrong : ChangeSpec := { name := "decimalAligns", fn := fun _ => fun
  | [d1, d2] => { results := [.lit (.bool false)], args := [d1, d2] }
  | _ => none }
def DecimalAlignsWrongFalsely : Prop := decimalAlignsRow.holds Try.pinned (OpenSpec.ofChange decimalAlignsWrong)

/-- 'abacistlaw06.DecimalDigits': WHATEVER THE INPUT: true; the input reads as it did. -/
def decimalDigitsSpec : ChangeSpec := { name := "decimalDigits", fn := fun _ => fun
  | [d] => { results := [.lit (.bool true)], args := [d] }
  | _ => none }
def decimalDigitsRow : OpenClaim := { program := "ytilbefdeanhnpaa", sum := "7250c31f601e339a3212cb344b9bdb7ecb2278ffbca4720096a717bd49d5d187", func := "abacist/abacistlaw06.DecimalDigits", spec := "decimalDigits", apart := false }
def DecimalDigitsSaid : Prop := decimalDigitsRow.holds Try.pinned (OpenSpec.ofChange decimalDigitsSpec)

/-- ITS FALSE NEIGHBOUR: 'it returns false'. Refute it at one input. -/
def decimalDigitsWrong : ChangeSpec := { name := "decimalDigits", fn := fun _ => fun
  | [d] => { results := [.lit (.bool false)], args := [d] }
  | _ => none }
def DecimalDigitsWrongFalsely : Prop := decimalDigitsRow.holds Try.pinned (OpenSpec.ofChange decimalDigitsWrong)

/- THE SECOND FORM. 'bulk': how many values and letters a reading holds, each counted each time it is reached (what is shared counts as often as it is met; a slice's spare places count too). A statement '..UptoSaid' is the law's where the arguments, and the package variables that the reading takes, are together of bulk at most 1048576: NARROWER than '..Said'. Prove '..Said' where nothing that the law and all that it calls make is longer than what came in: it says more and counts as full. Else prove '..UptoSaid'. A law counts once. -/
mutual
def uptoBulk {H : Type} : DataW H → Nat
  | .lit (.string bytes) => bytes.length + 1
  | .lit _ => 1
  | .nil => 1
  | .ptr d => uptoBulk d + 1
  | .slice elems spare => uptoBulkAll elems + uptoBulkAll spare + 1
  | .agg parts => uptoBulkAll parts + 1
  | .iface _ d => uptoBulk d + 1
  | .map entries => uptoBulkEntries entries + 1
  | .held _ => 1
def uptoBulkAll {H : Type} : List (DataW H) → Nat
  | [] => 0
  | d :: r => uptoBulk d + uptoBulkAll r
def uptoBulkEntries {H : Type} : List (Lit × DataW H) → Nat
  | [] => 0
  | x :: r => uptoBulkEntry x + uptoBulkEntries r
def uptoBulkEntry {H : Type} : Lit × DataW H → Nat
  | (.string bytes, d) => bytes.length + uptoBulk d + 1
  | (_, d) => uptoBulk d + 1
 end
def uptoSmall : (H : Type) → List (DataW H) → Bool := fun _ ds => decide (uptoBulkAll ds ≤ 1048576)
def OpenSpec.upto (s : _root_.Go.ChangeSpec) : _root_.Go.OpenSpec := { _root_.Go.OpenSpec.ofChange s with cond := some uptoSmall }

/-- 'abacistlaw06.DecimalParses', WHERE WHAT IT READS IS OF BULK AT MOST 1048576: true; the input reads as it did. -/
def decimalParsesUptoRow : OpenClaim := { program := "ytilbefdeanhnpaa", sum := "7250c31f601e339a3212cb344b9bdb7ecb2278ffbca4720096a717bd49d5d187", func := "abacist/abacistlaw06.DecimalParses", spec := "decimalParses", apart := false, narrowed := true }
def DecimalParsesUptoSaid : Prop := decimalParsesUptoRow.holds Try.pinned (OpenSpec.upto decimalParsesSpec)

/-- 'abacistlaw06.DecimalPrints', WHERE WHAT IT READS IS OF BULK AT MOST 1048576: true; the input reads as it did. -/
def decimalPrintsUptoRow : OpenClaim := { program := "ytilbefdeanhnpaa", sum := "7250c31f601e339a3212cb344b9bdb7ecb2278ffbca4720096a717bd49d5d187", func := "abacist/abacistlaw06.DecimalPrints", spec := "decimalPrints", apart := false, narrowed := true }
def DecimalPrintsUptoSaid : Prop := decimalPrintsUptoRow.holds Try.pinned (OpenSpec.upto decimalPrintsSpec)

/-- 'abacistlaw06.DecimalTrims', WHERE WHAT IT READS IS OF BULK AT MOST 1048576: true; the input reads as it did. -/
def decimalTrimsUptoRow : OpenClaim := { program := "ytilbefdeanhnpaa", sum := "7250c31f601e339a3212cb344b9bdb7ecb2278ffbca4720096a717bd49d5d187", func := "abacist/abacistlaw06.DecimalTrims", spec := "decimalTrims", apart := false, narrowed := true }
def DecimalTrimsUptoSaid : Prop := decimalTrimsUptoRow.holds Try.pinned (OpenSpec.upto decimalTrimsSpec)

/-- 'abacistlaw06.DecimalRow', WHERE WHAT IT READS IS OF BULK AT MOST 1048576: true; the input reads as it did. -/
def decimalRowUptoRow : OpenClaim := { program := "ytilbefdeanhnpaa", sum := "7250c31f601e339a3212cb344b9bdb7ecb2278ffbca4720096a717bd49d5d187", func := "abacist/abacistlaw06.DecimalRow", spec := "decimalRow", apart := false, narrowed := true }
def DecimalRowUptoSaid : Prop := decimalRowUptoRow.holds Try.pinned (OpenSpec.upto decimalRowSpec)

/-- 'abacistlaw06.DecimalAdds', WHERE WHAT IT READS IS OF BULK AT MOST 1048576: true; the input reads as it did. -/
def decimalAddsUptoRow : OpenClaim := { program := "ytilbefdeanhnpaa", sum := "7250c31f601e339a3212cb344b9bdb7ecb2278ffbca4720096a717bd49d5d187", func := "abacist/abacistlaw06.DecimalAdds", spec := "decimalAdds", apart := false, narrowed := true }
def DecimalAddsUptoSaid : Prop := decimalAddsUptoRow.holds Try.pinned (OpenSpec.upto decimalAddsSpec)

/-- 'abacistlaw06.DecimalTimes', WHERE WHAT IT READS IS OF BULK AT MOST 1048576: true; the input reads as it did. -/
def decimalTimesUptoRow : OpenClaim := { program := "ytilbefdeanhnpaa", sum := "7250c31f601e339a3212cb344b9bdb7ecb2278ffbca4720096a717bd49d5d187", func := "abacist/abacistlaw06.DecimalTimes", spec := "decimalTimes", apart := false, narrowed := true }
def DecimalTimesUptoSaid : Prop := decimalTimesUptoRow.holds Try.pinned (OpenSpec.upto decimalTimesSpec)

/-- 'abacistlaw06.DecimalAligns', WHERE WHAT IT READS IS OF BULK AT MOST 1048576: true; the input reads as it did. -/
def decimalAlignsUptoRow : OpenClaim := { program := "ytilbefdeanhnpaa", sum := "7250c31f601e339a3212cb344b9bdb7ecb2278ffbca4720096a717bd49d5d187", func := "abacist/abacistlaw06.DecimalAligns", spec := "decimalAligns", apart := false, narrowed := true }
def DecimalAlignsUptoSaid : Prop := decimalAlignsUptoRow.holds Try.pinned (OpenSpec.upto decimalAlignsSpec)

/-- 'abacistlaw06.DecimalDigits', WHERE WHAT IT READS IS OF BULK AT MOST 1048576: true; the input reads as it did. -/
def decimalDigitsUptoRow : OpenClaim := { program := "ytilbefdeanhnpaa", sum := "7250c31f601e339a3212cb344b9bdb7ecb2278ffbca4720096a717bd49d5d187", func := "abacist/abacistlaw06.DecimalDigits", spec := "decimalDigits", apart := false, narrowed := true }
def DecimalDigitsUptoSaid : Prop := decimalDigitsUptoRow.holds Try.pinned (OpenSpec.upto decimalDigitsSpec)

end Rows
end Go.Proofs.Ytilbefdeanhnpaa
