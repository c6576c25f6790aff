/-
  No cell of these rows narrows 'for every input' (looked for: loops, veiled, ifaces, maps, wideKeys, modest, calm, conditions, laid).
  DERIVED. THE GIVEN ROWS OF THIS SEAT. 7 by the template 'for every input the law returns true; each argument reads behind the call as it read before'; 0 by the template 'total and deterministic' (their statements: YtjpjikihbbigpaaTotals.lean).
  GIVEN WITH THE SEED: the statements are not yours to turn. If you find one false, say at which input.
  Laid BY PROGRAM, IN A SANDBOX (cutbox-rows.mjs): the forced cells as the released guide's own fill.sh prints them over the translation cd10a379b557f336… (all of the seat's roots in one cut). By AI agents, Wed Nov 11 2026. No macro, syntax, notation, axiom, sorry.
-/
import Derived.Test.YtjpjikihbbigpaaChecked
import GoSem.Claim
import GoSem.ClaimJoined
import GoSem.ClaimMapViews
import Derived.JoinedTies
import Derived.KernelRfl
namespace Go.Proofs.Ytjpjikihbbigpaa
/- THE CELL 'sum', in the pinned program and in every row, IS THE sha256 OF THE DUMP (.gsa) THAT YtjpjikihbbigpaaProg.lean LOADS. Nothing in Lean hashes anything: it is a label: what it is worth is what the hold of that sum in a sandbox is worth. -/
noncomputable def Try.pinned : Pinned := { name := "ytjpjikihbbigpaa", sum := "cd10a379b557f336fae4235f3fa902f1a56e5169d82ec3287bf717933171155d", checked := Try.checked }
namespace Rows
def none {H : Type} : Left H := { results := [], args := [] }

/-- 'abacistlaw01.UtfEncodes': WHATEVER THE INPUT: true; the input reads as it did. -/
def utfEncodesSpec : ChangeSpec := { name := "utfEncodes", fn := fun _ => fun
  | [d] => { results := [.lit (.bool true)], args := [d] }
  | _ => none }
def utfEncodesRow : OpenClaim := { program := "ytjpjikihbbigpaa", sum := "cd10a379b557f336fae4235f3fa902f1a56e5169d82ec3287bf717933171155d", func := "abacist/abacistlaw01.UtfEncodes", spec := "utfEncodes", apart := false }
def UtfEncodesSaid : Prop := utfEncodesRow.holds Try.pinned (OpenSpec.ofChange utfEncodesSpec)

/-- ITS FALSE NEIGHBOUR: 'it returns false'. Refute it at one input. -/
def utfEncodesWrong : ChangeSpec := { name := "utfEncodes", fn := fun _ => fun
  | [d] => { results := [.lit (.bool false)], args := [d] }
  | _ => none }
def UtfEncodesWrongFalsely : Prop := utfEncodesRow.holds Try.pinned (OpenSpec.ofChange utfEncodesWrong)

/-- 'abacistlaw01.UtfFirsts': WHATEVER THE INPUT: true; the input reads as it did. -/
def utfFirstsSpec : ChangeSpec := { name := "utfFirsts", fn := fun _ => fun
  | [d] => { results := [.lit (.bool true)], args := [d] }
  | _ => none }
def utfFirstsRow : OpenClaim := { program := "ytjpjikihbbigpaa", sum := "cd10a379b557f336fae4235f3fa902f1a56e5169d82ec3287bf717933171155d", func := "abacist/abacistlaw01.UtfFirsts", spec := "utfFirsts", apart := false }
def UtfFirstsSaid : Prop := utfFirstsRow.holds Try.pinned (OpenSpec.ofChange utfFirstsSpec)

/-- ITS FALSE NEIGHBOUR: 'it returns false'. Refute it at one input. -/
def utfFirstsWrong : ChangeSpec := { name := "utfFirsts", fn := fun _ => fun
  | [d] => { results := [.lit (.bool false)], args := [d] }
  | _ => none }
def UtfFirstsWrongFalsely : Prop := utfFirstsRow.holds Try.pinned (OpenSpec.ofChange utfFirstsWrong)

/-- 'abacistlaw01.UtfAll': WHATEVER THE INPUT: true; the input reads as it did. -/
def utfAllSpec : ChangeSpec := { name := "utfAll", fn := fun _ => fun
  | [d] => { results := [.lit (.bool true)], args := [d] }
  | _ => none }
def utfAllRow : OpenClaim := { program := "ytjpjikihbbigpaa", sum := "cd10a379b557f336fae4235f3fa902f1a56e5169d82ec3287bf717933171155d", func := "abacist/abacistlaw01.UtfAll", spec := "utfAll", apart := false }
def UtfAllSaid : Prop := utfAllRow.holds Try.pinned (OpenSpec.ofChange utfAllSpec)

/-- ITS FALSE NEIGHBOUR: 'it returns false'. Refute it at one input. -/
def utfAllWrong : ChangeSpec := { name := "utfAll", fn := fun _ => fun
  | [d] => { results := [.lit (.bool false)], args := [d] }
  | _ => none }
def UtfAllWrongFalsely : Prop := utfAllRow.holds Try.pinned (OpenSpec.ofChange utfAllWrong)

/-- 'abacistlaw01.UtfJoins': WHATEVER THE INPUT: true; the input reads as it did. -/
def utfJoinsSpec : ChangeSpec := { name := "utfJoins", fn := fun _ => fun
  | [d] => { results := [.lit (.bool true)], args := [d] }
  | _ => none }
def utfJoinsRow : OpenClaim := { program := "ytjpjikihbbigpaa", sum := "cd10a379b557f336fae4235f3fa902f1a56e5169d82ec3287bf717933171155d", func := "abacist/abacistlaw01.UtfJoins", spec := "utfJoins", inPlace := ["internal/abi.NoEscape"], apart := false }
def UtfJoinsSaid : Prop := utfJoinsRow.holds Try.pinned (OpenSpec.ofChange utfJoinsSpec)

/-- ITS FALSE NEIGHBOUR: 'it returns false'. Refute it at one input. -/
def utfJoinsWrong : ChangeSpec := { name := "utfJoins", fn := fun _ => fun
  | [d] => { results := [.lit (.bool false)], args := [d] }
  | _ => none }
def UtfJoinsWrongFalsely : Prop := utfJoinsRow.holds Try.pinned (OpenSpec.ofChange utfJoinsWrong)

/-- 'abacistlaw01.UtfCleans': WHATEVER THE INPUT: true; the input reads as it did. -/
def utfCleansSpec : ChangeSpec := { name := "utfCleans", fn := fun _ => fun
  | [d] => { results := [.lit (.bool true)], args := [d] }
  | _ => none }
def utfCleansRow : OpenClaim := { program := "ytjpjikihbbigpaa", sum := "cd10a379b557f336fae4235f3fa902f1a56e5169d82ec3287bf717933171155d", func := "abacist/abacistlaw01.UtfCleans", spec := "utfCleans", inPlace := ["internal/abi.NoEscape"], apart := false }
def UtfCleansSaid : Prop := utfCleansRow.holds Try.pinned (OpenSpec.ofChange utfCleansSpec)

/-- ITS FALSE NEIGHBOUR: 'it returns false'. Refute it at one input. -/
def utfCleansWrong : ChangeSpec := { name := "utfCleans", fn := fun _ => fun
  | [d] => { results := [.lit (.bool false)], args := [d] }
  | _ => none }
def UtfCleansWrongFalsely : Prop := utfCleansRow.holds Try.pinned (OpenSpec.ofChange utfCleansWrong)

/-- 'abacistlaw01.UtfTwo': WHATEVER THE INPUT: true; the input reads as it did. -/
def utfTwoSpec : ChangeSpec := { name := "utfTwo", fn := fun _ => fun
  | [d1, d2] => { results := [.lit (.bool true)], args := [d1, d2] }
  | _ => none }
def utfTwoRow : OpenClaim := { program := "ytjpjikihbbigpaa", sum := "cd10a379b557f336fae4235f3fa902f1a56e5169d82ec3287bf717933171155d", func := "abacist/abacistlaw01.UtfTwo", spec := "utfTwo", inPlace := ["internal/abi.NoEscape"], apart := false }
def UtfTwoSaid : Prop := utfTwoRow.holds Try.pinned (OpenSpec.ofChange utfTwoSpec)

/-- ITS FALSE NEIGHBOUR: 'it returns false'. Refute it at one input. -/
def utfTwoWrong : ChangeSpec := { name := "utfTwo", fn := fun _ => fun
  | [d1, d2] => { results := [.lit (.bool false)], args := [d1, d2] }
  | _ => none }
def UtfTwoWrongFalsely : Prop := utfTwoRow.holds Try.pinned (OpenSpec.ofChange utfTwoWrong)

/-- 'abacistlaw01.UtfRow': WHATEVER THE INPUT: true; the input reads as it did. -/
def utfRowSpec : ChangeSpec := { name := "utfRow", fn := fun _ => fun
  | [d1, d2] => { results := [.lit (.bool true)], args := [d1, d2] }
  | _ => none }
def utfRowRow : OpenClaim := { program := "ytjpjikihbbigpaa", sum := "cd10a379b557f336fae4235f3fa902f1a56e5169d82ec3287bf717933171155d", func := "abacist/abacistlaw01.UtfRow", spec := "utfRow", apart := false }
def UtfRowSaid : Prop := utfRowRow.holds Try.pinned (OpenSpec.ofChange utfRowSpec)

/-- ITS FALSE NEIGHBOUR: 'it returns false'. Refute it at one input. -/
def utfRowWrong : ChangeSpec := { name := "utfRow", fn := fun _ => fun
  | [d1, d2] => { results := [.lit (.bool false)], args := [d1, d2] }
  | _ => none }
def UtfRowWrongFalsely : Prop := utfRowRow.holds Try.pinned (OpenSpec.ofChange utfRowWrong)

/- THE SECOND FORM. 'bulk': how many values and letters a reading holds, each counted each time it is reached (what is shared counts as often as it is met; a slice's spare places count too). A statement '..UptoSaid' is the law's where the arguments, and the package variables that the reading takes, are together of bulk at most 1048576: NARROWER than '..Said'. Prove '..Said' where nothing that the law and all that it calls make is longer than what came in: it says more and counts as full. Else prove '..UptoSaid'. A law counts once. -/
mutual
def uptoBulk {H : Type} : DataW H → Nat
  | .lit (.string bytes) => bytes.length + 1
  | .lit _ => 1
  | .nil => 1
  | .ptr d => uptoBulk d + 1
  | .slice elems spare => uptoBulkAll elems + uptoBulkAll spare + 1
  | .agg parts => uptoBulkAll parts + 1
  | .iface _ d => uptoBulk d + 1
  | .map entries => uptoBulkEntries entries + 1
  | .held _ => 1
def uptoBulkAll {H : Type} : List (DataW H) → Nat
  | [] => 0
  | d :: r => uptoBulk d + uptoBulkAll r
def uptoBulkEntries {H : Type} : List (Lit × DataW H) → Nat
  | [] => 0
  | x :: r => uptoBulkEntry x + uptoBulkEntries r
def uptoBulkEntry {H : Type} : Lit × DataW H → Nat
  | (.string bytes, d) => bytes.length + uptoBulk d + 1
  | (_, d) => uptoBulk d + 1
 end
def uptoSmall : (H : Type) → List (DataW H) → Bool := fun _ ds => decide (uptoBulkAll ds ≤ 1048576)
def OpenSpec.upto (s : _root_.Go.ChangeSpec) : _root_.Go.OpenSpec := { _root_.Go.OpenSpec.ofChange s with cond := some uptoSmall }

/-- 'abacistlaw01.UtfEncodes', WHERE WHAT IT READS IS OF BULK AT MOST 1048576: true; the input reads as it did. -/
def utfEncodesUptoRow : OpenClaim := { program := "ytjpjikihbbigpaa", sum := "cd10a379b557f336fae4235f3fa902f1a56e5169d82ec3287bf717933171155d", func := "abacist/abacistlaw01.UtfEncodes", spec := "utfEncodes", apart := false, narrowed := true }
def UtfEncodesUptoSaid : Prop := utfEncodesUptoRow.holds Try.pinned (OpenSpec.upto utfEncodesSpec)

/-- 'abacistlaw01.UtfFirsts', WHERE WHAT IT READS IS OF BULK AT MOST 1048576: true; the input reads as it did. -/
def utfFirstsUptoRow : OpenClaim := { program := "ytjpjikihbbigpaa", sum := "cd10a379b557f336fae4235f3fa902f1a56e5169d82ec3287bf717933171155d", func := "abacist/abacistlaw01.UtfFirsts", spec := "utfFirsts", apart := false, narrowed := true }
def UtfFirstsUptoSaid : Prop := utfFirstsUptoRow.holds Try.pinned (OpenSpec.upto utfFirstsSpec)

/-- 'abacistlaw01.UtfAll', WHERE WHAT IT READS IS OF BULK AT MOST 1048576: true; the input reads as it did. -/
def utfAllUptoRow : OpenClaim := { program := "ytjpjikihbbigpaa", sum := "cd10a379b557f336fae4235f3fa902f1a56e5169d82ec3287bf717933171155d", func := "abacist/abacistlaw01.UtfAll", spec := "utfAll", apart := false, narrowed := true }
def UtfAllUptoSaid : Prop := utfAllUptoRow.holds Try.pinned (OpenSpec.upto utfAllSpec)

/-- 'abacistlaw01.UtfJoins', WHERE WHAT IT READS IS OF BULK AT MOST 1048576: true; the input reads as it did. -/
def utfJoinsUptoRow : OpenClaim := { program := "ytjpjikihbbigpaa", sum := "cd10a379b557f336fae4235f3fa902f1a56e5169d82ec3287bf717933171155d", func := "abacist/abacistlaw01.UtfJoins", spec := "utfJoins", inPlace := ["internal/abi.NoEscape"], apart := false, narrowed := true }
def UtfJoinsUptoSaid : Prop := utfJoinsUptoRow.holds Try.pinned (OpenSpec.upto utfJoinsSpec)

/-- 'abacistlaw01.UtfCleans', WHERE WHAT IT READS IS OF BULK AT MOST 1048576: true; the input reads as it did. -/
def utfCleansUptoRow : OpenClaim := { program := "ytjpjikihbbigpaa", sum := "cd10a379b557f336fae4235f3fa902f1a56e5169d82ec3287bf717933171155d", func := "abacist/abacistlaw01.UtfCleans", spec := "utfCleans", inPlace := ["internal/abi.NoEscape"], apart := false, narrowed := true }
def UtfCleansUptoSaid : Prop := utfCleansUptoRow.holds Try.pinned (OpenSpec.upto utfCleansSpec)

/-- 'abacistlaw01.UtfTwo', WHERE WHAT IT READS IS OF BULK AT MOST 1048576: true; the input reads as it did. -/
def utfTwoUptoRow : OpenClaim := { program := "ytjpjikihbbigpaa", sum := "cd10a379b557f336fae4235f3fa902f1a56e5169d82ec3287bf717933171155d", func := "abacist/abacistlaw01.UtfTwo", spec := "utfTwo", inPlace := ["internal/abi.NoEscape"], apart := false, narrowed := true }
def UtfTwoUptoSaid : Prop := utfTwoUptoRow.holds Try.pinned (OpenSpec.upto utfTwoSpec)

/-- 'abacistlaw01.UtfRow', WHERE WHAT IT READS IS OF BULK AT MOST 1048576: true; the input reads as it did. -/
def utfRowUptoRow : OpenClaim := { program := "ytjpjikihbbigpaa", sum := "cd10a379b557f336fae4235f3fa902f1a56e5169d82ec3287bf717933171155d", func := "abacist/abacistlaw01.UtfRow", spec := "utfRow", apart := false, narrowed := true }
def UtfRowUptoSaid : Prop := utfRowUptoRow.holds Try.pinned (OpenSpec.upto utfRowSpec)

end Rows
end Go.Proofs.Ytjpjikihbbigpaa
