/-
  No cell of these rows narrows 'for every input' (looked for: loops, veiled, ifaces, maps, wideKeys, modest, calm, conditions, laid).
  DERIVED. THE GIVEN ROWS OF THIS SEAT. 5 by the template 'for every input the law returns true; each argument reads behind the call as it read before'; 0 by the template 'total and deterministic' (their statements: YtagpofhencpliaaTotals.lean).
  GIVEN WITH THE SEED: the statements are not yours to turn. If you find one false, say at which input.
  Laid BY PROGRAM, IN A SANDBOX (cutbox-rows.mjs): the forced cells as the released guide's own fill.sh prints them over the translation 193f5f56744f350f… (all of the seat's roots in one cut). By AI agents, Wed Nov 11 2026. No macro, syntax, notation, axiom, sorry.
-/
import Derived.Test.YtagpofhencpliaaChecked
import GoSem.Claim
import GoSem.ClaimJoined
import GoSem.ClaimMapViews
import Derived.JoinedTies
import Derived.KernelRfl
namespace Go.Proofs.Ytagpofhencpliaa
/- THE CELL 'sum', in the pinned program and in every row, IS THE sha256 OF THE DUMP (.gsa) THAT YtagpofhencpliaaProg.lean LOADS. Nothing in Lean hashes anything: it is a label: what it is worth is what the hold of that sum in a sandbox is worth. -/
noncomputable def Try.pinned : Pinned := { name := "ytagpofhencpliaa", sum := "193f5f56744f350f9e7bcb500dc71004791064c228d9dfbc91e0bf77b86dd266", checked := Try.checked }
namespace Rows
def none {H : Type} : Left H := { results := [], args := [] }

/-- 'abacistlaw14.DraftTold': WHATEVER THE INPUT: true; the input reads as it did. -/
def draftToldSpec : ChangeSpec := { name := "draftTold", fn := fun _ => fun
  | [d1, d2, d3] => { results := [.lit (.bool true)], args := [d1, d2, d3] }
  | _ => none }
def draftToldRow : OpenClaim := { program := "ytagpofhencpliaa", sum := "193f5f56744f350f9e7bcb500dc71004791064c228d9dfbc91e0bf77b86dd266", func := "abacist/abacistlaw14.DraftTold", spec := "draftTold", apart := false }
def DraftToldSaid : Prop := draftToldRow.holds Try.pinned (OpenSpec.ofChange draftToldSpec)

/-- ITS FALSE NEIGHBOUR: 'it returns false'. Refute it at one input. -/
def draftToldWrong : ChangeSpec := { name := "draftTold", fn := fun _ => fun
  | [d1, d2, d3] => { results := [.lit (.bool false)], args := [d1, d2, d3] }
  | _ => none }
def DraftToldWrongFalsely : Prop := draftToldRow.holds Try.pinned (OpenSpec.ofChange draftToldWrong)

/-- 'abacistlaw14.DraftSplices': WHATEVER THE INPUT: true; the input reads as it did. -/
def draftSplicesSpec : ChangeSpec := { name := "draftSplices", fn := fun _ => fun
  | [d1, d2, d3, d4] => { results := [.lit (.bool true)], args := [d1, d2, d3, d4] }
  | _ => none }
def draftSplicesRow : OpenClaim := { program := "ytagpofhencpliaa", sum := "193f5f56744f350f9e7bcb500dc71004791064c228d9dfbc91e0bf77b86dd266", func := "abacist/abacistlaw14.DraftSplices", spec := "draftSplices", apart := false }
def DraftSplicesSaid : Prop := draftSplicesRow.holds Try.pinned (OpenSpec.ofChange draftSplicesSpec)

/-- ITS FALSE NEIGHBOUR: 'it returns false'. Refute it at one input. -/
def draftSplicesWrong : ChangeSpec := { name := "draftSplices", fn := fun _ => fun
  | [d1, d2, d3, d4] => { results := [.lit (.bool false)], args := [d1, d2, d3, d4] }
  | _ => none }
def DraftSplicesWrongFalsely : Prop := draftSplicesRow.holds Try.pinned (OpenSpec.ofChange draftSplicesWrong)

/-- 'abacistlaw14.DraftFrom': WHATEVER THE INPUT: true; the input reads as it did. -/
def draftFromSpec : ChangeSpec := { name := "draftFrom", fn := fun _ => fun
  | [d1, d2, d3] => { results := [.lit (.bool true)], args := [d1, d2, d3] }
  | _ => none }
def draftFromRow : OpenClaim := { program := "ytagpofhencpliaa", sum := "193f5f56744f350f9e7bcb500dc71004791064c228d9dfbc91e0bf77b86dd266", func := "abacist/abacistlaw14.DraftFrom", spec := "draftFrom", apart := false }
def DraftFromSaid : Prop := draftFromRow.holds Try.pinned (OpenSpec.ofChange draftFromSpec)

/-- ITS FALSE NEIGHBOUR: 'it returns false'. Refute it at one input. -/
def draftFromWrong : ChangeSpec := { name := "draftFrom", fn := fun _ => fun
  | [d1, d2, d3] => { results := [.lit (.bool false)], args := [d1, d2, d3] }
  | _ => none }
def DraftFromWrongFalsely : Prop := draftFromRow.holds Try.pinned (OpenSpec.ofChange draftFromWrong)

/-- 'abacistlaw14.DraftSame': WHATEVER THE INPUT: true; the input reads as it did. -/
def draftSameSpec : ChangeSpec := { name := "draftSame", fn := fun _ => fun
  | [d1, d2] => { results := [.lit (.bool true)], args := [d1, d2] }
  | _ => none }
def draftSameRow : OpenClaim := { program := "ytagpofhencpliaa", sum := "193f5f56744f350f9e7bcb500dc71004791064c228d9dfbc91e0bf77b86dd266", func := "abacist/abacistlaw14.DraftSame", spec := "draftSame", apart := false }
def DraftSameSaid : Prop := draftSameRow.holds Try.pinned (OpenSpec.ofChange draftSameSpec)

/-- ITS FALSE NEIGHBOUR: 'it returns false'. Refute it at one input. -/
def draftSameWrong : ChangeSpec := { name := "draftSame", fn := fun _ => fun
  | [d1, d2] => { results := [.lit (.bool false)], args := [d1, d2] }
  | _ => none }
def DraftSameWrongFalsely : Prop := draftSameRow.holds Try.pinned (OpenSpec.ofChange draftSameWrong)

/-- 'abacistlaw14.DraftBack': WHATEVER THE INPUT: true; the input reads as it did. -/
def draftBackSpec : ChangeSpec := { name := "draftBack", fn := fun _ => fun
  | [d1, d2, d3] => { results := [.lit (.bool true)], args := [d1, d2, d3] }
  | _ => none }
def draftBackRow : OpenClaim := { program := "ytagpofhencpliaa", sum := "193f5f56744f350f9e7bcb500dc71004791064c228d9dfbc91e0bf77b86dd266", func := "abacist/abacistlaw14.DraftBack", spec := "draftBack", apart := false }
def DraftBackSaid : Prop := draftBackRow.holds Try.pinned (OpenSpec.ofChange draftBackSpec)

/-- ITS FALSE NEIGHBOUR: 'it returns false'. Refute it at one input. -/
def draftBackWrong : ChangeSpec := { name := "draftBack", fn := fun _ => fun
  | [d1, d2, d3] => { results := [.lit (.bool false)], args := [d1, d2, d3] }
  | _ => none }
def DraftBackWrongFalsely : Prop := draftBackRow.holds Try.pinned (OpenSpec.ofChange draftBackWrong)

/- THE SECOND FORM. 'bulk': how many values and letters a reading holds, each counted each time it is reached (what is shared counts as often as it is met; a slice's spare places count too). A statement '..UptoSaid' is the law's where the arguments, and the package variables that the reading takes, are together of bulk at most 1048576: NARROWER than '..Said'. Prove '..Said' where nothing that the law and all that it calls make is longer than what came in: it says more and counts as full. Else prove '..UptoSaid'. A law counts once. -/
mutual
def uptoBulk {H : Type} : DataW H → Nat
  | .lit (.string bytes) => bytes.length + 1
  | .lit _ => 1
  | .nil => 1
  | .ptr d => uptoBulk d + 1
  | .slice elems spare => uptoBulkAll elems + uptoBulkAll spare + 1
  | .agg parts => uptoBulkAll parts + 1
  | .iface _ d => uptoBulk d + 1
  | .map entries => uptoBulkEntries entries + 1
  | .held _ => 1
def uptoBulkAll {H : Type} : List (DataW H) → Nat
  | [] => 0
  | d :: r => uptoBulk d + uptoBulkAll r
def uptoBulkEntries {H : Type} : List (Lit × DataW H) → Nat
  | [] => 0
  | x :: r => uptoBulkEntry x + uptoBulkEntries r
def uptoBulkEntry {H : Type} : Lit × DataW H → Nat
  | (.string bytes, d) => bytes.length + uptoBulk d + 1
  | (_, d) => uptoBulk d + 1
 end
def uptoSmall : (H : Type) → List (DataW H) → Bool := fun _ ds => decide (uptoBulkAll ds ≤ 1048576)
def OpenSpec.upto (s : _root_.Go.ChangeSpec) : _root_.Go.OpenSpec := { _root_.Go.OpenSpec.ofChange s with cond := some uptoSmall }

/-- 'abacistlaw14.DraftTold', WHERE WHAT IT READS IS OF BULK AT MOST 1048576: true; the input reads as it did. -/
def draftToldUptoRow : OpenClaim := { program := "ytagpofhencpliaa", sum := "193f5f56744f350f9e7bcb500dc71004791064c228d9dfbc91e0bf77b86dd266", func := "abacist/abacistlaw14.DraftTold", spec := "draftTold", apart := false, narrowed := true }
def DraftToldUptoSaid : Prop := draftToldUptoRow.holds Try.pinned (OpenSpec.upto draftToldSpec)

/-- 'abacistlaw14.DraftSplices', WHERE WHAT IT READS IS OF BULK AT MOST 1048576: true; the input reads as it did. -/
def draftSplicesUptoRow : OpenClaim := { program := "ytagpofhencpliaa", sum := "193f5f56744f350f9e7bcb500dc71004791064c228d9dfbc91e0bf77b86dd266", func := "abacist/abacistlaw14.DraftSplices", spec := "draftSplices", apart := false, narrowed := true }
def DraftSplicesUptoSaid : Prop := draftSplicesUptoRow.holds Try.pinned (OpenSpec.upto draftSplicesSpec)

/-- 'abacistlaw14.DraftFrom', WHERE WHAT IT READS IS OF BULK AT MOST 1048576: true; the input reads as it did. -/
def draftFromUptoRow : OpenClaim := { program := "ytagpofhencpliaa", sum := "193f5f56744f350f9e7bcb500dc71004791064c228d9dfbc91e0bf77b86dd266", func := "abacist/abacistlaw14.DraftFrom", spec := "draftFrom", apart := false, narrowed := true }
def DraftFromUptoSaid : Prop := draftFromUptoRow.holds Try.pinned (OpenSpec.upto draftFromSpec)

/-- 'abacistlaw14.DraftSame', WHERE WHAT IT READS IS OF BULK AT MOST 1048576: true; the input reads as it did. -/
def draftSameUptoRow : OpenClaim := { program := "ytagpofhencpliaa", sum := "193f5f56744f350f9e7bcb500dc71004791064c228d9dfbc91e0bf77b86dd266", func := "abacist/abacistlaw14.DraftSame", spec := "draftSame", apart := false, narrowed := true }
def DraftSameUptoSaid : Prop := draftSameUptoRow.holds Try.pinned (OpenSpec.upto draftSameSpec)

/-- 'abacistlaw14.DraftBack', WHERE WHAT IT READS IS OF BULK AT MOST 1048576: true; the input reads as it did. -/
def draftBackUptoRow : OpenClaim := { program := "ytagpofhencpliaa", sum := "193f5f56744f350f9e7bcb500dc71004791064c228d9dfbc91e0bf77b86dd266", func := "abacist/abacistlaw14.DraftBack", spec := "draftBack", apart := false, narrowed := true }
def DraftBackUptoSaid : Prop := draftBackUptoRow.holds Try.pinned (OpenSpec.upto draftBackSpec)

end Rows
end Go.Proofs.Ytagpofhencpliaa
