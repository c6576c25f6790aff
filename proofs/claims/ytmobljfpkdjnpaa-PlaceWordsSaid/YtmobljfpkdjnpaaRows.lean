/-
  No cell of these rows narrows 'for every input' (looked for: loops, veiled, ifaces, maps, wideKeys, modest, calm, conditions, laid).
  DERIVED. THE GIVEN ROWS OF THIS SEAT. 6 by the template 'for every input the law returns true; each argument reads behind the call as it read before'; 0 by the template 'total and deterministic' (their statements: YtmobljfpkdjnpaaTotals.lean).
  GIVEN WITH THE SEED: the statements are not yours to turn. If you find one false, say at which input.
  Laid BY PROGRAM, IN A SANDBOX (cutbox-rows.mjs): the forced cells as the released guide's own fill.sh prints them over the translation 244c8a9dcd937dcd… (all of the seat's roots in one cut). By AI agents, Wed Nov 11 2026. No macro, syntax, notation, axiom, sorry.
-/
import Derived.Test.YtmobljfpkdjnpaaChecked
import GoSem.Claim
import GoSem.ClaimJoined
import GoSem.ClaimMapViews
import Derived.JoinedTies
import Derived.KernelRfl
namespace Go.Proofs.Ytmobljfpkdjnpaa
/- THE CELL 'sum', in the pinned program and in every row, IS THE sha256 OF THE DUMP (.gsa) THAT YtmobljfpkdjnpaaProg.lean LOADS. Nothing in Lean hashes anything: it is a label: what it is worth is what the hold of that sum in a sandbox is worth. -/
noncomputable def Try.pinned : Pinned := { name := "ytmobljfpkdjnpaa", sum := "244c8a9dcd937dcd9abe1a2100a5cda3edce3581d32f5e89577e88b1f70ffd3e", checked := Try.checked }
namespace Rows
def none {H : Type} : Left H := { results := [], args := [] }

/-- 'abacistlaw04.PlaceOffsets': WHATEVER THE INPUT: true; the input reads as it did. -/
def placeOffsetsSpec : ChangeSpec := { name := "placeOffsets", fn := fun _ => fun
  | [d1, d2] => { results := [.lit (.bool true)], args := [d1, d2] }
  | _ => none }
def placeOffsetsRow : OpenClaim := { program := "ytmobljfpkdjnpaa", sum := "244c8a9dcd937dcd9abe1a2100a5cda3edce3581d32f5e89577e88b1f70ffd3e", func := "abacist/abacistlaw04.PlaceOffsets", spec := "placeOffsets", unfollowed := true, recurses := true, apart := false }
def PlaceOffsetsSaid : Prop := placeOffsetsRow.holds Try.pinned (OpenSpec.ofChange placeOffsetsSpec)

/-- ITS FALSE NEIGHBOUR: 'it returns false'. Refute it at one input. -/
def placeOffsetsWrong : ChangeSpec := { name := "placeOffsets", fn := fun _ => fun
  | [d1, d2] => { results := [.lit (.bool false)], args := [d1, d2] }
  | _ => none }
def PlaceOffsetsWrongFalsely : Prop := placeOffsetsRow.holds Try.pinned (OpenSpec.ofChange placeOffsetsWrong)

/-- 'abacistlaw04.PlaceNear': WHATEVER THE INPUT: true; the input reads as it did. -/
def placeNearSpec : ChangeSpec := { name := "placeNear", fn := fun _ => fun
  | [d1, d2] => { results := [.lit (.bool true)], args := [d1, d2] }
  | _ => none }
def placeNearRow : OpenClaim := { program := "ytmobljfpkdjnpaa", sum := "244c8a9dcd937dcd9abe1a2100a5cda3edce3581d32f5e89577e88b1f70ffd3e", func := "abacist/abacistlaw04.PlaceNear", spec := "placeNear", unfollowed := true, recurses := true, apart := false }
def PlaceNearSaid : Prop := placeNearRow.holds Try.pinned (OpenSpec.ofChange placeNearSpec)

/-- ITS FALSE NEIGHBOUR: 'it returns false'. Refute it at one input. -/
def placeNearWrong : ChangeSpec := { name := "placeNear", fn := fun _ => fun
  | [d1, d2] => { results := [.lit (.bool false)], args := [d1, d2] }
  | _ => none }
def PlaceNearWrongFalsely : Prop := placeNearRow.holds Try.pinned (OpenSpec.ofChange placeNearWrong)

/-- 'abacistlaw04.PlaceSlices': WHATEVER THE INPUT: true; the input reads as it did. -/
def placeSlicesSpec : ChangeSpec := { name := "placeSlices", fn := fun _ => fun
  | [d1, d2, d3] => { results := [.lit (.bool true)], args := [d1, d2, d3] }
  | _ => none }
def placeSlicesRow : OpenClaim := { program := "ytmobljfpkdjnpaa", sum := "244c8a9dcd937dcd9abe1a2100a5cda3edce3581d32f5e89577e88b1f70ffd3e", func := "abacist/abacistlaw04.PlaceSlices", spec := "placeSlices", inPlace := ["internal/abi.NoEscape", "internal/bytealg.MakeNoZero"], unfollowed := true, recurses := true, apart := false }
def PlaceSlicesSaid : Prop := placeSlicesRow.holds Try.pinned (OpenSpec.ofChange placeSlicesSpec)

/-- ITS FALSE NEIGHBOUR: 'it returns false'. Refute it at one input. -/
def placeSlicesWrong : ChangeSpec := { name := "placeSlices", fn := fun _ => fun
  | [d1, d2, d3] => { results := [.lit (.bool false)], args := [d1, d2, d3] }
  | _ => none }
def PlaceSlicesWrongFalsely : Prop := placeSlicesRow.holds Try.pinned (OpenSpec.ofChange placeSlicesWrong)

/-- 'abacistlaw04.PlaceWords': WHATEVER THE INPUT: true; the input reads as it did. -/
def placeWordsSpec : ChangeSpec := { name := "placeWords", fn := fun _ => fun
  | [d1, d2] => { results := [.lit (.bool true)], args := [d1, d2] }
  | _ => none }
def placeWordsRow : OpenClaim := { program := "ytmobljfpkdjnpaa", sum := "244c8a9dcd937dcd9abe1a2100a5cda3edce3581d32f5e89577e88b1f70ffd3e", func := "abacist/abacistlaw04.PlaceWords", spec := "placeWords", unfollowed := true, recurses := true, apart := false }
def PlaceWordsSaid : Prop := placeWordsRow.holds Try.pinned (OpenSpec.ofChange placeWordsSpec)

/-- ITS FALSE NEIGHBOUR: 'it returns false'. Refute it at one input. -/
def placeWordsWrong : ChangeSpec := { name := "placeWords", fn := fun _ => fun
  | [d1, d2] => { results := [.lit (.bool false)], args := [d1, d2] }
  | _ => none }
def PlaceWordsWrongFalsely : Prop := placeWordsRow.holds Try.pinned (OpenSpec.ofChange placeWordsWrong)

/-- 'abacistlaw04.PlaceSplices': WHATEVER THE INPUT: true; the input reads as it did. -/
def placeSplicesSpec : ChangeSpec := { name := "placeSplices", fn := fun _ => fun
  | [d1, d2, d3, d4] => { results := [.lit (.bool true)], args := [d1, d2, d3, d4] }
  | _ => none }
def placeSplicesRow : OpenClaim := { program := "ytmobljfpkdjnpaa", sum := "244c8a9dcd937dcd9abe1a2100a5cda3edce3581d32f5e89577e88b1f70ffd3e", func := "abacist/abacistlaw04.PlaceSplices", spec := "placeSplices", inPlace := ["internal/abi.NoEscape", "internal/bytealg.MakeNoZero"], unfollowed := true, recurses := true, apart := false }
def PlaceSplicesSaid : Prop := placeSplicesRow.holds Try.pinned (OpenSpec.ofChange placeSplicesSpec)

/-- ITS FALSE NEIGHBOUR: 'it returns false'. Refute it at one input. -/
def placeSplicesWrong : ChangeSpec := { name := "placeSplices", fn := fun _ => fun
  | [d1, d2, d3, d4] => { results := [.lit (.bool false)], args := [d1, d2, d3, d4] }
  | _ => none }
def PlaceSplicesWrongFalsely : Prop := placeSplicesRow.holds Try.pinned (OpenSpec.ofChange placeSplicesWrong)

/-- 'abacistlaw04.PlaceWalks': WHATEVER THE INPUT: true; the input reads as it did. -/
def placeWalksSpec : ChangeSpec := { name := "placeWalks", fn := fun _ => fun
  | [d] => { results := [.lit (.bool true)], args := [d] }
  | _ => none }
def placeWalksRow : OpenClaim := { program := "ytmobljfpkdjnpaa", sum := "244c8a9dcd937dcd9abe1a2100a5cda3edce3581d32f5e89577e88b1f70ffd3e", func := "abacist/abacistlaw04.PlaceWalks", spec := "placeWalks", unfollowed := true, recurses := true, apart := false }
def PlaceWalksSaid : Prop := placeWalksRow.holds Try.pinned (OpenSpec.ofChange placeWalksSpec)

/-- ITS FALSE NEIGHBOUR: 'it returns false'. Refute it at one input. -/
def placeWalksWrong : ChangeSpec := { name := "placeWalks", fn := fun _ => fun
  | [d] => { results := [.lit (.bool false)], args := [d] }
  | _ => none }
def PlaceWalksWrongFalsely : Prop := placeWalksRow.holds Try.pinned (OpenSpec.ofChange placeWalksWrong)

/- THE SECOND FORM. 'bulk': how many values and letters a reading holds, each counted each time it is reached (what is shared counts as often as it is met; a slice's spare places count too). A statement '..UptoSaid' is the law's where the arguments, and the package variables that the reading takes, are together of bulk at most 1048576: NARROWER than '..Said'. Prove '..Said' where nothing that the law and all that it calls make is longer than what came in: it says more and counts as full. Else prove '..UptoSaid'. A law counts once. -/
mutual
def uptoBulk {H : Type} : DataW H → Nat
  | .lit (.string bytes) => bytes.length + 1
  | .lit _ => 1
  | .nil => 1
  | .ptr d => uptoBulk d + 1
  | .slice elems spare => uptoBulkAll elems + uptoBulkAll spare + 1
  | .agg parts => uptoBulkAll parts + 1
  | .iface _ d => uptoBulk d + 1
  | .map entries => uptoBulkEntries entries + 1
  | .held _ => 1
def uptoBulkAll {H : Type} : List (DataW H) → Nat
  | [] => 0
  | d :: r => uptoBulk d + uptoBulkAll r
def uptoBulkEntries {H : Type} : List (Lit × DataW H) → Nat
  | [] => 0
  | x :: r => uptoBulkEntry x + uptoBulkEntries r
def uptoBulkEntry {H : Type} : Lit × DataW H → Nat
  | (.string bytes, d) => bytes.length + uptoBulk d + 1
  | (_, d) => uptoBulk d + 1
 end
def uptoSmall : (H : Type) → List (DataW H) → Bool := fun _ ds => decide (uptoBulkAll ds ≤ 1048576)
def OpenSpec.upto (s : _root_.Go.ChangeSpec) : _root_.Go.OpenSpec := { _root_.Go.OpenSpec.ofChange s with cond := some uptoSmall }

/-- 'abacistlaw04.PlaceOffsets', WHERE WHAT IT READS IS OF BULK AT MOST 1048576: true; the input reads as it did. -/
def placeOffsetsUptoRow : OpenClaim := { program := "ytmobljfpkdjnpaa", sum := "244c8a9dcd937dcd9abe1a2100a5cda3edce3581d32f5e89577e88b1f70ffd3e", func := "abacist/abacistlaw04.PlaceOffsets", spec := "placeOffsets", unfollowed := true, recurses := true, apart := false, narrowed := true }
def PlaceOffsetsUptoSaid : Prop := placeOffsetsUptoRow.holds Try.pinned (OpenSpec.upto placeOffsetsSpec)

/-- 'abacistlaw04.PlaceNear', WHERE WHAT IT READS IS OF BULK AT MOST 1048576: true; the input reads as it did. -/
def placeNearUptoRow : OpenClaim := { program := "ytmobljfpkdjnpaa", sum := "244c8a9dcd937dcd9abe1a2100a5cda3edce3581d32f5e89577e88b1f70ffd3e", func := "abacist/abacistlaw04.PlaceNear", spec := "placeNear", unfollowed := true, recurses := true, apart := false, narrowed := true }
def PlaceNearUptoSaid : Prop := placeNearUptoRow.holds Try.pinned (OpenSpec.upto placeNearSpec)

/-- 'abacistlaw04.PlaceSlices', WHERE WHAT IT READS IS OF BULK AT MOST 1048576: true; the input reads as it did. -/
def placeSlicesUptoRow : OpenClaim := { program := "ytmobljfpkdjnpaa", sum := "244c8a9dcd937dcd9abe1a2100a5cda3edce3581d32f5e89577e88b1f70ffd3e", func := "abacist/abacistlaw04.PlaceSlices", spec := "placeSlices", inPlace := ["internal/abi.NoEscape", "internal/bytealg.MakeNoZero"], unfollowed := true, recurses := true, apart := false, narrowed := true }
def PlaceSlicesUptoSaid : Prop := placeSlicesUptoRow.holds Try.pinned (OpenSpec.upto placeSlicesSpec)

/-- 'abacistlaw04.PlaceWords', WHERE WHAT IT READS IS OF BULK AT MOST 1048576: true; the input reads as it did. -/
def placeWordsUptoRow : OpenClaim := { program := "ytmobljfpkdjnpaa", sum := "244c8a9dcd937dcd9abe1a2100a5cda3edce3581d32f5e89577e88b1f70ffd3e", func := "abacist/abacistlaw04.PlaceWords", spec := "placeWords", unfollowed := true, recurses := true, apart := false, narrowed := true }
def PlaceWordsUptoSaid : Prop := placeWordsUptoRow.holds Try.pinned (OpenSpec.upto placeWordsSpec)

/-- 'abacistlaw04.PlaceSplices', WHERE WHAT IT READS IS OF BULK AT MOST 1048576: true; the input reads as it did. -/
def placeSplicesUptoRow : OpenClaim := { program := "ytmobljfpkdjnpaa", sum := "244c8a9dcd937dcd9abe1a2100a5cda3edce3581d32f5e89577e88b1f70ffd3e", func := "abacist/abacistlaw04.PlaceSplices", spec := "placeSplices", inPlace := ["internal/abi.NoEscape", "internal/bytealg.MakeNoZero"], unfollowed := true, recurses := true, apart := false, narrowed := true }
def PlaceSplicesUptoSaid : Prop := placeSplicesUptoRow.holds Try.pinned (OpenSpec.upto placeSplicesSpec)

/-- 'abacistlaw04.PlaceWalks', WHERE WHAT IT READS IS OF BULK AT MOST 1048576: true; the input reads as it did. -/
def placeWalksUptoRow : OpenClaim := { program := "ytmobljfpkdjnpaa", sum := "244c8a9dcd937dcd9abe1a2100a5cda3edce3581d32f5e89577e88b1f70ffd3e", func := "abacist/abacistlaw04.PlaceWalks", spec := "placeWalks", unfollowed := true, recurses := true, apart := false, narrowed := true }
def PlaceWalksUptoSaid : Prop := placeWalksUptoRow.holds Try.pinned (OpenSpec.upto placeWalksSpec)

end Rows
end Go.Proofs.Ytmobljfpkdjnpaa
