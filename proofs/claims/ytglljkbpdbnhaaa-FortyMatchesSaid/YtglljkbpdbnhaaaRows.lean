/-
  No cell of these rows narrows 'for every input' (looked for: loops, veiled, ifaces, maps, wideKeys, modest, calm, conditions, laid).
  DERIVED. THE GIVEN ROWS OF THIS SEAT. 3 by the template 'for every input the law returns true; each argument reads behind the call as it read before'; 0 by the template 'total and deterministic' (their statements: YtglljkbpdbnhaaaTotals.lean).
  GIVEN WITH THE SEED: the statements are not yours to turn. If you find one false, say at which input.
  Laid BY PROGRAM, IN A SANDBOX (cutbox-rows.mjs): the forced cells as the released guide's own fill.sh prints them over the translation 2fe6311b79453ffe… (all of the seat's roots in one cut). By AI agents, Wed Nov 11 2026. No macro, syntax, notation, axiom, sorry.
-/
import Derived.Test.YtglljkbpdbnhaaaChecked
import GoSem.Claim
import GoSem.ClaimJoined
import GoSem.ClaimMapViews
import Derived.JoinedTies
import Derived.KernelRfl
namespace Go.Proofs.Ytglljkbpdbnhaaa
/- THE CELL 'sum', in the pinned program and in every row, IS THE sha256 OF THE DUMP (.gsa) THAT YtglljkbpdbnhaaaProg.lean LOADS. Nothing in Lean hashes anything: it is a label: what it is worth is what the hold of that sum in a sandbox is worth. -/
noncomputable def Try.pinned : Pinned := { name := "ytglljkbpdbnhaaa", sum := "2fe6311b79453ffe70da8fc5884894cc3c3cda3381e4f48b27a9abea1394e93f", checked := Try.checked }
namespace Rows
def none {H : Type} : Left H := { results := [], args := [] }

/-- 'abacistlaw12.FortyRecords': WHATEVER THE INPUT: true; the input reads as it did. -/
def fortyRecordsSpec : ChangeSpec := { name := "fortyRecords", fn := fun _ => fun
  | [d1, d2] => { results := [.lit (.bool true)], args := [d1, d2] }
  | _ => none }
def fortyRecordsRow : OpenClaim := { program := "ytglljkbpdbnhaaa", sum := "2fe6311b79453ffe70da8fc5884894cc3c3cda3381e4f48b27a9abea1394e93f", func := "abacist/abacistlaw12.FortyRecords", spec := "fortyRecords", inPlace := ["internal/bytealg.IndexByteString", "internal/bytealg.IndexString"], unfollowed := true, recurses := true, named := ["internal/bytealg.MaxLen"], apart := false }
def FortyRecordsSaid : Prop := fortyRecordsRow.holds Try.pinned (OpenSpec.ofChange fortyRecordsSpec)

/-- ITS FALSE NEIGHBOUR: 'it returns false'. Refute it at one input. -/
def fortyRecordsWrong : ChangeSpec := { name := "fortyRecords", fn := fun _ => fun
  | [d1, d2] => { results := [.lit (.bool false)], args := [d1, d2] }
  | _ => none }
def FortyRecordsWrongFalsely : Prop := fortyRecordsRow.holds Try.pinned (OpenSpec.ofChange fortyRecordsWrong)

/-- 'abacistlaw12.FortyMatches': WHATEVER THE INPUT: true; the input reads as it did. -/
def fortyMatchesSpec : ChangeSpec := { name := "fortyMatches", fn := fun _ => fun
  | [d1, d2, d3] => { results := [.lit (.bool true)], args := [d1, d2, d3] }
  | _ => none }
def fortyMatchesRow : OpenClaim := { program := "ytglljkbpdbnhaaa", sum := "2fe6311b79453ffe70da8fc5884894cc3c3cda3381e4f48b27a9abea1394e93f", func := "abacist/abacistlaw12.FortyMatches", spec := "fortyMatches", inPlace := ["internal/bytealg.IndexByteString", "internal/bytealg.IndexString"], unfollowed := true, recurses := true, named := ["internal/bytealg.MaxLen"], apart := false }
def FortyMatchesSaid : Prop := fortyMatchesRow.holds Try.pinned (OpenSpec.ofChange fortyMatchesSpec)

/-- ITS FALSE NEIGHBOUR: 'it returns false'. Refute it at one input. -/
def fortyMatchesWrong : ChangeSpec := { name := "fortyMatches", fn := fun _ => fun
  | [d1, d2, d3] => { results := [.lit (.bool false)], args := [d1, d2, d3] }
  | _ => none }
def FortyMatchesWrongFalsely : Prop := fortyMatchesRow.holds Try.pinned (OpenSpec.ofChange fortyMatchesWrong)

/-- 'abacistlaw12.FortyAll': WHATEVER THE INPUT: true; the input reads as it did. -/
def fortyAllSpec : ChangeSpec := { name := "fortyAll", fn := fun _ => fun
  | [d] => { results := [.lit (.bool true)], args := [d] }
  | _ => none }
def fortyAllRow : OpenClaim := { program := "ytglljkbpdbnhaaa", sum := "2fe6311b79453ffe70da8fc5884894cc3c3cda3381e4f48b27a9abea1394e93f", func := "abacist/abacistlaw12.FortyAll", spec := "fortyAll", inPlace := ["internal/bytealg.IndexByteString", "internal/bytealg.IndexString"], unfollowed := true, recurses := true, named := ["internal/bytealg.MaxLen"], apart := false }
def FortyAllSaid : Prop := fortyAllRow.holds Try.pinned (OpenSpec.ofChange fortyAllSpec)

/-- ITS FALSE NEIGHBOUR: 'it returns false'. Refute it at one input. -/
def fortyAllWrong : ChangeSpec := { name := "fortyAll", fn := fun _ => fun
  | [d] => { results := [.lit (.bool false)], args := [d] }
  | _ => none }
def FortyAllWrongFalsely : Prop := fortyAllRow.holds Try.pinned (OpenSpec.ofChange fortyAllWrong)

/- THE SECOND FORM. 'bulk': how many values and letters a reading holds, each counted each time it is reached (what is shared counts as often as it is met; a slice's spare places count too). A statement '..UptoSaid' is the law's where the arguments, and the package variables that the reading takes, are together of bulk at most 1048576: NARROWER than '..Said'. Prove '..Said' where nothing that the law and all that it calls make is longer than what came in: it says more and counts as full. Else prove '..UptoSaid'. A law counts once. -/
mutual
def uptoBulk {H : Type} : DataW H → Nat
  | .lit (.string bytes) => bytes.length + 1
  | .lit _ => 1
  | .nil => 1
  | .ptr d => uptoBulk d + 1
  | .slice elems spare => uptoBulkAll elems + uptoBulkAll spare + 1
  | .agg parts => uptoBulkAll parts + 1
  | .iface _ d => uptoBulk d + 1
  | .map entries => uptoBulkEntries entries + 1
  | .held _ => 1
def uptoBulkAll {H : Type} : List (DataW H) → Nat
  | [] => 0
  | d :: r => uptoBulk d + uptoBulkAll r
def uptoBulkEntries {H : Type} : List (Lit × DataW H) → Nat
  | [] => 0
  | x :: r => uptoBulkEntry x + uptoBulkEntries r
def uptoBulkEntry {H : Type} : Lit × DataW H → Nat
  | (.string bytes, d) => bytes.length + uptoBulk d + 1
  | (_, d) => uptoBulk d + 1
 end
def uptoSmall : (H : Type) → List (DataW H) → Bool := fun _ ds => decide (uptoBulkAll ds ≤ 1048576)
def OpenSpec.upto (s : _root_.Go.ChangeSpec) : _root_.Go.OpenSpec := { _root_.Go.OpenSpec.ofChange s with cond := some uptoSmall }

/-- 'abacistlaw12.FortyRecords', WHERE WHAT IT READS IS OF BULK AT MOST 1048576: true; the input reads as it did. -/
def fortyRecordsUptoRow : OpenClaim := { program := "ytglljkbpdbnhaaa", sum := "2fe6311b79453ffe70da8fc5884894cc3c3cda3381e4f48b27a9abea1394e93f", func := "abacist/abacistlaw12.FortyRecords", spec := "fortyRecords", inPlace := ["internal/bytealg.IndexByteString", "internal/bytealg.IndexString"], unfollowed := true, recurses := true, named := ["internal/bytealg.MaxLen"], apart := false, narrowed := true }
def FortyRecordsUptoSaid : Prop := fortyRecordsUptoRow.holds Try.pinned (OpenSpec.upto fortyRecordsSpec)

/-- 'abacistlaw12.FortyMatches', WHERE WHAT IT READS IS OF BULK AT MOST 1048576: true; the input reads as it did. -/
def fortyMatchesUptoRow : OpenClaim := { program := "ytglljkbpdbnhaaa", sum := "2fe6311b79453ffe70da8fc5884894cc3c3cda3381e4f48b27a9abea1394e93f", func := "abacist/abacistlaw12.FortyMatches", spec := "fortyMatches", inPlace := ["internal/bytealg.IndexByteString", "internal/bytealg.IndexString"], unfollowed := true, recurses := true, named := ["internal/bytealg.MaxLen"], apart := false, narrowed := true }
def FortyMatchesUptoSaid : Prop := fortyMatchesUptoRow.holds Try.pinned (OpenSpec.upto fortyMatchesSpec)

/-- 'abacistlaw12.FortyAll', WHERE WHAT IT READS IS OF BULK AT MOST 1048576: true; the input reads as it did. -/
def fortyAllUptoRow : OpenClaim := { program := "ytglljkbpdbnhaaa", sum := "2fe6311b79453ffe70da8fc5884894cc3c3cda3381e4f48b27a9abea1394e93f", func := "abacist/abacistlaw12.FortyAll", spec := "fortyAll", inPlace := ["internal/bytealg.IndexByteString", "internal/bytealg.IndexString"], unfollowed := true, recurses := true, named := ["internal/bytealg.MaxLen"], apart := false, narrowed := true }
def FortyAllUptoSaid : Prop := fortyAllUptoRow.holds Try.pinned (OpenSpec.upto fortyAllSpec)

end Rows
end Go.Proofs.Ytglljkbpdbnhaaa
