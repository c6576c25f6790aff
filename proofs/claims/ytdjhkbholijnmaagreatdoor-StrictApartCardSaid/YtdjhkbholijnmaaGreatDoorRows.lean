/-
  NARROWER THAN 'FOR EVERY INPUT', by the rows' own cells (each row's printed sentence says how): StrictReads: laid · StrictRefuses: laid · StrictShows: laid · StrictSwitches: laid · StrictItems: laid · StrictApart: laid.
  DERIVED. THE GIVEN ROWS OF THIS SEAT. 6 by the template 'for every input the law returns true; each argument reads behind the call as it read before'; 0 by the template 'total and deterministic' (their statements: YtdjhkbholijnmaaGreatDoorTotals.lean).
  GIVEN WITH THE SEED: the statements are not yours to turn. If you find one false, say at which input.
  Laid BY PROGRAM, IN A SANDBOX (cutbox-rows.mjs): the forced cells as the released guide's own fill.sh prints them over the translation c34d0f6ec7d6271e… (all of the seat's roots in one cut). By AI agents, Wed Nov 11 2026. No macro, syntax, notation, axiom, sorry.
-/
import Derived.Test.YtdjhkbholijnmaaGreatDoorChecked
import GoSem.PinnedTables
import GoSem.Claim
import GoSem.ClaimJoined
import GoSem.ClaimMapViews
import Derived.JoinedTies
import Derived.KernelRfl
namespace Go.Proofs.YtdjhkbholijnmaaGreatDoor
/- THE CELL 'sum', in the pinned program and in every row, IS THE sha256 OF THE DUMP (.gsa) THAT YtdjhkbholijnmaaGreatDoorProg.lean LOADS. Nothing in Lean hashes anything: it is a label: what it is worth is what the hold of that sum in a sandbox is worth. -/
noncomputable def Tryz.pinned : Pinned := { name := "ytdjhkbholijnmaagreatdoor", sum := "c34d0f6ec7d6271e96b533dda426ad557a7f6a3cc9fecce7268db071d76a39dc", checked := Tryz.checked }
namespace Rows
def none {H : Type} : Left H := { results := [], args := [] }

/- WHAT THE LISTED PACKAGE-LEVEL VARIABLES READ AS WHEN THE CALL BEGINS. Each datum BY PROGRAM (the guide's laid-datum.mjs) off the statement by which the dump's own 'gosem.cut.vars' lays the variable. In a bare row this is a premise. The card (YtdjhkbholijnmaaGreatDoorCards.lean) ties it to the program's text. -/
def laid_unicode_utf8_acceptRanges {H : Type} : DataW H := .agg [.agg [.lit (.int .u8 128), .lit (.int .u8 191)], .agg [.lit (.int .u8 160), .lit (.int .u8 191)], .agg [.lit (.int .u8 128), .lit (.int .u8 159)], .agg [.lit (.int .u8 144), .lit (.int .u8 191)], .agg [.lit (.int .u8 128), .lit (.int .u8 143)], .agg [.lit (.int .u8 0), .lit (.int .u8 0)], .agg [.lit (.int .u8 0), .lit (.int .u8 0)], .agg [.lit (.int .u8 0), .lit (.int .u8 0)], .agg [.lit (.int .u8 0), .lit (.int .u8 0)], .agg [.lit (.int .u8 0), .lit (.int .u8 0)], .agg [.lit (.int .u8 0), .lit (.int .u8 0)], .agg [.lit (.int .u8 0), .lit (.int .u8 0)], .agg [.lit (.int .u8 0), .lit (.int .u8 0)], .agg [.lit (.int .u8 0), .lit (.int .u8 0)], .agg [.lit (.int .u8 0), .lit (.int .u8 0)], .agg [.lit (.int .u8 0), .lit (.int .u8 0)]]
/-- One of Go's own tables, pinned by name: the form's constant. -/
def laid_unicode_utf8_first : DataW Unit := Go.Pinned.utf8First

/-- 'abacistlaw17.StrictReads': WHATEVER THE INPUT: true; the input reads as it did. -/
def strictReadsSpec : ChangeSpec := { name := "strictReads", fn := fun _ => fun
  | [d1, d2, d3] => { results := [.lit (.bool true)], args := [d1, d2, d3] }
  | _ => none }
def strictReadsRow : OpenClaim := { program := "ytdjhkbholijnmaagreatdoor", sum := "c34d0f6ec7d6271e96b533dda426ad557a7f6a3cc9fecce7268db071d76a39dc", func := "abacist/abacistlaw17.StrictReads", spec := "strictReads", inPlace := ["internal/abi.NoEscape", "internal/bytealg.IndexByteString", "internal/bytealg.IndexString", "internal/bytealg.CountString", "internal/bytealg.MakeNoZero"], unfollowed := true, recurses := true, named := ["internal/bytealg.MaxLen", "unicode/utf8.first", "unicode/utf8.acceptRanges"], apart := false, laid := [("unicode/utf8.acceptRanges", laid_unicode_utf8_acceptRanges), ("unicode/utf8.first", laid_unicode_utf8_first)] }
def StrictReadsSaid : Prop := strictReadsRow.holds Tryz.pinned (OpenSpec.ofChange strictReadsSpec)

/-- ITS FALSE NEIGHBOUR: 'it returns false'. Refute it at one input. -/
def strictReadsWrong : ChangeSpec := { name := "strictReads", fn := fun _ => fun
  | [d1, d2, d3] => { results := [.lit (.bool false)], args := [d1, d2, d3] }
  | _ => none }
def StrictReadsWrongFalsely : Prop := strictReadsRow.holds Tryz.pinned (OpenSpec.ofChange strictReadsWrong)

/-- 'abacistlaw17.StrictRefuses': WHATEVER THE INPUT: true; the input reads as it did. -/
def strictRefusesSpec : ChangeSpec := { name := "strictRefuses", fn := fun _ => fun
  | [d1, d2, d3, d4, d5, d6] => { results := [.lit (.bool true)], args := [d1, d2, d3, d4, d5, d6] }
  | _ => none }
def strictRefusesRow : OpenClaim := { program := "ytdjhkbholijnmaagreatdoor", sum := "c34d0f6ec7d6271e96b533dda426ad557a7f6a3cc9fecce7268db071d76a39dc", func := "abacist/abacistlaw17.StrictRefuses", spec := "strictRefuses", inPlace := ["internal/abi.NoEscape", "internal/bytealg.IndexByteString", "internal/bytealg.IndexString", "internal/bytealg.CountString", "internal/bytealg.MakeNoZero"], unfollowed := true, recurses := true, named := ["internal/bytealg.MaxLen", "unicode/utf8.first", "unicode/utf8.acceptRanges"], apart := false, laid := [("unicode/utf8.acceptRanges", laid_unicode_utf8_acceptRanges), ("unicode/utf8.first", laid_unicode_utf8_first)] }
def StrictRefusesSaid : Prop := strictRefusesRow.holds Tryz.pinned (OpenSpec.ofChange strictRefusesSpec)

/-- ITS FALSE NEIGHBOUR: 'it returns false'. Refute it at one input. -/
def strictRefusesWrong : ChangeSpec := { name := "strictRefuses", fn := fun _ => fun
  | [d1, d2, d3, d4, d5, d6] => { results := [.lit (.bool false)], args := [d1, d2, d3, d4, d5, d6] }
  | _ => none }
def StrictRefusesWrongFalsely : Prop := strictRefusesRow.holds Tryz.pinned (OpenSpec.ofChange strictRefusesWrong)

/-- 'abacistlaw17.StrictShows': WHATEVER THE INPUT: true; the input reads as it did. -/
def strictShowsSpec : ChangeSpec := { name := "strictShows", fn := fun _ => fun
  | [d1, d2, d3, d4] => { results := [.lit (.bool true)], args := [d1, d2, d3, d4] }
  | _ => none }
def strictShowsRow : OpenClaim := { program := "ytdjhkbholijnmaagreatdoor", sum := "c34d0f6ec7d6271e96b533dda426ad557a7f6a3cc9fecce7268db071d76a39dc", func := "abacist/abacistlaw17.StrictShows", spec := "strictShows", inPlace := ["internal/abi.NoEscape", "internal/bytealg.IndexByteString", "internal/bytealg.IndexString", "internal/bytealg.CountString", "internal/bytealg.MakeNoZero"], unfollowed := true, recurses := true, named := ["internal/bytealg.MaxLen", "unicode/utf8.first", "unicode/utf8.acceptRanges"], apart := false, laid := [("unicode/utf8.acceptRanges", laid_unicode_utf8_acceptRanges), ("unicode/utf8.first", laid_unicode_utf8_first)] }
def StrictShowsSaid : Prop := strictShowsRow.holds Tryz.pinned (OpenSpec.ofChange strictShowsSpec)

/-- ITS FALSE NEIGHBOUR: 'it returns false'. Refute it at one input. -/
def strictShowsWrong : ChangeSpec := { name := "strictShows", fn := fun _ => fun
  | [d1, d2, d3, d4] => { results := [.lit (.bool false)], args := [d1, d2, d3, d4] }
  | _ => none }
def StrictShowsWrongFalsely : Prop := strictShowsRow.holds Tryz.pinned (OpenSpec.ofChange strictShowsWrong)

/-- 'abacistlaw17.StrictSwitches': WHATEVER THE INPUT: true; the input reads as it did. -/
def strictSwitchesSpec : ChangeSpec := { name := "strictSwitches", fn := fun _ => fun
  | [d1, d2, d3, d4, d5, d6] => { results := [.lit (.bool true)], args := [d1, d2, d3, d4, d5, d6] }
  | _ => none }
def strictSwitchesRow : OpenClaim := { program := "ytdjhkbholijnmaagreatdoor", sum := "c34d0f6ec7d6271e96b533dda426ad557a7f6a3cc9fecce7268db071d76a39dc", func := "abacist/abacistlaw17.StrictSwitches", spec := "strictSwitches", inPlace := ["internal/abi.NoEscape", "internal/bytealg.IndexByteString", "internal/bytealg.IndexString", "internal/bytealg.CountString", "internal/bytealg.MakeNoZero"], unfollowed := true, recurses := true, named := ["internal/bytealg.MaxLen", "unicode/utf8.first", "unicode/utf8.acceptRanges"], apart := false, laid := [("unicode/utf8.acceptRanges", laid_unicode_utf8_acceptRanges), ("unicode/utf8.first", laid_unicode_utf8_first)] }
def StrictSwitchesSaid : Prop := strictSwitchesRow.holds Tryz.pinned (OpenSpec.ofChange strictSwitchesSpec)

/-- ITS FALSE NEIGHBOUR: 'it returns false'. Refute it at one input. -/
def strictSwitchesWrong : ChangeSpec := { name := "strictSwitches", fn := fun _ => fun
  | [d1, d2, d3, d4, d5, d6] => { results := [.lit (.bool false)], args := [d1, d2, d3, d4, d5, d6] }
  | _ => none }
def StrictSwitchesWrongFalsely : Prop := strictSwitchesRow.holds Tryz.pinned (OpenSpec.ofChange strictSwitchesWrong)

/-- 'abacistlaw17.StrictItems': WHATEVER THE INPUT: true; the input reads as it did. -/
def strictItemsSpec : ChangeSpec := { name := "strictItems", fn := fun _ => fun
  | [d1, d2, d3, d4] => { results := [.lit (.bool true)], args := [d1, d2, d3, d4] }
  | _ => none }
def strictItemsRow : OpenClaim := { program := "ytdjhkbholijnmaagreatdoor", sum := "c34d0f6ec7d6271e96b533dda426ad557a7f6a3cc9fecce7268db071d76a39dc", func := "abacist/abacistlaw17.StrictItems", spec := "strictItems", inPlace := ["internal/abi.NoEscape", "internal/bytealg.IndexByteString", "internal/bytealg.IndexString", "internal/bytealg.CountString", "internal/bytealg.MakeNoZero"], unfollowed := true, recurses := true, named := ["internal/bytealg.MaxLen", "unicode/utf8.first", "unicode/utf8.acceptRanges"], apart := false, laid := [("unicode/utf8.acceptRanges", laid_unicode_utf8_acceptRanges), ("unicode/utf8.first", laid_unicode_utf8_first)] }
def StrictItemsSaid : Prop := strictItemsRow.holds Tryz.pinned (OpenSpec.ofChange strictItemsSpec)

/-- ITS FALSE NEIGHBOUR: 'it returns false'. Refute it at one input. -/
def strictItemsWrong : ChangeSpec := { name := "strictItems", fn := fun _ => fun
  | [d1, d2, d3, d4] => { results := [.lit (.bool false)], args := [d1, d2, d3, d4] }
  | _ => none }
def StrictItemsWrongFalsely : Prop := strictItemsRow.holds Tryz.pinned (OpenSpec.ofChange strictItemsWrong)

/-- 'abacistlaw17.StrictApart': WHATEVER THE INPUT: true; the input reads as it did. -/
def strictApartSpec : ChangeSpec := { name := "strictApart", fn := fun _ => fun
  | [d1, d2, d3, d4] => { results := [.lit (.bool true)], args := [d1, d2, d3, d4] }
  | _ => none }
def strictApartRow : OpenClaim := { program := "ytdjhkbholijnmaagreatdoor", sum := "c34d0f6ec7d6271e96b533dda426ad557a7f6a3cc9fecce7268db071d76a39dc", func := "abacist/abacistlaw17.StrictApart", spec := "strictApart", inPlace := ["internal/abi.NoEscape", "internal/bytealg.IndexByteString", "internal/bytealg.IndexString", "internal/bytealg.CountString", "internal/bytealg.MakeNoZero"], unfollowed := true, recurses := true, named := ["internal/bytealg.MaxLen", "unicode/utf8.first", "unicode/utf8.acceptRanges"], apart := false, laid := [("unicode/utf8.acceptRanges", laid_unicode_utf8_acceptRanges), ("unicode/utf8.first", laid_unicode_utf8_first)] }
def StrictApartSaid : Prop := strictApartRow.holds Tryz.pinned (OpenSpec.ofChange strictApartSpec)

/-- ITS FALSE NEIGHBOUR: 'it returns false'. Refute it at one input. -/
def strictApartWrong : ChangeSpec := { name := "strictApart", fn := fun _ => fun
  | [d1, d2, d3, d4] => { results := [.lit (.bool false)], args := [d1, d2, d3, d4] }
  | _ => none }
def StrictApartWrongFalsely : Prop := strictApartRow.holds Tryz.pinned (OpenSpec.ofChange strictApartWrong)

/- THE SECOND FORM. 'bulk': how many values and letters a reading holds, each counted each time it is reached (what is shared counts as often as it is met; a slice's spare places count too). A statement '..UptoSaid' is the law's where the arguments, and the package variables that the reading takes, are together of bulk at most 1048576: NARROWER than '..Said'. Prove '..Said' where nothing that the law and all that it calls make is longer than what came in: it says more and counts as full. Else prove '..UptoSaid'. A law counts once. -/
mutual
def uptoBulk {H : Type} : DataW H → Nat
  | .lit (.string bytes) => bytes.length + 1
  | .lit _ => 1
  | .nil => 1
  | .ptr d => uptoBulk d + 1
  | .slice elems spare => uptoBulkAll elems + uptoBulkAll spare + 1
  | .agg parts => uptoBulkAll parts + 1
  | .iface _ d => uptoBulk d + 1
  | .map entries => uptoBulkEntries entries + 1
  | .held _ => 1
def uptoBulkAll {H : Type} : List (DataW H) → Nat
  | [] => 0
  | d :: r => uptoBulk d + uptoBulkAll r
def uptoBulkEntries {H : Type} : List (Lit × DataW H) → Nat
  | [] => 0
  | x :: r => uptoBulkEntry x + uptoBulkEntries r
def uptoBulkEntry {H : Type} : Lit × DataW H → Nat
  | (.string bytes, d) => bytes.length + uptoBulk d + 1
  | (_, d) => uptoBulk d + 1
 end
def uptoSmall : (H : Type) → List (DataW H) → Bool := fun _ ds => decide (uptoBulkAll ds ≤ 1048576)
def OpenSpec.upto (s : _root_.Go.ChangeSpec) : _root_.Go.OpenSpec := { _root_.Go.OpenSpec.ofChange s with cond := some uptoSmall }

/-- 'abacistlaw17.StrictReads', WHERE WHAT IT READS IS OF BULK AT MOST 1048576: true; the input reads as it did. -/
def strictReadsUptoRow : OpenClaim := { program := "ytdjhkbholijnmaagreatdoor", sum := "c34d0f6ec7d6271e96b533dda426ad557a7f6a3cc9fecce7268db071d76a39dc", func := "abacist/abacistlaw17.StrictReads", spec := "strictReads", inPlace := ["internal/abi.NoEscape", "internal/bytealg.IndexByteString", "internal/bytealg.IndexString", "internal/bytealg.CountString", "internal/bytealg.MakeNoZero"], unfollowed := true, recurses := true, named := ["internal/bytealg.MaxLen", "unicode/utf8.first", "unicode/utf8.acceptRanges"], apart := false, laid := [("unicode/utf8.acceptRanges", laid_unicode_utf8_acceptRanges), ("unicode/utf8.first", laid_unicode_utf8_first)], narrowed := true }
def StrictReadsUptoSaid : Prop := strictReadsUptoRow.holds Tryz.pinned (OpenSpec.upto strictReadsSpec)

/-- 'abacistlaw17.StrictRefuses', WHERE WHAT IT READS IS OF BULK AT MOST 1048576: true; the input reads as it did. -/
def strictRefusesUptoRow : OpenClaim := { program := "ytdjhkbholijnmaagreatdoor", sum := "c34d0f6ec7d6271e96b533dda426ad557a7f6a3cc9fecce7268db071d76a39dc", func := "abacist/abacistlaw17.StrictRefuses", spec := "strictRefuses", inPlace := ["internal/abi.NoEscape", "internal/bytealg.IndexByteString", "internal/bytealg.IndexString", "internal/bytealg.CountString", "internal/bytealg.MakeNoZero"], unfollowed := true, recurses := true, named := ["internal/bytealg.MaxLen", "unicode/utf8.first", "unicode/utf8.acceptRanges"], apart := false, laid := [("unicode/utf8.acceptRanges", laid_unicode_utf8_acceptRanges), ("unicode/utf8.first", laid_unicode_utf8_first)], narrowed := true }
def StrictRefusesUptoSaid : Prop := strictRefusesUptoRow.holds Tryz.pinned (OpenSpec.upto strictRefusesSpec)

/-- 'abacistlaw17.StrictShows', WHERE WHAT IT READS IS OF BULK AT MOST 1048576: true; the input reads as it did. -/
def strictShowsUptoRow : OpenClaim := { program := "ytdjhkbholijnmaagreatdoor", sum := "c34d0f6ec7d6271e96b533dda426ad557a7f6a3cc9fecce7268db071d76a39dc", func := "abacist/abacistlaw17.StrictShows", spec := "strictShows", inPlace := ["internal/abi.NoEscape", "internal/bytealg.IndexByteString", "internal/bytealg.IndexString", "internal/bytealg.CountString", "internal/bytealg.MakeNoZero"], unfollowed := true, recurses := true, named := ["internal/bytealg.MaxLen", "unicode/utf8.first", "unicode/utf8.acceptRanges"], apart := false, laid := [("unicode/utf8.acceptRanges", laid_unicode_utf8_acceptRanges), ("unicode/utf8.first", laid_unicode_utf8_first)], narrowed := true }
def StrictShowsUptoSaid : Prop := strictShowsUptoRow.holds Tryz.pinned (OpenSpec.upto strictShowsSpec)

/-- 'abacistlaw17.StrictSwitches', WHERE WHAT IT READS IS OF BULK AT MOST 1048576: true; the input reads as it did. -/
def strictSwitchesUptoRow : OpenClaim := { program := "ytdjhkbholijnmaagreatdoor", sum := "c34d0f6ec7d6271e96b533dda426ad557a7f6a3cc9fecce7268db071d76a39dc", func := "abacist/abacistlaw17.StrictSwitches", spec := "strictSwitches", inPlace := ["internal/abi.NoEscape", "internal/bytealg.IndexByteString", "internal/bytealg.IndexString", "internal/bytealg.CountString", "internal/bytealg.MakeNoZero"], unfollowed := true, recurses := true, named := ["internal/bytealg.MaxLen", "unicode/utf8.first", "unicode/utf8.acceptRanges"], apart := false, laid := [("unicode/utf8.acceptRanges", laid_unicode_utf8_acceptRanges), ("unicode/utf8.first", laid_unicode_utf8_first)], narrowed := true }
def StrictSwitchesUptoSaid : Prop := strictSwitchesUptoRow.holds Tryz.pinned (OpenSpec.upto strictSwitchesSpec)

/-- 'abacistlaw17.StrictItems', WHERE WHAT IT READS IS OF BULK AT MOST 1048576: true; the input reads as it did. -/
def strictItemsUptoRow : OpenClaim := { program := "ytdjhkbholijnmaagreatdoor", sum := "c34d0f6ec7d6271e96b533dda426ad557a7f6a3cc9fecce7268db071d76a39dc", func := "abacist/abacistlaw17.StrictItems", spec := "strictItems", inPlace := ["internal/abi.NoEscape", "internal/bytealg.IndexByteString", "internal/bytealg.IndexString", "internal/bytealg.CountString", "internal/bytealg.MakeNoZero"], unfollowed := true, recurses := true, named := ["internal/bytealg.MaxLen", "unicode/utf8.first", "unicode/utf8.acceptRanges"], apart := false, laid := [("unicode/utf8.acceptRanges", laid_unicode_utf8_acceptRanges), ("unicode/utf8.first", laid_unicode_utf8_first)], narrowed := true }
def StrictItemsUptoSaid : Prop := strictItemsUptoRow.holds Tryz.pinned (OpenSpec.upto strictItemsSpec)

/-- 'abacistlaw17.StrictApart', WHERE WHAT IT READS IS OF BULK AT MOST 1048576: true; the input reads as it did. -/
def strictApartUptoRow : OpenClaim := { program := "ytdjhkbholijnmaagreatdoor", sum := "c34d0f6ec7d6271e96b533dda426ad557a7f6a3cc9fecce7268db071d76a39dc", func := "abacist/abacistlaw17.StrictApart", spec := "strictApart", inPlace := ["internal/abi.NoEscape", "internal/bytealg.IndexByteString", "internal/bytealg.IndexString", "internal/bytealg.CountString", "internal/bytealg.MakeNoZero"], unfollowed := true, recurses := true, named := ["internal/bytealg.MaxLen", "unicode/utf8.first", "unicode/utf8.acceptRanges"], apart := false, laid := [("unicode/utf8.acceptRanges", laid_unicode_utf8_acceptRanges), ("unicode/utf8.first", laid_unicode_utf8_first)], narrowed := true }
def StrictApartUptoSaid : Prop := strictApartUptoRow.holds Tryz.pinned (OpenSpec.upto strictApartSpec)

end Rows
end Go.Proofs.YtdjhkbholijnmaaGreatDoor
