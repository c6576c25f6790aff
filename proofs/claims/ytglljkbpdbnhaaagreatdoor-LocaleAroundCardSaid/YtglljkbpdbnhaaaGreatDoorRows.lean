/-
  NARROWER THAN 'FOR EVERY INPUT', by the rows' own cells (each row's printed sentence says how): LocaleTold: laid · LocaleAround: laid · LocaleSigns: laid · FortyMay: laid · FortyNone: laid.
  DERIVED. THE GIVEN ROWS OF THIS SEAT. 5 by the template 'for every input the law returns true; each argument reads behind the call as it read before'; 0 by the template 'total and deterministic' (their statements: YtglljkbpdbnhaaaGreatDoorTotals.lean).
  GIVEN WITH THE SEED: the statements are not yours to turn. If you find one false, say at which input.
  Laid BY PROGRAM, IN A SANDBOX (cutbox-rows.mjs): the forced cells as the released guide's own fill.sh prints them over the translation b2f276c09ec23022… (all of the seat's roots in one cut). By AI agents, Wed Nov 11 2026. No macro, syntax, notation, axiom, sorry.
-/
import Derived.Test.YtglljkbpdbnhaaaGreatDoorChecked
import GoSem.PinnedTables
import GoSem.Claim
import GoSem.ClaimJoined
import GoSem.ClaimMapViews
import Derived.JoinedTies
import Derived.KernelRfl
namespace Go.Proofs.YtglljkbpdbnhaaaGreatDoor
/- THE CELL 'sum', in the pinned program and in every row, IS THE sha256 OF THE DUMP (.gsa) THAT YtglljkbpdbnhaaaGreatDoorProg.lean LOADS. Nothing in Lean hashes anything: it is a label: what it is worth is what the hold of that sum in a sandbox is worth. -/
noncomputable def Tryz.pinned : Pinned := { name := "ytglljkbpdbnhaaagreatdoor", sum := "b2f276c09ec23022c935178059c2760071a6c957a512e19da9a16e3e35114474", checked := Tryz.checked }
namespace Rows
def none {H : Type} : Left H := { results := [], args := [] }

/- WHAT THE LISTED PACKAGE-LEVEL VARIABLES READ AS WHEN THE CALL BEGINS. Each datum BY PROGRAM (the guide's laid-datum.mjs) off the statement by which the dump's own 'gosem.cut.vars' lays the variable. In a bare row this is a premise. The card (YtglljkbpdbnhaaaGreatDoorCards.lean) ties it to the program's text. -/
def laid_unicode_utf8_acceptRanges {H : Type} : DataW H := .agg [.agg [.lit (.int .u8 128), .lit (.int .u8 191)], .agg [.lit (.int .u8 160), .lit (.int .u8 191)], .agg [.lit (.int .u8 128), .lit (.int .u8 159)], .agg [.lit (.int .u8 144), .lit (.int .u8 191)], .agg [.lit (.int .u8 128), .lit (.int .u8 143)], .agg [.lit (.int .u8 0), .lit (.int .u8 0)], .agg [.lit (.int .u8 0), .lit (.int .u8 0)], .agg [.lit (.int .u8 0), .lit (.int .u8 0)], .agg [.lit (.int .u8 0), .lit (.int .u8 0)], .agg [.lit (.int .u8 0), .lit (.int .u8 0)], .agg [.lit (.int .u8 0), .lit (.int .u8 0)], .agg [.lit (.int .u8 0), .lit (.int .u8 0)], .agg [.lit (.int .u8 0), .lit (.int .u8 0)], .agg [.lit (.int .u8 0), .lit (.int .u8 0)], .agg [.lit (.int .u8 0), .lit (.int .u8 0)], .agg [.lit (.int .u8 0), .lit (.int .u8 0)]]
/-- One of Go's own tables, pinned by name: the form's constant. -/
def laid_unicode_utf8_first : DataW Unit := Go.Pinned.utf8First

/-- 'abacistlaw11.LocaleTold': WHATEVER THE INPUT: true; the input reads as it did. -/
def localeToldSpec : ChangeSpec := { name := "localeTold", fn := fun _ => fun
  | [d1, d2] => { results := [.lit (.bool true)], args := [d1, d2] }
  | _ => none }
def localeToldRow : OpenClaim := { program := "ytglljkbpdbnhaaagreatdoor", sum := "b2f276c09ec23022c935178059c2760071a6c957a512e19da9a16e3e35114474", func := "abacist/abacistlaw11.LocaleTold", spec := "localeTold", inPlace := ["internal/abi.NoEscape", "internal/bytealg.IndexByteString", "internal/bytealg.IndexString", "internal/bytealg.CountString", "internal/bytealg.MakeNoZero"], unfollowed := true, recurses := true, named := ["internal/bytealg.MaxLen", "unicode/utf8.first", "unicode/utf8.acceptRanges"], apart := false, laid := [("unicode/utf8.acceptRanges", laid_unicode_utf8_acceptRanges), ("unicode/utf8.first", laid_unicode_utf8_first)] }
def LocaleToldSaid : Prop := localeToldRow.holds Tryz.pinned (OpenSpec.ofChange localeToldSpec)

/-- ITS FALSE NEIGHBOUR: 'it returns false'. Refute it at one input. -/
def localeToldWrong : ChangeSpec := { name := "localeTold", fn := fun _ => fun
  | [d1, d2] => { results := [.lit (.bool false)], args := [d1, d2] }
  | _ => none }
def LocaleToldWrongFalsely : Prop := localeToldRow.holds Tryz.pinned (OpenSpec.ofChange localeToldWrong)

/-- 'abacistlaw11.LocaleAround': WHATEVER THE INPUT: true; the input reads as it did. -/
def localeAroundSpec : ChangeSpec := { name := "localeAround", fn := fun _ => fun
  | [d1, d2] => { results := [.lit (.bool true)], args := [d1, d2] }
  | _ => none }
def localeAroundRow : OpenClaim := { program := "ytglljkbpdbnhaaagreatdoor", sum := "b2f276c09ec23022c935178059c2760071a6c957a512e19da9a16e3e35114474", func := "abacist/abacistlaw11.LocaleAround", spec := "localeAround", inPlace := ["internal/abi.NoEscape", "internal/bytealg.IndexByteString", "internal/bytealg.IndexString", "internal/bytealg.CountString", "internal/bytealg.MakeNoZero"], unfollowed := true, recurses := true, named := ["internal/bytealg.MaxLen", "unicode/utf8.first", "unicode/utf8.acceptRanges"], apart := false, laid := [("unicode/utf8.acceptRanges", laid_unicode_utf8_acceptRanges), ("unicode/utf8.first", laid_unicode_utf8_first)] }
def LocaleAroundSaid : Prop := localeAroundRow.holds Tryz.pinned (OpenSpec.ofChange localeAroundSpec)

/-- ITS FALSE NEIGHBOUR: 'it returns false'. Refute it at one input. -/
def localeAroundWrong : ChangeSpec := { name := "localeAround", fn := fun _ => fun
  | [d1, d2] => { results := [.lit (.bool false)], args := [d1, d2] }
  | _ => none }
def LocaleAroundWrongFalsely : Prop := localeAroundRow.holds Tryz.pinned (OpenSpec.ofChange localeAroundWrong)

/-- 'abacistlaw11.LocaleSigns': WHATEVER THE INPUT: true; the input reads as it did. -/
def localeSignsSpec : ChangeSpec := { name := "localeSigns", fn := fun _ => fun
  | [d1, d2, d3] => { results := [.lit (.bool true)], args := [d1, d2, d3] }
  | _ => none }
def localeSignsRow : OpenClaim := { program := "ytglljkbpdbnhaaagreatdoor", sum := "b2f276c09ec23022c935178059c2760071a6c957a512e19da9a16e3e35114474", func := "abacist/abacistlaw11.LocaleSigns", spec := "localeSigns", inPlace := ["internal/abi.NoEscape", "internal/bytealg.IndexByteString", "internal/bytealg.IndexString", "internal/bytealg.CountString", "internal/bytealg.MakeNoZero"], unfollowed := true, recurses := true, named := ["internal/bytealg.MaxLen", "unicode/utf8.first", "unicode/utf8.acceptRanges"], apart := false, laid := [("unicode/utf8.acceptRanges", laid_unicode_utf8_acceptRanges), ("unicode/utf8.first", laid_unicode_utf8_first)] }
def LocaleSignsSaid : Prop := localeSignsRow.holds Tryz.pinned (OpenSpec.ofChange localeSignsSpec)

/-- ITS FALSE NEIGHBOUR: 'it returns false'. Refute it at one input. -/
def localeSignsWrong : ChangeSpec := { name := "localeSigns", fn := fun _ => fun
  | [d1, d2, d3] => { results := [.lit (.bool false)], args := [d1, d2, d3] }
  | _ => none }
def LocaleSignsWrongFalsely : Prop := localeSignsRow.holds Tryz.pinned (OpenSpec.ofChange localeSignsWrong)

/-- 'abacistlaw12.FortyMay': WHATEVER THE INPUT: true; the input reads as it did. -/
def fortyMaySpec : ChangeSpec := { name := "fortyMay", fn := fun _ => fun
  | [d] => { results := [.lit (.bool true)], args := [d] }
  | _ => none }
def fortyMayRow : OpenClaim := { program := "ytglljkbpdbnhaaagreatdoor", sum := "b2f276c09ec23022c935178059c2760071a6c957a512e19da9a16e3e35114474", func := "abacist/abacistlaw12.FortyMay", spec := "fortyMay", inPlace := ["internal/abi.NoEscape", "internal/bytealg.IndexByteString", "internal/bytealg.IndexString", "internal/bytealg.CountString", "internal/bytealg.MakeNoZero"], unfollowed := true, recurses := true, named := ["internal/bytealg.MaxLen", "unicode/utf8.first", "unicode/utf8.acceptRanges"], apart := false, laid := [("unicode/utf8.acceptRanges", laid_unicode_utf8_acceptRanges), ("unicode/utf8.first", laid_unicode_utf8_first)] }
def FortyMaySaid : Prop := fortyMayRow.holds Tryz.pinned (OpenSpec.ofChange fortyMaySpec)

/-- ITS FALSE NEIGHBOUR: 'it returns false'. Refute it at one input. -/
def fortyMayWrong : ChangeSpec := { name := "fortyMay", fn := fun _ => fun
  | [d] => { results := [.lit (.bool false)], args := [d] }
  | _ => none }
def FortyMayWrongFalsely : Prop := fortyMayRow.holds Tryz.pinned (OpenSpec.ofChange fortyMayWrong)

/-- 'abacistlaw12.FortyNone': WHATEVER THE INPUT: true; the input reads as it did. -/
def fortyNoneSpec : ChangeSpec := { name := "fortyNone", fn := fun _ => fun
  | [d] => { results := [.lit (.bool true)], args := [d] }
  | _ => none }
def fortyNoneRow : OpenClaim := { program := "ytglljkbpdbnhaaagreatdoor", sum := "b2f276c09ec23022c935178059c2760071a6c957a512e19da9a16e3e35114474", func := "abacist/abacistlaw12.FortyNone", spec := "fortyNone", inPlace := ["internal/abi.NoEscape", "internal/bytealg.IndexByteString", "internal/bytealg.IndexString", "internal/bytealg.CountString", "internal/bytealg.MakeNoZero"], unfollowed := true, recurses := true, named := ["internal/bytealg.MaxLen", "unicode/utf8.first", "unicode/utf8.acceptRanges"], apart := false, laid := [("unicode/utf8.acceptRanges", laid_unicode_utf8_acceptRanges), ("unicode/utf8.first", laid_unicode_utf8_first)] }
def FortyNoneSaid : Prop := fortyNoneRow.holds Tryz.pinned (OpenSpec.ofChange fortyNoneSpec)

/-- ITS FALSE NEIGHBOUR: 'it returns false'. Refute it at one input. -/
def fortyNoneWrong : ChangeSpec := { name := "fortyNone", fn := fun _ => fun
  | [d] => { results := [.lit (.bool false)], args := [d] }
  | _ => none }
def FortyNoneWrongFalsely : Prop := fortyNoneRow.holds Tryz.pinned (OpenSpec.ofChange fortyNoneWrong)

/- THE SECOND FORM. 'bulk': how many values and letters a reading holds, each counted each time it is reached (what is shared counts as often as it is met; a slice's spare places count too). A statement '..UptoSaid' is the law's where the arguments, and the package variables that the reading takes, are together of bulk at most 1048576: NARROWER than '..Said'. Prove '..Said' where nothing that the law and all that it calls make is longer than what came in: it says more and counts as full. Else prove '..UptoSaid'. A law counts once. -/
mutual
def uptoBulk {H : Type} : DataW H → Nat
  | .lit (.string bytes) => bytes.length + 1
  | .lit _ => 1
  | .nil => 1
  | .ptr d => uptoBulk d + 1
  | .slice elems spare => uptoBulkAll elems + uptoBulkAll spare + 1
  | .agg parts => uptoBulkAll parts + 1
  | .iface _ d => uptoBulk d + 1
  | .map entries => uptoBulkEntries entries + 1
  | .held _ => 1
def uptoBulkAll {H : Type} : List (DataW H) → Nat
  | [] => 0
  | d :: r => uptoBulk d + uptoBulkAll r
def uptoBulkEntries {H : Type} : List (Lit × DataW H) → Nat
  | [] => 0
  | x :: r => uptoBulkEntry x + uptoBulkEntries r
def uptoBulkEntry {H : Type} : Lit × DataW H → Nat
  | (.string bytes, d) => bytes.length + uptoBulk d + 1
  | (_, d) => uptoBulk d + 1
 end
def uptoSmall : (H : Type) → List (DataW H) → Bool := fun _ ds => decide (uptoBulkAll ds ≤ 1048576)
def OpenSpec.upto (s : _root_.Go.ChangeSpec) : _root_.Go.OpenSpec := { _root_.Go.OpenSpec.ofChange s with cond := some uptoSmall }

/-- 'abacistlaw11.LocaleTold', WHERE WHAT IT READS IS OF BULK AT MOST 1048576: true; the input reads as it did. -/
def localeToldUptoRow : OpenClaim := { program := "ytglljkbpdbnhaaagreatdoor", sum := "b2f276c09ec23022c935178059c2760071a6c957a512e19da9a16e3e35114474", func := "abacist/abacistlaw11.LocaleTold", spec := "localeTold", inPlace := ["internal/abi.NoEscape", "internal/bytealg.IndexByteString", "internal/bytealg.IndexString", "internal/bytealg.CountString", "internal/bytealg.MakeNoZero"], unfollowed := true, recurses := true, named := ["internal/bytealg.MaxLen", "unicode/utf8.first", "unicode/utf8.acceptRanges"], apart := false, laid := [("unicode/utf8.acceptRanges", laid_unicode_utf8_acceptRanges), ("unicode/utf8.first", laid_unicode_utf8_first)], narrowed := true }
def LocaleToldUptoSaid : Prop := localeToldUptoRow.holds Tryz.pinned (OpenSpec.upto localeToldSpec)

/-- 'abacistlaw11.LocaleAround', WHERE WHAT IT READS IS OF BULK AT MOST 1048576: true; the input reads as it did. -/
def localeAroundUptoRow : OpenClaim := { program := "ytglljkbpdbnhaaagreatdoor", sum := "b2f276c09ec23022c935178059c2760071a6c957a512e19da9a16e3e35114474", func := "abacist/abacistlaw11.LocaleAround", spec := "localeAround", inPlace := ["internal/abi.NoEscape", "internal/bytealg.IndexByteString", "internal/bytealg.IndexString", "internal/bytealg.CountString", "internal/bytealg.MakeNoZero"], unfollowed := true, recurses := true, named := ["internal/bytealg.MaxLen", "unicode/utf8.first", "unicode/utf8.acceptRanges"], apart := false, laid := [("unicode/utf8.acceptRanges", laid_unicode_utf8_acceptRanges), ("unicode/utf8.first", laid_unicode_utf8_first)], narrowed := true }
def LocaleAroundUptoSaid : Prop := localeAroundUptoRow.holds Tryz.pinned (OpenSpec.upto localeAroundSpec)

/-- 'abacistlaw11.LocaleSigns', WHERE WHAT IT READS IS OF BULK AT MOST 1048576: true; the input reads as it did. -/
def localeSignsUptoRow : OpenClaim := { program := "ytglljkbpdbnhaaagreatdoor", sum := "b2f276c09ec23022c935178059c2760071a6c957a512e19da9a16e3e35114474", func := "abacist/abacistlaw11.LocaleSigns", spec := "localeSigns", inPlace := ["internal/abi.NoEscape", "internal/bytealg.IndexByteString", "internal/bytealg.IndexString", "internal/bytealg.CountString", "internal/bytealg.MakeNoZero"], unfollowed := true, recurses := true, named := ["internal/bytealg.MaxLen", "unicode/utf8.first", "unicode/utf8.acceptRanges"], apart := false, laid := [("unicode/utf8.acceptRanges", laid_unicode_utf8_acceptRanges), ("unicode/utf8.first", laid_unicode_utf8_first)], narrowed := true }
def LocaleSignsUptoSaid : Prop := localeSignsUptoRow.holds Tryz.pinned (OpenSpec.upto localeSignsSpec)

/-- 'abacistlaw12.FortyMay', WHERE WHAT IT READS IS OF BULK AT MOST 1048576: true; the input reads as it did. -/
def fortyMayUptoRow : OpenClaim := { program := "ytglljkbpdbnhaaagreatdoor", sum := "b2f276c09ec23022c935178059c2760071a6c957a512e19da9a16e3e35114474", func := "abacist/abacistlaw12.FortyMay", spec := "fortyMay", inPlace := ["internal/abi.NoEscape", "internal/bytealg.IndexByteString", "internal/bytealg.IndexString", "internal/bytealg.CountString", "internal/bytealg.MakeNoZero"], unfollowed := true, recurses := true, named := ["internal/bytealg.MaxLen", "unicode/utf8.first", "unicode/utf8.acceptRanges"], apart := false, laid := [("unicode/utf8.acceptRanges", laid_unicode_utf8_acceptRanges), ("unicode/utf8.first", laid_unicode_utf8_first)], narrowed := true }
def FortyMayUptoSaid : Prop := fortyMayUptoRow.holds Tryz.pinned (OpenSpec.upto fortyMaySpec)

/-- 'abacistlaw12.FortyNone', WHERE WHAT IT READS IS OF BULK AT MOST 1048576: true; the input reads as it did. -/
def fortyNoneUptoRow : OpenClaim := { program := "ytglljkbpdbnhaaagreatdoor", sum := "b2f276c09ec23022c935178059c2760071a6c957a512e19da9a16e3e35114474", func := "abacist/abacistlaw12.FortyNone", spec := "fortyNone", inPlace := ["internal/abi.NoEscape", "internal/bytealg.IndexByteString", "internal/bytealg.IndexString", "internal/bytealg.CountString", "internal/bytealg.MakeNoZero"], unfollowed := true, recurses := true, named := ["internal/bytealg.MaxLen", "unicode/utf8.first", "unicode/utf8.acceptRanges"], apart := false, laid := [("unicode/utf8.acceptRanges", laid_unicode_utf8_acceptRanges), ("unicode/utf8.first", laid_unicode_utf8_first)], narrowed := true }
def FortyNoneUptoSaid : Prop := fortyNoneUptoRow.holds Tryz.pinned (OpenSpec.upto fortyNoneSpec)

end Rows
end Go.Proofs.YtglljkbpdbnhaaaGreatDoor
