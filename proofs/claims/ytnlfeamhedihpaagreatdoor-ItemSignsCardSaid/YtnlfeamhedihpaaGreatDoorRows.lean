/-
  NARROWER THAN 'FOR EVERY INPUT', by the rows' own cells (each row's printed sentence says how): ItemAll: laid · ItemAtoms: laid · ItemGroups: laid · ItemSigns: laid · ItemClusters: laid.
  DERIVED. THE GIVEN ROWS OF THIS SEAT. 5 by the template 'for every input the law returns true; each argument reads behind the call as it read before'; 0 by the template 'total and deterministic' (their statements: YtnlfeamhedihpaaGreatDoorTotals.lean).
  GIVEN WITH THE SEED: the statements are not yours to turn. If you find one false, say at which input.
  Laid BY PROGRAM, IN A SANDBOX (cutbox-rows.mjs): the forced cells as the released guide's own fill.sh prints them over the translation d057d12cae4fe65a… (all of the seat's roots in one cut). By AI agents, Wed Nov 11 2026. No macro, syntax, notation, axiom, sorry.
-/
import Derived.Test.YtnlfeamhedihpaaGreatDoorChecked
import GoSem.PinnedTables
import GoSem.Claim
import GoSem.ClaimJoined
import GoSem.ClaimMapViews
import Derived.JoinedTies
import Derived.KernelRfl
namespace Go.Proofs.YtnlfeamhedihpaaGreatDoor
/- THE CELL 'sum', in the pinned program and in every row, IS THE sha256 OF THE DUMP (.gsa) THAT YtnlfeamhedihpaaGreatDoorProg.lean LOADS. Nothing in Lean hashes anything: it is a label: what it is worth is what the hold of that sum in a sandbox is worth. -/
noncomputable def Tryz.pinned : Pinned := { name := "ytnlfeamhedihpaagreatdoor", sum := "d057d12cae4fe65a13a51e8b369e5e488c95f20db13ae2e54891017774401024", checked := Tryz.checked }
namespace Rows
def none {H : Type} : Left H := { results := [], args := [] }

/- WHAT THE LISTED PACKAGE-LEVEL VARIABLES READ AS WHEN THE CALL BEGINS. Each datum BY PROGRAM (the guide's laid-datum.mjs) off the statement by which the dump's own 'gosem.cut.vars' lays the variable. In a bare row this is a premise. The card (YtnlfeamhedihpaaGreatDoorCards.lean) ties it to the program's text. -/
def laid_unicode_utf8_acceptRanges {H : Type} : DataW H := .agg [.agg [.lit (.int .u8 128), .lit (.int .u8 191)], .agg [.lit (.int .u8 160), .lit (.int .u8 191)], .agg [.lit (.int .u8 128), .lit (.int .u8 159)], .agg [.lit (.int .u8 144), .lit (.int .u8 191)], .agg [.lit (.int .u8 128), .lit (.int .u8 143)], .agg [.lit (.int .u8 0), .lit (.int .u8 0)], .agg [.lit (.int .u8 0), .lit (.int .u8 0)], .agg [.lit (.int .u8 0), .lit (.int .u8 0)], .agg [.lit (.int .u8 0), .lit (.int .u8 0)], .agg [.lit (.int .u8 0), .lit (.int .u8 0)], .agg [.lit (.int .u8 0), .lit (.int .u8 0)], .agg [.lit (.int .u8 0), .lit (.int .u8 0)], .agg [.lit (.int .u8 0), .lit (.int .u8 0)], .agg [.lit (.int .u8 0), .lit (.int .u8 0)], .agg [.lit (.int .u8 0), .lit (.int .u8 0)], .agg [.lit (.int .u8 0), .lit (.int .u8 0)]]
/-- One of Go's own tables, pinned by name: the form's constant. -/
def laid_unicode_utf8_first : DataW Unit := Go.Pinned.utf8First

/-- 'abacistlaw15.ItemAll': WHATEVER THE INPUT: true; the input reads as it did. -/
def itemAllSpec : ChangeSpec := { name := "itemAll", fn := fun _ => fun
  | [d1, d2, d3] => { results := [.lit (.bool true)], args := [d1, d2, d3] }
  | _ => none }
def itemAllRow : OpenClaim := { program := "ytnlfeamhedihpaagreatdoor", sum := "d057d12cae4fe65a13a51e8b369e5e488c95f20db13ae2e54891017774401024", func := "abacist/abacistlaw15.ItemAll", spec := "itemAll", inPlace := ["internal/abi.NoEscape", "internal/bytealg.IndexByteString", "internal/bytealg.IndexString", "internal/bytealg.CountString", "internal/bytealg.MakeNoZero"], unfollowed := true, recurses := true, named := ["internal/bytealg.MaxLen", "unicode/utf8.first", "unicode/utf8.acceptRanges"], apart := false, laid := [("unicode/utf8.acceptRanges", laid_unicode_utf8_acceptRanges), ("unicode/utf8.first", laid_unicode_utf8_first)] }
def ItemAllSaid : Prop := itemAllRow.holds Tryz.pinned (OpenSpec.ofChange itemAllSpec)

/-- ITS FALSE NEIGHBOUR: 'it returns false'. Refute it at one input. -/
def itemAllWrong : ChangeSpec := { name := "itemAll", fn := fun _ => fun
  | [d1, d2, d3] => { results := [.lit (.bool false)], args := [d1, d2, d3] }
  | _ => none }
def ItemAllWrongFalsely : Prop := itemAllRow.holds Tryz.pinned (OpenSpec.ofChange itemAllWrong)

/-- 'abacistlaw15.ItemAtoms': WHATEVER THE INPUT: true; the input reads as it did. -/
def itemAtomsSpec : ChangeSpec := { name := "itemAtoms", fn := fun _ => fun
  | [d1, d2, d3] => { results := [.lit (.bool true)], args := [d1, d2, d3] }
  | _ => none }
def itemAtomsRow : OpenClaim := { program := "ytnlfeamhedihpaagreatdoor", sum := "d057d12cae4fe65a13a51e8b369e5e488c95f20db13ae2e54891017774401024", func := "abacist/abacistlaw15.ItemAtoms", spec := "itemAtoms", inPlace := ["internal/abi.NoEscape", "internal/bytealg.IndexByteString", "internal/bytealg.IndexString", "internal/bytealg.CountString", "internal/bytealg.MakeNoZero"], unfollowed := true, recurses := true, named := ["internal/bytealg.MaxLen", "unicode/utf8.first", "unicode/utf8.acceptRanges"], apart := false, laid := [("unicode/utf8.acceptRanges", laid_unicode_utf8_acceptRanges), ("unicode/utf8.first", laid_unicode_utf8_first)] }
def ItemAtomsSaid : Prop := itemAtomsRow.holds Tryz.pinned (OpenSpec.ofChange itemAtomsSpec)

/-- ITS FALSE NEIGHBOUR: 'it returns false'. Refute it at one input. -/
def itemAtomsWrong : ChangeSpec := { name := "itemAtoms", fn := fun _ => fun
  | [d1, d2, d3] => { results := [.lit (.bool false)], args := [d1, d2, d3] }
  | _ => none }
def ItemAtomsWrongFalsely : Prop := itemAtomsRow.holds Tryz.pinned (OpenSpec.ofChange itemAtomsWrong)

/-- 'abacistlaw15.ItemGroups': WHATEVER THE INPUT: true; the input reads as it did. -/
def itemGroupsSpec : ChangeSpec := { name := "itemGroups", fn := fun _ => fun
  | [d1, d2, d3] => { results := [.lit (.bool true)], args := [d1, d2, d3] }
  | _ => none }
def itemGroupsRow : OpenClaim := { program := "ytnlfeamhedihpaagreatdoor", sum := "d057d12cae4fe65a13a51e8b369e5e488c95f20db13ae2e54891017774401024", func := "abacist/abacistlaw15.ItemGroups", spec := "itemGroups", inPlace := ["internal/abi.NoEscape", "internal/bytealg.IndexByteString", "internal/bytealg.IndexString", "internal/bytealg.CountString", "internal/bytealg.MakeNoZero"], unfollowed := true, recurses := true, named := ["internal/bytealg.MaxLen", "unicode/utf8.first", "unicode/utf8.acceptRanges"], apart := false, laid := [("unicode/utf8.acceptRanges", laid_unicode_utf8_acceptRanges), ("unicode/utf8.first", laid_unicode_utf8_first)] }
def ItemGroupsSaid : Prop := itemGroupsRow.holds Tryz.pinned (OpenSpec.ofChange itemGroupsSpec)

/-- ITS FALSE NEIGHBOUR: 'it returns false'. Refute it at one input. -/
def itemGroupsWrong : ChangeSpec := { name := "itemGroups", fn := fun _ => fun
  | [d1, d2, d3] => { results := [.lit (.bool false)], args := [d1, d2, d3] }
  | _ => none }
def ItemGroupsWrongFalsely : Prop := itemGroupsRow.holds Tryz.pinned (OpenSpec.ofChange itemGroupsWrong)

/-- 'abacistlaw15.ItemSigns': WHATEVER THE INPUT: true; the input reads as it did. -/
def itemSignsSpec : ChangeSpec := { name := "itemSigns", fn := fun _ => fun
  | [d1, d2, d3] => { results := [.lit (.bool true)], args := [d1, d2, d3] }
  | _ => none }
def itemSignsRow : OpenClaim := { program := "ytnlfeamhedihpaagreatdoor", sum := "d057d12cae4fe65a13a51e8b369e5e488c95f20db13ae2e54891017774401024", func := "abacist/abacistlaw15.ItemSigns", spec := "itemSigns", inPlace := ["internal/abi.NoEscape", "internal/bytealg.IndexByteString", "internal/bytealg.IndexString", "internal/bytealg.CountString", "internal/bytealg.MakeNoZero"], unfollowed := true, recurses := true, named := ["internal/bytealg.MaxLen", "unicode/utf8.first", "unicode/utf8.acceptRanges"], apart := false, laid := [("unicode/utf8.acceptRanges", laid_unicode_utf8_acceptRanges), ("unicode/utf8.first", laid_unicode_utf8_first)] }
def ItemSignsSaid : Prop := itemSignsRow.holds Tryz.pinned (OpenSpec.ofChange itemSignsSpec)

/-- ITS FALSE NEIGHBOUR: 'it returns false'. Refute it at one input. -/
def itemSignsWrong : ChangeSpec := { name := "itemSigns", fn := fun _ => fun
  | [d1, d2, d3] => { results := [.lit (.bool false)], args := [d1, d2, d3] }
  | _ => none }
def ItemSignsWrongFalsely : Prop := itemSignsRow.holds Tryz.pinned (OpenSpec.ofChange itemSignsWrong)

/-- 'abacistlaw15.ItemClusters': WHATEVER THE INPUT: true; the input reads as it did. -/
def itemClustersSpec : ChangeSpec := { name := "itemClusters", fn := fun _ => fun
  | [d1, d2, d3] => { results := [.lit (.bool true)], args := [d1, d2, d3] }
  | _ => none }
def itemClustersRow : OpenClaim := { program := "ytnlfeamhedihpaagreatdoor", sum := "d057d12cae4fe65a13a51e8b369e5e488c95f20db13ae2e54891017774401024", func := "abacist/abacistlaw15.ItemClusters", spec := "itemClusters", inPlace := ["internal/abi.NoEscape", "internal/bytealg.IndexByteString", "internal/bytealg.IndexString", "internal/bytealg.CountString", "internal/bytealg.MakeNoZero"], unfollowed := true, recurses := true, named := ["internal/bytealg.MaxLen", "unicode/utf8.first", "unicode/utf8.acceptRanges"], apart := false, laid := [("unicode/utf8.acceptRanges", laid_unicode_utf8_acceptRanges), ("unicode/utf8.first", laid_unicode_utf8_first)] }
def ItemClustersSaid : Prop := itemClustersRow.holds Tryz.pinned (OpenSpec.ofChange itemClustersSpec)

/-- ITS FALSE NEIGHBOUR: 'it returns false'. Refute it at one input. -/
def itemClustersWrong : ChangeSpec := { name := "itemClusters", fn := fun _ => fun
  | [d1, d2, d3] => { results := [.lit (.bool false)], args := [d1, d2, d3] }
  | _ => none }
def ItemClustersWrongFalsely : Prop := itemClustersRow.holds Tryz.pinned (OpenSpec.ofChange itemClustersWrong)

/- THE SECOND FORM. 'bulk': how many values and letters a reading holds, each counted each time it is reached (what is shared counts as often as it is met; a slice's spare places count too). A statement '..UptoSaid' is the law's where the arguments, and the package variables that the reading takes, are together of bulk at most 1048576: NARROWER than '..Said'. Prove '..Said' where nothing that the law and all that it calls make is longer than what came in: it says more and counts as full. Else prove '..UptoSaid'. A law counts once. -/
mutual
def uptoBulk {H : Type} : DataW H → Nat
  | .lit (.string bytes) => bytes.length + 1
  | .lit _ => 1
  | .nil => 1
  | .ptr d => uptoBulk d + 1
  | .slice elems spare => uptoBulkAll elems + uptoBulkAll spare + 1
  | .agg parts => uptoBulkAll parts + 1
  | .iface _ d => uptoBulk d + 1
  | .map entries => uptoBulkEntries entries + 1
  | .held _ => 1
def uptoBulkAll {H : Type} : List (DataW H) → Nat
  | [] => 0
  | d :: r => uptoBulk d + uptoBulkAll r
def uptoBulkEntries {H : Type} : List (Lit × DataW H) → Nat
  | [] => 0
  | x :: r => uptoBulkEntry x + uptoBulkEntries r
def uptoBulkEntry {H : Type} : Lit × DataW H → Nat
  | (.string bytes, d) => bytes.length + uptoBulk d + 1
  | (_, d) => uptoBulk d + 1
 end
def uptoSmall : (H : Type) → List (DataW H) → Bool := fun _ ds => decide (uptoBulkAll ds ≤ 1048576)
def OpenSpec.upto (s : _root_.Go.ChangeSpec) : _root_.Go.OpenSpec := { _root_.Go.OpenSpec.ofChange s with cond := some uptoSmall }

/-- 'abacistlaw15.ItemAll', WHERE WHAT IT READS IS OF BULK AT MOST 1048576: true; the input reads as it did. -/
def itemAllUptoRow : OpenClaim := { program := "ytnlfeamhedihpaagreatdoor", sum := "d057d12cae4fe65a13a51e8b369e5e488c95f20db13ae2e54891017774401024", func := "abacist/abacistlaw15.ItemAll", spec := "itemAll", inPlace := ["internal/abi.NoEscape", "internal/bytealg.IndexByteString", "internal/bytealg.IndexString", "internal/bytealg.CountString", "internal/bytealg.MakeNoZero"], unfollowed := true, recurses := true, named := ["internal/bytealg.MaxLen", "unicode/utf8.first", "unicode/utf8.acceptRanges"], apart := false, laid := [("unicode/utf8.acceptRanges", laid_unicode_utf8_acceptRanges), ("unicode/utf8.first", laid_unicode_utf8_first)], narrowed := true }
def ItemAllUptoSaid : Prop := itemAllUptoRow.holds Tryz.pinned (OpenSpec.upto itemAllSpec)

/-- 'abacistlaw15.ItemAtoms', WHERE WHAT IT READS IS OF BULK AT MOST 1048576: true; the input reads as it did. -/
def itemAtomsUptoRow : OpenClaim := { program := "ytnlfeamhedihpaagreatdoor", sum := "d057d12cae4fe65a13a51e8b369e5e488c95f20db13ae2e54891017774401024", func := "abacist/abacistlaw15.ItemAtoms", spec := "itemAtoms", inPlace := ["internal/abi.NoEscape", "internal/bytealg.IndexByteString", "internal/bytealg.IndexString", "internal/bytealg.CountString", "internal/bytealg.MakeNoZero"], unfollowed := true, recurses := true, named := ["internal/bytealg.MaxLen", "unicode/utf8.first", "unicode/utf8.acceptRanges"], apart := false, laid := [("unicode/utf8.acceptRanges", laid_unicode_utf8_acceptRanges), ("unicode/utf8.first", laid_unicode_utf8_first)], narrowed := true }
def ItemAtomsUptoSaid : Prop := itemAtomsUptoRow.holds Tryz.pinned (OpenSpec.upto itemAtomsSpec)

/-- 'abacistlaw15.ItemGroups', WHERE WHAT IT READS IS OF BULK AT MOST 1048576: true; the input reads as it did. -/
def itemGroupsUptoRow : OpenClaim := { program := "ytnlfeamhedihpaagreatdoor", sum := "d057d12cae4fe65a13a51e8b369e5e488c95f20db13ae2e54891017774401024", func := "abacist/abacistlaw15.ItemGroups", spec := "itemGroups", inPlace := ["internal/abi.NoEscape", "internal/bytealg.IndexByteString", "internal/bytealg.IndexString", "internal/bytealg.CountString", "internal/bytealg.MakeNoZero"], unfollowed := true, recurses := true, named := ["internal/bytealg.MaxLen", "unicode/utf8.first", "unicode/utf8.acceptRanges"], apart := false, laid := [("unicode/utf8.acceptRanges", laid_unicode_utf8_acceptRanges), ("unicode/utf8.first", laid_unicode_utf8_first)], narrowed := true }
def ItemGroupsUptoSaid : Prop := itemGroupsUptoRow.holds Tryz.pinned (OpenSpec.upto itemGroupsSpec)

/-- 'abacistlaw15.ItemSigns', WHERE WHAT IT READS IS OF BULK AT MOST 1048576: true; the input reads as it did. -/
def itemSignsUptoRow : OpenClaim := { program := "ytnlfeamhedihpaagreatdoor", sum := "d057d12cae4fe65a13a51e8b369e5e488c95f20db13ae2e54891017774401024", func := "abacist/abacistlaw15.ItemSigns", spec := "itemSigns", inPlace := ["internal/abi.NoEscape", "internal/bytealg.IndexByteString", "internal/bytealg.IndexString", "internal/bytealg.CountString", "internal/bytealg.MakeNoZero"], unfollowed := true, recurses := true, named := ["internal/bytealg.MaxLen", "unicode/utf8.first", "unicode/utf8.acceptRanges"], apart := false, laid := [("unicode/utf8.acceptRanges", laid_unicode_utf8_acceptRanges), ("unicode/utf8.first", laid_unicode_utf8_first)], narrowed := true }
def ItemSignsUptoSaid : Prop := itemSignsUptoRow.holds Tryz.pinned (OpenSpec.upto itemSignsSpec)

/-- 'abacistlaw15.ItemClusters', WHERE WHAT IT READS IS OF BULK AT MOST 1048576: true; the input reads as it did. -/
def itemClustersUptoRow : OpenClaim := { program := "ytnlfeamhedihpaagreatdoor", sum := "d057d12cae4fe65a13a51e8b369e5e488c95f20db13ae2e54891017774401024", func := "abacist/abacistlaw15.ItemClusters", spec := "itemClusters", inPlace := ["internal/abi.NoEscape", "internal/bytealg.IndexByteString", "internal/bytealg.IndexString", "internal/bytealg.CountString", "internal/bytealg.MakeNoZero"], unfollowed := true, recurses := true, named := ["internal/bytealg.MaxLen", "unicode/utf8.first", "unicode/utf8.acceptRanges"], apart := false, laid := [("unicode/utf8.acceptRanges", laid_unicode_utf8_acceptRanges), ("unicode/utf8.first", laid_unicode_utf8_first)], narrowed := true }
def ItemClustersUptoSaid : Prop := itemClustersUptoRow.holds Tryz.pinned (OpenSpec.upto itemClustersSpec)

end Rows
end Go.Proofs.YtnlfeamhedihpaaGreatDoor
