/-
  DERIVED. GIVEN WITH THE SEED: THE CARDS: each row of YtoojfpkmgiemoaaGreatDoorRows.lean that lists a variable, with what it lists TIED to the program's text (the seventh form; the later family's looks); each row that meets fmt, with fmt's text TOLD by the authors' own Lean function (tested against real Go, not proved from fmt's source: count such statements apart). THE CARD IS WHAT COUNTS. Prove the row's statement (the work); the ties are given (YtoojfpkmgiemoaaGreatDoorTie.lean); close each card by the builder's one call (the guide's Derived/Test/ToyasCard.lean, 'card_holds'). Laid BY PROGRAM, IN A SANDBOX (cutbox-door.mjs). By AI agents, Wed Nov 11 2026. No macro, syntax, notation, axiom, sorry.
-/
import Derived.Test.YtoojfpkmgiemoaaGreatDoorRows
import GoSem.ClaimSeven
namespace Go.Proofs.YtoojfpkmgiemoaaGreatDoor
namespace Rows

/-- THE TIED CARD OF 'abacistlaw11.LocaleTold'. -/
def localeToldCard : Claim7 := { stood := { row := localeToldRow, standIns := [], harness := (true, "2cb4fb16f4af20e4771fdd42459c4bad130ef6d55598faed6fae6443177f4bfb"), looks := true }, kinds := [], alts := [], laidByText := true, laidKinds := [.data, .pinned], laidTests := true, laidLooks := .later }
def LocaleToldCardSaid : Prop := Claim7.holds Tryz.pinned (.plain (OpenSpec.ofChange localeToldSpec)) localeToldCard

/-- THE TIED CARD OF 'abacistlaw11.LocaleAround'. -/
def localeAroundCard : Claim7 := { stood := { row := localeAroundRow, standIns := [], harness := (true, "2cb4fb16f4af20e4771fdd42459c4bad130ef6d55598faed6fae6443177f4bfb"), looks := true }, kinds := [], alts := [], laidByText := true, laidKinds := [.data, .pinned], laidTests := true, laidLooks := .later }
def LocaleAroundCardSaid : Prop := Claim7.holds Tryz.pinned (.plain (OpenSpec.ofChange localeAroundSpec)) localeAroundCard

/-- THE TIED CARD OF 'abacistlaw11.LocaleSigns'. -/
def localeSignsCard : Claim7 := { stood := { row := localeSignsRow, standIns := [], harness := (true, "2cb4fb16f4af20e4771fdd42459c4bad130ef6d55598faed6fae6443177f4bfb"), looks := true }, kinds := [], alts := [], laidByText := true, laidKinds := [.data, .pinned], laidTests := true, laidLooks := .later }
def LocaleSignsCardSaid : Prop := Claim7.holds Tryz.pinned (.plain (OpenSpec.ofChange localeSignsSpec)) localeSignsCard

/-- THE TIED CARD OF 'abacistlaw11.LocaleWords'. -/
def localeWordsCard : Claim7 := { stood := { row := localeWordsRow, standIns := [], harness := (true, "2cb4fb16f4af20e4771fdd42459c4bad130ef6d55598faed6fae6443177f4bfb"), looks := true }, kinds := [], alts := [], laidByText := true, laidKinds := [.data, .pinned], laidTests := true, laidLooks := .later }
def LocaleWordsCardSaid : Prop := Claim7.holds Tryz.pinned (.plain (OpenSpec.ofChange localeWordsSpec)) localeWordsCard

/-- THE TIED CARD OF 'abacistlaw11.LocaleApart'. -/
def localeApartCard : Claim7 := { stood := { row := localeApartRow, standIns := [], harness := (true, "2cb4fb16f4af20e4771fdd42459c4bad130ef6d55598faed6fae6443177f4bfb"), looks := true }, kinds := [], alts := [], laidByText := true, laidKinds := [.data, .pinned], laidTests := true, laidLooks := .later }
def LocaleApartCardSaid : Prop := Claim7.holds Tryz.pinned (.plain (OpenSpec.ofChange localeApartSpec)) localeApartCard

/-- THE SECOND FORM's CARD OF 'abacistlaw11.LocaleTold'. -/
def localeToldUptoCard : Claim7 := { stood := { row := localeToldUptoRow, standIns := [], harness := (true, "2cb4fb16f4af20e4771fdd42459c4bad130ef6d55598faed6fae6443177f4bfb"), looks := true }, kinds := [], alts := [], laidByText := true, laidKinds := [.data, .pinned], laidTests := true, laidLooks := .later }
def LocaleToldUptoCardSaid : Prop := Claim7.holds Tryz.pinned (.plain (OpenSpec.upto localeToldSpec)) localeToldUptoCard

/-- THE SECOND FORM's CARD OF 'abacistlaw11.LocaleAround'. -/
def localeAroundUptoCard : Claim7 := { stood := { row := localeAroundUptoRow, standIns := [], harness := (true, "2cb4fb16f4af20e4771fdd42459c4bad130ef6d55598faed6fae6443177f4bfb"), looks := true }, kinds := [], alts := [], laidByText := true, laidKinds := [.data, .pinned], laidTests := true, laidLooks := .later }
def LocaleAroundUptoCardSaid : Prop := Claim7.holds Tryz.pinned (.plain (OpenSpec.upto localeAroundSpec)) localeAroundUptoCard

/-- THE SECOND FORM's CARD OF 'abacistlaw11.LocaleSigns'. -/
def localeSignsUptoCard : Claim7 := { stood := { row := localeSignsUptoRow, standIns := [], harness := (true, "2cb4fb16f4af20e4771fdd42459c4bad130ef6d55598faed6fae6443177f4bfb"), looks := true }, kinds := [], alts := [], laidByText := true, laidKinds := [.data, .pinned], laidTests := true, laidLooks := .later }
def LocaleSignsUptoCardSaid : Prop := Claim7.holds Tryz.pinned (.plain (OpenSpec.upto localeSignsSpec)) localeSignsUptoCard

/-- THE SECOND FORM's CARD OF 'abacistlaw11.LocaleWords'. -/
def localeWordsUptoCard : Claim7 := { stood := { row := localeWordsUptoRow, standIns := [], harness := (true, "2cb4fb16f4af20e4771fdd42459c4bad130ef6d55598faed6fae6443177f4bfb"), looks := true }, kinds := [], alts := [], laidByText := true, laidKinds := [.data, .pinned], laidTests := true, laidLooks := .later }
def LocaleWordsUptoCardSaid : Prop := Claim7.holds Tryz.pinned (.plain (OpenSpec.upto localeWordsSpec)) localeWordsUptoCard

/-- THE SECOND FORM's CARD OF 'abacistlaw11.LocaleApart'. -/
def localeApartUptoCard : Claim7 := { stood := { row := localeApartUptoRow, standIns := [], harness := (true, "2cb4fb16f4af20e4771fdd42459c4bad130ef6d55598faed6fae6443177f4bfb"), looks := true }, kinds := [], alts := [], laidByText := true, laidKinds := [.data, .pinned], laidTests := true, laidLooks := .later }
def LocaleApartUptoCardSaid : Prop := Claim7.holds Tryz.pinned (.plain (OpenSpec.upto localeApartSpec)) localeApartUptoCard
end Rows
end Go.Proofs.YtoojfpkmgiemoaaGreatDoor
