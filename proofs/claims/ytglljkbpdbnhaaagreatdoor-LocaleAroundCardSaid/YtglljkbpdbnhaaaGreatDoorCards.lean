/-
  DERIVED. GIVEN WITH THE SEED: THE CARDS: each row of YtglljkbpdbnhaaaGreatDoorRows.lean that lists a variable, with what it lists TIED to the program's text (the seventh form; the later family's looks); each row that meets fmt, with fmt's text TOLD by the authors' own Lean function (tested against real Go, not proved from fmt's source: count such statements apart). THE CARD IS WHAT COUNTS. Prove the row's statement (the work); the ties are given (YtglljkbpdbnhaaaGreatDoorTie.lean); close each card by the builder's one call (the guide's Derived/Test/ToyasCard.lean, 'card_holds'). Laid BY PROGRAM, IN A SANDBOX (cutbox-door.mjs). By AI agents, Wed Nov 11 2026. No macro, syntax, notation, axiom, sorry.
-/
import Derived.Test.YtglljkbpdbnhaaaGreatDoorRows
import GoSem.ClaimSeven
namespace Go.Proofs.YtglljkbpdbnhaaaGreatDoor
namespace Rows

/-- THE TIED CARD OF 'abacistlaw11.LocaleTold'. -/
def localeToldCard : Claim7 := { stood := { row := localeToldRow, standIns := [], harness := (true, "304151103024cba41bd1a85359cef36ecdefcdd5f3a0882992bd10bc9f2f0b37"), looks := true }, kinds := [], alts := [], laidByText := true, laidKinds := [.data, .pinned], laidTests := true, laidLooks := .later }
def LocaleToldCardSaid : Prop := Claim7.holds Tryz.pinned (.plain (OpenSpec.ofChange localeToldSpec)) localeToldCard

/-- THE TIED CARD OF 'abacistlaw11.LocaleAround'. -/
def localeAroundCard : Claim7 := { stood := { row := localeAroundRow, standIns := [], harness := (true, "304151103024cba41bd1a85359cef36ecdefcdd5f3a0882992bd10bc9f2f0b37"), looks := true }, kinds := [], alts := [], laidByText := true, laidKinds := [.data, .pinned], laidTests := true, laidLooks := .later }
def LocaleAroundCardSaid : Prop := Claim7.holds Tryz.pinned (.plain (OpenSpec.ofChange localeAroundSpec)) localeAroundCard

/-- THE TIED CARD OF 'abacistlaw11.LocaleSigns'. -/
def localeSignsCard : Claim7 := { stood := { row := localeSignsRow, standIns := [], harness := (true, "304151103024cba41bd1a85359cef36ecdefcdd5f3a0882992bd10bc9f2f0b37"), looks := true }, kinds := [], alts := [], laidByText := true, laidKinds := [.data, .pinned], laidTests := true, laidLooks := .later }
def LocaleSignsCardSaid : Prop := Claim7.holds Tryz.pinned (.plain (OpenSpec.ofChange localeSignsSpec)) localeSignsCard

/-- THE TIED CARD OF 'abacistlaw12.FortyMay'. -/
def fortyMayCard : Claim7 := { stood := { row := fortyMayRow, standIns := [], harness := (true, "304151103024cba41bd1a85359cef36ecdefcdd5f3a0882992bd10bc9f2f0b37"), looks := true }, kinds := [], alts := [], laidByText := true, laidKinds := [.data, .pinned], laidTests := true, laidLooks := .later }
def FortyMayCardSaid : Prop := Claim7.holds Tryz.pinned (.plain (OpenSpec.ofChange fortyMaySpec)) fortyMayCard

/-- THE TIED CARD OF 'abacistlaw12.FortyNone'. -/
def fortyNoneCard : Claim7 := { stood := { row := fortyNoneRow, standIns := [], harness := (true, "304151103024cba41bd1a85359cef36ecdefcdd5f3a0882992bd10bc9f2f0b37"), looks := true }, kinds := [], alts := [], laidByText := true, laidKinds := [.data, .pinned], laidTests := true, laidLooks := .later }
def FortyNoneCardSaid : Prop := Claim7.holds Tryz.pinned (.plain (OpenSpec.ofChange fortyNoneSpec)) fortyNoneCard

/-- THE SECOND FORM's CARD OF 'abacistlaw11.LocaleTold'. -/
def localeToldUptoCard : Claim7 := { stood := { row := localeToldUptoRow, standIns := [], harness := (true, "304151103024cba41bd1a85359cef36ecdefcdd5f3a0882992bd10bc9f2f0b37"), looks := true }, kinds := [], alts := [], laidByText := true, laidKinds := [.data, .pinned], laidTests := true, laidLooks := .later }
def LocaleToldUptoCardSaid : Prop := Claim7.holds Tryz.pinned (.plain (OpenSpec.upto localeToldSpec)) localeToldUptoCard

/-- THE SECOND FORM's CARD OF 'abacistlaw11.LocaleAround'. -/
def localeAroundUptoCard : Claim7 := { stood := { row := localeAroundUptoRow, standIns := [], harness := (true, "304151103024cba41bd1a85359cef36ecdefcdd5f3a0882992bd10bc9f2f0b37"), looks := true }, kinds := [], alts := [], laidByText := true, laidKinds := [.data, .pinned], laidTests := true, laidLooks := .later }
def LocaleAroundUptoCardSaid : Prop := Claim7.holds Tryz.pinned (.plain (OpenSpec.upto localeAroundSpec)) localeAroundUptoCard

/-- THE SECOND FORM's CARD OF 'abacistlaw11.LocaleSigns'. -/
def localeSignsUptoCard : Claim7 := { stood := { row := localeSignsUptoRow, standIns := [], harness := (true, "304151103024cba41bd1a85359cef36ecdefcdd5f3a0882992bd10bc9f2f0b37"), looks := true }, kinds := [], alts := [], laidByText := true, laidKinds := [.data, .pinned], laidTests := true, laidLooks := .later }
def LocaleSignsUptoCardSaid : Prop := Claim7.holds Tryz.pinned (.plain (OpenSpec.upto localeSignsSpec)) localeSignsUptoCard

/-- THE SECOND FORM's CARD OF 'abacistlaw12.FortyMay'. -/
def fortyMayUptoCard : Claim7 := { stood := { row := fortyMayUptoRow, standIns := [], harness := (true, "304151103024cba41bd1a85359cef36ecdefcdd5f3a0882992bd10bc9f2f0b37"), looks := true }, kinds := [], alts := [], laidByText := true, laidKinds := [.data, .pinned], laidTests := true, laidLooks := .later }
def FortyMayUptoCardSaid : Prop := Claim7.holds Tryz.pinned (.plain (OpenSpec.upto fortyMaySpec)) fortyMayUptoCard

/-- THE SECOND FORM's CARD OF 'abacistlaw12.FortyNone'. -/
def fortyNoneUptoCard : Claim7 := { stood := { row := fortyNoneUptoRow, standIns := [], harness := (true, "304151103024cba41bd1a85359cef36ecdefcdd5f3a0882992bd10bc9f2f0b37"), looks := true }, kinds := [], alts := [], laidByText := true, laidKinds := [.data, .pinned], laidTests := true, laidLooks := .later }
def FortyNoneUptoCardSaid : Prop := Claim7.holds Tryz.pinned (.plain (OpenSpec.upto fortyNoneSpec)) fortyNoneUptoCard
end Rows
end Go.Proofs.YtglljkbpdbnhaaaGreatDoor
