/-
  DERIVED. GIVEN WITH THE SEED: THE CARDS: each row of YtghfdapfnoeanaaGreatDoorRows.lean that lists a variable, with what it lists TIED to the program's text (the seventh form; the later family's looks); each row that meets fmt, with fmt's text TOLD by the authors' own Lean function (tested against real Go, not proved from fmt's source: count such statements apart). THE CARD IS WHAT COUNTS. Prove the row's statement (the work); the ties are given (YtghfdapfnoeanaaGreatDoorTie.lean); close each card by the builder's one call (the guide's Derived/Test/ToyasCard.lean, 'card_holds'). Laid BY PROGRAM, IN A SANDBOX (cutbox-door.mjs). By AI agents, Wed Nov 11 2026. No macro, syntax, notation, axiom, sorry.
-/
import Derived.Test.YtghfdapfnoeanaaGreatDoorRows
import GoSem.ClaimSeven
namespace Go.Proofs.YtghfdapfnoeanaaGreatDoor
namespace Rows

/-- THE TIED CARD OF 'abacistlaw16.ViewStops'. -/
def viewStopsCard : Claim7 := { stood := { row := viewStopsRow, standIns := [], harness := (true, "085c359a65c3f73a3444fbca0c282d5c4d0648ef7371efe5b51e831bcb8a53b1"), looks := true }, kinds := [], alts := [], laidByText := true, laidKinds := [.data, .pinned], laidTests := true, laidLooks := .later }
def ViewStopsCardSaid : Prop := Claim7.holds Tryz.pinned (.plain (OpenSpec.ofChange viewStopsSpec)) viewStopsCard

/-- THE TIED CARD OF 'abacistlaw16.ViewNear'. -/
def viewNearCard : Claim7 := { stood := { row := viewNearRow, standIns := [], harness := (true, "085c359a65c3f73a3444fbca0c282d5c4d0648ef7371efe5b51e831bcb8a53b1"), looks := true }, kinds := [], alts := [], laidByText := true, laidKinds := [.data, .pinned], laidTests := true, laidLooks := .later }
def ViewNearCardSaid : Prop := Claim7.holds Tryz.pinned (.plain (OpenSpec.ofChange viewNearSpec)) viewNearCard

/-- THE TIED CARD OF 'abacistlaw16.ViewLegal'. -/
def viewLegalCard : Claim7 := { stood := { row := viewLegalRow, standIns := [], harness := (true, "085c359a65c3f73a3444fbca0c282d5c4d0648ef7371efe5b51e831bcb8a53b1"), looks := true }, kinds := [], alts := [], laidByText := true, laidKinds := [.data, .pinned], laidTests := true, laidLooks := .later }
def ViewLegalCardSaid : Prop := Claim7.holds Tryz.pinned (.plain (OpenSpec.ofChange viewLegalSpec)) viewLegalCard

/-- THE TIED CARD OF 'abacistlaw16.ViewBack'. -/
def viewBackCard : Claim7 := { stood := { row := viewBackRow, standIns := [], harness := (true, "085c359a65c3f73a3444fbca0c282d5c4d0648ef7371efe5b51e831bcb8a53b1"), looks := true }, kinds := [], alts := [], laidByText := true, laidKinds := [.data, .pinned], laidTests := true, laidLooks := .later }
def ViewBackCardSaid : Prop := Claim7.holds Tryz.pinned (.plain (OpenSpec.ofChange viewBackSpec)) viewBackCard

/-- THE TIED CARD OF 'abacistlaw16.ViewSlices'. -/
def viewSlicesCard : Claim7 := { stood := { row := viewSlicesRow, standIns := [], harness := (true, "085c359a65c3f73a3444fbca0c282d5c4d0648ef7371efe5b51e831bcb8a53b1"), looks := true }, kinds := [], alts := [], laidByText := true, laidKinds := [.data, .pinned], laidTests := true, laidLooks := .later }
def ViewSlicesCardSaid : Prop := Claim7.holds Tryz.pinned (.plain (OpenSpec.ofChange viewSlicesSpec)) viewSlicesCard

/-- THE TIED CARD OF 'abacistlaw16.ViewBounds'. -/
def viewBoundsCard : Claim7 := { stood := { row := viewBoundsRow, standIns := [], harness := (true, "085c359a65c3f73a3444fbca0c282d5c4d0648ef7371efe5b51e831bcb8a53b1"), looks := true }, kinds := [], alts := [], laidByText := true, laidKinds := [.data, .pinned], laidTests := true, laidLooks := .later }
def ViewBoundsCardSaid : Prop := Claim7.holds Tryz.pinned (.plain (OpenSpec.ofChange viewBoundsSpec)) viewBoundsCard

/-- THE SECOND FORM's CARD OF 'abacistlaw16.ViewStops'. -/
def viewStopsUptoCard : Claim7 := { stood := { row := viewStopsUptoRow, standIns := [], harness := (true, "085c359a65c3f73a3444fbca0c282d5c4d0648ef7371efe5b51e831bcb8a53b1"), looks := true }, kinds := [], alts := [], laidByText := true, laidKinds := [.data, .pinned], laidTests := true, laidLooks := .later }
def ViewStopsUptoCardSaid : Prop := Claim7.holds Tryz.pinned (.plain (OpenSpec.upto viewStopsSpec)) viewStopsUptoCard

/-- THE SECOND FORM's CARD OF 'abacistlaw16.ViewNear'. -/
def viewNearUptoCard : Claim7 := { stood := { row := viewNearUptoRow, standIns := [], harness := (true, "085c359a65c3f73a3444fbca0c282d5c4d0648ef7371efe5b51e831bcb8a53b1"), looks := true }, kinds := [], alts := [], laidByText := true, laidKinds := [.data, .pinned], laidTests := true, laidLooks := .later }
def ViewNearUptoCardSaid : Prop := Claim7.holds Tryz.pinned (.plain (OpenSpec.upto viewNearSpec)) viewNearUptoCard

/-- THE SECOND FORM's CARD OF 'abacistlaw16.ViewLegal'. -/
def viewLegalUptoCard : Claim7 := { stood := { row := viewLegalUptoRow, standIns := [], harness := (true, "085c359a65c3f73a3444fbca0c282d5c4d0648ef7371efe5b51e831bcb8a53b1"), looks := true }, kinds := [], alts := [], laidByText := true, laidKinds := [.data, .pinned], laidTests := true, laidLooks := .later }
def ViewLegalUptoCardSaid : Prop := Claim7.holds Tryz.pinned (.plain (OpenSpec.upto viewLegalSpec)) viewLegalUptoCard

/-- THE SECOND FORM's CARD OF 'abacistlaw16.ViewBack'. -/
def viewBackUptoCard : Claim7 := { stood := { row := viewBackUptoRow, standIns := [], harness := (true, "085c359a65c3f73a3444fbca0c282d5c4d0648ef7371efe5b51e831bcb8a53b1"), looks := true }, kinds := [], alts := [], laidByText := true, laidKinds := [.data, .pinned], laidTests := true, laidLooks := .later }
def ViewBackUptoCardSaid : Prop := Claim7.holds Tryz.pinned (.plain (OpenSpec.upto viewBackSpec)) viewBackUptoCard

/-- THE SECOND FORM's CARD OF 'abacistlaw16.ViewSlices'. -/
def viewSlicesUptoCard : Claim7 := { stood := { row := viewSlicesUptoRow, standIns := [], harness := (true, "085c359a65c3f73a3444fbca0c282d5c4d0648ef7371efe5b51e831bcb8a53b1"), looks := true }, kinds := [], alts := [], laidByText := true, laidKinds := [.data, .pinned], laidTests := true, laidLooks := .later }
def ViewSlicesUptoCardSaid : Prop := Claim7.holds Tryz.pinned (.plain (OpenSpec.upto viewSlicesSpec)) viewSlicesUptoCard

/-- THE SECOND FORM's CARD OF 'abacistlaw16.ViewBounds'. -/
def viewBoundsUptoCard : Claim7 := { stood := { row := viewBoundsUptoRow, standIns := [], harness := (true, "085c359a65c3f73a3444fbca0c282d5c4d0648ef7371efe5b51e831bcb8a53b1"), looks := true }, kinds := [], alts := [], laidByText := true, laidKinds := [.data, .pinned], laidTests := true, laidLooks := .later }
def ViewBoundsUptoCardSaid : Prop := Claim7.holds Tryz.pinned (.plain (OpenSpec.upto viewBoundsSpec)) viewBoundsUptoCard
end Rows
end Go.Proofs.YtghfdapfnoeanaaGreatDoor
