/-
  DERIVED. GIVEN WITH THE SEED: THE CARDS: each row of YtdjhkbholijnmaaGreatDoorRows.lean that lists a variable, with what it lists TIED to the program's text (the seventh form; the later family's looks); each row that meets fmt, with fmt's text TOLD by the authors' own Lean function (tested against real Go, not proved from fmt's source: count such statements apart). THE CARD IS WHAT COUNTS. Prove the row's statement (the work); the ties are given (YtdjhkbholijnmaaGreatDoorTie.lean); close each card by the builder's one call (the guide's Derived/Test/ToyasCard.lean, 'card_holds'). Laid BY PROGRAM, IN A SANDBOX (cutbox-door.mjs). By AI agents, Wed Nov 11 2026. No macro, syntax, notation, axiom, sorry.
-/
import Derived.Test.YtdjhkbholijnmaaGreatDoorRows
import GoSem.ClaimSeven
namespace Go.Proofs.YtdjhkbholijnmaaGreatDoor
namespace Rows

/-- THE TIED CARD OF 'abacistlaw17.StrictReads'. -/
def strictReadsCard : Claim7 := { stood := { row := strictReadsRow, standIns := [], harness := (true, "d4b35296015cdc6aa9eccf11140726dafb172b3754ff1479a78915de95200047"), looks := true }, kinds := [], alts := [], laidByText := true, laidKinds := [.data, .pinned], laidTests := true, laidLooks := .later }
def StrictReadsCardSaid : Prop := Claim7.holds Tryz.pinned (.plain (OpenSpec.ofChange strictReadsSpec)) strictReadsCard

/-- THE TIED CARD OF 'abacistlaw17.StrictRefuses'. -/
def strictRefusesCard : Claim7 := { stood := { row := strictRefusesRow, standIns := [], harness := (true, "d4b35296015cdc6aa9eccf11140726dafb172b3754ff1479a78915de95200047"), looks := true }, kinds := [], alts := [], laidByText := true, laidKinds := [.data, .pinned], laidTests := true, laidLooks := .later }
def StrictRefusesCardSaid : Prop := Claim7.holds Tryz.pinned (.plain (OpenSpec.ofChange strictRefusesSpec)) strictRefusesCard

/-- THE TIED CARD OF 'abacistlaw17.StrictShows'. -/
def strictShowsCard : Claim7 := { stood := { row := strictShowsRow, standIns := [], harness := (true, "d4b35296015cdc6aa9eccf11140726dafb172b3754ff1479a78915de95200047"), looks := true }, kinds := [], alts := [], laidByText := true, laidKinds := [.data, .pinned], laidTests := true, laidLooks := .later }
def StrictShowsCardSaid : Prop := Claim7.holds Tryz.pinned (.plain (OpenSpec.ofChange strictShowsSpec)) strictShowsCard

/-- THE TIED CARD OF 'abacistlaw17.StrictSwitches'. -/
def strictSwitchesCard : Claim7 := { stood := { row := strictSwitchesRow, standIns := [], harness := (true, "d4b35296015cdc6aa9eccf11140726dafb172b3754ff1479a78915de95200047"), looks := true }, kinds := [], alts := [], laidByText := true, laidKinds := [.data, .pinned], laidTests := true, laidLooks := .later }
def StrictSwitchesCardSaid : Prop := Claim7.holds Tryz.pinned (.plain (OpenSpec.ofChange strictSwitchesSpec)) strictSwitchesCard

/-- THE TIED CARD OF 'abacistlaw17.StrictItems'. -/
def strictItemsCard : Claim7 := { stood := { row := strictItemsRow, standIns := [], harness := (true, "d4b35296015cdc6aa9eccf11140726dafb172b3754ff1479a78915de95200047"), looks := true }, kinds := [], alts := [], laidByText := true, laidKinds := [.data, .pinned], laidTests := true, laidLooks := .later }
def StrictItemsCardSaid : Prop := Claim7.holds Tryz.pinned (.plain (OpenSpec.ofChange strictItemsSpec)) strictItemsCard

/-- THE TIED CARD OF 'abacistlaw17.StrictApart'. -/
def strictApartCard : Claim7 := { stood := { row := strictApartRow, standIns := [], harness := (true, "d4b35296015cdc6aa9eccf11140726dafb172b3754ff1479a78915de95200047"), looks := true }, kinds := [], alts := [], laidByText := true, laidKinds := [.data, .pinned], laidTests := true, laidLooks := .later }
def StrictApartCardSaid : Prop := Claim7.holds Tryz.pinned (.plain (OpenSpec.ofChange strictApartSpec)) strictApartCard

/-- THE SECOND FORM's CARD OF 'abacistlaw17.StrictReads'. -/
def strictReadsUptoCard : Claim7 := { stood := { row := strictReadsUptoRow, standIns := [], harness := (true, "d4b35296015cdc6aa9eccf11140726dafb172b3754ff1479a78915de95200047"), looks := true }, kinds := [], alts := [], laidByText := true, laidKinds := [.data, .pinned], laidTests := true, laidLooks := .later }
def StrictReadsUptoCardSaid : Prop := Claim7.holds Tryz.pinned (.plain (OpenSpec.upto strictReadsSpec)) strictReadsUptoCard

/-- THE SECOND FORM's CARD OF 'abacistlaw17.StrictRefuses'. -/
def strictRefusesUptoCard : Claim7 := { stood := { row := strictRefusesUptoRow, standIns := [], harness := (true, "d4b35296015cdc6aa9eccf11140726dafb172b3754ff1479a78915de95200047"), looks := true }, kinds := [], alts := [], laidByText := true, laidKinds := [.data, .pinned], laidTests := true, laidLooks := .later }
def StrictRefusesUptoCardSaid : Prop := Claim7.holds Tryz.pinned (.plain (OpenSpec.upto strictRefusesSpec)) strictRefusesUptoCard

/-- THE SECOND FORM's CARD OF 'abacistlaw17.StrictShows'. -/
def strictShowsUptoCard : Claim7 := { stood := { row := strictShowsUptoRow, standIns := [], harness := (true, "d4b35296015cdc6aa9eccf11140726dafb172b3754ff1479a78915de95200047"), looks := true }, kinds := [], alts := [], laidByText := true, laidKinds := [.data, .pinned], laidTests := true, laidLooks := .later }
def StrictShowsUptoCardSaid : Prop := Claim7.holds Tryz.pinned (.plain (OpenSpec.upto strictShowsSpec)) strictShowsUptoCard

/-- THE SECOND FORM's CARD OF 'abacistlaw17.StrictSwitches'. -/
def strictSwitchesUptoCard : Claim7 := { stood := { row := strictSwitchesUptoRow, standIns := [], harness := (true, "d4b35296015cdc6aa9eccf11140726dafb172b3754ff1479a78915de95200047"), looks := true }, kinds := [], alts := [], laidByText := true, laidKinds := [.data, .pinned], laidTests := true, laidLooks := .later }
def StrictSwitchesUptoCardSaid : Prop := Claim7.holds Tryz.pinned (.plain (OpenSpec.upto strictSwitchesSpec)) strictSwitchesUptoCard

/-- THE SECOND FORM's CARD OF 'abacistlaw17.StrictItems'. -/
def strictItemsUptoCard : Claim7 := { stood := { row := strictItemsUptoRow, standIns := [], harness := (true, "d4b35296015cdc6aa9eccf11140726dafb172b3754ff1479a78915de95200047"), looks := true }, kinds := [], alts := [], laidByText := true, laidKinds := [.data, .pinned], laidTests := true, laidLooks := .later }
def StrictItemsUptoCardSaid : Prop := Claim7.holds Tryz.pinned (.plain (OpenSpec.upto strictItemsSpec)) strictItemsUptoCard

/-- THE SECOND FORM's CARD OF 'abacistlaw17.StrictApart'. -/
def strictApartUptoCard : Claim7 := { stood := { row := strictApartUptoRow, standIns := [], harness := (true, "d4b35296015cdc6aa9eccf11140726dafb172b3754ff1479a78915de95200047"), looks := true }, kinds := [], alts := [], laidByText := true, laidKinds := [.data, .pinned], laidTests := true, laidLooks := .later }
def StrictApartUptoCardSaid : Prop := Claim7.holds Tryz.pinned (.plain (OpenSpec.upto strictApartSpec)) strictApartUptoCard
end Rows
end Go.Proofs.YtdjhkbholijnmaaGreatDoor
