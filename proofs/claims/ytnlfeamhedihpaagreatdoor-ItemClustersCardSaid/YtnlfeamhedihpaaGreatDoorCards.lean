/-
  DERIVED. GIVEN WITH THE SEED: THE CARDS: each row of YtnlfeamhedihpaaGreatDoorRows.lean that lists a variable, with what it lists TIED to the program's text (the seventh form; the later family's looks); each row that meets fmt, with fmt's text TOLD by the authors' own Lean function (tested against real Go, not proved from fmt's source: count such statements apart). THE CARD IS WHAT COUNTS. Prove the row's statement (the work); the ties are given (YtnlfeamhedihpaaGreatDoorTie.lean); close each card by the builder's one call (the guide's Derived/Test/ToyasCard.lean, 'card_holds'). Laid BY PROGRAM, IN A SANDBOX (cutbox-door.mjs). By AI agents, Wed Nov 11 2026. No macro, syntax, notation, axiom, sorry.
-/
import Derived.Test.YtnlfeamhedihpaaGreatDoorRows
import GoSem.ClaimSeven
namespace Go.Proofs.YtnlfeamhedihpaaGreatDoor
namespace Rows

/-- THE TIED CARD OF 'abacistlaw15.ItemAll'. -/
def itemAllCard : Claim7 := { stood := { row := itemAllRow, standIns := [], harness := (true, "a1d8244b5c225bc99e02315a0d5756944bdd43ca5b679e8ac9060aef7a6713c9"), looks := true }, kinds := [], alts := [], laidByText := true, laidKinds := [.data, .pinned], laidTests := true, laidLooks := .later }
def ItemAllCardSaid : Prop := Claim7.holds Tryz.pinned (.plain (OpenSpec.ofChange itemAllSpec)) itemAllCard

/-- THE TIED CARD OF 'abacistlaw15.ItemAtoms'. -/
def itemAtomsCard : Claim7 := { stood := { row := itemAtomsRow, standIns := [], harness := (true, "a1d8244b5c225bc99e02315a0d5756944bdd43ca5b679e8ac9060aef7a6713c9"), looks := true }, kinds := [], alts := [], laidByText := true, laidKinds := [.data, .pinned], laidTests := true, laidLooks := .later }
def ItemAtomsCardSaid : Prop := Claim7.holds Tryz.pinned (.plain (OpenSpec.ofChange itemAtomsSpec)) itemAtomsCard

/-- THE TIED CARD OF 'abacistlaw15.ItemGroups'. -/
def itemGroupsCard : Claim7 := { stood := { row := itemGroupsRow, standIns := [], harness := (true, "a1d8244b5c225bc99e02315a0d5756944bdd43ca5b679e8ac9060aef7a6713c9"), looks := true }, kinds := [], alts := [], laidByText := true, laidKinds := [.data, .pinned], laidTests := true, laidLooks := .later }
def ItemGroupsCardSaid : Prop := Claim7.holds Tryz.pinned (.plain (OpenSpec.ofChange itemGroupsSpec)) itemGroupsCard

/-- THE TIED CARD OF 'abacistlaw15.ItemSigns'. -/
def itemSignsCard : Claim7 := { stood := { row := itemSignsRow, standIns := [], harness := (true, "a1d8244b5c225bc99e02315a0d5756944bdd43ca5b679e8ac9060aef7a6713c9"), looks := true }, kinds := [], alts := [], laidByText := true, laidKinds := [.data, .pinned], laidTests := true, laidLooks := .later }
def ItemSignsCardSaid : Prop := Claim7.holds Tryz.pinned (.plain (OpenSpec.ofChange itemSignsSpec)) itemSignsCard

/-- THE TIED CARD OF 'abacistlaw15.ItemClusters'. -/
def itemClustersCard : Claim7 := { stood := { row := itemClustersRow, standIns := [], harness := (true, "a1d8244b5c225bc99e02315a0d5756944bdd43ca5b679e8ac9060aef7a6713c9"), looks := true }, kinds := [], alts := [], laidByText := true, laidKinds := [.data, .pinned], laidTests := true, laidLooks := .later }
def ItemClustersCardSaid : Prop := Claim7.holds Tryz.pinned (.plain (OpenSpec.ofChange itemClustersSpec)) itemClustersCard

/-- THE SECOND FORM's CARD OF 'abacistlaw15.ItemAll'. -/
def itemAllUptoCard : Claim7 := { stood := { row := itemAllUptoRow, standIns := [], harness := (true, "a1d8244b5c225bc99e02315a0d5756944bdd43ca5b679e8ac9060aef7a6713c9"), looks := true }, kinds := [], alts := [], laidByText := true, laidKinds := [.data, .pinned], laidTests := true, laidLooks := .later }
def ItemAllUptoCardSaid : Prop := Claim7.holds Tryz.pinned (.plain (OpenSpec.upto itemAllSpec)) itemAllUptoCard

/-- THE SECOND FORM's CARD OF 'abacistlaw15.ItemAtoms'. -/
def itemAtomsUptoCard : Claim7 := { stood := { row := itemAtomsUptoRow, standIns := [], harness := (true, "a1d8244b5c225bc99e02315a0d5756944bdd43ca5b679e8ac9060aef7a6713c9"), looks := true }, kinds := [], alts := [], laidByText := true, laidKinds := [.data, .pinned], laidTests := true, laidLooks := .later }
def ItemAtomsUptoCardSaid : Prop := Claim7.holds Tryz.pinned (.plain (OpenSpec.upto itemAtomsSpec)) itemAtomsUptoCard

/-- THE SECOND FORM's CARD OF 'abacistlaw15.ItemGroups'. -/
def itemGroupsUptoCard : Claim7 := { stood := { row := itemGroupsUptoRow, standIns := [], harness := (true, "a1d8244b5c225bc99e02315a0d5756944bdd43ca5b679e8ac9060aef7a6713c9"), looks := true }, kinds := [], alts := [], laidByText := true, laidKinds := [.data, .pinned], laidTests := true, laidLooks := .later }
def ItemGroupsUptoCardSaid : Prop := Claim7.holds Tryz.pinned (.plain (OpenSpec.upto itemGroupsSpec)) itemGroupsUptoCard

/-- THE SECOND FORM's CARD OF 'abacistlaw15.ItemSigns'. -/
def itemSignsUptoCard : Claim7 := { stood := { row := itemSignsUptoRow, standIns := [], harness := (true, "a1d8244b5c225bc99e02315a0d5756944bdd43ca5b679e8ac9060aef7a6713c9"), looks := true }, kinds := [], alts := [], laidByText := true, laidKinds := [.data, .pinned], laidTests := true, laidLooks := .later }
def ItemSignsUptoCardSaid : Prop := Claim7.holds Tryz.pinned (.plain (OpenSpec.upto itemSignsSpec)) itemSignsUptoCard

/-- THE SECOND FORM's CARD OF 'abacistlaw15.ItemClusters'. -/
def itemClustersUptoCard : Claim7 := { stood := { row := itemClustersUptoRow, standIns := [], harness := (true, "a1d8244b5c225bc99e02315a0d5756944bdd43ca5b679e8ac9060aef7a6713c9"), looks := true }, kinds := [], alts := [], laidByText := true, laidKinds := [.data, .pinned], laidTests := true, laidLooks := .later }
def ItemClustersUptoCardSaid : Prop := Claim7.holds Tryz.pinned (.plain (OpenSpec.upto itemClustersSpec)) itemClustersUptoCard
end Rows
end Go.Proofs.YtnlfeamhedihpaaGreatDoor
