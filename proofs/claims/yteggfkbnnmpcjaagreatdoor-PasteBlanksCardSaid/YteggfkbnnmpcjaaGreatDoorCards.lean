/-
  DERIVED. GIVEN WITH THE SEED: THE CARDS: each row of YteggfkbnnmpcjaaGreatDoorRows.lean that lists a variable, with what it lists TIED to the program's text (the seventh form; the later family's looks); each row that meets fmt, with fmt's text TOLD by the authors' own Lean function (tested against real Go, not proved from fmt's source: count such statements apart). THE CARD IS WHAT COUNTS. Prove the row's statement (the work); the ties are given (YteggfkbnnmpcjaaGreatDoorTie.lean); close each card by the builder's one call (the guide's Derived/Test/ToyasCard.lean, 'card_holds'). Laid BY PROGRAM, IN A SANDBOX (cutbox-door.mjs). By AI agents, Wed Nov 11 2026. No macro, syntax, notation, axiom, sorry.
-/
import Derived.Test.YteggfkbnnmpcjaaGreatDoorRows
import GoSem.ClaimSeven
namespace Go.Proofs.YteggfkbnnmpcjaaGreatDoor
namespace Rows

/-- THE TIED CARD OF 'abacistlaw18.PasteKinds'. -/
def pasteKindsCard : Claim7 := { stood := { row := pasteKindsRow, standIns := [], harness := (true, "bfccb7a770af46ed0ee6ffb208c706769f1f69c336aad148ac82fb4fc26ff202"), looks := true }, kinds := [], alts := [], laidByText := true, laidKinds := [.data, .pinned], laidTests := true, laidLooks := .later }
def PasteKindsCardSaid : Prop := Claim7.holds Tryz.pinned (.plain (OpenSpec.ofChange pasteKindsSpec)) pasteKindsCard

/-- THE TIED CARD OF 'abacistlaw18.PasteShown'. -/
def pasteShownCard : Claim7 := { stood := { row := pasteShownRow, standIns := [], harness := (true, "bfccb7a770af46ed0ee6ffb208c706769f1f69c336aad148ac82fb4fc26ff202"), looks := true }, kinds := [], alts := [], laidByText := true, laidKinds := [.data, .pinned], laidTests := true, laidLooks := .later }
def PasteShownCardSaid : Prop := Claim7.holds Tryz.pinned (.plain (OpenSpec.ofChange pasteShownSpec)) pasteShownCard

/-- THE TIED CARD OF 'abacistlaw18.PasteTexts'. -/
def pasteTextsCard : Claim7 := { stood := { row := pasteTextsRow, standIns := [], harness := (true, "bfccb7a770af46ed0ee6ffb208c706769f1f69c336aad148ac82fb4fc26ff202"), looks := true }, kinds := [], alts := [], laidByText := true, laidKinds := [.data, .data, .data, .data, .pinned], laidTests := true, laidLooks := .later }
def PasteTextsCardSaid : Prop := Claim7.holds Tryz.pinned (.plain (OpenSpec.ofChange pasteTextsSpec)) pasteTextsCard

/-- THE TIED CARD OF 'abacistlaw18.PasteLong'. -/
def pasteLongCard : Claim7 := { stood := { row := pasteLongRow, standIns := [], harness := (true, "bfccb7a770af46ed0ee6ffb208c706769f1f69c336aad148ac82fb4fc26ff202"), looks := true }, kinds := [], alts := [], laidByText := true, laidKinds := [.data, .pinned], laidTests := true, laidLooks := .later }
def PasteLongCardSaid : Prop := Claim7.holds Tryz.pinned (.plain (OpenSpec.ofChange pasteLongSpec)) pasteLongCard

/-- THE TIED CARD OF 'abacistlaw18.PasteBlanks'. -/
def pasteBlanksCard : Claim7 := { stood := { row := pasteBlanksRow, standIns := [], harness := (true, "bfccb7a770af46ed0ee6ffb208c706769f1f69c336aad148ac82fb4fc26ff202"), looks := true }, kinds := [], alts := [], laidByText := true, laidKinds := [.data, .pinned], laidTests := true, laidLooks := .later }
def PasteBlanksCardSaid : Prop := Claim7.holds Tryz.pinned (.plain (OpenSpec.ofChange pasteBlanksSpec)) pasteBlanksCard

/-- THE SECOND FORM's CARD OF 'abacistlaw18.PasteKinds'. -/
def pasteKindsUptoCard : Claim7 := { stood := { row := pasteKindsUptoRow, standIns := [], harness := (true, "bfccb7a770af46ed0ee6ffb208c706769f1f69c336aad148ac82fb4fc26ff202"), looks := true }, kinds := [], alts := [], laidByText := true, laidKinds := [.data, .pinned], laidTests := true, laidLooks := .later }
def PasteKindsUptoCardSaid : Prop := Claim7.holds Tryz.pinned (.plain (OpenSpec.upto pasteKindsSpec)) pasteKindsUptoCard

/-- THE SECOND FORM's CARD OF 'abacistlaw18.PasteShown'. -/
def pasteShownUptoCard : Claim7 := { stood := { row := pasteShownUptoRow, standIns := [], harness := (true, "bfccb7a770af46ed0ee6ffb208c706769f1f69c336aad148ac82fb4fc26ff202"), looks := true }, kinds := [], alts := [], laidByText := true, laidKinds := [.data, .pinned], laidTests := true, laidLooks := .later }
def PasteShownUptoCardSaid : Prop := Claim7.holds Tryz.pinned (.plain (OpenSpec.upto pasteShownSpec)) pasteShownUptoCard

/-- THE SECOND FORM's CARD OF 'abacistlaw18.PasteTexts'. -/
def pasteTextsUptoCard : Claim7 := { stood := { row := pasteTextsUptoRow, standIns := [], harness := (true, "bfccb7a770af46ed0ee6ffb208c706769f1f69c336aad148ac82fb4fc26ff202"), looks := true }, kinds := [], alts := [], laidByText := true, laidKinds := [.data, .data, .data, .data, .pinned], laidTests := true, laidLooks := .later }
def PasteTextsUptoCardSaid : Prop := Claim7.holds Tryz.pinned (.plain (OpenSpec.upto pasteTextsSpec)) pasteTextsUptoCard

/-- THE SECOND FORM's CARD OF 'abacistlaw18.PasteLong'. -/
def pasteLongUptoCard : Claim7 := { stood := { row := pasteLongUptoRow, standIns := [], harness := (true, "bfccb7a770af46ed0ee6ffb208c706769f1f69c336aad148ac82fb4fc26ff202"), looks := true }, kinds := [], alts := [], laidByText := true, laidKinds := [.data, .pinned], laidTests := true, laidLooks := .later }
def PasteLongUptoCardSaid : Prop := Claim7.holds Tryz.pinned (.plain (OpenSpec.upto pasteLongSpec)) pasteLongUptoCard

/-- THE SECOND FORM's CARD OF 'abacistlaw18.PasteBlanks'. -/
def pasteBlanksUptoCard : Claim7 := { stood := { row := pasteBlanksUptoRow, standIns := [], harness := (true, "bfccb7a770af46ed0ee6ffb208c706769f1f69c336aad148ac82fb4fc26ff202"), looks := true }, kinds := [], alts := [], laidByText := true, laidKinds := [.data, .pinned], laidTests := true, laidLooks := .later }
def PasteBlanksUptoCardSaid : Prop := Claim7.holds Tryz.pinned (.plain (OpenSpec.upto pasteBlanksSpec)) pasteBlanksUptoCard
end Rows
end Go.Proofs.YteggfkbnnmpcjaaGreatDoor
