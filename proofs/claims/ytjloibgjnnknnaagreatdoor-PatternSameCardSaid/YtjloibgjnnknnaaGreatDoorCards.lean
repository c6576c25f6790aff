/-
  DERIVED. GIVEN WITH THE SEED: THE CARDS: each row of YtjloibgjnnknnaaGreatDoorRows.lean that lists a variable, with what it lists TIED to the program's text (the seventh form; the later family's looks); each row that meets fmt, with fmt's text TOLD by the authors' own Lean function (tested against real Go, not proved from fmt's source: count such statements apart). THE CARD IS WHAT COUNTS. Prove the row's statement (the work); the ties are given (YtjloibgjnnknnaaGreatDoorTie.lean); close each card by the builder's one call (the guide's Derived/Test/ToyasCard.lean, 'card_holds'). Laid BY PROGRAM, IN A SANDBOX (cutbox-door.mjs). By AI agents, Wed Nov 11 2026. No macro, syntax, notation, axiom, sorry.
-/
import Derived.Test.YtjloibgjnnknnaaGreatDoorRows
import GoSem.ClaimSeven
namespace Go.Proofs.YtjloibgjnnknnaaGreatDoor
namespace Rows

/-- THE TIED CARD OF 'abacistlaw10.PatternSame'. -/
def patternSameCard : Claim7 := { stood := { row := patternSameRow, standIns := [], harness := (true, "a464eda7718461928f662d5d4cbe6b6c66b23b5613f7044f537abd798348fe6b"), looks := true }, kinds := [], alts := [], laidByText := true, laidKinds := [.data, .pinned], laidTests := true, laidLooks := .later }
def PatternSameCardSaid : Prop := Claim7.holds Tryz.pinned (.plain (OpenSpec.ofChange patternSameSpec)) patternSameCard

/-- THE SECOND FORM's CARD OF 'abacistlaw10.PatternSame'. -/
def patternSameUptoCard : Claim7 := { stood := { row := patternSameUptoRow, standIns := [], harness := (true, "a464eda7718461928f662d5d4cbe6b6c66b23b5613f7044f537abd798348fe6b"), looks := true }, kinds := [], alts := [], laidByText := true, laidKinds := [.data, .pinned], laidTests := true, laidLooks := .later }
def PatternSameUptoCardSaid : Prop := Claim7.holds Tryz.pinned (.plain (OpenSpec.upto patternSameSpec)) patternSameUptoCard
end Rows
end Go.Proofs.YtjloibgjnnknnaaGreatDoor
