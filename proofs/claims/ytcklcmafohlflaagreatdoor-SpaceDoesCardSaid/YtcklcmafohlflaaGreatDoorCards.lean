/-
  DERIVED. GIVEN WITH THE SEED: THE CARDS: each row of YtcklcmafohlflaaGreatDoorRows.lean that lists a variable, with what it lists TIED to the program's text (the seventh form; the later family's looks); each row that meets fmt, with fmt's text TOLD by the authors' own Lean function (tested against real Go, not proved from fmt's source: count such statements apart). THE CARD IS WHAT COUNTS. Prove the row's statement (the work); the ties are given (YtcklcmafohlflaaGreatDoorTie.lean); close each card by the builder's one call (the guide's Derived/Test/ToyasCard.lean, 'card_holds'). Laid BY PROGRAM, IN A SANDBOX (cutbox-door.mjs). By AI agents, Wed Nov 11 2026. No macro, syntax, notation, axiom, sorry.
-/
import Derived.Test.YtcklcmafohlflaaGreatDoorRows
import GoSem.ClaimSeven
namespace Go.Proofs.YtcklcmafohlflaaGreatDoor
namespace Rows

/-- THE TIED CARD OF 'paliolaw15.SpaceDoes'. -/
def spaceDoesCard : Claim7 := { stood := { row := spaceDoesRow, standIns := [], harness := (true, "6b3d206f0f62d0cc642bc3b2d8bf147e3173792bb8d009dcb52f6d5ca155accf"), looks := true }, kinds := [], alts := [], laidByText := true, laidKinds := [.data, .data, .handle], laidTests := true, laidLooks := .later }
def SpaceDoesCardSaid : Prop := Claim7.holds Tryz.pinned (.plain (OpenSpec.ofChange spaceDoesSpec)) spaceDoesCard

/-- THE SECOND FORM's CARD OF 'paliolaw15.SpaceDoes'. -/
def spaceDoesUptoCard : Claim7 := { stood := { row := spaceDoesUptoRow, standIns := [], harness := (true, "6b3d206f0f62d0cc642bc3b2d8bf147e3173792bb8d009dcb52f6d5ca155accf"), looks := true }, kinds := [], alts := [], laidByText := true, laidKinds := [.data, .data, .handle], laidTests := true, laidLooks := .later }
def SpaceDoesUptoCardSaid : Prop := Claim7.holds Tryz.pinned (.plain (OpenSpec.upto spaceDoesSpec)) spaceDoesUptoCard
end Rows
end Go.Proofs.YtcklcmafohlflaaGreatDoor
