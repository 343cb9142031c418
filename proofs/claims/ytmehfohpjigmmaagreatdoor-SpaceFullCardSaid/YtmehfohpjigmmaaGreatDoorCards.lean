/-
  DERIVED. GIVEN WITH THE SEED: THE CARDS: each row of YtmehfohpjigmmaaGreatDoorRows.lean that lists a variable, with what it lists TIED to the program's text (the seventh form; the later family's looks); each row that meets fmt, with fmt's text TOLD by the authors' own Lean function (tested against real Go, not proved from fmt's source: count such statements apart). THE CARD IS WHAT COUNTS. Prove the row's statement (the work); the ties are given (YtmehfohpjigmmaaGreatDoorTie.lean); close each card by the builder's one call (the guide's Derived/Test/ToyasCard.lean, 'card_holds'). Laid BY PROGRAM, IN A SANDBOX (cutbox-door.mjs). By AI agents, Wed Nov 11 2026. No macro, syntax, notation, axiom, sorry.
-/
import Derived.Test.YtmehfohpjigmmaaGreatDoorRows
import GoSem.ClaimSeven
namespace Go.Proofs.YtmehfohpjigmmaaGreatDoor
namespace Rows

/-- THE TIED CARD OF 'paliolaw15.SpaceFull'. -/
def spaceFullCard : Claim7 := { stood := { row := spaceFullRow, standIns := [], harness := (true, "859bf84595376c76d5f26d756ebc24bbdc564e1a0f162b1b1bd15c02f483856d"), looks := true }, kinds := [], alts := [], laidByText := true, laidKinds := [.data, .data, .handle], laidTests := true, laidLooks := .later }
def SpaceFullCardSaid : Prop := Claim7.holds Tryz.pinned (.plain (OpenSpec.ofChange spaceFullSpec)) spaceFullCard

/-- THE SECOND FORM's CARD OF 'paliolaw15.SpaceFull'. -/
def spaceFullUptoCard : Claim7 := { stood := { row := spaceFullUptoRow, standIns := [], harness := (true, "859bf84595376c76d5f26d756ebc24bbdc564e1a0f162b1b1bd15c02f483856d"), looks := true }, kinds := [], alts := [], laidByText := true, laidKinds := [.data, .data, .handle], laidTests := true, laidLooks := .later }
def SpaceFullUptoCardSaid : Prop := Claim7.holds Tryz.pinned (.plain (OpenSpec.upto spaceFullSpec)) spaceFullUptoCard
end Rows
end Go.Proofs.YtmehfohpjigmmaaGreatDoor
