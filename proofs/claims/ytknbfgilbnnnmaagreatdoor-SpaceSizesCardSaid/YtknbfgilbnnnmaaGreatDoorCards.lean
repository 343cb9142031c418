/-
  DERIVED. GIVEN WITH THE SEED: THE CARDS: each row of YtknbfgilbnnnmaaGreatDoorRows.lean that lists a variable, with what it lists TIED to the program's text (the seventh form; the later family's looks); each row that meets fmt, with fmt's text TOLD by the authors' own Lean function (tested against real Go, not proved from fmt's source: count such statements apart). THE CARD IS WHAT COUNTS. Prove the row's statement (the work); the ties are given (YtknbfgilbnnnmaaGreatDoorTie.lean); close each card by the builder's one call (the guide's Derived/Test/ToyasCard.lean, 'card_holds'). Laid BY PROGRAM, IN A SANDBOX (cutbox-door.mjs). By AI agents, Wed Nov 11 2026. No macro, syntax, notation, axiom, sorry.
-/
import Derived.Test.YtknbfgilbnnnmaaGreatDoorRows
import GoSem.ClaimSeven
namespace Go.Proofs.YtknbfgilbnnnmaaGreatDoor
namespace Rows

/-- THE TIED CARD OF 'paliolaw15.SpaceSizes'. -/
def spaceSizesCard : Claim7 := { stood := { row := spaceSizesRow, standIns := [], harness := (true, "e84b13211068860834a44d51cf4c990b8f4685654b17c1b50d7978af6c4f4c1e"), looks := true }, kinds := [], alts := [], laidByText := true, laidKinds := [.data, .data, .handle], laidTests := true, laidLooks := .later }
def SpaceSizesCardSaid : Prop := Claim7.holds Tryz.pinned (.plain (OpenSpec.ofChange spaceSizesSpec)) spaceSizesCard

/-- THE TIED CARD OF 'paliolaw15.SpaceScans'. -/
def spaceScansCard : Claim7 := { stood := { row := spaceScansRow, standIns := [], harness := (true, "e84b13211068860834a44d51cf4c990b8f4685654b17c1b50d7978af6c4f4c1e"), looks := true }, kinds := [], alts := [], laidByText := true, laidKinds := [.data, .data, .handle], laidTests := true, laidLooks := .later }
def SpaceScansCardSaid : Prop := Claim7.holds Tryz.pinned (.plain (OpenSpec.ofChange spaceScansSpec)) spaceScansCard

/-- THE SECOND FORM's CARD OF 'paliolaw15.SpaceSizes'. -/
def spaceSizesUptoCard : Claim7 := { stood := { row := spaceSizesUptoRow, standIns := [], harness := (true, "e84b13211068860834a44d51cf4c990b8f4685654b17c1b50d7978af6c4f4c1e"), looks := true }, kinds := [], alts := [], laidByText := true, laidKinds := [.data, .data, .handle], laidTests := true, laidLooks := .later }
def SpaceSizesUptoCardSaid : Prop := Claim7.holds Tryz.pinned (.plain (OpenSpec.upto spaceSizesSpec)) spaceSizesUptoCard

/-- THE SECOND FORM's CARD OF 'paliolaw15.SpaceScans'. -/
def spaceScansUptoCard : Claim7 := { stood := { row := spaceScansUptoRow, standIns := [], harness := (true, "e84b13211068860834a44d51cf4c990b8f4685654b17c1b50d7978af6c4f4c1e"), looks := true }, kinds := [], alts := [], laidByText := true, laidKinds := [.data, .data, .handle], laidTests := true, laidLooks := .later }
def SpaceScansUptoCardSaid : Prop := Claim7.holds Tryz.pinned (.plain (OpenSpec.upto spaceScansSpec)) spaceScansUptoCard
end Rows
end Go.Proofs.YtknbfgilbnnnmaaGreatDoor
