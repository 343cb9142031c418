/-
  DERIVED. GIVEN WITH THE SEED: THE CARDS: each row of YtpfoicpnpgojdaaGreatDoorRows.lean that lists a variable, with what it lists TIED to the program's text (the seventh form; the later family's looks); each row that meets fmt, with fmt's text TOLD by the authors' own Lean function (tested against real Go, not proved from fmt's source: count such statements apart). THE CARD IS WHAT COUNTS. Prove the row's statement (the work); the ties are given (YtpfoicpnpgojdaaGreatDoorTie.lean); close each card by the builder's one call (the guide's Derived/Test/ToyasCard.lean, 'card_holds'). Laid BY PROGRAM, IN A SANDBOX (cutbox-door.mjs). By AI agents, Wed Nov 11 2026. No macro, syntax, notation, axiom, sorry.
-/
import Derived.Test.YtpfoicpnpgojdaaGreatDoorRows
import GoSem.ClaimSeven
namespace Go.Proofs.YtpfoicpnpgojdaaGreatDoor
namespace Rows

/-- THE TIED CARD OF 'paliolaw15.SpaceDoes'. -/
def spaceDoesCard : Claim7 := { stood := { row := spaceDoesRow, standIns := [], harness := (true, "a9786cef89fbb3d729527a1605f95467b91a54ffa8b5f1e30504f6db14c6d7e0"), looks := true }, kinds := [], alts := [], laidByText := true, laidKinds := [.data, .data, .handle], laidTests := true, laidLooks := .later }
def SpaceDoesCardSaid : Prop := Claim7.holds Tryz.pinned (.plain (OpenSpec.ofChange spaceDoesSpec)) spaceDoesCard

/-- THE TIED CARD OF 'paliolaw15.SpaceApart'. -/
def spaceApartCard : Claim7 := { stood := { row := spaceApartRow, standIns := [], harness := (true, "a9786cef89fbb3d729527a1605f95467b91a54ffa8b5f1e30504f6db14c6d7e0"), looks := true }, kinds := [], alts := [], laidByText := true, laidKinds := [.handle], laidTests := true, laidLooks := .later }
def SpaceApartCardSaid : Prop := Claim7.holds Tryz.pinned (.plain (OpenSpec.ofChange spaceApartSpec)) spaceApartCard

/-- THE TIED CARD OF 'paliolaw15.SpaceSizes'. -/
def spaceSizesCard : Claim7 := { stood := { row := spaceSizesRow, standIns := [], harness := (true, "a9786cef89fbb3d729527a1605f95467b91a54ffa8b5f1e30504f6db14c6d7e0"), looks := true }, kinds := [], alts := [], laidByText := true, laidKinds := [.data, .data, .handle], laidTests := true, laidLooks := .later }
def SpaceSizesCardSaid : Prop := Claim7.holds Tryz.pinned (.plain (OpenSpec.ofChange spaceSizesSpec)) spaceSizesCard

/-- THE TIED CARD OF 'paliolaw15.SpaceScans'. -/
def spaceScansCard : Claim7 := { stood := { row := spaceScansRow, standIns := [], harness := (true, "a9786cef89fbb3d729527a1605f95467b91a54ffa8b5f1e30504f6db14c6d7e0"), looks := true }, kinds := [], alts := [], laidByText := true, laidKinds := [.data, .data, .handle], laidTests := true, laidLooks := .later }
def SpaceScansCardSaid : Prop := Claim7.holds Tryz.pinned (.plain (OpenSpec.ofChange spaceScansSpec)) spaceScansCard

/-- THE TIED CARD OF 'paliolaw15.SpaceFull'. -/
def spaceFullCard : Claim7 := { stood := { row := spaceFullRow, standIns := [], harness := (true, "a9786cef89fbb3d729527a1605f95467b91a54ffa8b5f1e30504f6db14c6d7e0"), looks := true }, kinds := [], alts := [], laidByText := true, laidKinds := [.data, .data, .handle], laidTests := true, laidLooks := .later }
def SpaceFullCardSaid : Prop := Claim7.holds Tryz.pinned (.plain (OpenSpec.ofChange spaceFullSpec)) spaceFullCard

/-- THE TIED CARD OF 'paliolaw15.SpaceRenames'. -/
def spaceRenamesCard : Claim7 := { stood := { row := spaceRenamesRow, standIns := [], harness := (true, "a9786cef89fbb3d729527a1605f95467b91a54ffa8b5f1e30504f6db14c6d7e0"), looks := true }, kinds := [], alts := [], laidByText := true, laidKinds := [.handle], laidTests := true, laidLooks := .later }
def SpaceRenamesCardSaid : Prop := Claim7.holds Tryz.pinned (.plain (OpenSpec.ofChange spaceRenamesSpec)) spaceRenamesCard

/-- THE TIED CARD OF 'paliolaw15.SpacePuts'. -/
def spacePutsCard : Claim7 := { stood := { row := spacePutsRow, standIns := [], harness := (true, "a9786cef89fbb3d729527a1605f95467b91a54ffa8b5f1e30504f6db14c6d7e0"), looks := true }, kinds := [], alts := [], laidByText := true, laidKinds := [.handle], laidTests := true, laidLooks := .later }
def SpacePutsCardSaid : Prop := Claim7.holds Tryz.pinned (.plain (OpenSpec.ofChange spacePutsSpec)) spacePutsCard

/-- THE SECOND FORM's CARD OF 'paliolaw15.SpaceDoes'. -/
def spaceDoesUptoCard : Claim7 := { stood := { row := spaceDoesUptoRow, standIns := [], harness := (true, "a9786cef89fbb3d729527a1605f95467b91a54ffa8b5f1e30504f6db14c6d7e0"), looks := true }, kinds := [], alts := [], laidByText := true, laidKinds := [.data, .data, .handle], laidTests := true, laidLooks := .later }
def SpaceDoesUptoCardSaid : Prop := Claim7.holds Tryz.pinned (.plain (OpenSpec.upto spaceDoesSpec)) spaceDoesUptoCard

/-- THE SECOND FORM's CARD OF 'paliolaw15.SpaceApart'. -/
def spaceApartUptoCard : Claim7 := { stood := { row := spaceApartUptoRow, standIns := [], harness := (true, "a9786cef89fbb3d729527a1605f95467b91a54ffa8b5f1e30504f6db14c6d7e0"), looks := true }, kinds := [], alts := [], laidByText := true, laidKinds := [.handle], laidTests := true, laidLooks := .later }
def SpaceApartUptoCardSaid : Prop := Claim7.holds Tryz.pinned (.plain (OpenSpec.upto spaceApartSpec)) spaceApartUptoCard

/-- THE SECOND FORM's CARD OF 'paliolaw15.SpaceSizes'. -/
def spaceSizesUptoCard : Claim7 := { stood := { row := spaceSizesUptoRow, standIns := [], harness := (true, "a9786cef89fbb3d729527a1605f95467b91a54ffa8b5f1e30504f6db14c6d7e0"), looks := true }, kinds := [], alts := [], laidByText := true, laidKinds := [.data, .data, .handle], laidTests := true, laidLooks := .later }
def SpaceSizesUptoCardSaid : Prop := Claim7.holds Tryz.pinned (.plain (OpenSpec.upto spaceSizesSpec)) spaceSizesUptoCard

/-- THE SECOND FORM's CARD OF 'paliolaw15.SpaceScans'. -/
def spaceScansUptoCard : Claim7 := { stood := { row := spaceScansUptoRow, standIns := [], harness := (true, "a9786cef89fbb3d729527a1605f95467b91a54ffa8b5f1e30504f6db14c6d7e0"), looks := true }, kinds := [], alts := [], laidByText := true, laidKinds := [.data, .data, .handle], laidTests := true, laidLooks := .later }
def SpaceScansUptoCardSaid : Prop := Claim7.holds Tryz.pinned (.plain (OpenSpec.upto spaceScansSpec)) spaceScansUptoCard

/-- THE SECOND FORM's CARD OF 'paliolaw15.SpaceFull'. -/
def spaceFullUptoCard : Claim7 := { stood := { row := spaceFullUptoRow, standIns := [], harness := (true, "a9786cef89fbb3d729527a1605f95467b91a54ffa8b5f1e30504f6db14c6d7e0"), looks := true }, kinds := [], alts := [], laidByText := true, laidKinds := [.data, .data, .handle], laidTests := true, laidLooks := .later }
def SpaceFullUptoCardSaid : Prop := Claim7.holds Tryz.pinned (.plain (OpenSpec.upto spaceFullSpec)) spaceFullUptoCard

/-- THE SECOND FORM's CARD OF 'paliolaw15.SpaceRenames'. -/
def spaceRenamesUptoCard : Claim7 := { stood := { row := spaceRenamesUptoRow, standIns := [], harness := (true, "a9786cef89fbb3d729527a1605f95467b91a54ffa8b5f1e30504f6db14c6d7e0"), looks := true }, kinds := [], alts := [], laidByText := true, laidKinds := [.handle], laidTests := true, laidLooks := .later }
def SpaceRenamesUptoCardSaid : Prop := Claim7.holds Tryz.pinned (.plain (OpenSpec.upto spaceRenamesSpec)) spaceRenamesUptoCard

/-- THE SECOND FORM's CARD OF 'paliolaw15.SpacePuts'. -/
def spacePutsUptoCard : Claim7 := { stood := { row := spacePutsUptoRow, standIns := [], harness := (true, "a9786cef89fbb3d729527a1605f95467b91a54ffa8b5f1e30504f6db14c6d7e0"), looks := true }, kinds := [], alts := [], laidByText := true, laidKinds := [.handle], laidTests := true, laidLooks := .later }
def SpacePutsUptoCardSaid : Prop := Claim7.holds Tryz.pinned (.plain (OpenSpec.upto spacePutsSpec)) spacePutsUptoCard
end Rows
end Go.Proofs.YtpfoicpnpgojdaaGreatDoor
