/-
  DERIVED. GIVEN WITH THE SEED: THE CARDS: each row of YtlckdfoflimahaaGreatDoorRows.lean that lists a variable, with what it lists TIED to the program's text (the seventh form; the later family's looks); each row that meets fmt, with fmt's text TOLD by the authors' own Lean function (tested against real Go, not proved from fmt's source: count such statements apart). THE CARD IS WHAT COUNTS. Prove the row's statement (the work); the ties are given (YtlckdfoflimahaaGreatDoorTie.lean); close each card by the builder's one call (the guide's Derived/Test/ToyasCard.lean, 'card_holds'). Laid BY PROGRAM, IN A SANDBOX (cutbox-door.mjs). By AI agents, Wed Nov 11 2026. No macro, syntax, notation, axiom, sorry.
-/
import Derived.Test.YtlckdfoflimahaaGreatDoorRows
import GoSem.ClaimSeven
namespace Go.Proofs.YtlckdfoflimahaaGreatDoor
namespace Rows

/-- THE TIED CARD OF 'paliolaw15.SpaceDoes'. -/
def spaceDoesCard : Claim7 := { stood := { row := spaceDoesRow, standIns := [], harness := (true, "5d58a5d952ac7333e0d8b05f3afc40a8ebeadcb06969dd41d3bcab98512666f8"), looks := true }, kinds := [], alts := [], laidByText := true, laidKinds := [.data, .data, .handle], laidTests := true, laidLooks := .later }
def SpaceDoesCardSaid : Prop := Claim7.holds Tryz.pinned (.plain (OpenSpec.ofChange spaceDoesSpec)) spaceDoesCard

/-- THE TIED CARD OF 'paliolaw15.SpaceApart'. -/
def spaceApartCard : Claim7 := { stood := { row := spaceApartRow, standIns := [], harness := (true, "5d58a5d952ac7333e0d8b05f3afc40a8ebeadcb06969dd41d3bcab98512666f8"), looks := true }, kinds := [], alts := [], laidByText := true, laidKinds := [.handle], laidTests := true, laidLooks := .later }
def SpaceApartCardSaid : Prop := Claim7.holds Tryz.pinned (.plain (OpenSpec.ofChange spaceApartSpec)) spaceApartCard

/-- THE TIED CARD OF 'paliolaw15.SpaceSizes'. -/
def spaceSizesCard : Claim7 := { stood := { row := spaceSizesRow, standIns := [], harness := (true, "5d58a5d952ac7333e0d8b05f3afc40a8ebeadcb06969dd41d3bcab98512666f8"), looks := true }, kinds := [], alts := [], laidByText := true, laidKinds := [.data, .data, .handle], laidTests := true, laidLooks := .later }
def SpaceSizesCardSaid : Prop := Claim7.holds Tryz.pinned (.plain (OpenSpec.ofChange spaceSizesSpec)) spaceSizesCard

/-- THE TIED CARD OF 'paliolaw15.SpaceScans'. -/
def spaceScansCard : Claim7 := { stood := { row := spaceScansRow, standIns := [], harness := (true, "5d58a5d952ac7333e0d8b05f3afc40a8ebeadcb06969dd41d3bcab98512666f8"), looks := true }, kinds := [], alts := [], laidByText := true, laidKinds := [.data, .data, .handle], laidTests := true, laidLooks := .later }
def SpaceScansCardSaid : Prop := Claim7.holds Tryz.pinned (.plain (OpenSpec.ofChange spaceScansSpec)) spaceScansCard

/-- THE TIED CARD OF 'paliolaw15.SpaceFull'. -/
def spaceFullCard : Claim7 := { stood := { row := spaceFullRow, standIns := [], harness := (true, "5d58a5d952ac7333e0d8b05f3afc40a8ebeadcb06969dd41d3bcab98512666f8"), looks := true }, kinds := [], alts := [], laidByText := true, laidKinds := [.data, .data, .handle], laidTests := true, laidLooks := .later }
def SpaceFullCardSaid : Prop := Claim7.holds Tryz.pinned (.plain (OpenSpec.ofChange spaceFullSpec)) spaceFullCard

/-- THE TIED CARD OF 'paliolaw15.SpaceRenames'. -/
def spaceRenamesCard : Claim7 := { stood := { row := spaceRenamesRow, standIns := [], harness := (true, "5d58a5d952ac7333e0d8b05f3afc40a8ebeadcb06969dd41d3bcab98512666f8"), looks := true }, kinds := [], alts := [], laidByText := true, laidKinds := [.handle], laidTests := true, laidLooks := .later }
def SpaceRenamesCardSaid : Prop := Claim7.holds Tryz.pinned (.plain (OpenSpec.ofChange spaceRenamesSpec)) spaceRenamesCard

/-- THE TIED CARD OF 'paliolaw16.EvictDoes'. -/
def evictDoesCard : Claim7 := { stood := { row := evictDoesRow, standIns := [], harness := (true, "5d58a5d952ac7333e0d8b05f3afc40a8ebeadcb06969dd41d3bcab98512666f8"), looks := true }, kinds := [], alts := [], laidByText := true, laidKinds := [.data, .data, .handle], laidTests := true, laidLooks := .later }
def EvictDoesCardSaid : Prop := Claim7.holds Tryz.pinned (.plain (OpenSpec.ofChange evictDoesSpec)) evictDoesCard

/-- THE TIED CARD OF 'paliolaw16.EvictSamples'. -/
def evictSamplesCard : Claim7 := { stood := { row := evictSamplesRow, standIns := [], harness := (true, "5d58a5d952ac7333e0d8b05f3afc40a8ebeadcb06969dd41d3bcab98512666f8"), looks := true }, kinds := [], alts := [], laidByText := true, laidKinds := [.data, .data, .handle], laidTests := true, laidLooks := .later }
def EvictSamplesCardSaid : Prop := Claim7.holds Tryz.pinned (.plain (OpenSpec.ofChange evictSamplesSpec)) evictSamplesCard

/-- THE TIED CARD OF 'paliolaw16.EvictLast'. -/
def evictLastCard : Claim7 := { stood := { row := evictLastRow, standIns := [], harness := (true, "5d58a5d952ac7333e0d8b05f3afc40a8ebeadcb06969dd41d3bcab98512666f8"), looks := true }, kinds := [], alts := [], laidByText := true, laidKinds := [.data, .data, .handle], laidTests := true, laidLooks := .later }
def EvictLastCardSaid : Prop := Claim7.holds Tryz.pinned (.plain (OpenSpec.ofChange evictLastSpec)) evictLastCard

/-- THE TIED CARD OF 'paliolaw16.EvictWhole'. -/
def evictWholeCard : Claim7 := { stood := { row := evictWholeRow, standIns := [], harness := (true, "5d58a5d952ac7333e0d8b05f3afc40a8ebeadcb06969dd41d3bcab98512666f8"), looks := true }, kinds := [], alts := [], laidByText := true, laidKinds := [.data, .data, .handle], laidTests := true, laidLooks := .later }
def EvictWholeCardSaid : Prop := Claim7.holds Tryz.pinned (.plain (OpenSpec.ofChange evictWholeSpec)) evictWholeCard

/-- THE TIED CARD OF 'paliolaw16.EvictTimes'. -/
def evictTimesCard : Claim7 := { stood := { row := evictTimesRow, standIns := [], harness := (true, "5d58a5d952ac7333e0d8b05f3afc40a8ebeadcb06969dd41d3bcab98512666f8"), looks := true }, kinds := [], alts := [], laidByText := true, laidKinds := [.data, .data, .handle], laidTests := true, laidLooks := .later }
def EvictTimesCardSaid : Prop := Claim7.holds Tryz.pinned (.plain (OpenSpec.ofChange evictTimesSpec)) evictTimesCard

/-- THE TIED CARD OF 'paliolaw16.EvictNone'. -/
def evictNoneCard : Claim7 := { stood := { row := evictNoneRow, standIns := [], harness := (true, "5d58a5d952ac7333e0d8b05f3afc40a8ebeadcb06969dd41d3bcab98512666f8"), looks := true }, kinds := [], alts := [], laidByText := true, laidKinds := [.data, .data, .handle], laidTests := true, laidLooks := .later }
def EvictNoneCardSaid : Prop := Claim7.holds Tryz.pinned (.plain (OpenSpec.ofChange evictNoneSpec)) evictNoneCard

/-- THE SECOND FORM's CARD OF 'paliolaw15.SpaceDoes'. -/
def spaceDoesUptoCard : Claim7 := { stood := { row := spaceDoesUptoRow, standIns := [], harness := (true, "5d58a5d952ac7333e0d8b05f3afc40a8ebeadcb06969dd41d3bcab98512666f8"), looks := true }, kinds := [], alts := [], laidByText := true, laidKinds := [.data, .data, .handle], laidTests := true, laidLooks := .later }
def SpaceDoesUptoCardSaid : Prop := Claim7.holds Tryz.pinned (.plain (OpenSpec.upto spaceDoesSpec)) spaceDoesUptoCard

/-- THE SECOND FORM's CARD OF 'paliolaw15.SpaceApart'. -/
def spaceApartUptoCard : Claim7 := { stood := { row := spaceApartUptoRow, standIns := [], harness := (true, "5d58a5d952ac7333e0d8b05f3afc40a8ebeadcb06969dd41d3bcab98512666f8"), looks := true }, kinds := [], alts := [], laidByText := true, laidKinds := [.handle], laidTests := true, laidLooks := .later }
def SpaceApartUptoCardSaid : Prop := Claim7.holds Tryz.pinned (.plain (OpenSpec.upto spaceApartSpec)) spaceApartUptoCard

/-- THE SECOND FORM's CARD OF 'paliolaw15.SpaceSizes'. -/
def spaceSizesUptoCard : Claim7 := { stood := { row := spaceSizesUptoRow, standIns := [], harness := (true, "5d58a5d952ac7333e0d8b05f3afc40a8ebeadcb06969dd41d3bcab98512666f8"), looks := true }, kinds := [], alts := [], laidByText := true, laidKinds := [.data, .data, .handle], laidTests := true, laidLooks := .later }
def SpaceSizesUptoCardSaid : Prop := Claim7.holds Tryz.pinned (.plain (OpenSpec.upto spaceSizesSpec)) spaceSizesUptoCard

/-- THE SECOND FORM's CARD OF 'paliolaw15.SpaceScans'. -/
def spaceScansUptoCard : Claim7 := { stood := { row := spaceScansUptoRow, standIns := [], harness := (true, "5d58a5d952ac7333e0d8b05f3afc40a8ebeadcb06969dd41d3bcab98512666f8"), looks := true }, kinds := [], alts := [], laidByText := true, laidKinds := [.data, .data, .handle], laidTests := true, laidLooks := .later }
def SpaceScansUptoCardSaid : Prop := Claim7.holds Tryz.pinned (.plain (OpenSpec.upto spaceScansSpec)) spaceScansUptoCard

/-- THE SECOND FORM's CARD OF 'paliolaw15.SpaceFull'. -/
def spaceFullUptoCard : Claim7 := { stood := { row := spaceFullUptoRow, standIns := [], harness := (true, "5d58a5d952ac7333e0d8b05f3afc40a8ebeadcb06969dd41d3bcab98512666f8"), looks := true }, kinds := [], alts := [], laidByText := true, laidKinds := [.data, .data, .handle], laidTests := true, laidLooks := .later }
def SpaceFullUptoCardSaid : Prop := Claim7.holds Tryz.pinned (.plain (OpenSpec.upto spaceFullSpec)) spaceFullUptoCard

/-- THE SECOND FORM's CARD OF 'paliolaw15.SpaceRenames'. -/
def spaceRenamesUptoCard : Claim7 := { stood := { row := spaceRenamesUptoRow, standIns := [], harness := (true, "5d58a5d952ac7333e0d8b05f3afc40a8ebeadcb06969dd41d3bcab98512666f8"), looks := true }, kinds := [], alts := [], laidByText := true, laidKinds := [.handle], laidTests := true, laidLooks := .later }
def SpaceRenamesUptoCardSaid : Prop := Claim7.holds Tryz.pinned (.plain (OpenSpec.upto spaceRenamesSpec)) spaceRenamesUptoCard

/-- THE SECOND FORM's CARD OF 'paliolaw16.EvictDoes'. -/
def evictDoesUptoCard : Claim7 := { stood := { row := evictDoesUptoRow, standIns := [], harness := (true, "5d58a5d952ac7333e0d8b05f3afc40a8ebeadcb06969dd41d3bcab98512666f8"), looks := true }, kinds := [], alts := [], laidByText := true, laidKinds := [.data, .data, .handle], laidTests := true, laidLooks := .later }
def EvictDoesUptoCardSaid : Prop := Claim7.holds Tryz.pinned (.plain (OpenSpec.upto evictDoesSpec)) evictDoesUptoCard

/-- THE SECOND FORM's CARD OF 'paliolaw16.EvictSamples'. -/
def evictSamplesUptoCard : Claim7 := { stood := { row := evictSamplesUptoRow, standIns := [], harness := (true, "5d58a5d952ac7333e0d8b05f3afc40a8ebeadcb06969dd41d3bcab98512666f8"), looks := true }, kinds := [], alts := [], laidByText := true, laidKinds := [.data, .data, .handle], laidTests := true, laidLooks := .later }
def EvictSamplesUptoCardSaid : Prop := Claim7.holds Tryz.pinned (.plain (OpenSpec.upto evictSamplesSpec)) evictSamplesUptoCard

/-- THE SECOND FORM's CARD OF 'paliolaw16.EvictLast'. -/
def evictLastUptoCard : Claim7 := { stood := { row := evictLastUptoRow, standIns := [], harness := (true, "5d58a5d952ac7333e0d8b05f3afc40a8ebeadcb06969dd41d3bcab98512666f8"), looks := true }, kinds := [], alts := [], laidByText := true, laidKinds := [.data, .data, .handle], laidTests := true, laidLooks := .later }
def EvictLastUptoCardSaid : Prop := Claim7.holds Tryz.pinned (.plain (OpenSpec.upto evictLastSpec)) evictLastUptoCard

/-- THE SECOND FORM's CARD OF 'paliolaw16.EvictWhole'. -/
def evictWholeUptoCard : Claim7 := { stood := { row := evictWholeUptoRow, standIns := [], harness := (true, "5d58a5d952ac7333e0d8b05f3afc40a8ebeadcb06969dd41d3bcab98512666f8"), looks := true }, kinds := [], alts := [], laidByText := true, laidKinds := [.data, .data, .handle], laidTests := true, laidLooks := .later }
def EvictWholeUptoCardSaid : Prop := Claim7.holds Tryz.pinned (.plain (OpenSpec.upto evictWholeSpec)) evictWholeUptoCard

/-- THE SECOND FORM's CARD OF 'paliolaw16.EvictTimes'. -/
def evictTimesUptoCard : Claim7 := { stood := { row := evictTimesUptoRow, standIns := [], harness := (true, "5d58a5d952ac7333e0d8b05f3afc40a8ebeadcb06969dd41d3bcab98512666f8"), looks := true }, kinds := [], alts := [], laidByText := true, laidKinds := [.data, .data, .handle], laidTests := true, laidLooks := .later }
def EvictTimesUptoCardSaid : Prop := Claim7.holds Tryz.pinned (.plain (OpenSpec.upto evictTimesSpec)) evictTimesUptoCard

/-- THE SECOND FORM's CARD OF 'paliolaw16.EvictNone'. -/
def evictNoneUptoCard : Claim7 := { stood := { row := evictNoneUptoRow, standIns := [], harness := (true, "5d58a5d952ac7333e0d8b05f3afc40a8ebeadcb06969dd41d3bcab98512666f8"), looks := true }, kinds := [], alts := [], laidByText := true, laidKinds := [.data, .data, .handle], laidTests := true, laidLooks := .later }
def EvictNoneUptoCardSaid : Prop := Claim7.holds Tryz.pinned (.plain (OpenSpec.upto evictNoneSpec)) evictNoneUptoCard
end Rows
end Go.Proofs.YtlckdfoflimahaaGreatDoor
