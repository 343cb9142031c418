/-
  DERIVED. GIVEN WITH THE SEED: THE CARDS: each row of YtjcgfbmkgfhnaaaDoorRows.lean that lists a variable, with what it lists TIED to the program's text (the seventh form; the later family's looks); each row that meets fmt, with fmt's text TOLD by the authors' own Lean function (tested against real Go, not proved from fmt's source: count such statements apart). THE CARD IS WHAT COUNTS. Prove the row's statement (the work); the ties are given (YtjcgfbmkgfhnaaaDoorTie.lean); close each card by the builder's one call (the guide's Derived/Test/ToyasCard.lean, 'card_holds'). Laid BY PROGRAM, IN A SANDBOX (cutbox-door.mjs). By AI agents, Wed Nov 11 2026. No macro, syntax, notation, axiom, sorry.
-/
import Derived.Test.YtjcgfbmkgfhnaaaDoorRows
import GoSem.ClaimSeven
namespace Go.Proofs.YtjcgfbmkgfhnaaaDoor
namespace Rows

/-- THE TIED CARD OF 'paliolaw03.FrameBack'. -/
def frameBackCard : Claim7 := { stood := { row := frameBackRow, standIns := [], harness := (true, "b23feaa1e6710915f511b17fef4feda9a6d0ea2bba6660dde4acbc3614e1d030"), looks := true }, kinds := [], alts := [], laidByText := true, laidKinds := [.sentinel, .sentinel], laidTests := true, laidLooks := .later }
def FrameBackCardSaid : Prop := Claim7.holds Tryd.pinned (.plain (OpenSpec.ofChange frameBackSpec)) frameBackCard

/-- THE TIED CARD OF 'paliolaw03.FrameMore'. -/
def frameMoreCard : Claim7 := { stood := { row := frameMoreRow, standIns := [], harness := (true, "b23feaa1e6710915f511b17fef4feda9a6d0ea2bba6660dde4acbc3614e1d030"), looks := true }, kinds := [], alts := [], laidByText := true, laidKinds := [.sentinel, .sentinel], laidTests := true, laidLooks := .later }
def FrameMoreCardSaid : Prop := Claim7.holds Tryd.pinned (.plain (OpenSpec.ofChange frameMoreSpec)) frameMoreCard

/-- THE TIED CARD OF 'paliolaw03.FrameKinds'. -/
def frameKindsCard : Claim7 := { stood := { row := frameKindsRow, standIns := [], harness := (true, "b23feaa1e6710915f511b17fef4feda9a6d0ea2bba6660dde4acbc3614e1d030"), looks := true }, kinds := [], alts := [], laidByText := true, laidKinds := [.sentinel, .sentinel], laidTests := true, laidLooks := .later }
def FrameKindsCardSaid : Prop := Claim7.holds Tryd.pinned (.plain (OpenSpec.ofChange frameKindsSpec)) frameKindsCard

/-- THE TIED CARD OF 'paliolaw03.FrameHigh'. -/
def frameHighCard : Claim7 := { stood := { row := frameHighRow, standIns := [], harness := (true, "b23feaa1e6710915f511b17fef4feda9a6d0ea2bba6660dde4acbc3614e1d030"), looks := true }, kinds := [], alts := [], laidByText := true, laidKinds := [.sentinel, .sentinel], laidTests := true, laidLooks := .later }
def FrameHighCardSaid : Prop := Claim7.holds Tryd.pinned (.plain (OpenSpec.ofChange frameHighSpec)) frameHighCard

/-- THE TIED CARD OF 'paliolaw03.FrameLists'. -/
def frameListsCard : Claim7 := { stood := { row := frameListsRow, standIns := [], harness := (true, "b23feaa1e6710915f511b17fef4feda9a6d0ea2bba6660dde4acbc3614e1d030"), looks := true }, kinds := [], alts := [], laidByText := true, laidKinds := [.sentinel, .sentinel], laidTests := true, laidLooks := .later }
def FrameListsCardSaid : Prop := Claim7.holds Tryd.pinned (.plain (OpenSpec.ofChange frameListsSpec)) frameListsCard

/-- THE SECOND FORM's CARD OF 'paliolaw03.FrameBack'. -/
def frameBackUptoCard : Claim7 := { stood := { row := frameBackUptoRow, standIns := [], harness := (true, "b23feaa1e6710915f511b17fef4feda9a6d0ea2bba6660dde4acbc3614e1d030"), looks := true }, kinds := [], alts := [], laidByText := true, laidKinds := [.sentinel, .sentinel], laidTests := true, laidLooks := .later }
def FrameBackUptoCardSaid : Prop := Claim7.holds Tryd.pinned (.plain (OpenSpec.upto frameBackSpec)) frameBackUptoCard

/-- THE SECOND FORM's CARD OF 'paliolaw03.FrameMore'. -/
def frameMoreUptoCard : Claim7 := { stood := { row := frameMoreUptoRow, standIns := [], harness := (true, "b23feaa1e6710915f511b17fef4feda9a6d0ea2bba6660dde4acbc3614e1d030"), looks := true }, kinds := [], alts := [], laidByText := true, laidKinds := [.sentinel, .sentinel], laidTests := true, laidLooks := .later }
def FrameMoreUptoCardSaid : Prop := Claim7.holds Tryd.pinned (.plain (OpenSpec.upto frameMoreSpec)) frameMoreUptoCard

/-- THE SECOND FORM's CARD OF 'paliolaw03.FrameKinds'. -/
def frameKindsUptoCard : Claim7 := { stood := { row := frameKindsUptoRow, standIns := [], harness := (true, "b23feaa1e6710915f511b17fef4feda9a6d0ea2bba6660dde4acbc3614e1d030"), looks := true }, kinds := [], alts := [], laidByText := true, laidKinds := [.sentinel, .sentinel], laidTests := true, laidLooks := .later }
def FrameKindsUptoCardSaid : Prop := Claim7.holds Tryd.pinned (.plain (OpenSpec.upto frameKindsSpec)) frameKindsUptoCard

/-- THE SECOND FORM's CARD OF 'paliolaw03.FrameHigh'. -/
def frameHighUptoCard : Claim7 := { stood := { row := frameHighUptoRow, standIns := [], harness := (true, "b23feaa1e6710915f511b17fef4feda9a6d0ea2bba6660dde4acbc3614e1d030"), looks := true }, kinds := [], alts := [], laidByText := true, laidKinds := [.sentinel, .sentinel], laidTests := true, laidLooks := .later }
def FrameHighUptoCardSaid : Prop := Claim7.holds Tryd.pinned (.plain (OpenSpec.upto frameHighSpec)) frameHighUptoCard

/-- THE SECOND FORM's CARD OF 'paliolaw03.FrameLists'. -/
def frameListsUptoCard : Claim7 := { stood := { row := frameListsUptoRow, standIns := [], harness := (true, "b23feaa1e6710915f511b17fef4feda9a6d0ea2bba6660dde4acbc3614e1d030"), looks := true }, kinds := [], alts := [], laidByText := true, laidKinds := [.sentinel, .sentinel], laidTests := true, laidLooks := .later }
def FrameListsUptoCardSaid : Prop := Claim7.holds Tryd.pinned (.plain (OpenSpec.upto frameListsSpec)) frameListsUptoCard
end Rows
end Go.Proofs.YtjcgfbmkgfhnaaaDoor
