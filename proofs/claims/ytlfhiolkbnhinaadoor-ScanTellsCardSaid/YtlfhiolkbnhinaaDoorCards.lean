/-
  DERIVED. GIVEN WITH THE SEED: THE CARDS: each row of YtlfhiolkbnhinaaDoorRows.lean that lists a variable, with what it lists TIED to the program's text (the seventh form; the later family's looks); each row that meets fmt, with fmt's text TOLD by the authors' own Lean function (tested against real Go, not proved from fmt's source: count such statements apart). THE CARD IS WHAT COUNTS. Prove the row's statement (the work); the ties are given (YtlfhiolkbnhinaaDoorTie.lean); close each card by the builder's one call (the guide's Derived/Test/ToyasCard.lean, 'card_holds'). Laid BY PROGRAM, IN A SANDBOX (cutbox-door.mjs). By AI agents, Wed Nov 11 2026. No macro, syntax, notation, axiom, sorry.
-/
import Derived.Test.YtlfhiolkbnhinaaDoorRows
import GoSem.ClaimSeven
namespace Go.Proofs.YtlfhiolkbnhinaaDoor
namespace Rows

/-- THE TIED CARD OF 'paliolaw08.ScanNext'. -/
def scanNextCard : Claim7 := { stood := { row := scanNextRow, standIns := [], harness := (true, "d6ec1db6e6a2b05f1cdbf79b9c6e754e019f0141b29f9022f14a866a0adb3443"), looks := false }, kinds := [], alts := [], laidByText := true, laidKinds := [.data, .data], laidTests := true, laidLooks := .later }
def ScanNextCardSaid : Prop := Claim7.holds Tryd.pinned (.plain (OpenSpec.ofChange scanNextSpec)) scanNextCard

/-- THE TIED CARD OF 'paliolaw08.ScanTells'. -/
def scanTellsCard : Claim7 := { stood := { row := scanTellsRow, standIns := [], harness := (true, "d6ec1db6e6a2b05f1cdbf79b9c6e754e019f0141b29f9022f14a866a0adb3443"), looks := false }, kinds := [], alts := [], laidByText := true, laidKinds := [.data, .data], laidTests := true, laidLooks := .later }
def ScanTellsCardSaid : Prop := Claim7.holds Tryd.pinned (.plain (OpenSpec.ofChange scanTellsSpec)) scanTellsCard

/-- THE TIED CARD OF 'paliolaw08.ScanRounds'. -/
def scanRoundsCard : Claim7 := { stood := { row := scanRoundsRow, standIns := [], harness := (true, "d6ec1db6e6a2b05f1cdbf79b9c6e754e019f0141b29f9022f14a866a0adb3443"), looks := false }, kinds := [], alts := [], laidByText := true, laidKinds := [.data, .data], laidTests := true, laidLooks := .later }
def ScanRoundsCardSaid : Prop := Claim7.holds Tryd.pinned (.plain (OpenSpec.ofChange scanRoundsSpec)) scanRoundsCard

/-- THE TIED CARD OF 'paliolaw08.ScanKeeps'. -/
def scanKeepsCard : Claim7 := { stood := { row := scanKeepsRow, standIns := [], harness := (true, "d6ec1db6e6a2b05f1cdbf79b9c6e754e019f0141b29f9022f14a866a0adb3443"), looks := false }, kinds := [], alts := [], laidByText := true, laidKinds := [.data, .data], laidTests := true, laidLooks := .later }
def ScanKeepsCardSaid : Prop := Claim7.holds Tryd.pinned (.plain (OpenSpec.ofChange scanKeepsSpec)) scanKeepsCard

/-- THE TIED CARD OF 'paliolaw08.ScanOnce'. -/
def scanOnceCard : Claim7 := { stood := { row := scanOnceRow, standIns := [], harness := (true, "d6ec1db6e6a2b05f1cdbf79b9c6e754e019f0141b29f9022f14a866a0adb3443"), looks := false }, kinds := [], alts := [], laidByText := true, laidKinds := [.data, .data], laidTests := true, laidLooks := .later }
def ScanOnceCardSaid : Prop := Claim7.holds Tryd.pinned (.plain (OpenSpec.ofChange scanOnceSpec)) scanOnceCard

/-- THE TIED CARD OF 'paliolaw08.ScanDigits'. -/
def scanDigitsCard : Claim7 := { stood := { row := scanDigitsRow, standIns := [], harness := (true, "d6ec1db6e6a2b05f1cdbf79b9c6e754e019f0141b29f9022f14a866a0adb3443"), looks := false }, kinds := [], alts := [], laidByText := true, laidKinds := [.data, .data], laidTests := true, laidLooks := .later }
def ScanDigitsCardSaid : Prop := Claim7.holds Tryd.pinned (.plain (OpenSpec.ofChange scanDigitsSpec)) scanDigitsCard

/-- THE TIED CARD OF 'paliolaw08.ScanMoves'. -/
def scanMovesCard : Claim7 := { stood := { row := scanMovesRow, standIns := [], harness := (true, "d6ec1db6e6a2b05f1cdbf79b9c6e754e019f0141b29f9022f14a866a0adb3443"), looks := false }, kinds := [], alts := [], laidByText := true, laidKinds := [.data, .data], laidTests := true, laidLooks := .later }
def ScanMovesCardSaid : Prop := Claim7.holds Tryd.pinned (.plain (OpenSpec.ofChange scanMovesSpec)) scanMovesCard

/-- THE SECOND FORM's CARD OF 'paliolaw08.ScanNext'. -/
def scanNextUptoCard : Claim7 := { stood := { row := scanNextUptoRow, standIns := [], harness := (true, "d6ec1db6e6a2b05f1cdbf79b9c6e754e019f0141b29f9022f14a866a0adb3443"), looks := false }, kinds := [], alts := [], laidByText := true, laidKinds := [.data, .data], laidTests := true, laidLooks := .later }
def ScanNextUptoCardSaid : Prop := Claim7.holds Tryd.pinned (.plain (OpenSpec.upto scanNextSpec)) scanNextUptoCard

/-- THE SECOND FORM's CARD OF 'paliolaw08.ScanTells'. -/
def scanTellsUptoCard : Claim7 := { stood := { row := scanTellsUptoRow, standIns := [], harness := (true, "d6ec1db6e6a2b05f1cdbf79b9c6e754e019f0141b29f9022f14a866a0adb3443"), looks := false }, kinds := [], alts := [], laidByText := true, laidKinds := [.data, .data], laidTests := true, laidLooks := .later }
def ScanTellsUptoCardSaid : Prop := Claim7.holds Tryd.pinned (.plain (OpenSpec.upto scanTellsSpec)) scanTellsUptoCard

/-- THE SECOND FORM's CARD OF 'paliolaw08.ScanRounds'. -/
def scanRoundsUptoCard : Claim7 := { stood := { row := scanRoundsUptoRow, standIns := [], harness := (true, "d6ec1db6e6a2b05f1cdbf79b9c6e754e019f0141b29f9022f14a866a0adb3443"), looks := false }, kinds := [], alts := [], laidByText := true, laidKinds := [.data, .data], laidTests := true, laidLooks := .later }
def ScanRoundsUptoCardSaid : Prop := Claim7.holds Tryd.pinned (.plain (OpenSpec.upto scanRoundsSpec)) scanRoundsUptoCard

/-- THE SECOND FORM's CARD OF 'paliolaw08.ScanKeeps'. -/
def scanKeepsUptoCard : Claim7 := { stood := { row := scanKeepsUptoRow, standIns := [], harness := (true, "d6ec1db6e6a2b05f1cdbf79b9c6e754e019f0141b29f9022f14a866a0adb3443"), looks := false }, kinds := [], alts := [], laidByText := true, laidKinds := [.data, .data], laidTests := true, laidLooks := .later }
def ScanKeepsUptoCardSaid : Prop := Claim7.holds Tryd.pinned (.plain (OpenSpec.upto scanKeepsSpec)) scanKeepsUptoCard

/-- THE SECOND FORM's CARD OF 'paliolaw08.ScanOnce'. -/
def scanOnceUptoCard : Claim7 := { stood := { row := scanOnceUptoRow, standIns := [], harness := (true, "d6ec1db6e6a2b05f1cdbf79b9c6e754e019f0141b29f9022f14a866a0adb3443"), looks := false }, kinds := [], alts := [], laidByText := true, laidKinds := [.data, .data], laidTests := true, laidLooks := .later }
def ScanOnceUptoCardSaid : Prop := Claim7.holds Tryd.pinned (.plain (OpenSpec.upto scanOnceSpec)) scanOnceUptoCard

/-- THE SECOND FORM's CARD OF 'paliolaw08.ScanDigits'. -/
def scanDigitsUptoCard : Claim7 := { stood := { row := scanDigitsUptoRow, standIns := [], harness := (true, "d6ec1db6e6a2b05f1cdbf79b9c6e754e019f0141b29f9022f14a866a0adb3443"), looks := false }, kinds := [], alts := [], laidByText := true, laidKinds := [.data, .data], laidTests := true, laidLooks := .later }
def ScanDigitsUptoCardSaid : Prop := Claim7.holds Tryd.pinned (.plain (OpenSpec.upto scanDigitsSpec)) scanDigitsUptoCard

/-- THE SECOND FORM's CARD OF 'paliolaw08.ScanMoves'. -/
def scanMovesUptoCard : Claim7 := { stood := { row := scanMovesUptoRow, standIns := [], harness := (true, "d6ec1db6e6a2b05f1cdbf79b9c6e754e019f0141b29f9022f14a866a0adb3443"), looks := false }, kinds := [], alts := [], laidByText := true, laidKinds := [.data, .data], laidTests := true, laidLooks := .later }
def ScanMovesUptoCardSaid : Prop := Claim7.holds Tryd.pinned (.plain (OpenSpec.upto scanMovesSpec)) scanMovesUptoCard
end Rows
end Go.Proofs.YtlfhiolkbnhinaaDoor
