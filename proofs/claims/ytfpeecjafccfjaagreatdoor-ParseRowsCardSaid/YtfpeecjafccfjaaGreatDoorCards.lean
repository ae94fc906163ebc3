/-
  DERIVED. GIVEN WITH THE SEED: THE CARDS: each row of YtfpeecjafccfjaaGreatDoorRows.lean that lists a variable, with what it lists TIED to the program's text (the seventh form; the later family's looks); each row that meets fmt, with fmt's text TOLD by the authors' own Lean function (tested against real Go, not proved from fmt's source: count such statements apart). THE CARD IS WHAT COUNTS. Prove the row's statement (the work); the ties are given (YtfpeecjafccfjaaGreatDoorTie.lean); close each card by the builder's one call (the guide's Derived/Test/ToyasCard.lean, 'card_holds'). Laid BY PROGRAM, IN A SANDBOX (cutbox-door.mjs). By AI agents, Wed Nov 11 2026. No macro, syntax, notation, axiom, sorry.
-/
import Derived.Test.YtfpeecjafccfjaaGreatDoorRows
import GoSem.ClaimSeven
namespace Go.Proofs.YtfpeecjafccfjaaGreatDoor
namespace Rows

/-- THE TIED CARD OF 'selkielaw07.ParseRight'. -/
def parseRightCard : Claim7 := { stood := { row := parseRightRow, standIns := [], harness := (true, "1a921aef829fab549124b169be9ff79520c43ac91632549db1cdcf7178d335fe"), looks := true }, kinds := [], alts := [], laidByText := true, laidKinds := [.data, .data, .data, .data, .handle, .pinned], laidTests := true, laidLooks := .later }
def ParseRightCardSaid : Prop := Claim7.holds Tryz.pinned (.plain (OpenSpec.ofChange parseRightSpec)) parseRightCard

/-- THE TIED CARD OF 'selkielaw07.ParseBrackets'. -/
def parseBracketsCard : Claim7 := { stood := { row := parseBracketsRow, standIns := [], harness := (true, "1a921aef829fab549124b169be9ff79520c43ac91632549db1cdcf7178d335fe"), looks := true }, kinds := [], alts := [], laidByText := true, laidKinds := [.data, .data, .data, .data, .handle, .pinned], laidTests := true, laidLooks := .later }
def ParseBracketsCardSaid : Prop := Claim7.holds Tryz.pinned (.plain (OpenSpec.ofChange parseBracketsSpec)) parseBracketsCard

/-- THE TIED CARD OF 'selkielaw07.ParseStrengths'. -/
def parseStrengthsCard : Claim7 := { stood := { row := parseStrengthsRow, standIns := [], harness := (true, "1a921aef829fab549124b169be9ff79520c43ac91632549db1cdcf7178d335fe"), looks := true }, kinds := [], alts := [], laidByText := true, laidKinds := [.data, .data, .data, .data, .handle, .pinned], laidTests := true, laidLooks := .later }
def ParseStrengthsCardSaid : Prop := Claim7.holds Tryz.pinned (.plain (OpenSpec.ofChange parseStrengthsSpec)) parseStrengthsCard

/-- THE TIED CARD OF 'selkielaw07.ParseSugar'. -/
def parseSugarCard : Claim7 := { stood := { row := parseSugarRow, standIns := [], harness := (true, "1a921aef829fab549124b169be9ff79520c43ac91632549db1cdcf7178d335fe"), looks := true }, kinds := [], alts := [], laidByText := true, laidKinds := [.data, .data, .data, .data, .handle, .pinned], laidTests := true, laidLooks := .later }
def ParseSugarCardSaid : Prop := Claim7.holds Tryz.pinned (.plain (OpenSpec.ofChange parseSugarSpec)) parseSugarCard

/-- THE TIED CARD OF 'selkielaw07.ParseRows'. -/
def parseRowsCard : Claim7 := { stood := { row := parseRowsRow, standIns := [], harness := (true, "1a921aef829fab549124b169be9ff79520c43ac91632549db1cdcf7178d335fe"), looks := true }, kinds := [], alts := [], laidByText := true, laidKinds := [.data, .data, .data, .data, .handle, .pinned], laidTests := true, laidLooks := .later }
def ParseRowsCardSaid : Prop := Claim7.holds Tryz.pinned (.plain (OpenSpec.ofChange parseRowsSpec)) parseRowsCard

/-- THE SECOND FORM's CARD OF 'selkielaw07.ParseRight'. -/
def parseRightUptoCard : Claim7 := { stood := { row := parseRightUptoRow, standIns := [], harness := (true, "1a921aef829fab549124b169be9ff79520c43ac91632549db1cdcf7178d335fe"), looks := true }, kinds := [], alts := [], laidByText := true, laidKinds := [.data, .data, .data, .data, .handle, .pinned], laidTests := true, laidLooks := .later }
def ParseRightUptoCardSaid : Prop := Claim7.holds Tryz.pinned (.plain (OpenSpec.upto parseRightSpec)) parseRightUptoCard

/-- THE SECOND FORM's CARD OF 'selkielaw07.ParseBrackets'. -/
def parseBracketsUptoCard : Claim7 := { stood := { row := parseBracketsUptoRow, standIns := [], harness := (true, "1a921aef829fab549124b169be9ff79520c43ac91632549db1cdcf7178d335fe"), looks := true }, kinds := [], alts := [], laidByText := true, laidKinds := [.data, .data, .data, .data, .handle, .pinned], laidTests := true, laidLooks := .later }
def ParseBracketsUptoCardSaid : Prop := Claim7.holds Tryz.pinned (.plain (OpenSpec.upto parseBracketsSpec)) parseBracketsUptoCard

/-- THE SECOND FORM's CARD OF 'selkielaw07.ParseStrengths'. -/
def parseStrengthsUptoCard : Claim7 := { stood := { row := parseStrengthsUptoRow, standIns := [], harness := (true, "1a921aef829fab549124b169be9ff79520c43ac91632549db1cdcf7178d335fe"), looks := true }, kinds := [], alts := [], laidByText := true, laidKinds := [.data, .data, .data, .data, .handle, .pinned], laidTests := true, laidLooks := .later }
def ParseStrengthsUptoCardSaid : Prop := Claim7.holds Tryz.pinned (.plain (OpenSpec.upto parseStrengthsSpec)) parseStrengthsUptoCard

/-- THE SECOND FORM's CARD OF 'selkielaw07.ParseSugar'. -/
def parseSugarUptoCard : Claim7 := { stood := { row := parseSugarUptoRow, standIns := [], harness := (true, "1a921aef829fab549124b169be9ff79520c43ac91632549db1cdcf7178d335fe"), looks := true }, kinds := [], alts := [], laidByText := true, laidKinds := [.data, .data, .data, .data, .handle, .pinned], laidTests := true, laidLooks := .later }
def ParseSugarUptoCardSaid : Prop := Claim7.holds Tryz.pinned (.plain (OpenSpec.upto parseSugarSpec)) parseSugarUptoCard

/-- THE SECOND FORM's CARD OF 'selkielaw07.ParseRows'. -/
def parseRowsUptoCard : Claim7 := { stood := { row := parseRowsUptoRow, standIns := [], harness := (true, "1a921aef829fab549124b169be9ff79520c43ac91632549db1cdcf7178d335fe"), looks := true }, kinds := [], alts := [], laidByText := true, laidKinds := [.data, .data, .data, .data, .handle, .pinned], laidTests := true, laidLooks := .later }
def ParseRowsUptoCardSaid : Prop := Claim7.holds Tryz.pinned (.plain (OpenSpec.upto parseRowsSpec)) parseRowsUptoCard
end Rows
end Go.Proofs.YtfpeecjafccfjaaGreatDoor
