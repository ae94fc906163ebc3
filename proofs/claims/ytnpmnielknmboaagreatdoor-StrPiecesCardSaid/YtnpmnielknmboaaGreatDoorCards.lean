/-
  DERIVED. GIVEN WITH THE SEED: THE CARDS: each row of YtnpmnielknmboaaGreatDoorRows.lean that lists a variable, with what it lists TIED to the program's text (the seventh form; the later family's looks); each row that meets fmt, with fmt's text TOLD by the authors' own Lean function (tested against real Go, not proved from fmt's source: count such statements apart). THE CARD IS WHAT COUNTS. Prove the row's statement (the work); the ties are given (YtnpmnielknmboaaGreatDoorTie.lean); close each card by the builder's one call (the guide's Derived/Test/ToyasCard.lean, 'card_holds'). Laid BY PROGRAM, IN A SANDBOX (cutbox-door.mjs). By AI agents, Wed Nov 11 2026. No macro, syntax, notation, axiom, sorry.
-/
import Derived.Test.YtnpmnielknmboaaGreatDoorRows
import GoSem.ClaimSeven
namespace Go.Proofs.YtnpmnielknmboaaGreatDoor
namespace Rows

/-- THE TIED CARD OF 'selkielaw04.StrPieces'. -/
def strPiecesCard : Claim7 := { stood := { row := strPiecesRow, standIns := [], harness := (true, "4846946ab903e22573146a1fb79bb61766a0ce9d02e567ea22646a2cb86cbd49"), looks := false }, kinds := [], alts := [], laidByText := true, laidKinds := [.data, .data, .data, .data, .pinned], laidTests := true, laidLooks := .later }
def StrPiecesCardSaid : Prop := Claim7.holds Tryz.pinned (.plain (OpenSpec.ofChange strPiecesSpec)) strPiecesCard

/-- THE SECOND FORM's CARD OF 'selkielaw04.StrPieces'. -/
def strPiecesUptoCard : Claim7 := { stood := { row := strPiecesUptoRow, standIns := [], harness := (true, "4846946ab903e22573146a1fb79bb61766a0ce9d02e567ea22646a2cb86cbd49"), looks := false }, kinds := [], alts := [], laidByText := true, laidKinds := [.data, .data, .data, .data, .pinned], laidTests := true, laidLooks := .later }
def StrPiecesUptoCardSaid : Prop := Claim7.holds Tryz.pinned (.plain (OpenSpec.upto strPiecesSpec)) strPiecesUptoCard
end Rows
end Go.Proofs.YtnpmnielknmboaaGreatDoor
