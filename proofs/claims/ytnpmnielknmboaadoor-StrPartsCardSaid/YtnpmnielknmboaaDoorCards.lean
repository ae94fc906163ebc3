/-
  DERIVED. GIVEN WITH THE SEED: THE CARDS: each row of YtnpmnielknmboaaDoorRows.lean that lists a variable, with what it lists TIED to the program's text (the seventh form; the later family's looks); each row that meets fmt, with fmt's text TOLD by the authors' own Lean function (tested against real Go, not proved from fmt's source: count such statements apart). THE CARD IS WHAT COUNTS. Prove the row's statement (the work); the ties are given (YtnpmnielknmboaaDoorTie.lean); close each card by the builder's one call (the guide's Derived/Test/ToyasCard.lean, 'card_holds'). Laid BY PROGRAM, IN A SANDBOX (cutbox-door.mjs). By AI agents, Wed Nov 11 2026. No macro, syntax, notation, axiom, sorry.
-/
import Derived.Test.YtnpmnielknmboaaDoorRows
import GoSem.ClaimSeven
namespace Go.Proofs.YtnpmnielknmboaaDoor
namespace Rows

/-- THE TIED CARD OF 'selkielaw04.StrCopies'. -/
def strCopiesCard : Claim7 := { stood := { row := strCopiesRow, standIns := [], harness := (true, "6224c42d4f5f85e4260ace9d109beec3b38b8c52808eb3bdd2bb996132e1c0d1"), looks := false }, kinds := [], alts := [], laidByText := true, laidKinds := [.data, .data, .data, .data, .pinned], laidTests := true, laidLooks := .later }
def StrCopiesCardSaid : Prop := Claim7.holds Tryd.pinned (.plain (OpenSpec.ofChange strCopiesSpec)) strCopiesCard

/-- THE TIED CARD OF 'selkielaw04.StrFinds'. -/
def strFindsCard : Claim7 := { stood := { row := strFindsRow, standIns := [], harness := (true, "6224c42d4f5f85e4260ace9d109beec3b38b8c52808eb3bdd2bb996132e1c0d1"), looks := false }, kinds := [], alts := [], laidByText := true, laidKinds := [.data, .data, .data, .data, .pinned], laidTests := true, laidLooks := .later }
def StrFindsCardSaid : Prop := Claim7.holds Tryd.pinned (.plain (OpenSpec.ofChange strFindsSpec)) strFindsCard

/-- THE TIED CARD OF 'selkielaw04.StrBack'. -/
def strBackCard : Claim7 := { stood := { row := strBackRow, standIns := [], harness := (true, "6224c42d4f5f85e4260ace9d109beec3b38b8c52808eb3bdd2bb996132e1c0d1"), looks := false }, kinds := [], alts := [], laidByText := true, laidKinds := [.data, .data, .data, .data, .pinned], laidTests := true, laidLooks := .later }
def StrBackCardSaid : Prop := Claim7.holds Tryd.pinned (.plain (OpenSpec.ofChange strBackSpec)) strBackCard

/-- THE TIED CARD OF 'selkielaw04.StrParts'. -/
def strPartsCard : Claim7 := { stood := { row := strPartsRow, standIns := [], harness := (true, "6224c42d4f5f85e4260ace9d109beec3b38b8c52808eb3bdd2bb996132e1c0d1"), looks := false }, kinds := [], alts := [], laidByText := true, laidKinds := [.data, .data, .data, .data, .pinned], laidTests := true, laidLooks := .later }
def StrPartsCardSaid : Prop := Claim7.holds Tryd.pinned (.plain (OpenSpec.ofChange strPartsSpec)) strPartsCard

/-- THE SECOND FORM's CARD OF 'selkielaw04.StrCopies'. -/
def strCopiesUptoCard : Claim7 := { stood := { row := strCopiesUptoRow, standIns := [], harness := (true, "6224c42d4f5f85e4260ace9d109beec3b38b8c52808eb3bdd2bb996132e1c0d1"), looks := false }, kinds := [], alts := [], laidByText := true, laidKinds := [.data, .data, .data, .data, .pinned], laidTests := true, laidLooks := .later }
def StrCopiesUptoCardSaid : Prop := Claim7.holds Tryd.pinned (.plain (OpenSpec.upto strCopiesSpec)) strCopiesUptoCard

/-- THE SECOND FORM's CARD OF 'selkielaw04.StrFinds'. -/
def strFindsUptoCard : Claim7 := { stood := { row := strFindsUptoRow, standIns := [], harness := (true, "6224c42d4f5f85e4260ace9d109beec3b38b8c52808eb3bdd2bb996132e1c0d1"), looks := false }, kinds := [], alts := [], laidByText := true, laidKinds := [.data, .data, .data, .data, .pinned], laidTests := true, laidLooks := .later }
def StrFindsUptoCardSaid : Prop := Claim7.holds Tryd.pinned (.plain (OpenSpec.upto strFindsSpec)) strFindsUptoCard

/-- THE SECOND FORM's CARD OF 'selkielaw04.StrBack'. -/
def strBackUptoCard : Claim7 := { stood := { row := strBackUptoRow, standIns := [], harness := (true, "6224c42d4f5f85e4260ace9d109beec3b38b8c52808eb3bdd2bb996132e1c0d1"), looks := false }, kinds := [], alts := [], laidByText := true, laidKinds := [.data, .data, .data, .data, .pinned], laidTests := true, laidLooks := .later }
def StrBackUptoCardSaid : Prop := Claim7.holds Tryd.pinned (.plain (OpenSpec.upto strBackSpec)) strBackUptoCard

/-- THE SECOND FORM's CARD OF 'selkielaw04.StrParts'. -/
def strPartsUptoCard : Claim7 := { stood := { row := strPartsUptoRow, standIns := [], harness := (true, "6224c42d4f5f85e4260ace9d109beec3b38b8c52808eb3bdd2bb996132e1c0d1"), looks := false }, kinds := [], alts := [], laidByText := true, laidKinds := [.data, .data, .data, .data, .pinned], laidTests := true, laidLooks := .later }
def StrPartsUptoCardSaid : Prop := Claim7.holds Tryd.pinned (.plain (OpenSpec.upto strPartsSpec)) strPartsUptoCard
end Rows
end Go.Proofs.YtnpmnielknmboaaDoor
