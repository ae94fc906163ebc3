/-
  DERIVED. GIVEN WITH THE SEED: THE CARDS: each row of YtjlpklhibdkmeaaGreatDoorRows.lean that lists a variable, with what it lists TIED to the program's text (the seventh form; the later family's looks); each row that meets fmt, with fmt's text TOLD by the authors' own Lean function (tested against real Go, not proved from fmt's source: count such statements apart). THE CARD IS WHAT COUNTS. Prove the row's statement (the work); the ties are given (YtjlpklhibdkmeaaGreatDoorTie.lean); close each card by the builder's one call (the guide's Derived/Test/ToyasCard.lean, 'card_holds'). Laid BY PROGRAM, IN A SANDBOX (cutbox-door.mjs). By AI agents, Wed Nov 11 2026. No macro, syntax, notation, axiom, sorry.
-/
import Derived.Test.YtjlpklhibdkmeaaGreatDoorRows
import GoSem.ClaimSeven
namespace Go.Proofs.YtjlpklhibdkmeaaGreatDoor
namespace Rows

/-- THE TIED CARD OF 'selkielaw06.TreeMoves'. -/
def treeMovesCard : Claim7 := { stood := { row := treeMovesRow, standIns := [], harness := (true, "49cee466c7fc15e36409e2fa5b795c79b05a7fdcdfd6972b9820ebca5f0a6e6f"), looks := false }, kinds := [], alts := [], laidByText := true, laidKinds := [.data, .data, .data, .data, .pinned], laidTests := true, laidLooks := .later }
def TreeMovesCardSaid : Prop := Claim7.holds Tryz.pinned (.plain (OpenSpec.ofChange treeMovesSpec)) treeMovesCard

/-- THE TIED CARD OF 'selkielaw06.TreeGrows'. -/
def treeGrowsCard : Claim7 := { stood := { row := treeGrowsRow, standIns := [], harness := (true, "49cee466c7fc15e36409e2fa5b795c79b05a7fdcdfd6972b9820ebca5f0a6e6f"), looks := false }, kinds := [], alts := [], laidByText := true, laidKinds := [.data, .data, .data, .data, .pinned], laidTests := true, laidLooks := .later }
def TreeGrowsCardSaid : Prop := Claim7.holds Tryz.pinned (.plain (OpenSpec.ofChange treeGrowsSpec)) treeGrowsCard

/-- THE TIED CARD OF 'selkielaw06.TreeBroken'. -/
def treeBrokenCard : Claim7 := { stood := { row := treeBrokenRow, standIns := [], harness := (true, "49cee466c7fc15e36409e2fa5b795c79b05a7fdcdfd6972b9820ebca5f0a6e6f"), looks := false }, kinds := [], alts := [], laidByText := true, laidKinds := [.data, .data, .data, .data, .pinned], laidTests := true, laidLooks := .later }
def TreeBrokenCardSaid : Prop := Claim7.holds Tryz.pinned (.plain (OpenSpec.ofChange treeBrokenSpec)) treeBrokenCard

/-- THE SECOND FORM's CARD OF 'selkielaw06.TreeMoves'. -/
def treeMovesUptoCard : Claim7 := { stood := { row := treeMovesUptoRow, standIns := [], harness := (true, "49cee466c7fc15e36409e2fa5b795c79b05a7fdcdfd6972b9820ebca5f0a6e6f"), looks := false }, kinds := [], alts := [], laidByText := true, laidKinds := [.data, .data, .data, .data, .pinned], laidTests := true, laidLooks := .later }
def TreeMovesUptoCardSaid : Prop := Claim7.holds Tryz.pinned (.plain (OpenSpec.upto treeMovesSpec)) treeMovesUptoCard

/-- THE SECOND FORM's CARD OF 'selkielaw06.TreeGrows'. -/
def treeGrowsUptoCard : Claim7 := { stood := { row := treeGrowsUptoRow, standIns := [], harness := (true, "49cee466c7fc15e36409e2fa5b795c79b05a7fdcdfd6972b9820ebca5f0a6e6f"), looks := false }, kinds := [], alts := [], laidByText := true, laidKinds := [.data, .data, .data, .data, .pinned], laidTests := true, laidLooks := .later }
def TreeGrowsUptoCardSaid : Prop := Claim7.holds Tryz.pinned (.plain (OpenSpec.upto treeGrowsSpec)) treeGrowsUptoCard

/-- THE SECOND FORM's CARD OF 'selkielaw06.TreeBroken'. -/
def treeBrokenUptoCard : Claim7 := { stood := { row := treeBrokenUptoRow, standIns := [], harness := (true, "49cee466c7fc15e36409e2fa5b795c79b05a7fdcdfd6972b9820ebca5f0a6e6f"), looks := false }, kinds := [], alts := [], laidByText := true, laidKinds := [.data, .data, .data, .data, .pinned], laidTests := true, laidLooks := .later }
def TreeBrokenUptoCardSaid : Prop := Claim7.holds Tryz.pinned (.plain (OpenSpec.upto treeBrokenSpec)) treeBrokenUptoCard
end Rows
end Go.Proofs.YtjlpklhibdkmeaaGreatDoor
