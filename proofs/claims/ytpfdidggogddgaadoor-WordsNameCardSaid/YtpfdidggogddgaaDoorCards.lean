/-
  DERIVED. GIVEN WITH THE SEED: THE CARDS: each row of YtpfdidggogddgaaDoorRows.lean that lists a variable, with what it lists TIED to the program's text (the seventh form; the later family's looks); each row that meets fmt, with fmt's text TOLD by the authors' own Lean function (tested against real Go, not proved from fmt's source: count such statements apart). THE CARD IS WHAT COUNTS. Prove the row's statement (the work); the ties are given (YtpfdidggogddgaaDoorTie.lean); close each card by the builder's one call (the guide's Derived/Test/ToyasCard.lean, 'card_holds'). Laid BY PROGRAM, IN A SANDBOX (cutbox-door.mjs). By AI agents, Wed Nov 11 2026. No macro, syntax, notation, axiom, sorry.
-/
import Derived.Test.YtpfdidggogddgaaDoorRows
import GoSem.ClaimSeven
namespace Go.Proofs.YtpfdidggogddgaaDoor
namespace Rows

/-- THE TIED CARD OF 'selkielaw10.WordsValues'. -/
def wordsValuesCard : Claim7 := { stood := { row := wordsValuesRow, standIns := [], harness := (true, "701dcbd34efd593bb6cd4d1333e6c2ea190c33004d79251f119bf20b7c850ace"), looks := false }, kinds := [], alts := [], laidByText := true, laidKinds := [.data, .data, .data, .data, .pinned], laidTests := true, laidLooks := .later }
def WordsValuesCardSaid : Prop := Claim7.holds Tryd.pinned (.plain (OpenSpec.ofChange wordsValuesSpec)) wordsValuesCard

/-- THE TIED CARD OF 'selkielaw10.WordsThings'. -/
def wordsThingsCard : Claim7 := { stood := { row := wordsThingsRow, standIns := [], harness := (true, "701dcbd34efd593bb6cd4d1333e6c2ea190c33004d79251f119bf20b7c850ace"), looks := false }, kinds := [], alts := [], laidByText := true, laidKinds := [.data, .data, .data, .data, .pinned], laidTests := true, laidLooks := .later }
def WordsThingsCardSaid : Prop := Claim7.holds Tryd.pinned (.plain (OpenSpec.ofChange wordsThingsSpec)) wordsThingsCard

/-- THE TIED CARD OF 'selkielaw10.WordsName'. -/
def wordsNameCard : Claim7 := { stood := { row := wordsNameRow, standIns := [], harness := (true, "701dcbd34efd593bb6cd4d1333e6c2ea190c33004d79251f119bf20b7c850ace"), looks := false }, kinds := [], alts := [], laidByText := true, laidKinds := [.data, .data, .data, .data, .pinned], laidTests := true, laidLooks := .later }
def WordsNameCardSaid : Prop := Claim7.holds Tryd.pinned (.plain (OpenSpec.ofChange wordsNameSpec)) wordsNameCard

/-- THE SECOND FORM's CARD OF 'selkielaw10.WordsValues'. -/
def wordsValuesUptoCard : Claim7 := { stood := { row := wordsValuesUptoRow, standIns := [], harness := (true, "701dcbd34efd593bb6cd4d1333e6c2ea190c33004d79251f119bf20b7c850ace"), looks := false }, kinds := [], alts := [], laidByText := true, laidKinds := [.data, .data, .data, .data, .pinned], laidTests := true, laidLooks := .later }
def WordsValuesUptoCardSaid : Prop := Claim7.holds Tryd.pinned (.plain (OpenSpec.upto wordsValuesSpec)) wordsValuesUptoCard

/-- THE SECOND FORM's CARD OF 'selkielaw10.WordsThings'. -/
def wordsThingsUptoCard : Claim7 := { stood := { row := wordsThingsUptoRow, standIns := [], harness := (true, "701dcbd34efd593bb6cd4d1333e6c2ea190c33004d79251f119bf20b7c850ace"), looks := false }, kinds := [], alts := [], laidByText := true, laidKinds := [.data, .data, .data, .data, .pinned], laidTests := true, laidLooks := .later }
def WordsThingsUptoCardSaid : Prop := Claim7.holds Tryd.pinned (.plain (OpenSpec.upto wordsThingsSpec)) wordsThingsUptoCard

/-- THE SECOND FORM's CARD OF 'selkielaw10.WordsName'. -/
def wordsNameUptoCard : Claim7 := { stood := { row := wordsNameUptoRow, standIns := [], harness := (true, "701dcbd34efd593bb6cd4d1333e6c2ea190c33004d79251f119bf20b7c850ace"), looks := false }, kinds := [], alts := [], laidByText := true, laidKinds := [.data, .data, .data, .data, .pinned], laidTests := true, laidLooks := .later }
def WordsNameUptoCardSaid : Prop := Claim7.holds Tryd.pinned (.plain (OpenSpec.upto wordsNameSpec)) wordsNameUptoCard
end Rows
end Go.Proofs.YtpfdidggogddgaaDoor
