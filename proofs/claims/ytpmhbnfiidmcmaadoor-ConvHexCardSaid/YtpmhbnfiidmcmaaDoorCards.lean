/-
  DERIVED. GIVEN WITH THE SEED: THE CARDS: each row of YtpmhbnfiidmcmaaDoorRows.lean that lists a variable, with what it lists TIED to the program's text (the seventh form; the later family's looks); each row that meets fmt, with fmt's text TOLD by the authors' own Lean function (tested against real Go, not proved from fmt's source: count such statements apart). THE CARD IS WHAT COUNTS. Prove the row's statement (the work); the ties are given (YtpmhbnfiidmcmaaDoorTie.lean); close each card by the builder's one call (the guide's Derived/Test/ToyasCard.lean, 'card_holds'). Laid BY PROGRAM, IN A SANDBOX (cutbox-door.mjs). By AI agents, Wed Nov 11 2026. No macro, syntax, notation, axiom, sorry.
-/
import Derived.Test.YtpmhbnfiidmcmaaDoorRows
import GoSem.ClaimSeven
namespace Go.Proofs.YtpmhbnfiidmcmaaDoor
namespace Rows

/-- THE TIED CARD OF 'selkielaw03.ConvReads'. -/
def convReadsCard : Claim7 := { stood := { row := convReadsRow, standIns := [], harness := (true, "a6379a500c71e30e05e42c3de8bb6076891b277e548224a4f1ab4433c9dd1655"), looks := false }, kinds := [], alts := [], laidByText := true, laidKinds := [.data, .data, .data, .data, .pinned], laidTests := true, laidLooks := .later }
def ConvReadsCardSaid : Prop := Claim7.holds Tryd.pinned (.plain (OpenSpec.ofChange convReadsSpec)) convReadsCard

/-- THE TIED CARD OF 'selkielaw03.ConvValues'. -/
def convValuesCard : Claim7 := { stood := { row := convValuesRow, standIns := [], harness := (true, "a6379a500c71e30e05e42c3de8bb6076891b277e548224a4f1ab4433c9dd1655"), looks := false }, kinds := [], alts := [], laidByText := true, laidKinds := [.data, .data, .data, .data, .pinned], laidTests := true, laidLooks := .later }
def ConvValuesCardSaid : Prop := Claim7.holds Tryd.pinned (.plain (OpenSpec.ofChange convValuesSpec)) convValuesCard

/-- THE TIED CARD OF 'selkielaw03.ConvBack'. -/
def convBackCard : Claim7 := { stood := { row := convBackRow, standIns := [], harness := (true, "a6379a500c71e30e05e42c3de8bb6076891b277e548224a4f1ab4433c9dd1655"), looks := false }, kinds := [], alts := [], laidByText := true, laidKinds := [.data, .data, .data, .data, .pinned], laidTests := true, laidLooks := .later }
def ConvBackCardSaid : Prop := Claim7.holds Tryd.pinned (.plain (OpenSpec.ofChange convBackSpec)) convBackCard

/-- THE TIED CARD OF 'selkielaw03.ConvHex'. -/
def convHexCard : Claim7 := { stood := { row := convHexRow, standIns := [], harness := (true, "a6379a500c71e30e05e42c3de8bb6076891b277e548224a4f1ab4433c9dd1655"), looks := false }, kinds := [], alts := [], laidByText := true, laidKinds := [.data, .data, .data, .data, .pinned], laidTests := true, laidLooks := .later }
def ConvHexCardSaid : Prop := Claim7.holds Tryd.pinned (.plain (OpenSpec.ofChange convHexSpec)) convHexCard

/-- THE TIED CARD OF 'selkielaw03.ConvBases'. -/
def convBasesCard : Claim7 := { stood := { row := convBasesRow, standIns := [], harness := (true, "a6379a500c71e30e05e42c3de8bb6076891b277e548224a4f1ab4433c9dd1655"), looks := false }, kinds := [], alts := [], laidByText := true, laidKinds := [.data, .data, .data, .data, .pinned], laidTests := true, laidLooks := .later }
def ConvBasesCardSaid : Prop := Claim7.holds Tryd.pinned (.plain (OpenSpec.ofChange convBasesSpec)) convBasesCard

/-- THE SECOND FORM's CARD OF 'selkielaw03.ConvReads'. -/
def convReadsUptoCard : Claim7 := { stood := { row := convReadsUptoRow, standIns := [], harness := (true, "a6379a500c71e30e05e42c3de8bb6076891b277e548224a4f1ab4433c9dd1655"), looks := false }, kinds := [], alts := [], laidByText := true, laidKinds := [.data, .data, .data, .data, .pinned], laidTests := true, laidLooks := .later }
def ConvReadsUptoCardSaid : Prop := Claim7.holds Tryd.pinned (.plain (OpenSpec.upto convReadsSpec)) convReadsUptoCard

/-- THE SECOND FORM's CARD OF 'selkielaw03.ConvValues'. -/
def convValuesUptoCard : Claim7 := { stood := { row := convValuesUptoRow, standIns := [], harness := (true, "a6379a500c71e30e05e42c3de8bb6076891b277e548224a4f1ab4433c9dd1655"), looks := false }, kinds := [], alts := [], laidByText := true, laidKinds := [.data, .data, .data, .data, .pinned], laidTests := true, laidLooks := .later }
def ConvValuesUptoCardSaid : Prop := Claim7.holds Tryd.pinned (.plain (OpenSpec.upto convValuesSpec)) convValuesUptoCard

/-- THE SECOND FORM's CARD OF 'selkielaw03.ConvBack'. -/
def convBackUptoCard : Claim7 := { stood := { row := convBackUptoRow, standIns := [], harness := (true, "a6379a500c71e30e05e42c3de8bb6076891b277e548224a4f1ab4433c9dd1655"), looks := false }, kinds := [], alts := [], laidByText := true, laidKinds := [.data, .data, .data, .data, .pinned], laidTests := true, laidLooks := .later }
def ConvBackUptoCardSaid : Prop := Claim7.holds Tryd.pinned (.plain (OpenSpec.upto convBackSpec)) convBackUptoCard

/-- THE SECOND FORM's CARD OF 'selkielaw03.ConvHex'. -/
def convHexUptoCard : Claim7 := { stood := { row := convHexUptoRow, standIns := [], harness := (true, "a6379a500c71e30e05e42c3de8bb6076891b277e548224a4f1ab4433c9dd1655"), looks := false }, kinds := [], alts := [], laidByText := true, laidKinds := [.data, .data, .data, .data, .pinned], laidTests := true, laidLooks := .later }
def ConvHexUptoCardSaid : Prop := Claim7.holds Tryd.pinned (.plain (OpenSpec.upto convHexSpec)) convHexUptoCard

/-- THE SECOND FORM's CARD OF 'selkielaw03.ConvBases'. -/
def convBasesUptoCard : Claim7 := { stood := { row := convBasesUptoRow, standIns := [], harness := (true, "a6379a500c71e30e05e42c3de8bb6076891b277e548224a4f1ab4433c9dd1655"), looks := false }, kinds := [], alts := [], laidByText := true, laidKinds := [.data, .data, .data, .data, .pinned], laidTests := true, laidLooks := .later }
def ConvBasesUptoCardSaid : Prop := Claim7.holds Tryd.pinned (.plain (OpenSpec.upto convBasesSpec)) convBasesUptoCard
end Rows
end Go.Proofs.YtpmhbnfiidmcmaaDoor
