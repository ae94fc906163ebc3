/-
  DERIVED. GIVEN WITH THE SEED: THE CARDS: each row of YtodmcdfeldkocaaGreatDoorRows.lean that lists a variable, with what it lists TIED to the program's text (the seventh form; the later family's looks); each row that meets fmt, with fmt's text TOLD by the authors' own Lean function (tested against real Go, not proved from fmt's source: count such statements apart). THE CARD IS WHAT COUNTS. Prove the row's statement (the work); the ties are given (YtodmcdfeldkocaaGreatDoorTie.lean); close each card by the builder's one call (the guide's Derived/Test/ToyasCard.lean, 'card_holds'). Laid BY PROGRAM, IN A SANDBOX (cutbox-door.mjs). By AI agents, Wed Nov 11 2026. No macro, syntax, notation, axiom, sorry.
-/
import Derived.Test.YtodmcdfeldkocaaGreatDoorRows
import GoSem.ClaimSeven
namespace Go.Proofs.YtodmcdfeldkocaaGreatDoor
namespace Rows

/-- THE TIED CARD OF 'selkielaw09.NeedLocals'. -/
def needLocalsCard : Claim7 := { stood := { row := needLocalsRow, standIns := [], harness := (true, "a38cd9d01a369379cf711719124da3073049721ca09d8e7eb141ad430218dbc9"), looks := true }, kinds := [], alts := [], laidByText := true, laidKinds := [.data, .handle, .pinned], laidTests := true, laidLooks := .later }
def NeedLocalsCardSaid : Prop := Claim7.holds Tryz.pinned (.plain (OpenSpec.ofChange needLocalsSpec)) needLocalsCard

/-- THE TIED CARD OF 'selkielaw09.NeedWraps'. -/
def needWrapsCard : Claim7 := { stood := { row := needWrapsRow, standIns := [], harness := (true, "a38cd9d01a369379cf711719124da3073049721ca09d8e7eb141ad430218dbc9"), looks := true }, kinds := [], alts := [], laidByText := true, laidKinds := [.data, .handle, .pinned], laidTests := true, laidLooks := .later }
def NeedWrapsCardSaid : Prop := Claim7.holds Tryz.pinned (.plain (OpenSpec.ofChange needWrapsSpec)) needWrapsCard

/-- THE TIED CARD OF 'selkielaw09.NeedNests'. -/
def needNestsCard : Claim7 := { stood := { row := needNestsRow, standIns := [], harness := (true, "a38cd9d01a369379cf711719124da3073049721ca09d8e7eb141ad430218dbc9"), looks := true }, kinds := [], alts := [], laidByText := true, laidKinds := [.data, .handle, .pinned], laidTests := true, laidLooks := .later }
def NeedNestsCardSaid : Prop := Claim7.holds Tryz.pinned (.plain (OpenSpec.ofChange needNestsSpec)) needNestsCard

/-- THE TIED CARD OF 'selkielaw09.NeedRows'. -/
def needRowsCard : Claim7 := { stood := { row := needRowsRow, standIns := [], harness := (true, "a38cd9d01a369379cf711719124da3073049721ca09d8e7eb141ad430218dbc9"), looks := true }, kinds := [], alts := [], laidByText := true, laidKinds := [.data, .handle, .pinned], laidTests := true, laidLooks := .later }
def NeedRowsCardSaid : Prop := Claim7.holds Tryz.pinned (.plain (OpenSpec.ofChange needRowsSpec)) needRowsCard

/-- THE SECOND FORM's CARD OF 'selkielaw09.NeedLocals'. -/
def needLocalsUptoCard : Claim7 := { stood := { row := needLocalsUptoRow, standIns := [], harness := (true, "a38cd9d01a369379cf711719124da3073049721ca09d8e7eb141ad430218dbc9"), looks := true }, kinds := [], alts := [], laidByText := true, laidKinds := [.data, .handle, .pinned], laidTests := true, laidLooks := .later }
def NeedLocalsUptoCardSaid : Prop := Claim7.holds Tryz.pinned (.plain (OpenSpec.upto needLocalsSpec)) needLocalsUptoCard

/-- THE SECOND FORM's CARD OF 'selkielaw09.NeedWraps'. -/
def needWrapsUptoCard : Claim7 := { stood := { row := needWrapsUptoRow, standIns := [], harness := (true, "a38cd9d01a369379cf711719124da3073049721ca09d8e7eb141ad430218dbc9"), looks := true }, kinds := [], alts := [], laidByText := true, laidKinds := [.data, .handle, .pinned], laidTests := true, laidLooks := .later }
def NeedWrapsUptoCardSaid : Prop := Claim7.holds Tryz.pinned (.plain (OpenSpec.upto needWrapsSpec)) needWrapsUptoCard

/-- THE SECOND FORM's CARD OF 'selkielaw09.NeedNests'. -/
def needNestsUptoCard : Claim7 := { stood := { row := needNestsUptoRow, standIns := [], harness := (true, "a38cd9d01a369379cf711719124da3073049721ca09d8e7eb141ad430218dbc9"), looks := true }, kinds := [], alts := [], laidByText := true, laidKinds := [.data, .handle, .pinned], laidTests := true, laidLooks := .later }
def NeedNestsUptoCardSaid : Prop := Claim7.holds Tryz.pinned (.plain (OpenSpec.upto needNestsSpec)) needNestsUptoCard

/-- THE SECOND FORM's CARD OF 'selkielaw09.NeedRows'. -/
def needRowsUptoCard : Claim7 := { stood := { row := needRowsUptoRow, standIns := [], harness := (true, "a38cd9d01a369379cf711719124da3073049721ca09d8e7eb141ad430218dbc9"), looks := true }, kinds := [], alts := [], laidByText := true, laidKinds := [.data, .handle, .pinned], laidTests := true, laidLooks := .later }
def NeedRowsUptoCardSaid : Prop := Claim7.holds Tryz.pinned (.plain (OpenSpec.upto needRowsSpec)) needRowsUptoCard
end Rows
end Go.Proofs.YtodmcdfeldkocaaGreatDoor
