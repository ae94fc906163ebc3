/-
  DERIVED. GIVEN WITH THE SEED: THE CARDS: each row of YteflkdlaoiijbaaGreatDoorRows.lean that lists a variable, with what it lists TIED to the program's text (the seventh form; the later family's looks); each row that meets fmt, with fmt's text TOLD by the authors' own Lean function (tested against real Go, not proved from fmt's source: count such statements apart). THE CARD IS WHAT COUNTS. Prove the row's statement (the work); the ties are given (YteflkdlaoiijbaaGreatDoorTie.lean); close each card by the builder's one call (the guide's Derived/Test/ToyasCard.lean, 'card_holds'). Laid BY PROGRAM, IN A SANDBOX (cutbox-door.mjs). By AI agents, Wed Nov 11 2026. No macro, syntax, notation, axiom, sorry.
-/
import Derived.Test.YteflkdlaoiijbaaGreatDoorRows
import GoSem.ClaimSeven
namespace Go.Proofs.YteflkdlaoiijbaaGreatDoor
namespace Rows

/-- THE TIED CARD OF 'selkielaw08.ScopeSources'. -/
def scopeSourcesCard : Claim7 := { stood := { row := scopeSourcesRow, standIns := [], harness := (true, "83676b7ebf3e88acf564afd5bd34aea175f1a0c544818fb4eaa8c71941b638d1"), looks := true }, kinds := [], alts := [], laidByText := true, laidKinds := [.data, .handle, .pinned], laidTests := true, laidLooks := .later }
def ScopeSourcesCardSaid : Prop := Claim7.holds Tryz.pinned (.plain (OpenSpec.ofChange scopeSourcesSpec)) scopeSourcesCard

/-- THE TIED CARD OF 'selkielaw08.ScopeLeads'. -/
def scopeLeadsCard : Claim7 := { stood := { row := scopeLeadsRow, standIns := [], harness := (true, "83676b7ebf3e88acf564afd5bd34aea175f1a0c544818fb4eaa8c71941b638d1"), looks := true }, kinds := [], alts := [], laidByText := true, laidKinds := [.data, .handle, .pinned], laidTests := true, laidLooks := .later }
def ScopeLeadsCardSaid : Prop := Claim7.holds Tryz.pinned (.plain (OpenSpec.ofChange scopeLeadsSpec)) scopeLeadsCard

/-- THE TIED CARD OF 'selkielaw08.ScopeBlocks'. -/
def scopeBlocksCard : Claim7 := { stood := { row := scopeBlocksRow, standIns := [], harness := (true, "83676b7ebf3e88acf564afd5bd34aea175f1a0c544818fb4eaa8c71941b638d1"), looks := true }, kinds := [], alts := [], laidByText := true, laidKinds := [.data, .handle, .pinned], laidTests := true, laidLooks := .later }
def ScopeBlocksCardSaid : Prop := Claim7.holds Tryz.pinned (.plain (OpenSpec.ofChange scopeBlocksSpec)) scopeBlocksCard

/-- THE TIED CARD OF 'selkielaw08.ScopeLimits'. -/
def scopeLimitsCard : Claim7 := { stood := { row := scopeLimitsRow, standIns := [], harness := (true, "83676b7ebf3e88acf564afd5bd34aea175f1a0c544818fb4eaa8c71941b638d1"), looks := true }, kinds := [], alts := [], laidByText := true, laidKinds := [.data, .handle, .pinned], laidTests := true, laidLooks := .later }
def ScopeLimitsCardSaid : Prop := Claim7.holds Tryz.pinned (.plain (OpenSpec.ofChange scopeLimitsSpec)) scopeLimitsCard

/-- THE TIED CARD OF 'selkielaw08.ScopeNames'. -/
def scopeNamesCard : Claim7 := { stood := { row := scopeNamesRow, standIns := [], harness := (true, "83676b7ebf3e88acf564afd5bd34aea175f1a0c544818fb4eaa8c71941b638d1"), looks := true }, kinds := [], alts := [], laidByText := true, laidKinds := [.data, .handle, .pinned], laidTests := true, laidLooks := .later }
def ScopeNamesCardSaid : Prop := Claim7.holds Tryz.pinned (.plain (OpenSpec.ofChange scopeNamesSpec)) scopeNamesCard

/-- THE SECOND FORM's CARD OF 'selkielaw08.ScopeSources'. -/
def scopeSourcesUptoCard : Claim7 := { stood := { row := scopeSourcesUptoRow, standIns := [], harness := (true, "83676b7ebf3e88acf564afd5bd34aea175f1a0c544818fb4eaa8c71941b638d1"), looks := true }, kinds := [], alts := [], laidByText := true, laidKinds := [.data, .handle, .pinned], laidTests := true, laidLooks := .later }
def ScopeSourcesUptoCardSaid : Prop := Claim7.holds Tryz.pinned (.plain (OpenSpec.upto scopeSourcesSpec)) scopeSourcesUptoCard

/-- THE SECOND FORM's CARD OF 'selkielaw08.ScopeLeads'. -/
def scopeLeadsUptoCard : Claim7 := { stood := { row := scopeLeadsUptoRow, standIns := [], harness := (true, "83676b7ebf3e88acf564afd5bd34aea175f1a0c544818fb4eaa8c71941b638d1"), looks := true }, kinds := [], alts := [], laidByText := true, laidKinds := [.data, .handle, .pinned], laidTests := true, laidLooks := .later }
def ScopeLeadsUptoCardSaid : Prop := Claim7.holds Tryz.pinned (.plain (OpenSpec.upto scopeLeadsSpec)) scopeLeadsUptoCard

/-- THE SECOND FORM's CARD OF 'selkielaw08.ScopeBlocks'. -/
def scopeBlocksUptoCard : Claim7 := { stood := { row := scopeBlocksUptoRow, standIns := [], harness := (true, "83676b7ebf3e88acf564afd5bd34aea175f1a0c544818fb4eaa8c71941b638d1"), looks := true }, kinds := [], alts := [], laidByText := true, laidKinds := [.data, .handle, .pinned], laidTests := true, laidLooks := .later }
def ScopeBlocksUptoCardSaid : Prop := Claim7.holds Tryz.pinned (.plain (OpenSpec.upto scopeBlocksSpec)) scopeBlocksUptoCard

/-- THE SECOND FORM's CARD OF 'selkielaw08.ScopeLimits'. -/
def scopeLimitsUptoCard : Claim7 := { stood := { row := scopeLimitsUptoRow, standIns := [], harness := (true, "83676b7ebf3e88acf564afd5bd34aea175f1a0c544818fb4eaa8c71941b638d1"), looks := true }, kinds := [], alts := [], laidByText := true, laidKinds := [.data, .handle, .pinned], laidTests := true, laidLooks := .later }
def ScopeLimitsUptoCardSaid : Prop := Claim7.holds Tryz.pinned (.plain (OpenSpec.upto scopeLimitsSpec)) scopeLimitsUptoCard

/-- THE SECOND FORM's CARD OF 'selkielaw08.ScopeNames'. -/
def scopeNamesUptoCard : Claim7 := { stood := { row := scopeNamesUptoRow, standIns := [], harness := (true, "83676b7ebf3e88acf564afd5bd34aea175f1a0c544818fb4eaa8c71941b638d1"), looks := true }, kinds := [], alts := [], laidByText := true, laidKinds := [.data, .handle, .pinned], laidTests := true, laidLooks := .later }
def ScopeNamesUptoCardSaid : Prop := Claim7.holds Tryz.pinned (.plain (OpenSpec.upto scopeNamesSpec)) scopeNamesUptoCard
end Rows
end Go.Proofs.YteflkdlaoiijbaaGreatDoor
