/-
  DERIVED. GIVEN WITH THE SEED: THE CARDS: each row of YtmljjpdodcpohaaGreatDoorRows.lean that lists a variable, with what it lists TIED to the program's text (the seventh form; the later family's looks); each row that meets fmt, with fmt's text TOLD by the authors' own Lean function (tested against real Go, not proved from fmt's source: count such statements apart). THE CARD IS WHAT COUNTS. Prove the row's statement (the work); the ties are given (YtmljjpdodcpohaaGreatDoorTie.lean); close each card by the builder's one call (the guide's Derived/Test/ToyasCard.lean, 'card_holds'). Laid BY PROGRAM, IN A SANDBOX (cutbox-door.mjs). By AI agents, Wed Nov 11 2026. No macro, syntax, notation, axiom, sorry.
-/
import Derived.Test.YtmljjpdodcpohaaGreatDoorRows
import GoSem.ClaimSeven
namespace Go.Proofs.YtmljjpdodcpohaaGreatDoor
namespace Rows

/-- THE TIED CARD OF 'chrysalislaw11.ShowTexts'. -/
def showTextsCard : Claim7 := { stood := { row := showTextsRow, standIns := [], harness := (true, "aa40f0e4cf9856b20e2716578d5cb997ccb31dcf336fbfe7094047e1cae8ecca"), looks := true }, kinds := [], alts := [], laidByText := true, laidKinds := [.data, .data, .data, .sentinel, .sentinel], laidTests := true, laidLooks := .later }
def ShowTextsCardSaid : Prop := Claim7.holds Tryz.pinned (.plain (OpenSpec.ofChange showTextsSpec)) showTextsCard

/-- THE TIED CARD OF 'chrysalislaw12.ScopeChecks'. -/
def scopeChecksCard : Claim7 := { stood := { row := scopeChecksRow, standIns := [], harness := (true, "aa40f0e4cf9856b20e2716578d5cb997ccb31dcf336fbfe7094047e1cae8ecca"), looks := true }, kinds := [], alts := [], laidByText := true, laidKinds := [.data, .data, .data, .sentinel, .sentinel], laidTests := true, laidLooks := .later }
def ScopeChecksCardSaid : Prop := Claim7.holds Tryz.pinned (.plain (OpenSpec.ofChange scopeChecksSpec)) scopeChecksCard

/-- THE TIED CARD OF 'chrysalislaw12.ScopeTexts'. -/
def scopeTextsCard : Claim7 := { stood := { row := scopeTextsRow, standIns := [], harness := (true, "aa40f0e4cf9856b20e2716578d5cb997ccb31dcf336fbfe7094047e1cae8ecca"), looks := true }, kinds := [], alts := [], laidByText := true, laidKinds := [.data, .data, .data, .sentinel, .sentinel], laidTests := true, laidLooks := .later }
def ScopeTextsCardSaid : Prop := Claim7.holds Tryz.pinned (.plain (OpenSpec.ofChange scopeTextsSpec)) scopeTextsCard

/-- THE TIED CARD OF 'chrysalislaw12.ScopeRefs'. -/
def scopeRefsCard : Claim7 := { stood := { row := scopeRefsRow, standIns := [], harness := (true, "aa40f0e4cf9856b20e2716578d5cb997ccb31dcf336fbfe7094047e1cae8ecca"), looks := true }, kinds := [], alts := [], laidByText := true, laidKinds := [.data, .data, .data, .sentinel, .sentinel], laidTests := true, laidLooks := .later }
def ScopeRefsCardSaid : Prop := Claim7.holds Tryz.pinned (.plain (OpenSpec.ofChange scopeRefsSpec)) scopeRefsCard

/-- THE TIED CARD OF 'chrysalislaw12.ScopeNames'. -/
def scopeNamesCard : Claim7 := { stood := { row := scopeNamesRow, standIns := [], harness := (true, "aa40f0e4cf9856b20e2716578d5cb997ccb31dcf336fbfe7094047e1cae8ecca"), looks := true }, kinds := [], alts := [], laidByText := true, laidKinds := [.data, .data, .data, .sentinel, .sentinel], laidTests := true, laidLooks := .later }
def ScopeNamesCardSaid : Prop := Claim7.holds Tryz.pinned (.plain (OpenSpec.ofChange scopeNamesSpec)) scopeNamesCard

/-- THE TIED CARD OF 'chrysalislaw12.ScopeLater'. -/
def scopeLaterCard : Claim7 := { stood := { row := scopeLaterRow, standIns := [], harness := (true, "aa40f0e4cf9856b20e2716578d5cb997ccb31dcf336fbfe7094047e1cae8ecca"), looks := true }, kinds := [], alts := [], laidByText := true, laidKinds := [.data, .data, .data, .sentinel, .sentinel], laidTests := true, laidLooks := .later }
def ScopeLaterCardSaid : Prop := Claim7.holds Tryz.pinned (.plain (OpenSpec.ofChange scopeLaterSpec)) scopeLaterCard

/-- THE SECOND FORM's CARD OF 'chrysalislaw11.ShowTexts'. -/
def showTextsUptoCard : Claim7 := { stood := { row := showTextsUptoRow, standIns := [], harness := (true, "aa40f0e4cf9856b20e2716578d5cb997ccb31dcf336fbfe7094047e1cae8ecca"), looks := true }, kinds := [], alts := [], laidByText := true, laidKinds := [.data, .data, .data, .sentinel, .sentinel], laidTests := true, laidLooks := .later }
def ShowTextsUptoCardSaid : Prop := Claim7.holds Tryz.pinned (.plain (OpenSpec.upto showTextsSpec)) showTextsUptoCard

/-- THE SECOND FORM's CARD OF 'chrysalislaw12.ScopeChecks'. -/
def scopeChecksUptoCard : Claim7 := { stood := { row := scopeChecksUptoRow, standIns := [], harness := (true, "aa40f0e4cf9856b20e2716578d5cb997ccb31dcf336fbfe7094047e1cae8ecca"), looks := true }, kinds := [], alts := [], laidByText := true, laidKinds := [.data, .data, .data, .sentinel, .sentinel], laidTests := true, laidLooks := .later }
def ScopeChecksUptoCardSaid : Prop := Claim7.holds Tryz.pinned (.plain (OpenSpec.upto scopeChecksSpec)) scopeChecksUptoCard

/-- THE SECOND FORM's CARD OF 'chrysalislaw12.ScopeTexts'. -/
def scopeTextsUptoCard : Claim7 := { stood := { row := scopeTextsUptoRow, standIns := [], harness := (true, "aa40f0e4cf9856b20e2716578d5cb997ccb31dcf336fbfe7094047e1cae8ecca"), looks := true }, kinds := [], alts := [], laidByText := true, laidKinds := [.data, .data, .data, .sentinel, .sentinel], laidTests := true, laidLooks := .later }
def ScopeTextsUptoCardSaid : Prop := Claim7.holds Tryz.pinned (.plain (OpenSpec.upto scopeTextsSpec)) scopeTextsUptoCard

/-- THE SECOND FORM's CARD OF 'chrysalislaw12.ScopeRefs'. -/
def scopeRefsUptoCard : Claim7 := { stood := { row := scopeRefsUptoRow, standIns := [], harness := (true, "aa40f0e4cf9856b20e2716578d5cb997ccb31dcf336fbfe7094047e1cae8ecca"), looks := true }, kinds := [], alts := [], laidByText := true, laidKinds := [.data, .data, .data, .sentinel, .sentinel], laidTests := true, laidLooks := .later }
def ScopeRefsUptoCardSaid : Prop := Claim7.holds Tryz.pinned (.plain (OpenSpec.upto scopeRefsSpec)) scopeRefsUptoCard

/-- THE SECOND FORM's CARD OF 'chrysalislaw12.ScopeNames'. -/
def scopeNamesUptoCard : Claim7 := { stood := { row := scopeNamesUptoRow, standIns := [], harness := (true, "aa40f0e4cf9856b20e2716578d5cb997ccb31dcf336fbfe7094047e1cae8ecca"), looks := true }, kinds := [], alts := [], laidByText := true, laidKinds := [.data, .data, .data, .sentinel, .sentinel], laidTests := true, laidLooks := .later }
def ScopeNamesUptoCardSaid : Prop := Claim7.holds Tryz.pinned (.plain (OpenSpec.upto scopeNamesSpec)) scopeNamesUptoCard

/-- THE SECOND FORM's CARD OF 'chrysalislaw12.ScopeLater'. -/
def scopeLaterUptoCard : Claim7 := { stood := { row := scopeLaterUptoRow, standIns := [], harness := (true, "aa40f0e4cf9856b20e2716578d5cb997ccb31dcf336fbfe7094047e1cae8ecca"), looks := true }, kinds := [], alts := [], laidByText := true, laidKinds := [.data, .data, .data, .sentinel, .sentinel], laidTests := true, laidLooks := .later }
def ScopeLaterUptoCardSaid : Prop := Claim7.holds Tryz.pinned (.plain (OpenSpec.upto scopeLaterSpec)) scopeLaterUptoCard
end Rows
end Go.Proofs.YtmljjpdodcpohaaGreatDoor
