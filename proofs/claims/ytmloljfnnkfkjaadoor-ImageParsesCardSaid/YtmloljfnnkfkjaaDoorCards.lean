/-
  DERIVED. GIVEN WITH THE SEED: THE CARDS: each row of YtmloljfnnkfkjaaDoorRows.lean that lists a variable, with what it lists TIED to the program's text (the seventh form; the later family's looks); each row that meets fmt, with fmt's text TOLD by the authors' own Lean function (tested against real Go, not proved from fmt's source: count such statements apart). THE CARD IS WHAT COUNTS. Prove the row's statement (the work); the ties are given (YtmloljfnnkfkjaaDoorTie.lean); close each card by the builder's one call (the guide's Derived/Test/ToyasCard.lean, 'card_holds'). Laid BY PROGRAM, IN A SANDBOX (cutbox-door.mjs). By AI agents, Wed Nov 11 2026. No macro, syntax, notation, axiom, sorry.
-/
import Derived.Test.YtmloljfnnkfkjaaDoorRows
import GoSem.ClaimSeven
namespace Go.Proofs.YtmloljfnnkfkjaaDoor
namespace Rows

/-- THE TIED CARD OF 'chrysalislaw14.ImageBuilds'. -/
def imageBuildsCard : Claim7 := { stood := { row := imageBuildsRow, standIns := [], harness := (true, "de512277f72641ba424879d6cce3f22bafc2be232fae0ee127bbe8471ef23544"), looks := false }, kinds := [], alts := [], laidByText := true, laidKinds := [.data], laidTests := true, laidLooks := .later }
def ImageBuildsCardSaid : Prop := Claim7.holds Tryd.pinned (.plain (OpenSpec.ofChange imageBuildsSpec)) imageBuildsCard

/-- THE TIED CARD OF 'chrysalislaw14.ImageParses'. -/
def imageParsesCard : Claim7 := { stood := { row := imageParsesRow, standIns := [], harness := (true, "de512277f72641ba424879d6cce3f22bafc2be232fae0ee127bbe8471ef23544"), looks := false }, kinds := [], alts := [], laidByText := true, laidKinds := [.data], laidTests := true, laidLooks := .later }
def ImageParsesCardSaid : Prop := Claim7.holds Tryd.pinned (.plain (OpenSpec.ofChange imageParsesSpec)) imageParsesCard

/-- THE TIED CARD OF 'chrysalislaw14.ImageBack'. -/
def imageBackCard : Claim7 := { stood := { row := imageBackRow, standIns := [], harness := (true, "de512277f72641ba424879d6cce3f22bafc2be232fae0ee127bbe8471ef23544"), looks := false }, kinds := [], alts := [], laidByText := true, laidKinds := [.data], laidTests := true, laidLooks := .later }
def ImageBackCardSaid : Prop := Claim7.holds Tryd.pinned (.plain (OpenSpec.ofChange imageBackSpec)) imageBackCard

/-- THE TIED CARD OF 'chrysalislaw14.ImageOnly'. -/
def imageOnlyCard : Claim7 := { stood := { row := imageOnlyRow, standIns := [], harness := (true, "de512277f72641ba424879d6cce3f22bafc2be232fae0ee127bbe8471ef23544"), looks := false }, kinds := [], alts := [], laidByText := true, laidKinds := [.data], laidTests := true, laidLooks := .later }
def ImageOnlyCardSaid : Prop := Claim7.holds Tryd.pinned (.plain (OpenSpec.ofChange imageOnlySpec)) imageOnlyCard

/-- THE TIED CARD OF 'chrysalislaw14.ImageOne'. -/
def imageOneCard : Claim7 := { stood := { row := imageOneRow, standIns := [], harness := (true, "de512277f72641ba424879d6cce3f22bafc2be232fae0ee127bbe8471ef23544"), looks := false }, kinds := [], alts := [], laidByText := true, laidKinds := [.data], laidTests := true, laidLooks := .later }
def ImageOneCardSaid : Prop := Claim7.holds Tryd.pinned (.plain (OpenSpec.ofChange imageOneSpec)) imageOneCard

/-- THE SECOND FORM's CARD OF 'chrysalislaw14.ImageBuilds'. -/
def imageBuildsUptoCard : Claim7 := { stood := { row := imageBuildsUptoRow, standIns := [], harness := (true, "de512277f72641ba424879d6cce3f22bafc2be232fae0ee127bbe8471ef23544"), looks := false }, kinds := [], alts := [], laidByText := true, laidKinds := [.data], laidTests := true, laidLooks := .later }
def ImageBuildsUptoCardSaid : Prop := Claim7.holds Tryd.pinned (.plain (OpenSpec.upto imageBuildsSpec)) imageBuildsUptoCard

/-- THE SECOND FORM's CARD OF 'chrysalislaw14.ImageParses'. -/
def imageParsesUptoCard : Claim7 := { stood := { row := imageParsesUptoRow, standIns := [], harness := (true, "de512277f72641ba424879d6cce3f22bafc2be232fae0ee127bbe8471ef23544"), looks := false }, kinds := [], alts := [], laidByText := true, laidKinds := [.data], laidTests := true, laidLooks := .later }
def ImageParsesUptoCardSaid : Prop := Claim7.holds Tryd.pinned (.plain (OpenSpec.upto imageParsesSpec)) imageParsesUptoCard

/-- THE SECOND FORM's CARD OF 'chrysalislaw14.ImageBack'. -/
def imageBackUptoCard : Claim7 := { stood := { row := imageBackUptoRow, standIns := [], harness := (true, "de512277f72641ba424879d6cce3f22bafc2be232fae0ee127bbe8471ef23544"), looks := false }, kinds := [], alts := [], laidByText := true, laidKinds := [.data], laidTests := true, laidLooks := .later }
def ImageBackUptoCardSaid : Prop := Claim7.holds Tryd.pinned (.plain (OpenSpec.upto imageBackSpec)) imageBackUptoCard

/-- THE SECOND FORM's CARD OF 'chrysalislaw14.ImageOnly'. -/
def imageOnlyUptoCard : Claim7 := { stood := { row := imageOnlyUptoRow, standIns := [], harness := (true, "de512277f72641ba424879d6cce3f22bafc2be232fae0ee127bbe8471ef23544"), looks := false }, kinds := [], alts := [], laidByText := true, laidKinds := [.data], laidTests := true, laidLooks := .later }
def ImageOnlyUptoCardSaid : Prop := Claim7.holds Tryd.pinned (.plain (OpenSpec.upto imageOnlySpec)) imageOnlyUptoCard

/-- THE SECOND FORM's CARD OF 'chrysalislaw14.ImageOne'. -/
def imageOneUptoCard : Claim7 := { stood := { row := imageOneUptoRow, standIns := [], harness := (true, "de512277f72641ba424879d6cce3f22bafc2be232fae0ee127bbe8471ef23544"), looks := false }, kinds := [], alts := [], laidByText := true, laidKinds := [.data], laidTests := true, laidLooks := .later }
def ImageOneUptoCardSaid : Prop := Claim7.holds Tryd.pinned (.plain (OpenSpec.upto imageOneSpec)) imageOneUptoCard
end Rows
end Go.Proofs.YtmloljfnnkfkjaaDoor
