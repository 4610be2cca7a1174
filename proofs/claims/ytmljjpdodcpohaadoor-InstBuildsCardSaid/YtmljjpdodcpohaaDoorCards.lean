/-
  DERIVED. GIVEN WITH THE SEED: THE CARDS: each row of YtmljjpdodcpohaaDoorRows.lean that lists a variable, with what it lists TIED to the program's text (the seventh form; the later family's looks); each row that meets fmt, with fmt's text TOLD by the authors' own Lean function (tested against real Go, not proved from fmt's source: count such statements apart). THE CARD IS WHAT COUNTS. Prove the row's statement (the work); the ties are given (YtmljjpdodcpohaaDoorTie.lean); close each card by the builder's one call (the guide's Derived/Test/ToyasCard.lean, 'card_holds'). Laid BY PROGRAM, IN A SANDBOX (cutbox-door.mjs). By AI agents, Wed Nov 11 2026. No macro, syntax, notation, axiom, sorry.
-/
import Derived.Test.YtmljjpdodcpohaaDoorRows
import GoSem.ClaimSeven
namespace Go.Proofs.YtmljjpdodcpohaaDoor
namespace Rows

/-- THE TIED CARD OF 'chrysalislaw13.InstBuilds'. -/
def instBuildsCard : Claim7 := { stood := { row := instBuildsRow, standIns := [], harness := (true, "0184c95e4520c893e579f758c3b70e063003100e6467bdf63c40d2d52dcc6991"), looks := false }, kinds := [], alts := [], laidByText := true, laidKinds := [.data], laidTests := true, laidLooks := .later }
def InstBuildsCardSaid : Prop := Claim7.holds Tryd.pinned (.plain (OpenSpec.ofChange instBuildsSpec)) instBuildsCard

/-- THE TIED CARD OF 'chrysalislaw13.InstParses'. -/
def instParsesCard : Claim7 := { stood := { row := instParsesRow, standIns := [], harness := (true, "0184c95e4520c893e579f758c3b70e063003100e6467bdf63c40d2d52dcc6991"), looks := false }, kinds := [], alts := [], laidByText := true, laidKinds := [.data], laidTests := true, laidLooks := .later }
def InstParsesCardSaid : Prop := Claim7.holds Tryd.pinned (.plain (OpenSpec.ofChange instParsesSpec)) instParsesCard

/-- THE TIED CARD OF 'chrysalislaw13.InstBack'. -/
def instBackCard : Claim7 := { stood := { row := instBackRow, standIns := [], harness := (true, "0184c95e4520c893e579f758c3b70e063003100e6467bdf63c40d2d52dcc6991"), looks := false }, kinds := [], alts := [], laidByText := true, laidKinds := [.data], laidTests := true, laidLooks := .later }
def InstBackCardSaid : Prop := Claim7.holds Tryd.pinned (.plain (OpenSpec.ofChange instBackSpec)) instBackCard

/-- THE TIED CARD OF 'chrysalislaw13.InstShapes'. -/
def instShapesCard : Claim7 := { stood := { row := instShapesRow, standIns := [], harness := (true, "0184c95e4520c893e579f758c3b70e063003100e6467bdf63c40d2d52dcc6991"), looks := false }, kinds := [], alts := [], laidByText := true, laidKinds := [.data], laidTests := true, laidLooks := .later }
def InstShapesCardSaid : Prop := Claim7.holds Tryd.pinned (.plain (OpenSpec.ofChange instShapesSpec)) instShapesCard

/-- THE TIED CARD OF 'chrysalislaw13.InstOps'. -/
def instOpsCard : Claim7 := { stood := { row := instOpsRow, standIns := [], harness := (true, "0184c95e4520c893e579f758c3b70e063003100e6467bdf63c40d2d52dcc6991"), looks := false }, kinds := [], alts := [], laidByText := true, laidKinds := [.data], laidTests := true, laidLooks := .later }
def InstOpsCardSaid : Prop := Claim7.holds Tryd.pinned (.plain (OpenSpec.ofChange instOpsSpec)) instOpsCard

/-- THE SECOND FORM's CARD OF 'chrysalislaw13.InstBuilds'. -/
def instBuildsUptoCard : Claim7 := { stood := { row := instBuildsUptoRow, standIns := [], harness := (true, "0184c95e4520c893e579f758c3b70e063003100e6467bdf63c40d2d52dcc6991"), looks := false }, kinds := [], alts := [], laidByText := true, laidKinds := [.data], laidTests := true, laidLooks := .later }
def InstBuildsUptoCardSaid : Prop := Claim7.holds Tryd.pinned (.plain (OpenSpec.upto instBuildsSpec)) instBuildsUptoCard

/-- THE SECOND FORM's CARD OF 'chrysalislaw13.InstParses'. -/
def instParsesUptoCard : Claim7 := { stood := { row := instParsesUptoRow, standIns := [], harness := (true, "0184c95e4520c893e579f758c3b70e063003100e6467bdf63c40d2d52dcc6991"), looks := false }, kinds := [], alts := [], laidByText := true, laidKinds := [.data], laidTests := true, laidLooks := .later }
def InstParsesUptoCardSaid : Prop := Claim7.holds Tryd.pinned (.plain (OpenSpec.upto instParsesSpec)) instParsesUptoCard

/-- THE SECOND FORM's CARD OF 'chrysalislaw13.InstBack'. -/
def instBackUptoCard : Claim7 := { stood := { row := instBackUptoRow, standIns := [], harness := (true, "0184c95e4520c893e579f758c3b70e063003100e6467bdf63c40d2d52dcc6991"), looks := false }, kinds := [], alts := [], laidByText := true, laidKinds := [.data], laidTests := true, laidLooks := .later }
def InstBackUptoCardSaid : Prop := Claim7.holds Tryd.pinned (.plain (OpenSpec.upto instBackSpec)) instBackUptoCard

/-- THE SECOND FORM's CARD OF 'chrysalislaw13.InstShapes'. -/
def instShapesUptoCard : Claim7 := { stood := { row := instShapesUptoRow, standIns := [], harness := (true, "0184c95e4520c893e579f758c3b70e063003100e6467bdf63c40d2d52dcc6991"), looks := false }, kinds := [], alts := [], laidByText := true, laidKinds := [.data], laidTests := true, laidLooks := .later }
def InstShapesUptoCardSaid : Prop := Claim7.holds Tryd.pinned (.plain (OpenSpec.upto instShapesSpec)) instShapesUptoCard

/-- THE SECOND FORM's CARD OF 'chrysalislaw13.InstOps'. -/
def instOpsUptoCard : Claim7 := { stood := { row := instOpsUptoRow, standIns := [], harness := (true, "0184c95e4520c893e579f758c3b70e063003100e6467bdf63c40d2d52dcc6991"), looks := false }, kinds := [], alts := [], laidByText := true, laidKinds := [.data], laidTests := true, laidLooks := .later }
def InstOpsUptoCardSaid : Prop := Claim7.holds Tryd.pinned (.plain (OpenSpec.upto instOpsSpec)) instOpsUptoCard
end Rows
end Go.Proofs.YtmljjpdodcpohaaDoor
