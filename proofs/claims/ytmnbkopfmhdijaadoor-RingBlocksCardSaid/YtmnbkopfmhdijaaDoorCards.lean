/-
  DERIVED. GIVEN WITH THE SEED: THE CARDS: each row of YtmnbkopfmhdijaaDoorRows.lean that lists a variable, with what it lists TIED to the program's text (the seventh form; the later family's looks); each row that meets fmt, with fmt's text TOLD by the authors' own Lean function (tested against real Go, not proved from fmt's source: count such statements apart). THE CARD IS WHAT COUNTS. Prove the row's statement (the work); the ties are given (YtmnbkopfmhdijaaDoorTie.lean); close each card by the builder's one call (the guide's Derived/Test/ToyasCard.lean, 'card_holds'). Laid BY PROGRAM, IN A SANDBOX (cutbox-door.mjs). By AI agents, Wed Nov 11 2026. No macro, syntax, notation, axiom, sorry.
-/
import Derived.Test.YtmnbkopfmhdijaaDoorRows
import GoSem.ClaimSeven
namespace Go.Proofs.YtmnbkopfmhdijaaDoor
namespace Rows

/-- THE TIED CARD OF 'chrysalislaw02.DigestNil'. -/
def digestNilCard : Claim7 := { stood := { row := digestNilRow, standIns := [], harness := (true, "7d11be0c2ebb87f787ce91ba21cb30661526d787a3dba5d5efd809511f2f31a4"), looks := false }, kinds := [], alts := [], laidByText := true, laidKinds := [.data], laidTests := true, laidLooks := .later }
def DigestNilCardSaid : Prop := Claim7.holds Tryd.pinned (.plain (OpenSpec.ofChange digestNilSpec)) digestNilCard

/-- THE TIED CARD OF 'chrysalislaw05.RingBlocks'. -/
def ringBlocksCard : Claim7 := { stood := { row := ringBlocksRow, standIns := [], harness := (true, "7d11be0c2ebb87f787ce91ba21cb30661526d787a3dba5d5efd809511f2f31a4"), looks := false }, kinds := [], alts := [], laidByText := true, laidKinds := [.data], laidTests := true, laidLooks := .later }
def RingBlocksCardSaid : Prop := Claim7.holds Tryd.pinned (.plain (OpenSpec.ofChange ringBlocksSpec)) ringBlocksCard

/-- THE TIED CARD OF 'chrysalislaw05.RingPlays'. -/
def ringPlaysCard : Claim7 := { stood := { row := ringPlaysRow, standIns := [], harness := (true, "7d11be0c2ebb87f787ce91ba21cb30661526d787a3dba5d5efd809511f2f31a4"), looks := false }, kinds := [], alts := [], laidByText := true, laidKinds := [.data], laidTests := true, laidLooks := .later }
def RingPlaysCardSaid : Prop := Claim7.holds Tryd.pinned (.plain (OpenSpec.ofChange ringPlaysSpec)) ringPlaysCard

/-- THE TIED CARD OF 'chrysalislaw05.RingBack'. -/
def ringBackCard : Claim7 := { stood := { row := ringBackRow, standIns := [], harness := (true, "7d11be0c2ebb87f787ce91ba21cb30661526d787a3dba5d5efd809511f2f31a4"), looks := false }, kinds := [], alts := [], laidByText := true, laidKinds := [.data], laidTests := true, laidLooks := .later }
def RingBackCardSaid : Prop := Claim7.holds Tryd.pinned (.plain (OpenSpec.ofChange ringBackSpec)) ringBackCard

/-- THE TIED CARD OF 'chrysalislaw05.RingCrashes'. -/
def ringCrashesCard : Claim7 := { stood := { row := ringCrashesRow, standIns := [], harness := (true, "7d11be0c2ebb87f787ce91ba21cb30661526d787a3dba5d5efd809511f2f31a4"), looks := false }, kinds := [], alts := [], laidByText := true, laidKinds := [.data], laidTests := true, laidLooks := .later }
def RingCrashesCardSaid : Prop := Claim7.holds Tryd.pinned (.plain (OpenSpec.ofChange ringCrashesSpec)) ringCrashesCard

/-- THE TIED CARD OF 'chrysalislaw05.RingNil'. -/
def ringNilCard : Claim7 := { stood := { row := ringNilRow, standIns := [], harness := (true, "7d11be0c2ebb87f787ce91ba21cb30661526d787a3dba5d5efd809511f2f31a4"), looks := false }, kinds := [], alts := [], laidByText := true, laidKinds := [.data], laidTests := true, laidLooks := .later }
def RingNilCardSaid : Prop := Claim7.holds Tryd.pinned (.plain (OpenSpec.ofChange ringNilSpec)) ringNilCard

/-- THE TIED CARD OF 'chrysalislaw05.RingRow'. -/
def ringRowCard : Claim7 := { stood := { row := ringRowRow, standIns := [], harness := (true, "7d11be0c2ebb87f787ce91ba21cb30661526d787a3dba5d5efd809511f2f31a4"), looks := false }, kinds := [], alts := [], laidByText := true, laidKinds := [.data], laidTests := true, laidLooks := .later }
def RingRowCardSaid : Prop := Claim7.holds Tryd.pinned (.plain (OpenSpec.ofChange ringRowSpec)) ringRowCard

/-- THE SECOND FORM's CARD OF 'chrysalislaw02.DigestNil'. -/
def digestNilUptoCard : Claim7 := { stood := { row := digestNilUptoRow, standIns := [], harness := (true, "7d11be0c2ebb87f787ce91ba21cb30661526d787a3dba5d5efd809511f2f31a4"), looks := false }, kinds := [], alts := [], laidByText := true, laidKinds := [.data], laidTests := true, laidLooks := .later }
def DigestNilUptoCardSaid : Prop := Claim7.holds Tryd.pinned (.plain (OpenSpec.upto digestNilSpec)) digestNilUptoCard

/-- THE SECOND FORM's CARD OF 'chrysalislaw05.RingBlocks'. -/
def ringBlocksUptoCard : Claim7 := { stood := { row := ringBlocksUptoRow, standIns := [], harness := (true, "7d11be0c2ebb87f787ce91ba21cb30661526d787a3dba5d5efd809511f2f31a4"), looks := false }, kinds := [], alts := [], laidByText := true, laidKinds := [.data], laidTests := true, laidLooks := .later }
def RingBlocksUptoCardSaid : Prop := Claim7.holds Tryd.pinned (.plain (OpenSpec.upto ringBlocksSpec)) ringBlocksUptoCard

/-- THE SECOND FORM's CARD OF 'chrysalislaw05.RingPlays'. -/
def ringPlaysUptoCard : Claim7 := { stood := { row := ringPlaysUptoRow, standIns := [], harness := (true, "7d11be0c2ebb87f787ce91ba21cb30661526d787a3dba5d5efd809511f2f31a4"), looks := false }, kinds := [], alts := [], laidByText := true, laidKinds := [.data], laidTests := true, laidLooks := .later }
def RingPlaysUptoCardSaid : Prop := Claim7.holds Tryd.pinned (.plain (OpenSpec.upto ringPlaysSpec)) ringPlaysUptoCard

/-- THE SECOND FORM's CARD OF 'chrysalislaw05.RingBack'. -/
def ringBackUptoCard : Claim7 := { stood := { row := ringBackUptoRow, standIns := [], harness := (true, "7d11be0c2ebb87f787ce91ba21cb30661526d787a3dba5d5efd809511f2f31a4"), looks := false }, kinds := [], alts := [], laidByText := true, laidKinds := [.data], laidTests := true, laidLooks := .later }
def RingBackUptoCardSaid : Prop := Claim7.holds Tryd.pinned (.plain (OpenSpec.upto ringBackSpec)) ringBackUptoCard

/-- THE SECOND FORM's CARD OF 'chrysalislaw05.RingCrashes'. -/
def ringCrashesUptoCard : Claim7 := { stood := { row := ringCrashesUptoRow, standIns := [], harness := (true, "7d11be0c2ebb87f787ce91ba21cb30661526d787a3dba5d5efd809511f2f31a4"), looks := false }, kinds := [], alts := [], laidByText := true, laidKinds := [.data], laidTests := true, laidLooks := .later }
def RingCrashesUptoCardSaid : Prop := Claim7.holds Tryd.pinned (.plain (OpenSpec.upto ringCrashesSpec)) ringCrashesUptoCard

/-- THE SECOND FORM's CARD OF 'chrysalislaw05.RingNil'. -/
def ringNilUptoCard : Claim7 := { stood := { row := ringNilUptoRow, standIns := [], harness := (true, "7d11be0c2ebb87f787ce91ba21cb30661526d787a3dba5d5efd809511f2f31a4"), looks := false }, kinds := [], alts := [], laidByText := true, laidKinds := [.data], laidTests := true, laidLooks := .later }
def RingNilUptoCardSaid : Prop := Claim7.holds Tryd.pinned (.plain (OpenSpec.upto ringNilSpec)) ringNilUptoCard

/-- THE SECOND FORM's CARD OF 'chrysalislaw05.RingRow'. -/
def ringRowUptoCard : Claim7 := { stood := { row := ringRowUptoRow, standIns := [], harness := (true, "7d11be0c2ebb87f787ce91ba21cb30661526d787a3dba5d5efd809511f2f31a4"), looks := false }, kinds := [], alts := [], laidByText := true, laidKinds := [.data], laidTests := true, laidLooks := .later }
def RingRowUptoCardSaid : Prop := Claim7.holds Tryd.pinned (.plain (OpenSpec.upto ringRowSpec)) ringRowUptoCard
end Rows
end Go.Proofs.YtmnbkopfmhdijaaDoor
