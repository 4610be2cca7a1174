/-
  DERIVED. GIVEN WITH THE SEED: THE CARDS: each row of YtepipdikglabaaaDoorRows.lean that lists a variable, with what it lists TIED to the program's text (the seventh form; the later family's looks); each row that meets fmt, with fmt's text TOLD by the authors' own Lean function (tested against real Go, not proved from fmt's source: count such statements apart). THE CARD IS WHAT COUNTS. Prove the row's statement (the work); the ties are given (YtepipdikglabaaaDoorTie.lean); close each card by the builder's one call (the guide's Derived/Test/ToyasCard.lean, 'card_holds'). Laid BY PROGRAM, IN A SANDBOX (cutbox-door.mjs). By AI agents, Wed Nov 11 2026. No macro, syntax, notation, axiom, sorry.
-/
import Derived.Test.YtepipdikglabaaaDoorRows
import GoSem.ClaimSeven
namespace Go.Proofs.YtepipdikglabaaaDoor
namespace Rows

/-- THE TIED CARD OF 'chrysalislaw02.DigestNil'. -/
def digestNilCard : Claim7 := { stood := { row := digestNilRow, standIns := [], harness := (true, "2703893b07f177d2ccb9994004c199acf905d1d4160a0e4956b016163f774bbc"), looks := false }, kinds := [], alts := [], laidByText := true, laidKinds := [.data], laidTests := true, laidLooks := .later }
def DigestNilCardSaid : Prop := Claim7.holds Tryd.pinned (.plain (OpenSpec.ofChange digestNilSpec)) digestNilCard

/-- THE TIED CARD OF 'chrysalislaw03.MacOf'. -/
def macOfCard : Claim7 := { stood := { row := macOfRow, standIns := [], harness := (true, "2703893b07f177d2ccb9994004c199acf905d1d4160a0e4956b016163f774bbc"), looks := false }, kinds := [], alts := [], laidByText := true, laidKinds := [.data], laidTests := true, laidLooks := .later }
def MacOfCardSaid : Prop := Claim7.holds Tryd.pinned (.plain (OpenSpec.ofChange macOfSpec)) macOfCard

/-- THE TIED CARD OF 'chrysalislaw03.MacRight'. -/
def macRightCard : Claim7 := { stood := { row := macRightRow, standIns := [], harness := (true, "2703893b07f177d2ccb9994004c199acf905d1d4160a0e4956b016163f774bbc"), looks := false }, kinds := [], alts := [], laidByText := true, laidKinds := [.data], laidTests := true, laidLooks := .later }
def MacRightCardSaid : Prop := Claim7.holds Tryd.pinned (.plain (OpenSpec.ofChange macRightSpec)) macRightCard

/-- THE TIED CARD OF 'chrysalislaw03.MacTurned'. -/
def macTurnedCard : Claim7 := { stood := { row := macTurnedRow, standIns := [], harness := (true, "2703893b07f177d2ccb9994004c199acf905d1d4160a0e4956b016163f774bbc"), looks := false }, kinds := [], alts := [], laidByText := true, laidKinds := [.data], laidTests := true, laidLooks := .later }
def MacTurnedCardSaid : Prop := Claim7.holds Tryd.pinned (.plain (OpenSpec.ofChange macTurnedSpec)) macTurnedCard

/-- THE TIED CARD OF 'chrysalislaw03.MacKeys'. -/
def macKeysCard : Claim7 := { stood := { row := macKeysRow, standIns := [], harness := (true, "2703893b07f177d2ccb9994004c199acf905d1d4160a0e4956b016163f774bbc"), looks := false }, kinds := [], alts := [], laidByText := true, laidKinds := [.data], laidTests := true, laidLooks := .later }
def MacKeysCardSaid : Prop := Claim7.holds Tryd.pinned (.plain (OpenSpec.ofChange macKeysSpec)) macKeysCard

/-- THE TIED CARD OF 'chrysalislaw03.MacForm'. -/
def macFormCard : Claim7 := { stood := { row := macFormRow, standIns := [], harness := (true, "2703893b07f177d2ccb9994004c199acf905d1d4160a0e4956b016163f774bbc"), looks := false }, kinds := [], alts := [], laidByText := true, laidKinds := [.data], laidTests := true, laidLooks := .later }
def MacFormCardSaid : Prop := Claim7.holds Tryd.pinned (.plain (OpenSpec.ofChange macFormSpec)) macFormCard

/-- THE SECOND FORM's CARD OF 'chrysalislaw02.DigestNil'. -/
def digestNilUptoCard : Claim7 := { stood := { row := digestNilUptoRow, standIns := [], harness := (true, "2703893b07f177d2ccb9994004c199acf905d1d4160a0e4956b016163f774bbc"), looks := false }, kinds := [], alts := [], laidByText := true, laidKinds := [.data], laidTests := true, laidLooks := .later }
def DigestNilUptoCardSaid : Prop := Claim7.holds Tryd.pinned (.plain (OpenSpec.upto digestNilSpec)) digestNilUptoCard

/-- THE SECOND FORM's CARD OF 'chrysalislaw03.MacOf'. -/
def macOfUptoCard : Claim7 := { stood := { row := macOfUptoRow, standIns := [], harness := (true, "2703893b07f177d2ccb9994004c199acf905d1d4160a0e4956b016163f774bbc"), looks := false }, kinds := [], alts := [], laidByText := true, laidKinds := [.data], laidTests := true, laidLooks := .later }
def MacOfUptoCardSaid : Prop := Claim7.holds Tryd.pinned (.plain (OpenSpec.upto macOfSpec)) macOfUptoCard

/-- THE SECOND FORM's CARD OF 'chrysalislaw03.MacRight'. -/
def macRightUptoCard : Claim7 := { stood := { row := macRightUptoRow, standIns := [], harness := (true, "2703893b07f177d2ccb9994004c199acf905d1d4160a0e4956b016163f774bbc"), looks := false }, kinds := [], alts := [], laidByText := true, laidKinds := [.data], laidTests := true, laidLooks := .later }
def MacRightUptoCardSaid : Prop := Claim7.holds Tryd.pinned (.plain (OpenSpec.upto macRightSpec)) macRightUptoCard

/-- THE SECOND FORM's CARD OF 'chrysalislaw03.MacTurned'. -/
def macTurnedUptoCard : Claim7 := { stood := { row := macTurnedUptoRow, standIns := [], harness := (true, "2703893b07f177d2ccb9994004c199acf905d1d4160a0e4956b016163f774bbc"), looks := false }, kinds := [], alts := [], laidByText := true, laidKinds := [.data], laidTests := true, laidLooks := .later }
def MacTurnedUptoCardSaid : Prop := Claim7.holds Tryd.pinned (.plain (OpenSpec.upto macTurnedSpec)) macTurnedUptoCard

/-- THE SECOND FORM's CARD OF 'chrysalislaw03.MacKeys'. -/
def macKeysUptoCard : Claim7 := { stood := { row := macKeysUptoRow, standIns := [], harness := (true, "2703893b07f177d2ccb9994004c199acf905d1d4160a0e4956b016163f774bbc"), looks := false }, kinds := [], alts := [], laidByText := true, laidKinds := [.data], laidTests := true, laidLooks := .later }
def MacKeysUptoCardSaid : Prop := Claim7.holds Tryd.pinned (.plain (OpenSpec.upto macKeysSpec)) macKeysUptoCard

/-- THE SECOND FORM's CARD OF 'chrysalislaw03.MacForm'. -/
def macFormUptoCard : Claim7 := { stood := { row := macFormUptoRow, standIns := [], harness := (true, "2703893b07f177d2ccb9994004c199acf905d1d4160a0e4956b016163f774bbc"), looks := false }, kinds := [], alts := [], laidByText := true, laidKinds := [.data], laidTests := true, laidLooks := .later }
def MacFormUptoCardSaid : Prop := Claim7.holds Tryd.pinned (.plain (OpenSpec.upto macFormSpec)) macFormUptoCard
end Rows
end Go.Proofs.YtepipdikglabaaaDoor
