/-
  DERIVED. GIVEN WITH THE SEED: THE CARDS: each row of YthddiijnomhpfaaDoorRows.lean that lists a variable, with what it lists TIED to the program's text (the seventh form; the later family's looks); each row that meets fmt, with fmt's text TOLD by the authors' own Lean function (tested against real Go, not proved from fmt's source: count such statements apart). THE CARD IS WHAT COUNTS. Prove the row's statement (the work); the ties are given (YthddiijnomhpfaaDoorTie.lean); close each card by the builder's one call (the guide's Derived/Test/ToyasCard.lean, 'card_holds'). Laid BY PROGRAM, IN A SANDBOX (cutbox-door.mjs). By AI agents, Wed Nov 11 2026. No macro, syntax, notation, axiom, sorry.
-/
import Derived.Test.YthddiijnomhpfaaDoorRows
import GoSem.ClaimSeven
namespace Go.Proofs.YthddiijnomhpfaaDoor
namespace Rows

/-- THE TIED CARD OF 'chrysalislaw02.DigestNil'. -/
def digestNilCard : Claim7 := { stood := { row := digestNilRow, standIns := [], harness := (true, "2c150fc879d7b687b99fbf436bb13d712182fac6bfa4b1e3e7dd4ae44dfcee3c"), looks := false }, kinds := [], alts := [], laidByText := true, laidKinds := [.data], laidTests := true, laidLooks := .later }
def DigestNilCardSaid : Prop := Claim7.holds Tryd.pinned (.plain (OpenSpec.ofChange digestNilSpec)) digestNilCard

/-- THE TIED CARD OF 'chrysalislaw05.RingPlays'. -/
def ringPlaysCard : Claim7 := { stood := { row := ringPlaysRow, standIns := [], harness := (true, "2c150fc879d7b687b99fbf436bb13d712182fac6bfa4b1e3e7dd4ae44dfcee3c"), looks := false }, kinds := [], alts := [], laidByText := true, laidKinds := [.data], laidTests := true, laidLooks := .later }
def RingPlaysCardSaid : Prop := Claim7.holds Tryd.pinned (.plain (OpenSpec.ofChange ringPlaysSpec)) ringPlaysCard

/-- THE TIED CARD OF 'chrysalislaw05.RingCrashes'. -/
def ringCrashesCard : Claim7 := { stood := { row := ringCrashesRow, standIns := [], harness := (true, "2c150fc879d7b687b99fbf436bb13d712182fac6bfa4b1e3e7dd4ae44dfcee3c"), looks := false }, kinds := [], alts := [], laidByText := true, laidKinds := [.data], laidTests := true, laidLooks := .later }
def RingCrashesCardSaid : Prop := Claim7.holds Tryd.pinned (.plain (OpenSpec.ofChange ringCrashesSpec)) ringCrashesCard

/-- THE SECOND FORM's CARD OF 'chrysalislaw02.DigestNil'. -/
def digestNilUptoCard : Claim7 := { stood := { row := digestNilUptoRow, standIns := [], harness := (true, "2c150fc879d7b687b99fbf436bb13d712182fac6bfa4b1e3e7dd4ae44dfcee3c"), looks := false }, kinds := [], alts := [], laidByText := true, laidKinds := [.data], laidTests := true, laidLooks := .later }
def DigestNilUptoCardSaid : Prop := Claim7.holds Tryd.pinned (.plain (OpenSpec.upto digestNilSpec)) digestNilUptoCard

/-- THE SECOND FORM's CARD OF 'chrysalislaw05.RingPlays'. -/
def ringPlaysUptoCard : Claim7 := { stood := { row := ringPlaysUptoRow, standIns := [], harness := (true, "2c150fc879d7b687b99fbf436bb13d712182fac6bfa4b1e3e7dd4ae44dfcee3c"), looks := false }, kinds := [], alts := [], laidByText := true, laidKinds := [.data], laidTests := true, laidLooks := .later }
def RingPlaysUptoCardSaid : Prop := Claim7.holds Tryd.pinned (.plain (OpenSpec.upto ringPlaysSpec)) ringPlaysUptoCard

/-- THE SECOND FORM's CARD OF 'chrysalislaw05.RingCrashes'. -/
def ringCrashesUptoCard : Claim7 := { stood := { row := ringCrashesUptoRow, standIns := [], harness := (true, "2c150fc879d7b687b99fbf436bb13d712182fac6bfa4b1e3e7dd4ae44dfcee3c"), looks := false }, kinds := [], alts := [], laidByText := true, laidKinds := [.data], laidTests := true, laidLooks := .later }
def RingCrashesUptoCardSaid : Prop := Claim7.holds Tryd.pinned (.plain (OpenSpec.upto ringCrashesSpec)) ringCrashesUptoCard
end Rows
end Go.Proofs.YthddiijnomhpfaaDoor
