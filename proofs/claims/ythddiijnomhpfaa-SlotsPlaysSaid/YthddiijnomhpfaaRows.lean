/-
  No cell of these rows narrows 'for every input' (looked for: loops, veiled, ifaces, maps, wideKeys, modest, calm, conditions, laid).
  DERIVED. THE GIVEN ROWS OF THIS SEAT. 5 by the template 'for every input the law returns true; each argument reads behind the call as it read before'; 0 by the template 'total and deterministic' (their statements: YthddiijnomhpfaaTotals.lean).
  GIVEN WITH THE SEED: the statements are not yours to turn. If you find one false, say at which input.
  Laid BY PROGRAM, IN A SANDBOX (cutbox-rows.mjs): the forced cells as the released guide's own fill.sh prints them over the translation b69ab530bfa6449a… (all of the seat's roots in one cut). By AI agents, Wed Nov 11 2026. No macro, syntax, notation, axiom, sorry.
-/
import Derived.Test.YthddiijnomhpfaaChecked
import GoSem.Claim
import GoSem.ClaimJoined
import GoSem.ClaimMapViews
import Derived.JoinedTies
import Derived.KernelRfl
namespace Go.Proofs.Ythddiijnomhpfaa
/- THE CELL 'sum', in the pinned program and in every row, IS THE sha256 OF THE DUMP (.gsa) THAT YthddiijnomhpfaaProg.lean LOADS. Nothing in Lean hashes anything: it is a label: what it is worth is what the hold of that sum in a sandbox is worth. -/
noncomputable def Try.pinned : Pinned := { name := "ythddiijnomhpfaa", sum := "b69ab530bfa6449a03c7d455181e46145f35a5a88e8ce9ca2d1b50a4dbe3ef5b", checked := Try.checked }
namespace Rows
def none {H : Type} : Left H := { results := [], args := [] }

/-- 'chrysalislaw06.SlotsPlays': WHATEVER THE INPUT: true; the input reads as it did. -/
def slotsPlaysSpec : ChangeSpec := { name := "slotsPlays", fn := fun _ => fun
  | [d1, d2] => { results := [.lit (.bool true)], args := [d1, d2] }
  | _ => none }
def slotsPlaysRow : OpenClaim := { program := "ythddiijnomhpfaa", sum := "b69ab530bfa6449a03c7d455181e46145f35a5a88e8ce9ca2d1b50a4dbe3ef5b", func := "chrysalis/chrysalislaw06.SlotsPlays", spec := "slotsPlays", inPlace := ["internal/abi.NoEscape"], apart := false }
def SlotsPlaysSaid : Prop := slotsPlaysRow.holds Try.pinned (OpenSpec.ofChange slotsPlaysSpec)

/-- ITS FALSE NEIGHBOUR: 'it returns false'. Refute it at one input. -/
def slotsPlaysWrong : ChangeSpec := { name := "slotsPlays", fn := fun _ => fun
  | [d1, d2] => { results := [.lit (.bool false)], args := [d1, d2] }
  | _ => none }
def SlotsPlaysWrongFalsely : Prop := slotsPlaysRow.holds Try.pinned (OpenSpec.ofChange slotsPlaysWrong)

/-- 'chrysalislaw06.SlotsLasts': WHATEVER THE INPUT: true; the input reads as it did. -/
def slotsLastsSpec : ChangeSpec := { name := "slotsLasts", fn := fun _ => fun
  | [d] => { results := [.lit (.bool true)], args := [d] }
  | _ => none }
def slotsLastsRow : OpenClaim := { program := "ythddiijnomhpfaa", sum := "b69ab530bfa6449a03c7d455181e46145f35a5a88e8ce9ca2d1b50a4dbe3ef5b", func := "chrysalis/chrysalislaw06.SlotsLasts", spec := "slotsLasts", inPlace := ["internal/abi.NoEscape"], apart := false }
def SlotsLastsSaid : Prop := slotsLastsRow.holds Try.pinned (OpenSpec.ofChange slotsLastsSpec)

/-- ITS FALSE NEIGHBOUR: 'it returns false'. Refute it at one input. -/
def slotsLastsWrong : ChangeSpec := { name := "slotsLasts", fn := fun _ => fun
  | [d] => { results := [.lit (.bool false)], args := [d] }
  | _ => none }
def SlotsLastsWrongFalsely : Prop := slotsLastsRow.holds Try.pinned (OpenSpec.ofChange slotsLastsWrong)

/-- 'chrysalislaw06.SlotsFits': WHATEVER THE INPUT: true; the input reads as it did. -/
def slotsFitsSpec : ChangeSpec := { name := "slotsFits", fn := fun _ => fun
  | [d1, d2, d3] => { results := [.lit (.bool true)], args := [d1, d2, d3] }
  | _ => none }
def slotsFitsRow : OpenClaim := { program := "ythddiijnomhpfaa", sum := "b69ab530bfa6449a03c7d455181e46145f35a5a88e8ce9ca2d1b50a4dbe3ef5b", func := "chrysalis/chrysalislaw06.SlotsFits", spec := "slotsFits", inPlace := ["internal/abi.NoEscape"], apart := false }
def SlotsFitsSaid : Prop := slotsFitsRow.holds Try.pinned (OpenSpec.ofChange slotsFitsSpec)

/-- ITS FALSE NEIGHBOUR: 'it returns false'. Refute it at one input. -/
def slotsFitsWrong : ChangeSpec := { name := "slotsFits", fn := fun _ => fun
  | [d1, d2, d3] => { results := [.lit (.bool false)], args := [d1, d2, d3] }
  | _ => none }
def SlotsFitsWrongFalsely : Prop := slotsFitsRow.holds Try.pinned (OpenSpec.ofChange slotsFitsWrong)

/-- 'chrysalislaw06.SlotsNil': WHATEVER THE INPUT: true; the input reads as it did. -/
def slotsNilSpec : ChangeSpec := { name := "slotsNil", fn := fun _ => fun
  | [d1, d2] => { results := [.lit (.bool true)], args := [d1, d2] }
  | _ => none }
def slotsNilRow : OpenClaim := { program := "ythddiijnomhpfaa", sum := "b69ab530bfa6449a03c7d455181e46145f35a5a88e8ce9ca2d1b50a4dbe3ef5b", func := "chrysalis/chrysalislaw06.SlotsNil", spec := "slotsNil", inPlace := ["internal/abi.NoEscape"], apart := false }
def SlotsNilSaid : Prop := slotsNilRow.holds Try.pinned (OpenSpec.ofChange slotsNilSpec)

/-- ITS FALSE NEIGHBOUR: 'it returns false'. Refute it at one input. -/
def slotsNilWrong : ChangeSpec := { name := "slotsNil", fn := fun _ => fun
  | [d1, d2] => { results := [.lit (.bool false)], args := [d1, d2] }
  | _ => none }
def SlotsNilWrongFalsely : Prop := slotsNilRow.holds Try.pinned (OpenSpec.ofChange slotsNilWrong)

/-- 'chrysalislaw06.SlotsApart': WHATEVER THE INPUT: true; the input reads as it did. -/
def slotsApartSpec : ChangeSpec := { name := "slotsApart", fn := fun _ => fun
  | [d1, d2, d3] => { results := [.lit (.bool true)], args := [d1, d2, d3] }
  | _ => none }
def slotsApartRow : OpenClaim := { program := "ythddiijnomhpfaa", sum := "b69ab530bfa6449a03c7d455181e46145f35a5a88e8ce9ca2d1b50a4dbe3ef5b", func := "chrysalis/chrysalislaw06.SlotsApart", spec := "slotsApart", inPlace := ["internal/abi.NoEscape"], apart := false }
def SlotsApartSaid : Prop := slotsApartRow.holds Try.pinned (OpenSpec.ofChange slotsApartSpec)

/-- ITS FALSE NEIGHBOUR: 'it returns false'. Refute it at one input. -/
def slotsApartWrong : ChangeSpec := { name := "slotsApart", fn := fun _ => fun
  | [d1, d2, d3] => { results := [.lit (.bool false)], args := [d1, d2, d3] }
  | _ => none }
def SlotsApartWrongFalsely : Prop := slotsApartRow.holds Try.pinned (OpenSpec.ofChange slotsApartWrong)

/- THE SECOND FORM. 'bulk': how many values and letters a reading holds, each counted each time it is reached (what is shared counts as often as it is met; a slice's spare places count too). A statement '..UptoSaid' is the law's where the arguments, and the package variables that the reading takes, are together of bulk at most 1048576: NARROWER than '..Said'. Prove '..Said' where nothing that the law and all that it calls make is longer than what came in: it says more and counts as full. Else prove '..UptoSaid'. A law counts once. -/
mutual
def uptoBulk {H : Type} : DataW H → Nat
  | .lit (.string bytes) => bytes.length + 1
  | .lit _ => 1
  | .nil => 1
  | .ptr d => uptoBulk d + 1
  | .slice elems spare => uptoBulkAll elems + uptoBulkAll spare + 1
  | .agg parts => uptoBulkAll parts + 1
  | .iface _ d => uptoBulk d + 1
  | .map entries => uptoBulkEntries entries + 1
  | .held _ => 1
def uptoBulkAll {H : Type} : List (DataW H) → Nat
  | [] => 0
  | d :: r => uptoBulk d + uptoBulkAll r
def uptoBulkEntries {H : Type} : List (Lit × DataW H) → Nat
  | [] => 0
  | x :: r => uptoBulkEntry x + uptoBulkEntries r
def uptoBulkEntry {H : Type} : Lit × DataW H → Nat
  | (.string bytes, d) => bytes.length + uptoBulk d + 1
  | (_, d) => uptoBulk d + 1
 end
def uptoSmall : (H : Type) → List (DataW H) → Bool := fun _ ds => decide (uptoBulkAll ds ≤ 1048576)
def OpenSpec.upto (s : _root_.Go.ChangeSpec) : _root_.Go.OpenSpec := { _root_.Go.OpenSpec.ofChange s with cond := some uptoSmall }

/-- 'chrysalislaw06.SlotsPlays', WHERE WHAT IT READS IS OF BULK AT MOST 1048576: true; the input reads as it did. -/
def slotsPlaysUptoRow : OpenClaim := { program := "ythddiijnomhpfaa", sum := "b69ab530bfa6449a03c7d455181e46145f35a5a88e8ce9ca2d1b50a4dbe3ef5b", func := "chrysalis/chrysalislaw06.SlotsPlays", spec := "slotsPlays", inPlace := ["internal/abi.NoEscape"], apart := false, narrowed := true }
def SlotsPlaysUptoSaid : Prop := slotsPlaysUptoRow.holds Try.pinned (OpenSpec.upto slotsPlaysSpec)

/-- 'chrysalislaw06.SlotsLasts', WHERE WHAT IT READS IS OF BULK AT MOST 1048576: true; the input reads as it did. -/
def slotsLastsUptoRow : OpenClaim := { program := "ythddiijnomhpfaa", sum := "b69ab530bfa6449a03c7d455181e46145f35a5a88e8ce9ca2d1b50a4dbe3ef5b", func := "chrysalis/chrysalislaw06.SlotsLasts", spec := "slotsLasts", inPlace := ["internal/abi.NoEscape"], apart := false, narrowed := true }
def SlotsLastsUptoSaid : Prop := slotsLastsUptoRow.holds Try.pinned (OpenSpec.upto slotsLastsSpec)

/-- 'chrysalislaw06.SlotsFits', WHERE WHAT IT READS IS OF BULK AT MOST 1048576: true; the input reads as it did. -/
def slotsFitsUptoRow : OpenClaim := { program := "ythddiijnomhpfaa", sum := "b69ab530bfa6449a03c7d455181e46145f35a5a88e8ce9ca2d1b50a4dbe3ef5b", func := "chrysalis/chrysalislaw06.SlotsFits", spec := "slotsFits", inPlace := ["internal/abi.NoEscape"], apart := false, narrowed := true }
def SlotsFitsUptoSaid : Prop := slotsFitsUptoRow.holds Try.pinned (OpenSpec.upto slotsFitsSpec)

/-- 'chrysalislaw06.SlotsNil', WHERE WHAT IT READS IS OF BULK AT MOST 1048576: true; the input reads as it did. -/
def slotsNilUptoRow : OpenClaim := { program := "ythddiijnomhpfaa", sum := "b69ab530bfa6449a03c7d455181e46145f35a5a88e8ce9ca2d1b50a4dbe3ef5b", func := "chrysalis/chrysalislaw06.SlotsNil", spec := "slotsNil", inPlace := ["internal/abi.NoEscape"], apart := false, narrowed := true }
def SlotsNilUptoSaid : Prop := slotsNilUptoRow.holds Try.pinned (OpenSpec.upto slotsNilSpec)

/-- 'chrysalislaw06.SlotsApart', WHERE WHAT IT READS IS OF BULK AT MOST 1048576: true; the input reads as it did. -/
def slotsApartUptoRow : OpenClaim := { program := "ythddiijnomhpfaa", sum := "b69ab530bfa6449a03c7d455181e46145f35a5a88e8ce9ca2d1b50a4dbe3ef5b", func := "chrysalis/chrysalislaw06.SlotsApart", spec := "slotsApart", inPlace := ["internal/abi.NoEscape"], apart := false, narrowed := true }
def SlotsApartUptoSaid : Prop := slotsApartUptoRow.holds Try.pinned (OpenSpec.upto slotsApartSpec)

end Rows
end Go.Proofs.Ythddiijnomhpfaa
