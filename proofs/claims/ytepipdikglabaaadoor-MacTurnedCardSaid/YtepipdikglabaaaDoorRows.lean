/-
  NARROWER THAN 'FOR EVERY INPUT', by the rows' own cells (each row's printed sentence says how): DigestNil: laid · MacOf: laid · MacRight: laid · MacTurned: laid · MacKeys: laid · MacForm: laid.
  DERIVED. THE GIVEN ROWS OF THIS SEAT. 6 by the template 'for every input the law returns true; each argument reads behind the call as it read before'; 0 by the template 'total and deterministic' (their statements: YtepipdikglabaaaDoorTotals.lean).
  GIVEN WITH THE SEED: the statements are not yours to turn. If you find one false, say at which input.
  Laid BY PROGRAM, IN A SANDBOX (cutbox-rows.mjs): the forced cells as the released guide's own fill.sh prints them over the translation 1343204c20783486… (all of the seat's roots in one cut). By AI agents, Wed Nov 11 2026. No macro, syntax, notation, axiom, sorry.
-/
import Derived.Test.YtepipdikglabaaaDoorChecked
import GoSem.Claim
import GoSem.ClaimJoined
import GoSem.ClaimMapViews
import Derived.JoinedTies
import Derived.KernelRfl
namespace Go.Proofs.YtepipdikglabaaaDoor
/- THE CELL 'sum', in the pinned program and in every row, IS THE sha256 OF THE DUMP (.gsa) THAT YtepipdikglabaaaDoorProg.lean LOADS. Nothing in Lean hashes anything: it is a label: what it is worth is what the hold of that sum in a sandbox is worth. -/
noncomputable def Tryd.pinned : Pinned := { name := "ytepipdikglabaaadoor", sum := "1343204c207834866613235b7f3320ca34a06cf94910b6116a063ed0e111d8ef", checked := Tryd.checked }
namespace Rows
def none {H : Type} : Left H := { results := [], args := [] }

/- WHAT THE LISTED PACKAGE-LEVEL VARIABLES READ AS WHEN THE CALL BEGINS. Each datum BY PROGRAM (the guide's laid-datum.mjs) off the statement by which the dump's own 'gosem.cut.vars' lays the variable. In a bare row this is a premise. The card (YtepipdikglabaaaDoorCards.lean) ties it to the program's text. -/
def laid_chrysalis_digest_constants {H : Type} : DataW H := .agg [.lit (.int .u32 1116352408), .lit (.int .u32 1899447441), .lit (.int .u32 3049323471), .lit (.int .u32 3921009573), .lit (.int .u32 961987163), .lit (.int .u32 1508970993), .lit (.int .u32 2453635748), .lit (.int .u32 2870763221), .lit (.int .u32 3624381080), .lit (.int .u32 310598401), .lit (.int .u32 607225278), .lit (.int .u32 1426881987), .lit (.int .u32 1925078388), .lit (.int .u32 2162078206), .lit (.int .u32 2614888103), .lit (.int .u32 3248222580), .lit (.int .u32 3835390401), .lit (.int .u32 4022224774), .lit (.int .u32 264347078), .lit (.int .u32 604807628), .lit (.int .u32 770255983), .lit (.int .u32 1249150122), .lit (.int .u32 1555081692), .lit (.int .u32 1996064986), .lit (.int .u32 2554220882), .lit (.int .u32 2821834349), .lit (.int .u32 2952996808), .lit (.int .u32 3210313671), .lit (.int .u32 3336571891), .lit (.int .u32 3584528711), .lit (.int .u32 113926993), .lit (.int .u32 338241895), .lit (.int .u32 666307205), .lit (.int .u32 773529912), .lit (.int .u32 1294757372), .lit (.int .u32 1396182291), .lit (.int .u32 1695183700), .lit (.int .u32 1986661051), .lit (.int .u32 2177026350), .lit (.int .u32 2456956037), .lit (.int .u32 2730485921), .lit (.int .u32 2820302411), .lit (.int .u32 3259730800), .lit (.int .u32 3345764771), .lit (.int .u32 3516065817), .lit (.int .u32 3600352804), .lit (.int .u32 4094571909), .lit (.int .u32 275423344), .lit (.int .u32 430227734), .lit (.int .u32 506948616), .lit (.int .u32 659060556), .lit (.int .u32 883997877), .lit (.int .u32 958139571), .lit (.int .u32 1322822218), .lit (.int .u32 1537002063), .lit (.int .u32 1747873779), .lit (.int .u32 1955562222), .lit (.int .u32 2024104815), .lit (.int .u32 2227730452), .lit (.int .u32 2361852424), .lit (.int .u32 2428436474), .lit (.int .u32 2756734187), .lit (.int .u32 3204031479), .lit (.int .u32 3329325298)]

/-- 'chrysalislaw02.DigestNil': WHATEVER THE INPUT: true; the input reads as it did. -/
def digestNilSpec : ChangeSpec := { name := "digestNil", fn := fun _ => fun
  | [d] => { results := [.lit (.bool true)], args := [d] }
  | _ => none }
def digestNilRow : OpenClaim := { program := "ytepipdikglabaaadoor", sum := "1343204c207834866613235b7f3320ca34a06cf94910b6116a063ed0e111d8ef", func := "chrysalis/chrysalislaw02.DigestNil", spec := "digestNil", named := ["chrysalis/digest.constants"], apart := false, laid := [("chrysalis/digest.constants", laid_chrysalis_digest_constants)] }
def DigestNilSaid : Prop := digestNilRow.holds Tryd.pinned (OpenSpec.ofChange digestNilSpec)

/-- ITS FALSE NEIGHBOUR: 'it returns false'. Refute it at one input. -/
def digestNilWrong : ChangeSpec := { name := "digestNil", fn := fun _ => fun
  | [d] => { results := [.lit (.bool false)], args := [d] }
  | _ => none }
def DigestNilWrongFalsely : Prop := digestNilRow.holds Tryd.pinned (OpenSpec.ofChange digestNilWrong)

/-- 'chrysalislaw03.MacOf': WHATEVER THE INPUT: true; the input reads as it did. -/
def macOfSpec : ChangeSpec := { name := "macOf", fn := fun _ => fun
  | [d1, d2] => { results := [.lit (.bool true)], args := [d1, d2] }
  | _ => none }
def macOfRow : OpenClaim := { program := "ytepipdikglabaaadoor", sum := "1343204c207834866613235b7f3320ca34a06cf94910b6116a063ed0e111d8ef", func := "chrysalis/chrysalislaw03.MacOf", spec := "macOf", unfollowed := true, recurses := true, named := ["chrysalis/digest.constants"], apart := false, laid := [("chrysalis/digest.constants", laid_chrysalis_digest_constants)] }
def MacOfSaid : Prop := macOfRow.holds Tryd.pinned (OpenSpec.ofChange macOfSpec)

/-- ITS FALSE NEIGHBOUR: 'it returns false'. Refute it at one input. -/
def macOfWrong : ChangeSpec := { name := "macOf", fn := fun _ => fun
  | [d1, d2] => { results := [.lit (.bool false)], args := [d1, d2] }
  | _ => none }
def MacOfWrongFalsely : Prop := macOfRow.holds Tryd.pinned (OpenSpec.ofChange macOfWrong)

/-- 'chrysalislaw03.MacRight': WHATEVER THE INPUT: true; the input reads as it did. -/
def macRightSpec : ChangeSpec := { name := "macRight", fn := fun _ => fun
  | [d1, d2, d3] => { results := [.lit (.bool true)], args := [d1, d2, d3] }
  | _ => none }
def macRightRow : OpenClaim := { program := "ytepipdikglabaaadoor", sum := "1343204c207834866613235b7f3320ca34a06cf94910b6116a063ed0e111d8ef", func := "chrysalis/chrysalislaw03.MacRight", spec := "macRight", unfollowed := true, recurses := true, named := ["chrysalis/digest.constants"], apart := false, laid := [("chrysalis/digest.constants", laid_chrysalis_digest_constants)] }
def MacRightSaid : Prop := macRightRow.holds Tryd.pinned (OpenSpec.ofChange macRightSpec)

/-- ITS FALSE NEIGHBOUR: 'it returns false'. Refute it at one input. -/
def macRightWrong : ChangeSpec := { name := "macRight", fn := fun _ => fun
  | [d1, d2, d3] => { results := [.lit (.bool false)], args := [d1, d2, d3] }
  | _ => none }
def MacRightWrongFalsely : Prop := macRightRow.holds Tryd.pinned (OpenSpec.ofChange macRightWrong)

/-- 'chrysalislaw03.MacTurned': WHATEVER THE INPUT: true; the input reads as it did. -/
def macTurnedSpec : ChangeSpec := { name := "macTurned", fn := fun _ => fun
  | [d] => { results := [.lit (.bool true)], args := [d] }
  | _ => none }
def macTurnedRow : OpenClaim := { program := "ytepipdikglabaaadoor", sum := "1343204c207834866613235b7f3320ca34a06cf94910b6116a063ed0e111d8ef", func := "chrysalis/chrysalislaw03.MacTurned", spec := "macTurned", unfollowed := true, recurses := true, named := ["chrysalis/digest.constants"], apart := false, laid := [("chrysalis/digest.constants", laid_chrysalis_digest_constants)] }
def MacTurnedSaid : Prop := macTurnedRow.holds Tryd.pinned (OpenSpec.ofChange macTurnedSpec)

/-- ITS FALSE NEIGHBOUR: 'it returns false'. Refute it at one input. -/
def macTurnedWrong : ChangeSpec := { name := "macTurned", fn := fun _ => fun
  | [d] => { results := [.lit (.bool false)], args := [d] }
  | _ => none }
def MacTurnedWrongFalsely : Prop := macTurnedRow.holds Tryd.pinned (OpenSpec.ofChange macTurnedWrong)

/-- 'chrysalislaw03.MacKeys': WHATEVER THE INPUT: true; the input reads as it did. -/
def macKeysSpec : ChangeSpec := { name := "macKeys", fn := fun _ => fun
  | [d1, d2, d3] => { results := [.lit (.bool true)], args := [d1, d2, d3] }
  | _ => none }
def macKeysRow : OpenClaim := { program := "ytepipdikglabaaadoor", sum := "1343204c207834866613235b7f3320ca34a06cf94910b6116a063ed0e111d8ef", func := "chrysalis/chrysalislaw03.MacKeys", spec := "macKeys", unfollowed := true, recurses := true, named := ["chrysalis/digest.constants"], apart := false, laid := [("chrysalis/digest.constants", laid_chrysalis_digest_constants)] }
def MacKeysSaid : Prop := macKeysRow.holds Tryd.pinned (OpenSpec.ofChange macKeysSpec)

/-- ITS FALSE NEIGHBOUR: 'it returns false'. Refute it at one input. -/
def macKeysWrong : ChangeSpec := { name := "macKeys", fn := fun _ => fun
  | [d1, d2, d3] => { results := [.lit (.bool false)], args := [d1, d2, d3] }
  | _ => none }
def MacKeysWrongFalsely : Prop := macKeysRow.holds Tryd.pinned (OpenSpec.ofChange macKeysWrong)

/-- 'chrysalislaw03.MacForm': WHATEVER THE INPUT: true; the input reads as it did. -/
def macFormSpec : ChangeSpec := { name := "macForm", fn := fun _ => fun
  | [d1, d2] => { results := [.lit (.bool true)], args := [d1, d2] }
  | _ => none }
def macFormRow : OpenClaim := { program := "ytepipdikglabaaadoor", sum := "1343204c207834866613235b7f3320ca34a06cf94910b6116a063ed0e111d8ef", func := "chrysalis/chrysalislaw03.MacForm", spec := "macForm", unfollowed := true, recurses := true, named := ["chrysalis/digest.constants"], apart := false, laid := [("chrysalis/digest.constants", laid_chrysalis_digest_constants)] }
def MacFormSaid : Prop := macFormRow.holds Tryd.pinned (OpenSpec.ofChange macFormSpec)

/-- ITS FALSE NEIGHBOUR: 'it returns false'. Refute it at one input. -/
def macFormWrong : ChangeSpec := { name := "macForm", fn := fun _ => fun
  | [d1, d2] => { results := [.lit (.bool false)], args := [d1, d2] }
  | _ => none }
def MacFormWrongFalsely : Prop := macFormRow.holds Tryd.pinned (OpenSpec.ofChange macFormWrong)

/- THE SECOND FORM. 'bulk': how many values and letters a reading holds, each counted each time it is reached (what is shared counts as often as it is met; a slice's spare places count too). A statement '..UptoSaid' is the law's where the arguments, and the package variables that the reading takes, are together of bulk at most 1048576: NARROWER than '..Said'. Prove '..Said' where nothing that the law and all that it calls make is longer than what came in: it says more and counts as full. Else prove '..UptoSaid'. A law counts once. -/
mutual
def uptoBulk {H : Type} : DataW H → Nat
  | .lit (.string bytes) => bytes.length + 1
  | .lit _ => 1
  | .nil => 1
  | .ptr d => uptoBulk d + 1
  | .slice elems spare => uptoBulkAll elems + uptoBulkAll spare + 1
  | .agg parts => uptoBulkAll parts + 1
  | .iface _ d => uptoBulk d + 1
  | .map entries => uptoBulkEntries entries + 1
  | .held _ => 1
def uptoBulkAll {H : Type} : List (DataW H) → Nat
  | [] => 0
  | d :: r => uptoBulk d + uptoBulkAll r
def uptoBulkEntries {H : Type} : List (Lit × DataW H) → Nat
  | [] => 0
  | x :: r => uptoBulkEntry x + uptoBulkEntries r
def uptoBulkEntry {H : Type} : Lit × DataW H → Nat
  | (.string bytes, d) => bytes.length + uptoBulk d + 1
  | (_, d) => uptoBulk d + 1
 end
def uptoSmall : (H : Type) → List (DataW H) → Bool := fun _ ds => decide (uptoBulkAll ds ≤ 1048576)
def OpenSpec.upto (s : _root_.Go.ChangeSpec) : _root_.Go.OpenSpec := { _root_.Go.OpenSpec.ofChange s with cond := some uptoSmall }

/-- 'chrysalislaw02.DigestNil', WHERE WHAT IT READS IS OF BULK AT MOST 1048576: true; the input reads as it did. -/
def digestNilUptoRow : OpenClaim := { program := "ytepipdikglabaaadoor", sum := "1343204c207834866613235b7f3320ca34a06cf94910b6116a063ed0e111d8ef", func := "chrysalis/chrysalislaw02.DigestNil", spec := "digestNil", named := ["chrysalis/digest.constants"], apart := false, laid := [("chrysalis/digest.constants", laid_chrysalis_digest_constants)], narrowed := true }
def DigestNilUptoSaid : Prop := digestNilUptoRow.holds Tryd.pinned (OpenSpec.upto digestNilSpec)

/-- 'chrysalislaw03.MacOf', WHERE WHAT IT READS IS OF BULK AT MOST 1048576: true; the input reads as it did. -/
def macOfUptoRow : OpenClaim := { program := "ytepipdikglabaaadoor", sum := "1343204c207834866613235b7f3320ca34a06cf94910b6116a063ed0e111d8ef", func := "chrysalis/chrysalislaw03.MacOf", spec := "macOf", unfollowed := true, recurses := true, named := ["chrysalis/digest.constants"], apart := false, laid := [("chrysalis/digest.constants", laid_chrysalis_digest_constants)], narrowed := true }
def MacOfUptoSaid : Prop := macOfUptoRow.holds Tryd.pinned (OpenSpec.upto macOfSpec)

/-- 'chrysalislaw03.MacRight', WHERE WHAT IT READS IS OF BULK AT MOST 1048576: true; the input reads as it did. -/
def macRightUptoRow : OpenClaim := { program := "ytepipdikglabaaadoor", sum := "1343204c207834866613235b7f3320ca34a06cf94910b6116a063ed0e111d8ef", func := "chrysalis/chrysalislaw03.MacRight", spec := "macRight", unfollowed := true, recurses := true, named := ["chrysalis/digest.constants"], apart := false, laid := [("chrysalis/digest.constants", laid_chrysalis_digest_constants)], narrowed := true }
def MacRightUptoSaid : Prop := macRightUptoRow.holds Tryd.pinned (OpenSpec.upto macRightSpec)

/-- 'chrysalislaw03.MacTurned', WHERE WHAT IT READS IS OF BULK AT MOST 1048576: true; the input reads as it did. -/
def macTurnedUptoRow : OpenClaim := { program := "ytepipdikglabaaadoor", sum := "1343204c207834866613235b7f3320ca34a06cf94910b6116a063ed0e111d8ef", func := "chrysalis/chrysalislaw03.MacTurned", spec := "macTurned", unfollowed := true, recurses := true, named := ["chrysalis/digest.constants"], apart := false, laid := [("chrysalis/digest.constants", laid_chrysalis_digest_constants)], narrowed := true }
def MacTurnedUptoSaid : Prop := macTurnedUptoRow.holds Tryd.pinned (OpenSpec.upto macTurnedSpec)

/-- 'chrysalislaw03.MacKeys', WHERE WHAT IT READS IS OF BULK AT MOST 1048576: true; the input reads as it did. -/
def macKeysUptoRow : OpenClaim := { program := "ytepipdikglabaaadoor", sum := "1343204c207834866613235b7f3320ca34a06cf94910b6116a063ed0e111d8ef", func := "chrysalis/chrysalislaw03.MacKeys", spec := "macKeys", unfollowed := true, recurses := true, named := ["chrysalis/digest.constants"], apart := false, laid := [("chrysalis/digest.constants", laid_chrysalis_digest_constants)], narrowed := true }
def MacKeysUptoSaid : Prop := macKeysUptoRow.holds Tryd.pinned (OpenSpec.upto macKeysSpec)

/-- 'chrysalislaw03.MacForm', WHERE WHAT IT READS IS OF BULK AT MOST 1048576: true; the input reads as it did. -/
def macFormUptoRow : OpenClaim := { program := "ytepipdikglabaaadoor", sum := "1343204c207834866613235b7f3320ca34a06cf94910b6116a063ed0e111d8ef", func := "chrysalis/chrysalislaw03.MacForm", spec := "macForm", unfollowed := true, recurses := true, named := ["chrysalis/digest.constants"], apart := false, laid := [("chrysalis/digest.constants", laid_chrysalis_digest_constants)], narrowed := true }
def MacFormUptoSaid : Prop := macFormUptoRow.holds Tryd.pinned (OpenSpec.upto macFormSpec)

end Rows
end Go.Proofs.YtepipdikglabaaaDoor
