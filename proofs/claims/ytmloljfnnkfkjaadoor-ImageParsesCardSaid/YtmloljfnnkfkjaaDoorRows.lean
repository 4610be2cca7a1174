/-
  NARROWER THAN 'FOR EVERY INPUT', by the rows' own cells (each row's printed sentence says how): ImageBuilds: laid · ImageParses: laid · ImageBack: laid · ImageOnly: laid · ImageOne: laid.
  DERIVED. THE GIVEN ROWS OF THIS SEAT. 5 by the template 'for every input the law returns true; each argument reads behind the call as it read before'; 0 by the template 'total and deterministic' (their statements: YtmloljfnnkfkjaaDoorTotals.lean).
  GIVEN WITH THE SEED: the statements are not yours to turn. If you find one false, say at which input.
  Laid BY PROGRAM, IN A SANDBOX (cutbox-rows.mjs): the forced cells as the released guide's own fill.sh prints them over the translation 9772785d0319315c… (all of the seat's roots in one cut). By AI agents, Wed Nov 11 2026. No macro, syntax, notation, axiom, sorry.
-/
import Derived.Test.YtmloljfnnkfkjaaDoorChecked
import GoSem.Claim
import GoSem.ClaimJoined
import GoSem.ClaimMapViews
import Derived.JoinedTies
import Derived.KernelRfl
namespace Go.Proofs.YtmloljfnnkfkjaaDoor
/- THE CELL 'sum', in the pinned program and in every row, IS THE sha256 OF THE DUMP (.gsa) THAT YtmloljfnnkfkjaaDoorProg.lean LOADS. Nothing in Lean hashes anything: it is a label: what it is worth is what the hold of that sum in a sandbox is worth. -/
noncomputable def Tryd.pinned : Pinned := { name := "ytmloljfnnkfkjaadoor", sum := "9772785d0319315cd2747e2a673e238c8da1b493df84c2efc5612d713afbea96", checked := Tryd.checked }
namespace Rows
def none {H : Type} : Left H := { results := [], args := [] }

/- WHAT THE LISTED PACKAGE-LEVEL VARIABLES READ AS WHEN THE CALL BEGINS. Each datum BY PROGRAM (the guide's laid-datum.mjs) off the statement by which the dump's own 'gosem.cut.vars' lays the variable. In a bare row this is a premise. The card (YtmloljfnnkfkjaaDoorCards.lean) ties it to the program's text. -/
def laid_chrysalis_inst_formats {H : Type} : DataW H := .agg [.agg [.lit (.string [116, 105, 99, 107]), .lit (.string [110, 45, 45])], .agg [.lit (.string [110, 105, 108]), .lit (.string [114, 45, 45])], .agg [.lit (.string [99, 111, 110, 115, 116]), .lit (.string [114, 119])], .agg [.lit (.string [109, 111, 118, 101]), .lit (.string [114, 114, 45])], .agg [.lit (.string [98, 111, 120]), .lit (.string [114, 45, 45])], .agg [.lit (.string [103, 101, 116]), .lit (.string [114, 114, 45])], .agg [.lit (.string [115, 101, 116]), .lit (.string [114, 114, 45])], .agg [.lit (.string [117, 112]), .lit (.string [114, 117, 45])], .agg [.lit (.string [117, 112, 115, 101, 116]), .lit (.string [117, 114, 45])], .agg [.lit (.string [97, 100, 100]), .lit (.string [114, 114, 114])], .agg [.lit (.string [115, 117, 98]), .lit (.string [114, 114, 114])], .agg [.lit (.string [109, 117, 108]), .lit (.string [114, 114, 114])], .agg [.lit (.string [100, 105, 118]), .lit (.string [114, 114, 114])], .agg [.lit (.string [114, 101, 109]), .lit (.string [114, 114, 114])], .agg [.lit (.string [99, 97, 116]), .lit (.string [114, 114, 114])], .agg [.lit (.string [101, 113]), .lit (.string [114, 114, 114])], .agg [.lit (.string [110, 101]), .lit (.string [114, 114, 114])], .agg [.lit (.string [108, 116]), .lit (.string [114, 114, 114])], .agg [.lit (.string [108, 101]), .lit (.string [114, 114, 114])], .agg [.lit (.string [110, 101, 103]), .lit (.string [114, 114, 45])], .agg [.lit (.string [110, 111, 116]), .lit (.string [114, 114, 45])], .agg [.lit (.string [108, 101, 110]), .lit (.string [114, 114, 45])], .agg [.lit (.string [116, 97, 98, 108, 101]), .lit (.string [114, 45, 45])], .agg [.lit (.string [105, 110, 100, 101, 120]), .lit (.string [114, 114, 114])], .agg [.lit (.string [115, 116, 111, 114, 101]), .lit (.string [114, 114, 114])], .agg [.lit (.string [106, 117, 109, 112]), .lit (.string [45, 119])], .agg [.lit (.string [102, 97, 108, 115, 101]), .lit (.string [114, 119])], .agg [.lit (.string [116, 114, 117, 101]), .lit (.string [114, 119])], .agg [.lit (.string [102, 110]), .lit (.string [114, 119])], .agg [.lit (.string [99, 97, 108, 108]), .lit (.string [114, 114, 110])], .agg [.lit (.string [111, 119, 110]), .lit (.string [114, 114, 110])], .agg [.lit (.string [117, 115, 101]), .lit (.string [114, 114, 110])], .agg [.lit (.string [115, 112, 97, 119, 110]), .lit (.string [114, 114, 45])], .agg [.lit (.string [115, 116, 97, 116, 101]), .lit (.string [114, 45, 45])], .agg [.lit (.string [112, 117, 116]), .lit (.string [114, 45, 45])], .agg [.lit (.string [101, 109, 105, 116]), .lit (.string [114, 45, 45])], .agg [.lit (.string [121, 105, 101, 108, 100]), .lit (.string [110, 45, 45])], .agg [.lit (.string [114, 101, 116, 117, 114, 110]), .lit (.string [114, 45, 45])]]

/-- 'chrysalislaw14.ImageBuilds': WHATEVER THE INPUT: true; the input reads as it did. -/
def imageBuildsSpec : ChangeSpec := { name := "imageBuilds", fn := fun _ => fun
  | [d] => { results := [.lit (.bool true)], args := [d] }
  | _ => none }
def imageBuildsRow : OpenClaim := { program := "ytmloljfnnkfkjaadoor", sum := "9772785d0319315cd2747e2a673e238c8da1b493df84c2efc5612d713afbea96", func := "chrysalis/chrysalislaw14.ImageBuilds", spec := "imageBuilds", inPlace := ["internal/abi.NoEscape"], unfollowed := true, recurses := true, named := ["chrysalis/inst.formats"], apart := false, laid := [("chrysalis/inst.formats", laid_chrysalis_inst_formats)] }
def ImageBuildsSaid : Prop := imageBuildsRow.holds Tryd.pinned (OpenSpec.ofChange imageBuildsSpec)

/-- ITS FALSE NEIGHBOUR: 'it returns false'. Refute it at one input. -/
def imageBuildsWrong : ChangeSpec := { name := "imageBuilds", fn := fun _ => fun
  | [d] => { results := [.lit (.bool false)], args := [d] }
  | _ => none }
def ImageBuildsWrongFalsely : Prop := imageBuildsRow.holds Tryd.pinned (OpenSpec.ofChange imageBuildsWrong)

/-- 'chrysalislaw14.ImageParses': WHATEVER THE INPUT: true; the input reads as it did. -/
def imageParsesSpec : ChangeSpec := { name := "imageParses", fn := fun _ => fun
  | [d] => { results := [.lit (.bool true)], args := [d] }
  | _ => none }
def imageParsesRow : OpenClaim := { program := "ytmloljfnnkfkjaadoor", sum := "9772785d0319315cd2747e2a673e238c8da1b493df84c2efc5612d713afbea96", func := "chrysalis/chrysalislaw14.ImageParses", spec := "imageParses", inPlace := ["internal/abi.NoEscape"], unfollowed := true, recurses := true, named := ["chrysalis/inst.formats"], apart := false, laid := [("chrysalis/inst.formats", laid_chrysalis_inst_formats)] }
def ImageParsesSaid : Prop := imageParsesRow.holds Tryd.pinned (OpenSpec.ofChange imageParsesSpec)

/-- ITS FALSE NEIGHBOUR: 'it returns false'. Refute it at one input. -/
def imageParsesWrong : ChangeSpec := { name := "imageParses", fn := fun _ => fun
  | [d] => { results := [.lit (.bool false)], args := [d] }
  | _ => none }
def ImageParsesWrongFalsely : Prop := imageParsesRow.holds Tryd.pinned (OpenSpec.ofChange imageParsesWrong)

/-- 'chrysalislaw14.ImageBack': WHATEVER THE INPUT: true; the input reads as it did. -/
def imageBackSpec : ChangeSpec := { name := "imageBack", fn := fun _ => fun
  | [d1, d2, d3] => { results := [.lit (.bool true)], args := [d1, d2, d3] }
  | _ => none }
def imageBackRow : OpenClaim := { program := "ytmloljfnnkfkjaadoor", sum := "9772785d0319315cd2747e2a673e238c8da1b493df84c2efc5612d713afbea96", func := "chrysalis/chrysalislaw14.ImageBack", spec := "imageBack", inPlace := ["internal/abi.NoEscape"], unfollowed := true, recurses := true, named := ["chrysalis/inst.formats"], apart := false, laid := [("chrysalis/inst.formats", laid_chrysalis_inst_formats)] }
def ImageBackSaid : Prop := imageBackRow.holds Tryd.pinned (OpenSpec.ofChange imageBackSpec)

/-- ITS FALSE NEIGHBOUR: 'it returns false'. Refute it at one input. -/
def imageBackWrong : ChangeSpec := { name := "imageBack", fn := fun _ => fun
  | [d1, d2, d3] => { results := [.lit (.bool false)], args := [d1, d2, d3] }
  | _ => none }
def ImageBackWrongFalsely : Prop := imageBackRow.holds Tryd.pinned (OpenSpec.ofChange imageBackWrong)

/-- 'chrysalislaw14.ImageOnly': WHATEVER THE INPUT: true; the input reads as it did. -/
def imageOnlySpec : ChangeSpec := { name := "imageOnly", fn := fun _ => fun
  | [d] => { results := [.lit (.bool true)], args := [d] }
  | _ => none }
def imageOnlyRow : OpenClaim := { program := "ytmloljfnnkfkjaadoor", sum := "9772785d0319315cd2747e2a673e238c8da1b493df84c2efc5612d713afbea96", func := "chrysalis/chrysalislaw14.ImageOnly", spec := "imageOnly", inPlace := ["internal/abi.NoEscape"], unfollowed := true, recurses := true, named := ["chrysalis/inst.formats"], apart := false, laid := [("chrysalis/inst.formats", laid_chrysalis_inst_formats)] }
def ImageOnlySaid : Prop := imageOnlyRow.holds Tryd.pinned (OpenSpec.ofChange imageOnlySpec)

/-- ITS FALSE NEIGHBOUR: 'it returns false'. Refute it at one input. -/
def imageOnlyWrong : ChangeSpec := { name := "imageOnly", fn := fun _ => fun
  | [d] => { results := [.lit (.bool false)], args := [d] }
  | _ => none }
def ImageOnlyWrongFalsely : Prop := imageOnlyRow.holds Tryd.pinned (OpenSpec.ofChange imageOnlyWrong)

/-- 'chrysalislaw14.ImageOne': WHATEVER THE INPUT: true; the input reads as it did. -/
def imageOneSpec : ChangeSpec := { name := "imageOne", fn := fun _ => fun
  | [d1, d2] => { results := [.lit (.bool true)], args := [d1, d2] }
  | _ => none }
def imageOneRow : OpenClaim := { program := "ytmloljfnnkfkjaadoor", sum := "9772785d0319315cd2747e2a673e238c8da1b493df84c2efc5612d713afbea96", func := "chrysalis/chrysalislaw14.ImageOne", spec := "imageOne", inPlace := ["internal/abi.NoEscape"], unfollowed := true, recurses := true, named := ["chrysalis/inst.formats"], apart := false, laid := [("chrysalis/inst.formats", laid_chrysalis_inst_formats)] }
def ImageOneSaid : Prop := imageOneRow.holds Tryd.pinned (OpenSpec.ofChange imageOneSpec)

/-- ITS FALSE NEIGHBOUR: 'it returns false'. Refute it at one input. -/
def imageOneWrong : ChangeSpec := { name := "imageOne", fn := fun _ => fun
  | [d1, d2] => { results := [.lit (.bool false)], args := [d1, d2] }
  | _ => none }
def ImageOneWrongFalsely : Prop := imageOneRow.holds Tryd.pinned (OpenSpec.ofChange imageOneWrong)

/- THE SECOND FORM. 'bulk': how many values and letters a reading holds, each counted each time it is reached (what is shared counts as often as it is met; a slice's spare places count too). A statement '..UptoSaid' is the law's where the arguments, and the package variables that the reading takes, are together of bulk at most 1048576: NARROWER than '..Said'. Prove '..Said' where nothing that the law and all that it calls make is longer than what came in: it says more and counts as full. Else prove '..UptoSaid'. A law counts once. -/
mutual
def uptoBulk {H : Type} : DataW H → Nat
  | .lit (.string bytes) => bytes.length + 1
  | .lit _ => 1
  | .nil => 1
  | .ptr d => uptoBulk d + 1
  | .slice elems spare => uptoBulkAll elems + uptoBulkAll spare + 1
  | .agg parts => uptoBulkAll parts + 1
  | .iface _ d => uptoBulk d + 1
  | .map entries => uptoBulkEntries entries + 1
  | .held _ => 1
def uptoBulkAll {H : Type} : List (DataW H) → Nat
  | [] => 0
  | d :: r => uptoBulk d + uptoBulkAll r
def uptoBulkEntries {H : Type} : List (Lit × DataW H) → Nat
  | [] => 0
  | x :: r => uptoBulkEntry x + uptoBulkEntries r
def uptoBulkEntry {H : Type} : Lit × DataW H → Nat
  | (.string bytes, d) => bytes.length + uptoBulk d + 1
  | (_, d) => uptoBulk d + 1
 end
def uptoSmall : (H : Type) → List (DataW H) → Bool := fun _ ds => decide (uptoBulkAll ds ≤ 1048576)
def OpenSpec.upto (s : _root_.Go.ChangeSpec) : _root_.Go.OpenSpec := { _root_.Go.OpenSpec.ofChange s with cond := some uptoSmall }

/-- 'chrysalislaw14.ImageBuilds', WHERE WHAT IT READS IS OF BULK AT MOST 1048576: true; the input reads as it did. -/
def imageBuildsUptoRow : OpenClaim := { program := "ytmloljfnnkfkjaadoor", sum := "9772785d0319315cd2747e2a673e238c8da1b493df84c2efc5612d713afbea96", func := "chrysalis/chrysalislaw14.ImageBuilds", spec := "imageBuilds", inPlace := ["internal/abi.NoEscape"], unfollowed := true, recurses := true, named := ["chrysalis/inst.formats"], apart := false, laid := [("chrysalis/inst.formats", laid_chrysalis_inst_formats)], narrowed := true }
def ImageBuildsUptoSaid : Prop := imageBuildsUptoRow.holds Tryd.pinned (OpenSpec.upto imageBuildsSpec)

/-- 'chrysalislaw14.ImageParses', WHERE WHAT IT READS IS OF BULK AT MOST 1048576: true; the input reads as it did. -/
def imageParsesUptoRow : OpenClaim := { program := "ytmloljfnnkfkjaadoor", sum := "9772785d0319315cd2747e2a673e238c8da1b493df84c2efc5612d713afbea96", func := "chrysalis/chrysalislaw14.ImageParses", spec := "imageParses", inPlace := ["internal/abi.NoEscape"], unfollowed := true, recurses := true, named := ["chrysalis/inst.formats"], apart := false, laid := [("chrysalis/inst.formats", laid_chrysalis_inst_formats)], narrowed := true }
def ImageParsesUptoSaid : Prop := imageParsesUptoRow.holds Tryd.pinned (OpenSpec.upto imageParsesSpec)

/-- 'chrysalislaw14.ImageBack', WHERE WHAT IT READS IS OF BULK AT MOST 1048576: true; the input reads as it did. -/
def imageBackUptoRow : OpenClaim := { program := "ytmloljfnnkfkjaadoor", sum := "9772785d0319315cd2747e2a673e238c8da1b493df84c2efc5612d713afbea96", func := "chrysalis/chrysalislaw14.ImageBack", spec := "imageBack", inPlace := ["internal/abi.NoEscape"], unfollowed := true, recurses := true, named := ["chrysalis/inst.formats"], apart := false, laid := [("chrysalis/inst.formats", laid_chrysalis_inst_formats)], narrowed := true }
def ImageBackUptoSaid : Prop := imageBackUptoRow.holds Tryd.pinned (OpenSpec.upto imageBackSpec)

/-- 'chrysalislaw14.ImageOnly', WHERE WHAT IT READS IS OF BULK AT MOST 1048576: true; the input reads as it did. -/
def imageOnlyUptoRow : OpenClaim := { program := "ytmloljfnnkfkjaadoor", sum := "9772785d0319315cd2747e2a673e238c8da1b493df84c2efc5612d713afbea96", func := "chrysalis/chrysalislaw14.ImageOnly", spec := "imageOnly", inPlace := ["internal/abi.NoEscape"], unfollowed := true, recurses := true, named := ["chrysalis/inst.formats"], apart := false, laid := [("chrysalis/inst.formats", laid_chrysalis_inst_formats)], narrowed := true }
def ImageOnlyUptoSaid : Prop := imageOnlyUptoRow.holds Tryd.pinned (OpenSpec.upto imageOnlySpec)

/-- 'chrysalislaw14.ImageOne', WHERE WHAT IT READS IS OF BULK AT MOST 1048576: true; the input reads as it did. -/
def imageOneUptoRow : OpenClaim := { program := "ytmloljfnnkfkjaadoor", sum := "9772785d0319315cd2747e2a673e238c8da1b493df84c2efc5612d713afbea96", func := "chrysalis/chrysalislaw14.ImageOne", spec := "imageOne", inPlace := ["internal/abi.NoEscape"], unfollowed := true, recurses := true, named := ["chrysalis/inst.formats"], apart := false, laid := [("chrysalis/inst.formats", laid_chrysalis_inst_formats)], narrowed := true }
def ImageOneUptoSaid : Prop := imageOneUptoRow.holds Tryd.pinned (OpenSpec.upto imageOneSpec)

end Rows
end Go.Proofs.YtmloljfnnkfkjaaDoor
