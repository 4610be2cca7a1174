/-
  NARROWER THAN 'FOR EVERY INPUT', by the rows' own cells (each row's printed sentence says how): InstBuilds: laid · InstParses: laid · InstBack: laid · InstShapes: laid · InstOps: laid.
  DERIVED. THE GIVEN ROWS OF THIS SEAT. 5 by the template 'for every input the law returns true; each argument reads behind the call as it read before'; 0 by the template 'total and deterministic' (their statements: YtmljjpdodcpohaaDoorTotals.lean).
  GIVEN WITH THE SEED: the statements are not yours to turn. If you find one false, say at which input.
  Laid BY PROGRAM, IN A SANDBOX (cutbox-rows.mjs): the forced cells as the released guide's own fill.sh prints them over the translation bfedf9d22bdf0649… (all of the seat's roots in one cut). By AI agents, Wed Nov 11 2026. No macro, syntax, notation, axiom, sorry.
-/
import Derived.Test.YtmljjpdodcpohaaDoorChecked
import GoSem.Claim
import GoSem.ClaimJoined
import GoSem.ClaimMapViews
import Derived.JoinedTies
import Derived.KernelRfl
namespace Go.Proofs.YtmljjpdodcpohaaDoor
/- THE CELL 'sum', in the pinned program and in every row, IS THE sha256 OF THE DUMP (.gsa) THAT YtmljjpdodcpohaaDoorProg.lean LOADS. Nothing in Lean hashes anything: it is a label: what it is worth is what the hold of that sum in a sandbox is worth. -/
noncomputable def Tryd.pinned : Pinned := { name := "ytmljjpdodcpohaadoor", sum := "bfedf9d22bdf06492c510fb7765db72496052685513faa952aba474357080a78", checked := Tryd.checked }
namespace Rows
def none {H : Type} : Left H := { results := [], args := [] }

/- WHAT THE LISTED PACKAGE-LEVEL VARIABLES READ AS WHEN THE CALL BEGINS. Each datum BY PROGRAM (the guide's laid-datum.mjs) off the statement by which the dump's own 'gosem.cut.vars' lays the variable. In a bare row this is a premise. The card (YtmljjpdodcpohaaDoorCards.lean) ties it to the program's text. -/
def laid_chrysalis_inst_formats {H : Type} : DataW H := .agg [.agg [.lit (.string [116, 105, 99, 107]), .lit (.string [110, 45, 45])], .agg [.lit (.string [110, 105, 108]), .lit (.string [114, 45, 45])], .agg [.lit (.string [99, 111, 110, 115, 116]), .lit (.string [114, 119])], .agg [.lit (.string [109, 111, 118, 101]), .lit (.string [114, 114, 45])], .agg [.lit (.string [98, 111, 120]), .lit (.string [114, 45, 45])], .agg [.lit (.string [103, 101, 116]), .lit (.string [114, 114, 45])], .agg [.lit (.string [115, 101, 116]), .lit (.string [114, 114, 45])], .agg [.lit (.string [117, 112]), .lit (.string [114, 117, 45])], .agg [.lit (.string [117, 112, 115, 101, 116]), .lit (.string [117, 114, 45])], .agg [.lit (.string [97, 100, 100]), .lit (.string [114, 114, 114])], .agg [.lit (.string [115, 117, 98]), .lit (.string [114, 114, 114])], .agg [.lit (.string [109, 117, 108]), .lit (.string [114, 114, 114])], .agg [.lit (.string [100, 105, 118]), .lit (.string [114, 114, 114])], .agg [.lit (.string [114, 101, 109]), .lit (.string [114, 114, 114])], .agg [.lit (.string [99, 97, 116]), .lit (.string [114, 114, 114])], .agg [.lit (.string [101, 113]), .lit (.string [114, 114, 114])], .agg [.lit (.string [110, 101]), .lit (.string [114, 114, 114])], .agg [.lit (.string [108, 116]), .lit (.string [114, 114, 114])], .agg [.lit (.string [108, 101]), .lit (.string [114, 114, 114])], .agg [.lit (.string [110, 101, 103]), .lit (.string [114, 114, 45])], .agg [.lit (.string [110, 111, 116]), .lit (.string [114, 114, 45])], .agg [.lit (.string [108, 101, 110]), .lit (.string [114, 114, 45])], .agg [.lit (.string [116, 97, 98, 108, 101]), .lit (.string [114, 45, 45])], .agg [.lit (.string [105, 110, 100, 101, 120]), .lit (.string [114, 114, 114])], .agg [.lit (.string [115, 116, 111, 114, 101]), .lit (.string [114, 114, 114])], .agg [.lit (.string [106, 117, 109, 112]), .lit (.string [45, 119])], .agg [.lit (.string [102, 97, 108, 115, 101]), .lit (.string [114, 119])], .agg [.lit (.string [116, 114, 117, 101]), .lit (.string [114, 119])], .agg [.lit (.string [102, 110]), .lit (.string [114, 119])], .agg [.lit (.string [99, 97, 108, 108]), .lit (.string [114, 114, 110])], .agg [.lit (.string [111, 119, 110]), .lit (.string [114, 114, 110])], .agg [.lit (.string [117, 115, 101]), .lit (.string [114, 114, 110])], .agg [.lit (.string [115, 112, 97, 119, 110]), .lit (.string [114, 114, 45])], .agg [.lit (.string [115, 116, 97, 116, 101]), .lit (.string [114, 45, 45])], .agg [.lit (.string [112, 117, 116]), .lit (.string [114, 45, 45])], .agg [.lit (.string [101, 109, 105, 116]), .lit (.string [114, 45, 45])], .agg [.lit (.string [121, 105, 101, 108, 100]), .lit (.string [110, 45, 45])], .agg [.lit (.string [114, 101, 116, 117, 114, 110]), .lit (.string [114, 45, 45])]]

/-- 'chrysalislaw13.InstBuilds': WHATEVER THE INPUT: true; the input reads as it did. -/
def instBuildsSpec : ChangeSpec := { name := "instBuilds", fn := fun _ => fun
  | [d] => { results := [.lit (.bool true)], args := [d] }
  | _ => none }
def instBuildsRow : OpenClaim := { program := "ytmljjpdodcpohaadoor", sum := "bfedf9d22bdf06492c510fb7765db72496052685513faa952aba474357080a78", func := "chrysalis/chrysalislaw13.InstBuilds", spec := "instBuilds", named := ["chrysalis/inst.formats"], apart := false, laid := [("chrysalis/inst.formats", laid_chrysalis_inst_formats)] }
def InstBuildsSaid : Prop := instBuildsRow.holds Tryd.pinned (OpenSpec.ofChange instBuildsSpec)

/-- ITS FALSE NEIGHBOUR: 'it returns false'. Refute it at one input. -/
def instBuildsWrong : ChangeSpec := { name := "instBuilds", fn := fun _ => fun
  | [d] => { results := [.lit (.bool false)], args := [d] }
  | _ => none }
def InstBuildsWrongFalsely : Prop := instBuildsRow.holds Tryd.pinned (OpenSpec.ofChange instBuildsWrong)

/-- 'chrysalislaw13.InstParses': WHATEVER THE INPUT: true; the input reads as it did. -/
def instParsesSpec : ChangeSpec := { name := "instParses", fn := fun _ => fun
  | [d1, d2] => { results := [.lit (.bool true)], args := [d1, d2] }
  | _ => none }
def instParsesRow : OpenClaim := { program := "ytmljjpdodcpohaadoor", sum := "bfedf9d22bdf06492c510fb7765db72496052685513faa952aba474357080a78", func := "chrysalis/chrysalislaw13.InstParses", spec := "instParses", named := ["chrysalis/inst.formats"], apart := false, laid := [("chrysalis/inst.formats", laid_chrysalis_inst_formats)] }
def InstParsesSaid : Prop := instParsesRow.holds Tryd.pinned (OpenSpec.ofChange instParsesSpec)

/-- ITS FALSE NEIGHBOUR: 'it returns false'. Refute it at one input. -/
def instParsesWrong : ChangeSpec := { name := "instParses", fn := fun _ => fun
  | [d1, d2] => { results := [.lit (.bool false)], args := [d1, d2] }
  | _ => none }
def InstParsesWrongFalsely : Prop := instParsesRow.holds Tryd.pinned (OpenSpec.ofChange instParsesWrong)

/-- 'chrysalislaw13.InstBack': WHATEVER THE INPUT: true; the input reads as it did. -/
def instBackSpec : ChangeSpec := { name := "instBack", fn := fun _ => fun
  | [d1, d2, d3] => { results := [.lit (.bool true)], args := [d1, d2, d3] }
  | _ => none }
def instBackRow : OpenClaim := { program := "ytmljjpdodcpohaadoor", sum := "bfedf9d22bdf06492c510fb7765db72496052685513faa952aba474357080a78", func := "chrysalis/chrysalislaw13.InstBack", spec := "instBack", named := ["chrysalis/inst.formats"], apart := false, laid := [("chrysalis/inst.formats", laid_chrysalis_inst_formats)] }
def InstBackSaid : Prop := instBackRow.holds Tryd.pinned (OpenSpec.ofChange instBackSpec)

/-- ITS FALSE NEIGHBOUR: 'it returns false'. Refute it at one input. -/
def instBackWrong : ChangeSpec := { name := "instBack", fn := fun _ => fun
  | [d1, d2, d3] => { results := [.lit (.bool false)], args := [d1, d2, d3] }
  | _ => none }
def InstBackWrongFalsely : Prop := instBackRow.holds Tryd.pinned (OpenSpec.ofChange instBackWrong)

/-- 'chrysalislaw13.InstShapes': WHATEVER THE INPUT: true; the input reads as it did. -/
def instShapesSpec : ChangeSpec := { name := "instShapes", fn := fun _ => fun
  | [d1, d2] => { results := [.lit (.bool true)], args := [d1, d2] }
  | _ => none }
def instShapesRow : OpenClaim := { program := "ytmljjpdodcpohaadoor", sum := "bfedf9d22bdf06492c510fb7765db72496052685513faa952aba474357080a78", func := "chrysalis/chrysalislaw13.InstShapes", spec := "instShapes", named := ["chrysalis/inst.formats"], apart := false, laid := [("chrysalis/inst.formats", laid_chrysalis_inst_formats)] }
def InstShapesSaid : Prop := instShapesRow.holds Tryd.pinned (OpenSpec.ofChange instShapesSpec)

/-- ITS FALSE NEIGHBOUR: 'it returns false'. Refute it at one input. -/
def instShapesWrong : ChangeSpec := { name := "instShapes", fn := fun _ => fun
  | [d1, d2] => { results := [.lit (.bool false)], args := [d1, d2] }
  | _ => none }
def InstShapesWrongFalsely : Prop := instShapesRow.holds Tryd.pinned (OpenSpec.ofChange instShapesWrong)

/-- 'chrysalislaw13.InstOps': WHATEVER THE INPUT: true; the input reads as it did. -/
def instOpsSpec : ChangeSpec := { name := "instOps", fn := fun _ => fun
  | [d] => { results := [.lit (.bool true)], args := [d] }
  | _ => none }
def instOpsRow : OpenClaim := { program := "ytmljjpdodcpohaadoor", sum := "bfedf9d22bdf06492c510fb7765db72496052685513faa952aba474357080a78", func := "chrysalis/chrysalislaw13.InstOps", spec := "instOps", named := ["chrysalis/inst.formats"], apart := false, laid := [("chrysalis/inst.formats", laid_chrysalis_inst_formats)] }
def InstOpsSaid : Prop := instOpsRow.holds Tryd.pinned (OpenSpec.ofChange instOpsSpec)

/-- ITS FALSE NEIGHBOUR: 'it returns false'. Refute it at one input. -/
def instOpsWrong : ChangeSpec := { name := "instOps", fn := fun _ => fun
  | [d] => { results := [.lit (.bool false)], args := [d] }
  | _ => none }
def InstOpsWrongFalsely : Prop := instOpsRow.holds Tryd.pinned (OpenSpec.ofChange instOpsWrong)

/- THE SECOND FORM. 'bulk': how many values and letters a reading holds, each counted each time it is reached (what is shared counts as often as it is met; a slice's spare places count too). A statement '..UptoSaid' is the law's where the arguments, and the package variables that the reading takes, are together of bulk at most 1048576: NARROWER than '..Said'. Prove '..Said' where nothing that the law and all that it calls make is longer than what came in: it says more and counts as full. Else prove '..UptoSaid'. A law counts once. -/
mutual
def uptoBulk {H : Type} : DataW H → Nat
  | .lit (.string bytes) => bytes.length + 1
  | .lit _ => 1
  | .nil => 1
  | .ptr d => uptoBulk d + 1
  | .slice elems spare => uptoBulkAll elems + uptoBulkAll spare + 1
  | .agg parts => uptoBulkAll parts + 1
  | .iface _ d => uptoBulk d + 1
  | .map entries => uptoBulkEntries entries + 1
  | .held _ => 1
def uptoBulkAll {H : Type} : List (DataW H) → Nat
  | [] => 0
  | d :: r => uptoBulk d + uptoBulkAll r
def uptoBulkEntries {H : Type} : List (Lit × DataW H) → Nat
  | [] => 0
  | x :: r => uptoBulkEntry x + uptoBulkEntries r
def uptoBulkEntry {H : Type} : Lit × DataW H → Nat
  | (.string bytes, d) => bytes.length + uptoBulk d + 1
  | (_, d) => uptoBulk d + 1
 end
def uptoSmall : (H : Type) → List (DataW H) → Bool := fun _ ds => decide (uptoBulkAll ds ≤ 1048576)
def OpenSpec.upto (s : _root_.Go.ChangeSpec) : _root_.Go.OpenSpec := { _root_.Go.OpenSpec.ofChange s with cond := some uptoSmall }

/-- 'chrysalislaw13.InstBuilds', WHERE WHAT IT READS IS OF BULK AT MOST 1048576: true; the input reads as it did. -/
def instBuildsUptoRow : OpenClaim := { program := "ytmljjpdodcpohaadoor", sum := "bfedf9d22bdf06492c510fb7765db72496052685513faa952aba474357080a78", func := "chrysalis/chrysalislaw13.InstBuilds", spec := "instBuilds", named := ["chrysalis/inst.formats"], apart := false, laid := [("chrysalis/inst.formats", laid_chrysalis_inst_formats)], narrowed := true }
def InstBuildsUptoSaid : Prop := instBuildsUptoRow.holds Tryd.pinned (OpenSpec.upto instBuildsSpec)

/-- 'chrysalislaw13.InstParses', WHERE WHAT IT READS IS OF BULK AT MOST 1048576: true; the input reads as it did. -/
def instParsesUptoRow : OpenClaim := { program := "ytmljjpdodcpohaadoor", sum := "bfedf9d22bdf06492c510fb7765db72496052685513faa952aba474357080a78", func := "chrysalis/chrysalislaw13.InstParses", spec := "instParses", named := ["chrysalis/inst.formats"], apart := false, laid := [("chrysalis/inst.formats", laid_chrysalis_inst_formats)], narrowed := true }
def InstParsesUptoSaid : Prop := instParsesUptoRow.holds Tryd.pinned (OpenSpec.upto instParsesSpec)

/-- 'chrysalislaw13.InstBack', WHERE WHAT IT READS IS OF BULK AT MOST 1048576: true; the input reads as it did. -/
def instBackUptoRow : OpenClaim := { program := "ytmljjpdodcpohaadoor", sum := "bfedf9d22bdf06492c510fb7765db72496052685513faa952aba474357080a78", func := "chrysalis/chrysalislaw13.InstBack", spec := "instBack", named := ["chrysalis/inst.formats"], apart := false, laid := [("chrysalis/inst.formats", laid_chrysalis_inst_formats)], narrowed := true }
def InstBackUptoSaid : Prop := instBackUptoRow.holds Tryd.pinned (OpenSpec.upto instBackSpec)

/-- 'chrysalislaw13.InstShapes', WHERE WHAT IT READS IS OF BULK AT MOST 1048576: true; the input reads as it did. -/
def instShapesUptoRow : OpenClaim := { program := "ytmljjpdodcpohaadoor", sum := "bfedf9d22bdf06492c510fb7765db72496052685513faa952aba474357080a78", func := "chrysalis/chrysalislaw13.InstShapes", spec := "instShapes", named := ["chrysalis/inst.formats"], apart := false, laid := [("chrysalis/inst.formats", laid_chrysalis_inst_formats)], narrowed := true }
def InstShapesUptoSaid : Prop := instShapesUptoRow.holds Tryd.pinned (OpenSpec.upto instShapesSpec)

/-- 'chrysalislaw13.InstOps', WHERE WHAT IT READS IS OF BULK AT MOST 1048576: true; the input reads as it did. -/
def instOpsUptoRow : OpenClaim := { program := "ytmljjpdodcpohaadoor", sum := "bfedf9d22bdf06492c510fb7765db72496052685513faa952aba474357080a78", func := "chrysalis/chrysalislaw13.InstOps", spec := "instOps", named := ["chrysalis/inst.formats"], apart := false, laid := [("chrysalis/inst.formats", laid_chrysalis_inst_formats)], narrowed := true }
def InstOpsUptoSaid : Prop := instOpsUptoRow.holds Tryd.pinned (OpenSpec.upto instOpsSpec)

end Rows
end Go.Proofs.YtmljjpdodcpohaaDoor
