/- What the listed variables give: the library's error of the range lies where its variable is; the world that the program's own start leaves. No condition but those that each states. -/
import Derived.Test.YtbbkogjkpehmjaaDoorMgB
import Derived.Test.YtbbkogjkpehmjaaDoorRows
import Derived.ProofKit
import Derived.LaidMore
import Derived.Stop.LaidErr
namespace Go.Proofs.YtbbkogjkpehmjaaDoor.Lx
open Go.RowKit

/-- The list of the seat's rows. -/
abbrev laidE : List (String × DataW Unit) := Rows.parseRightRow.laid

theorem door_met (os : Os) (args : Array Value) : laidMetH Tryd.prog laidE ((World.doorLaid Tryd.prog 62 os).forCall (fun _ _ => 0) ⟨#[], args, []⟩).memory :=
  laidMetH_of_parts3 (fuel := 8) (laidMet_of_run' 8 (by kernel_rfl) (by kernel_rfl)) (by kernel_rfl) (by kernel_rfl)

theorem hasE_of_laid {W : World} (h : laidMetH Tryd.prog laidE W) : HasE W := by
  rw [MakeChecks.laidMetH_plain _ _ _ (by kernel_rfl)] at h
  have h3 := h.tail.tail.tail
  have hg : Tryd.prog.globalNamed "strconv.ErrRange" = some 1 := by kernel_rfl
  have hs : ("*" ++ "errors.errorString" : String) = "*errors.errorString" := by decide
  obtain ⟨a0, s0, hv0, -, -, -⟩ := laid_sentinel h3 hg (by kernel_rfl) Tryd.underlying72
    (fun u hu => typeName_ptr_named (nm := "errors.errorString") (tp := 103) (by rw [hs]; kernel_rfl) (by kernel_rfl) (by decide) u (by rw [hs]; exact hu))
    Tryd.underlying103 Tryd.underlying105 rfl rfl Tryd.underlying9 (by kernel_rfl) (by kernel_rfl)
  refine ⟨_, _, _, hg, ?_, hv0⟩
  have h0 := World.var?_cell hg hv0 0
  rcases Nat.lt_or_ge 1 W.heap.size with h1 | h1
  · exact h1
  · have : W.heap[1]? = none := Array.getElem?_eq_none h1
    simp [World.cell?, this] at h0

end Go.Proofs.YtbbkogjkpehmjaaDoor.Lx
