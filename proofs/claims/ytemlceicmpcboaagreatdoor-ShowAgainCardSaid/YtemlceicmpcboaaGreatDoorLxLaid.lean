/- What the listed variables give: the library's error of the range lies where its variable is; the world that the program's own start leaves. No condition but those that each states. -/
import Derived.Test.YtemlceicmpcboaaGreatDoorMgB
import Derived.Test.YtemlceicmpcboaaGreatDoorRows
import Derived.ProofKit
import Derived.LaidMore
import Derived.Stop.LaidErr
namespace Go.Proofs.YtemlceicmpcboaaGreatDoor.Lx
open Go.RowKit

/-- The list of the seat's rows. -/
abbrev laidE : List (String × DataW Unit) := Rows.parseTokensRow.laid

theorem door_met (os : Os) (args : Array Value) : laidMetH Tryz.prog laidE ((World.doorLaid Tryz.prog 62 os).forCall (fun _ _ => 0) ⟨#[], args, []⟩).memory :=
  laidMetH_of_parts3 (fuel := 8) (laidMet_of_run' 8 (by kernel_rfl) (by kernel_rfl)) (by kernel_rfl) (by kernel_rfl)

theorem hasE_of_laid {W : World} (h : laidMetH Tryz.prog laidE W) : HasE W := by
  rw [MakeChecks.laidMetH_plain _ _ _ (by kernel_rfl)] at h
  have h3 := h.tail.tail.tail
  have hg : Tryz.prog.globalNamed "strconv.ErrRange" = some 3 := by kernel_rfl
  have hs : ("*" ++ "errors.errorString" : String) = "*errors.errorString" := by decide
  obtain ⟨a0, s0, hv0, -, -, -⟩ := laid_sentinel h3 hg (by kernel_rfl) Tryz.underlying174
    (fun u hu => typeName_ptr_named (nm := "errors.errorString") (tp := 236) (by rw [hs]; kernel_rfl) (by kernel_rfl) (by decide) u (by rw [hs]; exact hu))
    Tryz.underlying236 Tryz.underlying238 rfl rfl Tryz.underlying9 (by kernel_rfl) (by kernel_rfl)
  refine ⟨_, _, _, hg, ?_, hv0⟩
  have h0 := World.var?_cell hg hv0 0
  rcases Nat.lt_or_ge 3 W.heap.size with h1 | h1
  · exact h1
  · have : W.heap[3]? = none := Array.getElem?_eq_none h1
    simp [World.cell?, this] at h0

end Go.Proofs.YtemlceicmpcboaaGreatDoor.Lx
