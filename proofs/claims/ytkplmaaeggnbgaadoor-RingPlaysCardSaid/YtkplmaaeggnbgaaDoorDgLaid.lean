/- What the listed variable gives: the table of constants lies where the walks want it; the world that the program's own start leaves. No condition but those that each states. -/
import Derived.Test.YtkplmaaeggnbgaaDoorDgV
import Derived.Test.YtkplmaaeggnbgaaDoorRows
import Derived.Lib.LaidTab
import Derived.ProofKit
import Derived.LaidMore
namespace Go.Proofs.YtkplmaaeggnbgaaDoor
open Go.RowKit

/-- The list of the seat's rows. -/
abbrev laidK : List (String × DataW Unit) := Rows.digestNilRow.laid

theorem door_met (os : Os) (args : Array Value) : laidMetH Tryd.prog laidK ((World.doorLaid Tryd.prog 14 os).forCall (fun _ _ => 0) ⟨#[], args, []⟩).memory :=
  laidMetH_of_parts3 (fuel := 8) (laidMet_of_run' 8 (by kernel_rfl) (by kernel_rfl)) (by kernel_rfl) (by kernel_rfl)

theorem hasK_of_laid {W : World} (h : laidMetH Tryd.prog laidK W) : HasK W := by
  rw [MakeChecks.laidMetH_plain _ _ _ (by kernel_rfl)] at h
  have hg : Tryd.prog.globalNamed (laidK.head (by simp [laidK, Rows.digestNilRow])).1 = some 0 := by kernel_rfl
  have hT := Lib.tabIs_of_head (k := .u32) (zs := consts) (n := 64) (e := 23) (t := 127) (g := 0) hg (by kernel_rfl) Tryd.underlying127 Tryd.underlying23 (by kernel_rfl) (by kernel_rfl) h
  refine ⟨?_, fun j v hv => ?_⟩
  · have h0 := hT.cell hg 0 (by decide)
    rcases Nat.eq_zero_or_pos W.heap.size with hz | hz
    · have : W.heap[0]? = none := Array.getElem?_eq_none (by omega)
      simp [World.cell?, this] at h0
    · exact hz
  · have hj : j < consts.length := by have := (List.getElem?_eq_some_iff.1 hv).1; simpa [wv] using this
    rw [Nat.zero_add, hT.cell hg j hj, ← wv_get consts j hj, hv]

end Go.Proofs.YtkplmaaeggnbgaaDoor
