/- What the listed variables give: the library's error and its table of powers lie where their variables are. No condition but those that each states. -/
import Derived.Test.YtemlceicmpcboaaGreatDoorLxLaid
import Derived.Test.YtemlceicmpcboaaGreatDoorMgS
import Derived.Lib.LaidTab
namespace Go.Proofs.YtemlceicmpcboaaGreatDoor.Sw
open Go.RowKit Lx

theorem hasT_of_laid {W : World} (h : laidMetH Tryz.prog laidE W) : HasT W := by
  rw [MakeChecks.laidMetH_plain _ _ _ (by kernel_rfl)] at h
  have h2 := h.tail.tail
  have hg : Tryz.prog.globalNamed "internal/strconv.uint64pow10" = some 0 := by kernel_rfl
  have hT : Lib.TabIs Tryz.prog W "internal/strconv.uint64pow10" .u64 Lib.pow10Tab := Lib.tabIs_of_head (n := 20) (e := 187) (t := 225) hg (by kernel_rfl) Tryz.underlying225 Tryz.underlying187 (by kernel_rfl) (by kernel_rfl) h2
  refine ⟨hT, _, hg, ?_⟩
  have h0 := hT.cell hg 0 (by decide)
  rcases Nat.lt_or_ge 0 W.heap.size with h1 | h1
  · exact h1
  · have : W.heap[0]? = none := Array.getElem?_eq_none h1
    simp [World.cell?, this] at h0

theorem hasB_of_laid {W : World} (h : laidMetH Tryz.prog laidE W) : HasE W ∧ HasT W := ⟨hasE_of_laid h, hasT_of_laid h⟩

end Go.Proofs.YtemlceicmpcboaaGreatDoor.Sw
