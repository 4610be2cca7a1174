/- What the listed variable gives: the table of formats lies where the walks want it; the world that the program's own start leaves. No condition but those that each states. -/
import Derived.Test.YtmloljfnnkfkjaaDoorMgAC
import Derived.Test.YtmloljfnnkfkjaaDoorRows
import Derived.ProofKit
import Derived.LaidMore
namespace Go.Proofs.YtmloljfnnkfkjaaDoor.In
open Go.RowKit Lib

/-- The list of the seat's rows. -/
abbrev laidF : List (String × DataW Unit) := Rows.imageBuildsRow.laid

theorem door_met (os : Os) (args : Array Value) : laidMetH Tryd.prog laidF ((World.doorLaid Tryd.prog 52 os).forCall (fun _ _ => 0) ⟨#[], args, []⟩).memory :=
  laidMetH_of_parts3 (fuel := 8) (laidMet_of_run' 8 (by kernel_rfl) (by kernel_rfl)) (by kernel_rfl) (by kernel_rfl)

set_option maxRecDepth 100000 in
theorem laid_is : laidF = [("chrysalis/inst.formats", .agg (ops.map fun r => .agg [.lit (.string r.1), .lit (.string r.2)]))] := rfl

set_option maxRecDepth 100000 in
theorem hasF_of_laid {W : World} (h : laidMetH Tryd.prog laidF W) : HasF W := by
  rw [MakeChecks.laidMetH_plain _ _ _ (by kernel_rfl), laid_is] at h
  have hg : Tryd.prog.globalNamed "chrysalis/inst.formats" = some 0 := by kernel_rfl
  obtain ⟨ps, ⟨g', t', cs, fuel, p, q, hg', ht', hvar, hd, _, _⟩, _⟩ := h
  obtain rfl := Option.some.inj (hg.symm.trans hg')
  obtain rfl := Option.some.inj ((show (Tryd.prog.globals[0]?).map (·.type) = some 133 by kernel_rfl).symm.trans ht')
  have key := cells_of_pairs Tryd.underlying133 Tryd.underlying132 Tryd.underlying9 ⟨rfl, rfl⟩ ⟨rfl, rfl⟩ (by kernel_rfl) (by kernel_rfl) (by kernel_rfl) hd
  have hc := World.var?_cell hg hvar
  have hrow : ∀ k, k < 38 → ops[k]? = some (ops.getD k ([], [])) := fun k hk => by
    have hl : k < ops.length := by rw [rows_len]; exact hk
    rw [List.getD_eq_getElem?_getD, List.getElem?_eq_getElem hl]; rfl
  refine ⟨?_, fun k hk => ?_, fun k hk => ?_⟩
  · have h0 := hc 0
    rcases Nat.lt_or_ge 0 W.heap.size with h1 | h1
    · exact h1
    · have hn : W.heap[0]? = none := Array.getElem?_eq_none h1
      have := (key 0 _ (hrow 0 (by decide))).1
      simp [World.cell?, hn] at h0
      simp [h0] at this
  · have := (key k _ (hrow k hk)).1
    rw [hc (k * 2)]
    simpa using this
  · have := (key k _ (hrow k hk)).2
    rw [hc (k * 2 + 1)]
    simpa using this

end Go.Proofs.YtmloljfnnkfkjaaDoor.In

