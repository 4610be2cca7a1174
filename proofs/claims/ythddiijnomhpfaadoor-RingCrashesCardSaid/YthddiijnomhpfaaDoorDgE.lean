/- The walk of digest.decodeWord and encodeWord: their contracts. No condition but those that each states. -/
import Derived.Test.YthddiijnomhpfaaDoorDgC
import Derived.Test.YthddiijnomhpfaaDoorDgG
import Derived.Deep.MidRow
namespace Go.Proofs.YthddiijnomhpfaaDoor
open Go.RowKit

theorem calls_same_of_draws {P : Program} {f : FuncId} {args : Array Value} {w : World} {v : Value} (h : Calls P f args w fun e w' => e = .returned v ∧ ∃ m, w' = w.drewN m) :
    Calls P f args w fun e w' => e = .returned v ∧ Below w.heap.size w w' ∧ w'.heap = w.heap :=
  h.mono fun _ _ ⟨a, m, hm⟩ => ⟨a, by subst hm; exact below_drewN (Below.refl _ _) m, by subst hm; rfl⟩

set_option maxHeartbeats 1000000 in
set_option maxRecDepth 100000 in
theorem decodeWord_any (b o c : Nat) (x0 x1 x2 x3 : Int) (w : World)
    (h0 : w.cell? ⟨b, o, none⟩ = some (.int .u8 x0)) (h1 : w.cell? ⟨b, o + 1, none⟩ = some (.int .u8 x1))
    (h2 : w.cell? ⟨b, o + 2, none⟩ = some (.int .u8 x2)) (h3 : w.cell? ⟨b, o + 3, none⟩ = some (.int .u8 x3)) :
    Calls Tryd.prog 70 #[.slice (some ⟨b, o, none⟩) 4 c] w fun e w' => e = .returned (.int .u32 (word4 x0 x1 x2 x3)) ∧ ∃ m, w' = w.drewN m := by
  go_enter Tryd.func70, Tryd.ntmps70
  go_wp2
  go_quiet (fail)
  go_wp2
  go_ret
  exact ⟨rfl, nq, rfl⟩

end Go.Proofs.YthddiijnomhpfaaDoor
