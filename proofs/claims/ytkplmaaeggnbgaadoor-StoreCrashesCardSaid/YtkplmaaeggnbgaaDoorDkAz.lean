/- The walks of Blocks: their contracts. No condition but those that each states. -/
import Derived.Test.YtkplmaaeggnbgaaDoorDkW
namespace Go.Proofs.YtkplmaaeggnbgaaDoor.Dk
open Go.RowKit

set_option maxHeartbeats 400000 in
theorem blocks_yes (g n c : Nat) (a : Option Addr) (w : World) (h : w.cell? ⟨g, 0, none⟩ = some (.pointer (some ⟨g, 0, none⟩))) (hb : w.cell? ⟨g, 2, none⟩ = some (.slice a n c)) :
    Calls Tryd.prog 119 #[.pointer (some ⟨g, 0, none⟩)] w fun e w' => e = .returned (.int .i64 (n : Int)) ∧ w = w' := by
  go_enter Tryd.func119, Tryd.ntmps119
  go_wp2_with (go_at_call 63; refine (isValid_yes _ _ h).mono ?_; rintro e w' ⟨rfl, rfl⟩)
  go_ret
  exact ⟨rfl, rfl⟩

set_option maxHeartbeats 400000 in
theorem blocks_no (p : Option Addr) (w : World) (h : NoDisk w p) :
    Calls Tryd.prog 119 #[.pointer p] w fun e w' => e = .returned (.int .i64 0) ∧ w = w' := by
  go_enter Tryd.func119, Tryd.ntmps119
  go_wp2_with (go_at_call 63; refine (isValid_no _ _ h).mono ?_; rintro e w' ⟨rfl, rfl⟩)
  go_ret
  exact ⟨rfl, rfl⟩

end Go.Proofs.YtkplmaaeggnbgaaDoor.Dk
