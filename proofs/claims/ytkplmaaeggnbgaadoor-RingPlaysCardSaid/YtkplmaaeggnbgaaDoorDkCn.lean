/- The walk of Count: its contract. No condition but those that each states. -/
import Derived.Test.YtkplmaaeggnbgaaDoorDkM
namespace Go.Proofs.YtkplmaaeggnbgaaDoor.Dk
open Go.RowKit

set_option maxHeartbeats 1000000 in
theorem count_any (n : Int) (m : Nat) (w : World) (hn : (Lit.int .i64 n).wf = true) (hm : 0 < m) (hm2 : m ≤ 100000) :
    Calls Tryd.prog 37 #[.int .i64 n, .int .i64 (m : Int)] w fun e w' => e = .returned (.int .i64 (cnt n m)) ∧ w = w' := by
  obtain ⟨h1, h2⟩ := wf_i64 hn
  have g0 : (0 : Int) < (m : Int) := by omega
  have g1 : (m : Int) ≤ 100000 := by omega
  by_cases h0 : n < 0
  · have e : Hid (cnt n m = (-(n + 1)) % (m : Int)) := Lib.hid (by unfold cnt; rw [if_pos h0])
    have t0 : decide (n < 0) = true := decide_eq_true h0
    go_enter Tryd.func37, Tryd.ntmps37
    go_wp2
    go_ret
    exact ⟨by rw [e.out, ← Int.tmod_eq_emod_of_nonneg (by omega), Int.neg_tmod]; rfl, rfl⟩
  · have e : Hid (cnt n m = n % (m : Int)) := Lib.hid (by unfold cnt; rw [if_neg h0])
    have t0 : decide (n < 0) = false := decide_eq_false h0
    have h3 : 0 ≤ n := by omega
    go_enter Tryd.func37, Tryd.ntmps37
    go_wp2
    go_ret
    exact ⟨by rw [e.out]; rfl, rfl⟩

end Go.Proofs.YtkplmaaeggnbgaaDoor.Dk
