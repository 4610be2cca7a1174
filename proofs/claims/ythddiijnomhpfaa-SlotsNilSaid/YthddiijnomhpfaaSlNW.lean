/- The walk of SlotsNil: it returns true. No condition but those that each states. -/
import Derived.Test.YthddiijnomhpfaaSlK
namespace Go.Proofs.Ythddiijnomhpfaa.Sl
open Go.RowKit Dk

set_option maxHeartbeats 2000000 in
set_option maxRecDepth 100000 in
theorem slotsNil_law (i : Int) (_hi : (Lit.int .i64 i).wf = true) (s : ByteArray) (_hs : s.size ≤ maxLen) (w : World) :
    Calls Try.prog 6 #[.int .i64 i, .string s] w fun e w' => e = .returned (.bool true) ∧ Below w.heap.size w w' := by
  by_cases h : 5000 < (s.size : Int)
  · have t : decide (5000 < (s.size : Int)) = true := decide_eq_true h
    go_enter Try.func6, Try.ntmps6
    go_wp2_with fail
    refine (known6 w).mono ?_
    rintro e w1 ⟨rfl, hb⟩
    have HB := Lib.hid hb
    clear hb
    go_wp2
    go_ret
    exact ⟨rfl, HB.out⟩
  · have t : decide (5000 < (s.size : Int)) = false := decide_eq_false h
    have HZ : Hid (NoDisk w none) := Lib.hid (.inl rfl)
    go_enter Try.func6, Try.ntmps6
    go_wp2_with fail
    refine (sread_no none i _ w HZ.out).mono ?_
    rintro e w1 ⟨rfl, rfl⟩
    go_wp2_with fail
    refine (swrite_no none i s w HZ.out).mono ?_
    rintro e w1 ⟨rfl, rfl⟩
    go_wp2_with fail
    refine (known6 w).mono ?_
    rintro e w1 ⟨rfl, hb⟩
    have HB := Lib.hid hb
    clear hb
    go_wp2
    go_ret
    exact ⟨rfl, HB.out⟩

end Go.Proofs.Ythddiijnomhpfaa.Sl
