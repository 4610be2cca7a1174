/- The walk of chrysalislaw01.OctetPuts: it returns true, and nothing that was there has changed. No condition. -/
import Derived.Test.YtbnpocgmidnjcaaOctK
import Derived.Test.YtbnpocgmidnjcaaOctR
namespace Go.Proofs.Ytbnpocgmidnjcaa
open Go.RowKit

set_option maxHeartbeats 1000000 in
theorem puts_true (n : Int) (_wn : (Lit.int .i64 n).wf = true) (k : Int) (_wk : (Lit.int .i64 k).wf = true) (w : World) :
    Calls Try.prog 3 #[.int .i64 n, .int .i64 k] w fun e w' => e = .returned (.bool true) ∧ Below w.heap.size w w' := by
  cases hk : wideB k with
  | false =>
    go_enter Try.func3, Try.ntmps3
    go_wp2_with fail
    refine (put_wide _ _ _ hk).mono ?_
    rintro e w1 ⟨rfl, rfl⟩
    go_wp2_with fail
    refine (rput_wide _ _ _ hk).mono ?_
    rintro e w1 ⟨rfl, rfl⟩
    go_wp2_with fail
    refine (known_true _).mono ?_
    rintro e w1 ⟨rfl, hb⟩
    go_wp2
    go_ret
    exact ⟨rfl, hb⟩
  | true =>
    cases hf : fitsB n k with
    | false =>
      go_enter Try.func3, Try.ntmps3
      go_wp2_with fail
      refine (put_fits _ _ _ hk hf).mono ?_
      rintro e w1 ⟨rfl, rfl⟩
      go_wp2_with fail
      refine (rput_fits _ _ _ hk hf).mono ?_
      rintro e w1 ⟨rfl, hb⟩
      have H1 := Lib.hid hb
      clear hb
      go_wp2_with fail
      refine (known_true _).mono ?_
      rintro e w2 ⟨rfl, hb⟩
      have H2 := Lib.hid hb
      clear hb
      go_wp2
      go_ret
      exact ⟨rfl, chain H1.out H2.out⟩
    | true =>
      go_enter Try.func3, Try.ntmps3
      go_wp2_with fail
      refine (put_ok _ _ _ hk hf).mono ?_
      rintro e w1 ⟨rfl, hb⟩
      have H1 := Lib.hid hb
      clear hb
      go_wp2_with fail
      refine (rput_ok _ _ _ hk hf).mono ?_
      rintro e w2 ⟨rfl, hb⟩
      have H2 := Lib.hid hb
      clear hb
      go_wp2_with fail
      refine (known_true _).mono ?_
      rintro e w3 ⟨rfl, hb⟩
      have H3 := Lib.hid hb
      clear hb
      go_wp2
      go_ret
      exact ⟨rfl, chain (chain H1.out H2.out) H3.out⟩

end Go.Proofs.Ytbnpocgmidnjcaa
