/- The walk of the law ParseRight. No condition but that the library's error lies where its variable is. -/
import Derived.Test.YtbbkogjkpehmjaaDoorMgO
namespace Go.Proofs.YtbbkogjkpehmjaaDoor.Pa
open Go.RowKit Go.Shelf Dk Lx Tr

set_option maxHeartbeats 4000000 in
set_option maxRecDepth 100000 in
theorem parseRight_law (a : ByteArray) (_ha : a.size ≤ maxLen) (w : World) (HE : HasE w) :
    Calls Tryd.prog 3 #[.string a] w fun e w' => e = .returned (.bool true) ∧ Below w.heap.size w w' := by
  have KN := Lib.hid (fun W h => known10 W h)
  have HHE := Lib.hid HE
  by_cases hs : a.size ≤ 3000
  case neg =>
    have g1 : (a.size : Int) > 3000 := by omega
    clear hs HE
    go_enter Tryd.func3, Tryd.ntmps3
    go_wp2_with (go_at_call 4; refine (KN.out _ HHE.out).mono ?_; rintro e w3 ⟨rfl, hb3⟩; have HB3 := Lib.hid hb3; clear hb3)
    go_ret
    exact ⟨rfl, HB3.out⟩
  have g1 : ¬(a.size : Int) > 3000 := by omega
  have S1 := Lib.hid (text_sum a (by omega) w HE)
  clear hs HE
  go_enter Tryd.func3, Tryd.ntmps3
  go_wp2_with fail
  refine S1.out.mono ?_
  rintro e w1 ⟨hb1, ⟨k, q, rfl, hk, hq1, hq2⟩ | ⟨v, t, rfl, hrow, hn, hl, hsh, hc⟩⟩
  · have HB1 := Lib.hid hb1
    have e1 : (k != 0) = true := by simpa using hk
    have e2 : q ≥ 0 := hq1
    clear hb1 hk S1
    go_wp2_with (go_at_call 4; refine (KN.out _ (HHE.out.later HB1.out)).mono ?_; rintro e w6 ⟨rfl, hb6⟩; have HB6 := Lib.hid (chain2 HB1.out hb6); clear hb6)
    go_ret
    exact ⟨rfl, HB6.out⟩
  · have HB1 := Lib.hid hb1
    have C1 := check_any t v w1 hn hl hsh
    rw [hc, show pairV (0, 0) = .tuple #[.int .i64 0, .int .i64 0] from rfl] at C1
    have HC := Lib.hid C1
    clear hb1 hrow hn hl hsh hc S1 C1
    go_wp2_with (first
      | (go_at_call 6; refine HC.out.mono ?_; rintro e w2 ⟨rfl, hb2⟩; have HB2 := Lib.hid (chain2 HB1.out hb2); clear hb2)
      | (go_at_call 4; refine (KN.out _ (HHE.out.later HB2.out)).mono ?_; rintro e w6 ⟨rfl, hb6⟩; have HB6 := Lib.hid (chain2 HB2.out hb6); clear hb6))
    go_ret
    exact ⟨rfl, HB6.out⟩

end Go.Proofs.YtbbkogjkpehmjaaDoor.Pa
