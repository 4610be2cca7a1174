/- The walks of MacOf and MacRight: each returns true wherever the table of constants lies. No condition but that. -/
import Derived.Test.YtepipdikglabaaaDoorMaE
namespace Go.Proofs.YtepipdikglabaaaDoor
open Go.RowKit

theorem toS (s : ByteArray) : ∃ l : List UInt8, s = strOf l ∧ l.length = s.size := ⟨s.data.toList, (strOf_self s).symm, by simp⟩

set_option maxHeartbeats 1000000 in
set_option maxRecDepth 100000 in
theorem macOf_law (key : ByteArray) (_hk : key.size ≤ maxLen) (s : ByteArray) (_hs : s.size ≤ maxLen) (w : World) (HK : HasK w) :
    Calls Tryd.prog 4 #[.string key, .string s] w fun e w' => e = .returned (.bool true) ∧ Below w.heap.size w w' := by
  have K0 := Lib.hid HK
  clear HK
  by_cases h1 : 500 < key.size
  · go_enter Tryd.func4, Tryd.ntmps4
    go_wp2_with fail
    refine (known3 _ K0.out).mono ?_
    rintro e w1 ⟨rfl, hb⟩
    have H1 := Lib.hid hb
    clear hb
    go_wp2
    go_ret
    exact ⟨rfl, H1.out⟩
  have t1 : decide ((500 : Int) < (key.size : Int)) = false := decide_eq_false (by omega)
  have t1' : decide (500 < key.size) = false := decide_eq_false (by omega)
  by_cases h2 : 1000 < s.size
  · go_enter Tryd.func4, Tryd.ntmps4
    go_wp2_with fail
    refine (known3 _ K0.out).mono ?_
    rintro e w1 ⟨rfl, hb⟩
    have H1 := Lib.hid hb
    clear hb
    go_wp2
    go_ret
    exact ⟨rfl, H1.out⟩
  have t2 : decide ((1000 : Int) < (s.size : Int)) = false := decide_eq_false (by omega)
  have t2' : decide (1000 < s.size) = false := decide_eq_false (by omega)
  obtain ⟨k, rfl, hkl⟩ := toS key
  obtain ⟨l, rfl, hl⟩ := toS s
  have C1 := fun (W : World) (h : HasK W) => macOf_s k l W h (by omega) (by omega)
  have C2 := fun (W : World) => rmacOf_s k l W (by omega) (by omega)
  have C3 := fun (W : World) (h : HasK W) => key_s k W h (by omega)
  have C4 := fun (W : World) => rkey_s k W (by omega)
  generalize strOf (macL k l) = Y at C1 C2
  generalize strOf (keyL k) = Z at C3 C4
  generalize strOf k = key at *
  generalize strOf l = s at *
  have c1 := Lib.hid C1
  have c2 := Lib.hid C2
  have c3 := Lib.hid C3
  have c4 := Lib.hid C4
  clear C1 C2 C3 C4 hkl hl h1 h2
  go_enter Tryd.func4, Tryd.ntmps4
  go_wp2_with fail
  refine (c1.out w K0.out).mono ?_
  rintro e w1 ⟨rfl, hb⟩
  have B1 := Lib.hid hb
  clear hb
  go_wp2_with fail
  refine (c2.out w1).mono ?_
  rintro e w2 ⟨rfl, hb⟩
  have B2 := Lib.hid (chain2 B1.out hb)
  clear hb
  go_wp2_with fail
  refine (c3.out w2 (K0.out.later B2.out)).mono ?_
  rintro e w3 ⟨rfl, hb⟩
  have B3 := Lib.hid (chain2 B2.out hb)
  clear hb
  go_wp2_with fail
  refine (c4.out w3).mono ?_
  rintro e w4 ⟨rfl, hb⟩
  have B4 := Lib.hid (chain2 B3.out hb)
  clear hb
  go_wp2_with fail
  refine (known3 w4 (K0.out.later B4.out)).mono ?_
  rintro e w5 ⟨rfl, hb⟩
  have B5 := Lib.hid (chain2 B4.out hb)
  clear hb
  go_wp2
  go_ret
  exact ⟨rfl, B5.out⟩

end Go.Proofs.YtepipdikglabaaaDoor
