/- The walk of DigestOf: it returns true wherever the table of constants lies. No condition but that. -/
import Derived.Test.YtlhnnkkiojjcpaaDoorDgP
import Derived.Test.YtlhnnkkiojjcpaaDoorDgO
namespace Go.Proofs.YtlhnnkkiojjcpaaDoor
open Go.RowKit

set_option maxHeartbeats 1000000 in
set_option maxRecDepth 100000 in
theorem digestOf_law (s : ByteArray) (_h : s.size ≤ maxLen) (w : World) (HK : HasK w) :
    Calls Tryd.prog 3 #[.string s] w fun e w' => e = .returned (.bool true) ∧ Below w.heap.size w w' := by
  have K0 := Lib.hid HK
  clear HK
  by_cases hbig : 3000 < s.size
  · go_enter Tryd.func3, Tryd.ntmps3
    go_wp2_with fail
    refine (known2 _ K0.out).mono ?_
    rintro e w1 ⟨rfl, hb⟩
    have H1 := Lib.hid hb
    clear hb
    go_wp2
    go_ret
    exact ⟨rfl, H1.out⟩
  · have hs : s.size ≤ 3000 := by omega
    have C1 := fun (W : World) (k : HasK W) => of_any s W k (by omega)
    have C2 := fun (W : World) => rof_any s W hs
    generalize (⟨(sha s.data.toList).toArray⟩ : ByteArray) = Y at C1 C2
    have c1 := Lib.hid C1
    have c2 := Lib.hid C2
    have t0 : decide (3000 < s.size) = false := decide_eq_false (by omega)
    clear C1 C2 hbig
    go_enter Tryd.func3, Tryd.ntmps3
    go_wp2_with fail
    refine (c1.out w K0.out).mono ?_
    rintro e w1 ⟨rfl, hb⟩
    have B1 := Lib.hid hb
    clear hb
    go_wp2_with fail
    refine (c2.out w1).mono ?_
    rintro e w2 ⟨rfl, hb⟩
    have B2 := Lib.hid (chain2 B1.out hb)
    clear hb
    go_wp2_with fail
    refine (known2 w2 (K0.out.later B2.out)).mono ?_
    rintro e w3 ⟨rfl, hb⟩
    have B3 := Lib.hid (chain2 B2.out hb)
    clear hb
    go_wp2
    go_ret
    exact ⟨rfl, B3.out⟩

end Go.Proofs.YtlhnnkkiojjcpaaDoor
