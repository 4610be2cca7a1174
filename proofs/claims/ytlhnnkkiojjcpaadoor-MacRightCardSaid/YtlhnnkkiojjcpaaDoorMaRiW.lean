/- The walk of MacRight: it returns true wherever the table of constants lies. No condition but that. -/
import Derived.Test.YtlhnnkkiojjcpaaDoorMaOfW
namespace Go.Proofs.YtlhnnkkiojjcpaaDoor
open Go.RowKit

set_option maxHeartbeats 2000000 in
set_option maxRecDepth 100000 in
theorem macRight_law (key : ByteArray) (_hk : key.size ≤ maxLen) (s : ByteArray) (_hs : s.size ≤ maxLen) (tag : ByteArray) (_ht : tag.size ≤ maxLen) (w : World) (HK : HasK w) :
    Calls Tryd.prog 8 #[.string key, .string s, .string tag] w fun e w' => e = .returned (.bool true) ∧ Below w.heap.size w w' := by
  have K0 := Lib.hid HK
  clear HK
  by_cases h1 : 500 < key.size
  · go_enter Tryd.func8, Tryd.ntmps8
    go_wp2_with fail
    refine (known3 _ K0.out).mono ?_
    rintro e w1 ⟨rfl, hb⟩
    have H1 := Lib.hid hb
    clear hb
    go_wp2
    go_ret
    exact ⟨rfl, H1.out⟩
  have t1 : decide ((500 : Int) < (key.size : Int)) = false := decide_eq_false (by omega)
  have t1' : decide (500 < key.size) = false := decide_eq_false (by omega)
  by_cases h2 : 1000 < s.size
  · go_enter Tryd.func8, Tryd.ntmps8
    go_wp2_with fail
    refine (known3 _ K0.out).mono ?_
    rintro e w1 ⟨rfl, hb⟩
    have H1 := Lib.hid hb
    clear hb
    go_wp2
    go_ret
    exact ⟨rfl, H1.out⟩
  have t2 : decide ((1000 : Int) < (s.size : Int)) = false := decide_eq_false (by omega)
  have t2' : decide (1000 < s.size) = false := decide_eq_false (by omega)
  by_cases h3 : 1000 < tag.size
  · go_enter Tryd.func8, Tryd.ntmps8
    go_wp2_with fail
    refine (known3 _ K0.out).mono ?_
    rintro e w1 ⟨rfl, hb⟩
    have H1 := Lib.hid hb
    clear hb
    go_wp2
    go_ret
    exact ⟨rfl, H1.out⟩
  have t3 : decide ((1000 : Int) < (tag.size : Int)) = false := decide_eq_false (by omega)
  have t3' : decide (1000 < tag.size) = false := decide_eq_false (by omega)
  obtain ⟨k, rfl, hkl⟩ := toS key
  obtain ⟨l, rfl, hl⟩ := toS s
  have C1 := fun (W : World) (h : HasK W) => right_s k l tag W h (by omega) (by omega) (by omega)
  have C2 := fun (W : World) => rmacOf_s k l W (by omega) (by omega)
  have C3 := fun (W : World) (h : HasK W) => right_s k l (strOf (macL k l)) W h (by omega) (by omega) (by rw [strOf_size]; show 32 ≤ 100000; decide)
  rw [show eqB (strOf (macL k l)) (strOf (macL k l)) = true from decide_eq_true rfl] at C3
  have hsz : (strOf (macL k l)).size = 32 := by rw [strOf_size]; rfl
  generalize strOf (macL k l) = Y at C1 C2 C3 hsz
  generalize strOf k = key at *
  generalize strOf l = s at *
  have c1 := Lib.hid C1
  have c2 := Lib.hid C2
  have c3 := Lib.hid C3
  clear C1 C2 C3 hkl hl h1 h2 h3 hsz
  by_cases he : tag = Y
  · subst he
    have hq : eqB tag tag = true := decide_eq_true rfl
    rw [hq] at c1
    clear hq
    go_enter Tryd.func8, Tryd.ntmps8
    go_wp2_with fail
    refine (c1.out w K0.out).mono ?_
    rintro e w1 ⟨rfl, hb⟩
    have B1 := Lib.hid hb
    clear hb
    go_wp2_with fail
    refine (c2.out w1).mono ?_
    rintro e w2 ⟨rfl, hb⟩
    have B2 := Lib.hid (chain2 B1.out hb)
    clear hb
    go_wp2_with fail
    refine (c2.out w2).mono ?_
    rintro e w3 ⟨rfl, hb⟩
    have B3 := Lib.hid (chain2 B2.out hb)
    clear hb
    go_wp2_with fail
    refine (c3.out w3 (K0.out.later B3.out)).mono ?_
    rintro e w4 ⟨rfl, hb⟩
    have B4 := Lib.hid (chain2 B3.out hb)
    clear hb
    go_wp2_with fail
    refine (known3 w4 (K0.out.later B4.out)).mono ?_
    rintro e w5 ⟨rfl, hb⟩
    have B5 := Lib.hid (chain2 B4.out hb)
    clear hb
    go_wp2
    go_ret
    exact ⟨rfl, B5.out⟩
  · have hq : eqB Y tag = false := decide_eq_false (fun h => he h.symm)
    rw [hq] at c1
    clear hq
    have hne : (tag.toList == Y.toList) = false := by
      rw [beq_eq_false_iff_ne, ByteArray.toList_eq, ByteArray.toList_eq]
      exact fun h => he (ByteArray.ext (Array.toList_inj.mp h))
    clear he
    go_enter Tryd.func8, Tryd.ntmps8
    go_wp2_with fail
    refine (c1.out w K0.out).mono ?_
    rintro e w1 ⟨rfl, hb⟩
    have B1 := Lib.hid hb
    clear hb
    go_wp2_with fail
    refine (c2.out w1).mono ?_
    rintro e w2 ⟨rfl, hb⟩
    have B2 := Lib.hid (chain2 B1.out hb)
    clear hb
    go_wp2_with fail
    refine (c2.out w2).mono ?_
    rintro e w3 ⟨rfl, hb⟩
    have B3 := Lib.hid (chain2 B2.out hb)
    clear hb
    go_wp2_with fail
    refine (c3.out w3 (K0.out.later B3.out)).mono ?_
    rintro e w4 ⟨rfl, hb⟩
    have B4 := Lib.hid (chain2 B3.out hb)
    clear hb
    go_wp2_with fail
    refine (known3 w4 (K0.out.later B4.out)).mono ?_
    rintro e w5 ⟨rfl, hb⟩
    have B5 := Lib.hid (chain2 B4.out hb)
    clear hb
    go_wp2
    go_ret
    exact ⟨rfl, B5.out⟩
end Go.Proofs.YtlhnnkkiojjcpaaDoor
