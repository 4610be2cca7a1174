/- The walk of chrysalislaw02.known: it returns true wherever the table of constants lies. No condition but that. -/
import Derived.Test.YtepipdikglabaaaDoorDgN
import Derived.Test.YtepipdikglabaaaDoorHexO
import Derived.Test.YtepipdikglabaaaDoorShaV
namespace Go.Proofs.YtepipdikglabaaaDoor
open Go.RowKit

theorem k_abc (w : World) (HK : HasK w) : Calls Tryd.prog 21 #[.string ⟨#[97, 98, 99]⟩] w fun e w' => e = .returned (.string ⟨(sha [97, 98, 99]).toArray⟩) ∧ Below w.heap.size w w' :=
  of_any ⟨#[97, 98, 99]⟩ w HK (by decide)
theorem k_empty (w : World) (HK : HasK w) : Calls Tryd.prog 21 #[.string ⟨#[]⟩] w fun e w' => e = .returned (.string ⟨(sha []).toArray⟩) ∧ Below w.heap.size w w' :=
  of_any ⟨#[]⟩ w HK (by decide)
theorem hx_abc (w : World) : Calls Tryd.prog 28 #[.string ⟨(sha [97, 98, 99]).toArray⟩] w fun e w' => e = .returned (.string ⟨#[98, 97, 55, 56, 49, 54, 98, 102, 56, 102, 48, 49, 99, 102, 101, 97, 52, 49, 52, 49, 52, 48, 100, 101, 53, 100, 97, 101, 50, 50, 50, 51, 98, 48, 48, 51, 54, 49, 97, 51, 57, 54, 49, 55, 55, 97, 57, 99, 98, 52, 49, 48, 102, 102, 54, 49, 102, 50, 48, 48, 49, 53, 97, 100]⟩) ∧ Below w.heap.size w w' :=
  (hex_any ⟨(sha [97, 98, 99]).toArray⟩ w (by show (sha [97, 98, 99]).toArray.size ≤ 20000; simp [sha_length])).mono fun _ _ ⟨he, hb⟩ => ⟨by rw [he]; simp only [hex_abc], hb⟩
theorem hx_none (w : World) : Calls Tryd.prog 28 #[.string ⟨(sha []).toArray⟩] w fun e w' => e = .returned (.string ⟨#[101, 51, 98, 48, 99, 52, 52, 50, 57, 56, 102, 99, 49, 99, 49, 52, 57, 97, 102, 98, 102, 52, 99, 56, 57, 57, 54, 102, 98, 57, 50, 52, 50, 55, 97, 101, 52, 49, 101, 52, 54, 52, 57, 98, 57, 51, 52, 99, 97, 52, 57, 53, 57, 57, 49, 98, 55, 56, 53, 50, 98, 56, 53, 53]⟩) ∧ Below w.heap.size w w' :=
  (hex_any ⟨(sha []).toArray⟩ w (by show (sha []).toArray.size ≤ 20000; simp [sha_length])).mono fun _ _ ⟨he, hb⟩ => ⟨by rw [he]; simp only [hex_none], hb⟩

set_option maxHeartbeats 2000000 in
set_option maxRecDepth 100000 in
theorem known2 (w : World) (HK : HasK w) : Calls Tryd.prog 13 #[] w fun e w' => e = .returned (.bool true) ∧ Below w.heap.size w w' := by
  have K0 := Lib.hid HK
  have h0 := HK.lt
  clear HK
  go_enter Tryd.func13, Tryd.ntmps13
  go_wp2_with fail
  refine (new_any _ h0).mono ?_
  rintro e w1 ⟨rfl, hN, hb1, hlt1⟩
  have HN := Lib.hid hN
  have B1 := Lib.hid hb1
  clear hN hb1
  go_wp2_with fail
  refine (write_any ⟨#[97]⟩ [] w.heap.size w1 HN.out (K0.out.later B1.out) (by decide)).mono ?_
  rintro e w2 ⟨rfl, hH, hJ⟩
  have H2 : Hid (HashAt w2 w.heap.size [97]) := Lib.hid hH
  have B2 : Hid (Below w.heap.size w w2) := Lib.hid (hJ.below B1.out (Nat.le_refl _) (Nat.le_refl _))
  clear hH hJ HN
  go_wp2_with fail
  refine (copy_hash [97] w.heap.size w2 H2.out).mono ?_
  rintro e w3 ⟨rfl, hC, hb3, hlt3⟩
  have hg2 : w.heap.size < w2.heap.size := H2.out.lt
  have C3 : Hid (HashAt w3 w2.heap.size [97]) := Lib.hid hC
  have H3 : Hid (HashAt w3 w.heap.size [97]) := Lib.hid (H2.out.later hb3 hg2)
  have B3 : Hid (Below w.heap.size w w3) := Lib.hid (chain2 B2.out hb3)
  clear hC hb3 H2 B2 B1
  go_wp2_with fail
  refine (write_any ⟨#[98, 99]⟩ [97] w.heap.size w3 H3.out (K0.out.later B3.out) (by decide)).mono ?_
  rintro e w4 ⟨rfl, hH, hJ⟩
  have H4 : Hid (HashAt w4 w.heap.size [97, 98, 99]) := Lib.hid hH
  have C4 : Hid (HashAt w4 w2.heap.size [97]) := Lib.hid (C3.out.just hJ (by omega))
  have B4 : Hid (Below w.heap.size w w4) := Lib.hid (hJ.below B3.out (Nat.le_refl _) (Nat.le_refl _))
  clear hH hJ H3 C3 B3
  go_wp2_with fail
  refine (k_abc w4 (K0.out.later B4.out)).mono ?_
  rintro e w5 ⟨rfl, hb5⟩
  have B5 := Lib.hid hb5
  clear hb5
  go_wp2_with fail
  refine (hx_abc w5).mono ?_
  rintro e w6 ⟨rfl, hb6⟩
  have B6 : Hid (Below w4.heap.size w4 w6) := Lib.hid (chain2 B5.out hb6)
  clear hb6 B5
  go_wp2_with fail
  refine (k_empty w6 (K0.out.later (chain2 B4.out B6.out))).mono ?_
  rintro e w7 ⟨rfl, hb7⟩
  have B7 : Hid (Below w4.heap.size w4 w7) := Lib.hid (chain2 B6.out hb7)
  clear hb7 B6
  go_wp2_with fail
  refine (hx_none w7).mono ?_
  rintro e w8 ⟨rfl, hb8⟩
  have B8 : Hid (Below w4.heap.size w4 w8) := Lib.hid (chain2 B7.out hb8)
  clear hb8 B7
  go_wp2_with fail
  refine (sum_any [97, 98, 99] w.heap.size w8 (H4.out.later B8.out H4.out.lt) (K0.out.later (chain2 B4.out B8.out)) (by decide)).mono ?_
  rintro e w9 ⟨rfl, hb9⟩
  have B9 : Hid (Below w4.heap.size w4 w9) := Lib.hid (chain2 B8.out hb9)
  clear hb9 B8
  go_wp2_with fail
  refine (hx_abc w9).mono ?_
  rintro e w10 ⟨rfl, hb10⟩
  have B10 : Hid (Below w4.heap.size w4 w10) := Lib.hid (chain2 B9.out hb10)
  clear hb10 B9
  go_wp2_with fail
  refine (len_any [97, 98, 99] w.heap.size w10 (H4.out.later B10.out H4.out.lt)).mono ?_
  rintro e w11 ⟨rfl, rfl⟩
  go_wp2_with fail
  refine (len_any [97] w2.heap.size w10 (C4.out.later B10.out C4.out.lt)).mono ?_
  rintro e w11 ⟨rfl, rfl⟩
  go_wp2
  go_ret
  exact ⟨rfl, chain2 B4.out B10.out⟩

end Go.Proofs.YtepipdikglabaaaDoor
