/- The walk of mac.Right and of chrysalislaw03.known: the latter returns true wherever the table of constants lies. No condition but that. -/
import Derived.Test.YtepipdikglabaaaDoorMaC
import Derived.Test.YtepipdikglabaaaDoorMaD
namespace Go.Proofs.YtepipdikglabaaaDoor
open Go.RowKit

set_option maxHeartbeats 400000 in
theorem right_s (k s : List UInt8) (t : ByteArray) (w : World) (HK : HasK w) (hk : k.length ≤ 900000) (hs : s.length ≤ 800000) (ht : t.size ≤ 100000) :
    Calls Tryd.prog 19 #[.string (strOf k), .string (strOf s), .string t] w fun e w' => e = .returned (.bool (eqB (strOf (macL k s)) t)) ∧ Below w.heap.size w w' := by
  have K0 := Lib.hid HK
  clear HK
  go_enter Tryd.func19, Tryd.ntmps19
  go_wp2_with fail
  refine (macOf_s k s w K0.out hk hs).mono ?_
  rintro e w1 ⟨rfl, hb⟩
  have B1 := Lib.hid hb
  clear hb
  go_wp2_with fail
  refine (same_any _ t w1 (by rw [strOf_size]; show 32 ≤ 100000; decide) ht).mono ?_
  rintro e w' ⟨rfl, rfl⟩
  go_wp2
  go_ret
  exact ⟨rfl, B1.out⟩

def keyB : List UInt8 := [107, 101, 121]
def foxB : List UInt8 := [84, 104, 101, 32, 113, 117, 105, 99, 107, 32, 98, 114, 111, 119, 110, 32, 102, 111, 120, 32, 106, 117, 109, 112, 115, 32, 111, 118, 101, 114, 32, 116, 104, 101, 32, 108, 97, 122, 121, 32, 100, 111, 103]
def tagB : List UInt8 := [247, 188, 131, 244, 48, 83, 132, 36, 177, 50, 152, 230, 170, 111, 177, 67, 239, 77, 89, 161, 73, 70, 23, 89, 151, 71, 157, 188, 45, 26, 60, 216]

set_option maxRecDepth 100000 in
theorem inner_fox : sha (mixL (keyL keyB) 54 ++ foxB) = [122, 208, 78, 90, 161, 158, 238, 114, 24, 44, 154, 117, 172, 113, 186, 19, 131, 60, 83, 252, 77, 200, 200, 21, 206, 183, 148, 109, 86, 46, 54, 49] := by
  rw [sha_two _ (by decide +kernel)]; decide +kernel

set_option maxRecDepth 100000 in
theorem tag_fox : macL keyB foxB = tagB := by
  unfold macL
  rw [inner_fox, sha_two _ (by decide +kernel)]; decide +kernel

theorem hx_tag (w : World) : Calls Tryd.prog 28 #[.string (strOf tagB)] w fun e w' => e = .returned (.string ⟨#[102, 55, 98, 99, 56, 51, 102, 52, 51, 48, 53, 51, 56, 52, 50, 52, 98, 49, 51, 50, 57, 56, 101, 54, 97, 97, 54, 102, 98, 49, 52, 51, 101, 102, 52, 100, 53, 57, 97, 49, 52, 57, 52, 54, 49, 55, 53, 57, 57, 55, 52, 55, 57, 100, 98, 99, 50, 100, 49, 97, 51, 99, 100, 56]⟩) ∧ Below w.heap.size w w' :=
  (hex_any (strOf tagB) w (by decide)).mono fun _ _ ⟨he, hb⟩ => ⟨by rw [he, strOf_toList]; congr 2, hb⟩

theorem of_fox (w : World) (HK : HasK w) : Calls Tryd.prog 15 #[.string ⟨#[107, 101, 121]⟩, .string ⟨#[84, 104, 101, 32, 113, 117, 105, 99, 107, 32, 98, 114, 111, 119, 110, 32, 102, 111, 120, 32, 106, 117, 109, 112, 115, 32, 111, 118, 101, 114, 32, 116, 104, 101, 32, 108, 97, 122, 121, 32, 100, 111, 103]⟩] w fun e w' => e = .returned (.string (strOf tagB)) ∧ Below w.heap.size w w' := by
  have := macOf_s keyB foxB w HK (by decide) (by decide)
  rw [tag_fox] at this
  exact this
theorem right_fox (w : World) (HK : HasK w) : Calls Tryd.prog 19 #[.string ⟨#[107, 101, 121]⟩, .string ⟨#[84, 104, 101, 32, 113, 117, 105, 99, 107, 32, 98, 114, 111, 119, 110, 32, 102, 111, 120, 32, 106, 117, 109, 112, 115, 32, 111, 118, 101, 114, 32, 116, 104, 101, 32, 108, 97, 122, 121, 32, 100, 111, 103]⟩, .string (strOf tagB)] w fun e w' => e = .returned (.bool true) ∧ Below w.heap.size w w' := by
  have := right_s keyB foxB (strOf tagB) w HK (by decide) (by decide) (by decide)
  rw [tag_fox, show eqB (strOf tagB) (strOf tagB) = true from decide_eq_true rfl] at this
  exact this
theorem wrong_fox (w : World) (HK : HasK w) : Calls Tryd.prog 19 #[.string ⟨#[107, 101, 121]⟩, .string ⟨#[84, 104, 101, 32, 113, 117, 105, 99, 107, 32, 98, 114, 111, 119, 110, 32, 102, 111, 120, 32, 106, 117, 109, 112, 115, 32, 111, 118, 101, 114, 32, 116, 104, 101, 32, 108, 97, 122, 121, 32, 100, 111, 103]⟩, .string (strOf tagB ++ ⟨#[120]⟩)] w fun e w' => e = .returned (.bool false) ∧ Below w.heap.size w w' := by
  have hsz : (strOf tagB ++ (⟨#[120]⟩ : ByteArray)).size = 33 := by rw [ByteArray.size_append]; rfl
  have := right_s keyB foxB (strOf tagB ++ ⟨#[120]⟩) w HK (by decide) (by decide) (by rw [hsz]; decide)
  rw [tag_fox, show eqB (strOf tagB) (strOf tagB ++ ⟨#[120]⟩) = false from decide_eq_false (fun h => by
    have h2 := congrArg ByteArray.size h
    rw [hsz] at h2
    exact absurd h2 (by decide))] at this
  exact this
theorem key_k (w : World) (HK : HasK w) : Calls Tryd.prog 17 #[.string ⟨#[107]⟩] w fun e w' => e = .returned (.string (strOf (keyL [107]))) ∧ Below w.heap.size w w' :=
  key_s [107] w HK (by decide)

set_option maxHeartbeats 1000000 in
set_option maxRecDepth 100000 in
theorem known3 (w : World) (HK : HasK w) : Calls Tryd.prog 14 #[] w fun e w' => e = .returned (.bool true) ∧ Below w.heap.size w w' := by
  have K0 := Lib.hid HK
  clear HK
  have C1 := of_fox
  have C2 := hx_tag
  have C3 := right_fox
  have C4 := wrong_fox
  have C5 := key_k
  have had : ∀ W : World, (Op.stringOp .add (strOf tagB) ⟨#[120]⟩).run Tryd.prog W = .ok (.string (strOf tagB ++ ⟨#[120]⟩)) W := fun W =>
    run_string_add_sum (P := Tryd.prog) (w := W) _ _ (by decide)
  have hkl : (strOf (keyL [107])).size = 64 := by rw [strOf_size, keyL_length]
  generalize strOf tagB ++ (⟨#[120]⟩ : ByteArray) = TX at C4 had
  generalize strOf tagB = T at C1 C2 C3 had
  generalize strOf (keyL [107]) = KK at C5 hkl
  have c1 := Lib.hid C1
  have c2 := Lib.hid C2
  have c3 := Lib.hid C3
  have c4 := Lib.hid C4
  have c5 := Lib.hid C5
  clear C1 C2 C3 C4 C5
  go_enter Tryd.func14, Tryd.ntmps14
  go_wp2_with fail
  refine (c1.out w K0.out).mono ?_
  rintro e w1 ⟨rfl, hb⟩
  have B1 := Lib.hid hb
  clear hb
  go_wp2_with fail
  refine (c2.out w1).mono ?_
  rintro e w2 ⟨rfl, hb⟩
  have B2 := Lib.hid (chain2 B1.out hb)
  clear hb
  go_wp2_with fail
  refine (c3.out w2 (K0.out.later B2.out)).mono ?_
  rintro e w3 ⟨rfl, hb⟩
  have B3 := Lib.hid (chain2 B2.out hb)
  clear hb
  go_wp2_with fail
  refine (c4.out w3 (K0.out.later B3.out)).mono ?_
  rintro e w4 ⟨rfl, hb⟩
  have B4 := Lib.hid (chain2 B3.out hb)
  clear hb
  go_wp2_with fail
  refine (c5.out w4 (K0.out.later B4.out)).mono ?_
  rintro e w5 ⟨rfl, hb⟩
  have B5 := Lib.hid (chain2 B4.out hb)
  clear hb
  go_wp2
  go_ret
  exact ⟨rfl, B5.out⟩

end Go.Proofs.YtepipdikglabaaaDoor
