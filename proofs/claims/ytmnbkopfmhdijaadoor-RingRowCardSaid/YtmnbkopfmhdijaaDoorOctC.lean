/- The walk of octet.Get, octet.Next, octet.Text: their contracts. No condition but those that each states. -/
import Derived.Test.YtmnbkopfmhdijaaDoorOctB
import Derived.Lib.Strings
import Derived.IntWalk
import Derived.ShutString
namespace Go.Proofs.YtmnbkopfmhdijaaDoor
open Go.RowKit

set_option maxHeartbeats 400000 in
theorem get_wide (s : ByteArray) (p k : Int) (w : World) (hk : wideB k = false) :
    Calls Tryd.prog 80 #[.string s, .int .i64 p, .int .i64 k] w fun e w' => e = .returned (.tuple #[.int .i64 0, .int .i64 1]) ∧ w = w' := by
  go_enter Tryd.func80, Tryd.ntmps80
  go_wp2_with (first | (go_at_call 82; refine (isWidth_any _ _).mono ?_; rintro e w' ⟨rfl, rfl⟩))
  go_ret2
  exact ⟨rfl, rfl⟩

set_option maxHeartbeats 400000 in
theorem get_neg (s : ByteArray) (p k : Int) (w : World) (hk : wideB k = true) (hp : p < 0) :
    Calls Tryd.prog 80 #[.string s, .int .i64 p, .int .i64 k] w fun e w' => e = .returned (.tuple #[.int .i64 0, .int .i64 1]) ∧ w = w' := by
  go_enter Tryd.func80, Tryd.ntmps80
  go_wp2_with (first | (go_at_call 82; refine (isWidth_any _ _).mono ?_; rintro e w' ⟨rfl, rfl⟩))
  go_ret2
  exact ⟨rfl, rfl⟩

set_option maxHeartbeats 400000 in
theorem get_short (s : ByteArray) (p k : Int) (w : World) (hk : wideB k = true) (hp : 0 ≤ p) (hp2 : p ≤ 9223372036854775807) (hs : s.size ≤ 9223372036854775807) (h : (s.size : Int) - p < k) :
    Calls Tryd.prog 80 #[.string s, .int .i64 p, .int .i64 k] w fun e w' => e = .returned (.tuple #[.int .i64 0, .int .i64 2]) ∧ w = w' := by
  have hp' : decide (p < 0) = false := by simp; omega
  go_enter Tryd.func80, Tryd.ntmps80
  go_wp2_with (first | (go_at_call 82; refine (isWidth_any _ _).mono ?_; rintro e w' ⟨rfl, rfl⟩))
  go_ret2
  exact ⟨rfl, rfl⟩

set_option maxHeartbeats 400000 in
theorem get_nat (s : ByteArray) (p q : Nat) (w : World) (hk : wideB q = true) (hs : s.size ≤ 9223372036854775807) (h : p + q ≤ s.size) :
    Calls Tryd.prog 80 #[.string s, .int .i64 p, .int .i64 q] w fun e w' => e = .returned (.tuple #[.int .i64 (getI ((s.data.toList.drop p).take q)), .int .i64 0]) ∧ w = w' := by
  have hq := wide_cases hk
  have hd : decide ((s.size : Int) - (p : Int) < (q : Int)) = false := by simp; omega
  go_enter Tryd.func80, Tryd.ntmps80
  go_wp2_with (first | (go_at_call 82; refine (isWidth_any _ _).mono ?_; rintro e w' ⟨rfl, rfl⟩))
  refine (decode_any _ _ (by rw [ByteArray.size_extract]; omega)).mono ?_
  rintro e w' ⟨rfl, rfl⟩
  rw [Lib.extract_data, Nat.add_sub_cancel_left]
  go_wp2
  go_ret2
  exact ⟨rfl, rfl⟩

/-- Where there are bytes enough: the number at the place. -/
theorem get_ok (s : ByteArray) (p k : Int) (w : World) (hk : wideB k = true) (hp : 0 ≤ p) (hs : s.size ≤ 9223372036854775807) (h : k ≤ (s.size : Int) - p) :
    Calls Tryd.prog 80 #[.string s, .int .i64 p, .int .i64 k] w fun e w' => e = .returned (.tuple #[.int .i64 (getI ((s.data.toList.drop p.toNat).take k.toNat)), .int .i64 0]) ∧ w = w' := by
  have hk' := wide_cases hk
  obtain ⟨a, rfl⟩ := Int.eq_ofNat_of_zero_le hp
  obtain ⟨q, rfl⟩ := Int.eq_ofNat_of_zero_le (show 0 ≤ k by omega)
  exact get_nat s a q w hk hs (by omega)

/-- Of four bytes the number is what they spell. -/
theorem getI_four (l : List UInt8) (h : l.length ≤ 4) : getI l = (Lib.leNat l : Int) ∧ (Lib.leNat l : Int) < 4294967296 := by
  have h1 := leNat_lt l
  have h2 : 256 ^ l.length ≤ 256 ^ 4 := Nat.pow_le_pow_right (by omega) h
  have h3 : Lib.leNat l < 4294967296 := Nat.lt_of_lt_of_le h1 h2
  exact ⟨by unfold getI wrap64; omega, by omega⟩

/-- The length that the four bytes at a place spell. -/
def lenAt (s : ByteArray) (p : Nat) : Nat := Lib.leNat ((s.data.toList.drop p).take 4)

theorem lenAt_lt (s : ByteArray) (p : Nat) : (lenAt s p : Int) < 4294967296 := (getI_four ((s.data.toList.drop p).take 4) (by simp; omega)).2
theorem getI_lenAt (s : ByteArray) (p : Nat) : getI ((s.data.toList.drop p).take 4) = (lenAt s p : Int) := (getI_four _ (by simp; omega)).1

end Go.Proofs.YtmnbkopfmhdijaaDoor
