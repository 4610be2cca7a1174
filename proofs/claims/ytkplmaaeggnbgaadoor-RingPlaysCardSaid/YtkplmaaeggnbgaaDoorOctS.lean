/- The walk of chrysalisref01.Get, chrysalisref01.Next and chrysalisref01.Text: their contracts. No condition but those that each states. -/
import Derived.Test.YtkplmaaeggnbgaaDoorOctU
import Derived.Test.YtkplmaaeggnbgaaDoorOctR
namespace Go.Proofs.YtkplmaaeggnbgaaDoor
open Go.RowKit

set_option maxHeartbeats 400000 in
theorem rget_wide (s : ByteArray) (p k : Int) (w : World) (hk : wideB k = false) :
    Calls Tryd.prog 87 #[.string s, .int .i64 p, .int .i64 k] w fun e w' => e = .returned (.tuple #[.int .i64 0, .int .i64 1]) ∧ w = w' := by
  go_enter Tryd.func87, Tryd.ntmps87
  go_wp2_with (first | (go_at_call 98; refine (wide_any _ _).mono ?_; rintro e w' ⟨rfl, rfl⟩))
  go_ret2
  exact ⟨rfl, rfl⟩

set_option maxHeartbeats 400000 in
theorem rget_neg (s : ByteArray) (p k : Int) (w : World) (hk : wideB k = true) (hp : p < 0) :
    Calls Tryd.prog 87 #[.string s, .int .i64 p, .int .i64 k] w fun e w' => e = .returned (.tuple #[.int .i64 0, .int .i64 1]) ∧ w = w' := by
  go_enter Tryd.func87, Tryd.ntmps87
  go_wp2_with (first | (go_at_call 98; refine (wide_any _ _).mono ?_; rintro e w' ⟨rfl, rfl⟩))
  go_ret2
  exact ⟨rfl, rfl⟩

set_option maxHeartbeats 400000 in
theorem rget_short (s : ByteArray) (p k : Int) (w : World) (hk : wideB k = true) (hp : 0 ≤ p) (hp2 : p ≤ 9223372036854775807) (hs : s.size ≤ 9223372036854775807) (h : (s.size : Int) - p < k) :
    Calls Tryd.prog 87 #[.string s, .int .i64 p, .int .i64 k] w fun e w' => e = .returned (.tuple #[.int .i64 0, .int .i64 2]) ∧ w = w' := by
  have hp' : decide (p < 0) = false := by simp; omega
  by_cases hq : (s.size : Int) < p
  all_goals
    go_enter Tryd.func87, Tryd.ntmps87
    go_wp2_with (first | (go_at_call 98; refine (wide_any _ _).mono ?_; rintro e w' ⟨rfl, rfl⟩))
    go_ret2
    exact ⟨rfl, rfl⟩

/-- The bytes at a place. -/
def bytesAt (s : ByteArray) (p q : Nat) : List UInt8 := (s.data.toList.drop p).take q

theorem bytesAt_length (s : ByteArray) (p q : Nat) (h : p + q ≤ s.size) : (bytesAt s p q).length = q := by
  simp [bytesAt]; omega

theorem bytesAt_at (s : ByteArray) (p q c : Nat) (_h : p + q ≤ s.size) (_hc : c < q) (h1 : c < (bytesAt s p q).length) (h2 : p + c < s.size) : (bytesAt s p q)[c] = s[p + c] := by
  simp only [bytesAt, List.getElem_take, List.getElem_drop]
  rfl

theorem bytesAt_step (s : ByteArray) (p q c : Nat) (h : p + q ≤ s.size) (hc : c < q) (h2 : p + c < s.size) : Lib.leNat ((bytesAt s p q).drop c) = 256 * Lib.leNat ((bytesAt s p q).drop (c + 1)) + s[p + c].toNat := by
  rw [leNat_drop _ c (by rw [bytesAt_length s p q h]; exact hc), bytesAt_at s p q c h hc _ h2]

theorem bytesAt_small (s : ByteArray) (p q c : Nat) (h : p + q ≤ s.size) (hq : q ≤ 8) (hc : c < q) : Lib.leNat ((bytesAt s p q).drop (c + 1)) < 72057594037927936 := by
  have h1 := leNat_lt ((bytesAt s p q).drop (c + 1))
  have h2 : ((bytesAt s p q).drop (c + 1)).length ≤ 7 := by rw [List.length_drop, bytesAt_length s p q h]; omega
  have h3 : 256 ^ ((bytesAt s p q).drop (c + 1)).length ≤ 256 ^ 7 := Nat.pow_le_pow_right (by omega) h2
  exact Nat.lt_of_lt_of_le h1 h3

set_option maxHeartbeats 1000000 in
theorem rget_nat (s : ByteArray) (p q : Nat) (w : World) (hk : wideB q = true) (hs : s.size ≤ 9223372036854775807) (h : p + q ≤ s.size) :
    Calls Tryd.prog 87 #[.string s, .int .i64 p, .int .i64 q] w fun e w' => e = .returned (.tuple #[.int .i64 (getI (bytesAt s p q)), .int .i64 0]) ∧ w = w' := by
  have hq := wide_cases hk
  have hp0 : decide ((p : Int) < 0) = false := by simp
  have hp1 : decide (s.size < p) = false := by simp; omega
  have hd : decide ((s.size : Int) - (p : Int) < (q : Int)) = false := by simp; omega
  go_enter Tryd.func87, Tryd.ntmps87
  go_wp2_with (first | (go_at_call 98; refine (wide_any _ _).mono ?_; rintro e w' ⟨rfl, rfl⟩))
  go_loop [8, 9] (fun vu vi => ∃ c : Nat, c ≤ q ∧ vi = .int .i64 ((c : Int) - 1) ∧ vu = .int .u64 (Lib.leNat ((bytesAt s p q).drop c) : Int)) (fun _ vi => (intOf vi + 1).toNat)
  case atStart => exact ⟨q, Nat.le_refl _, by go_num, by rw [List.drop_of_length_le (by rw [bytesAt_length s p q h]; exact Nat.le_refl _)]; rfl⟩
  case round =>
    obtain ⟨c, hc, rfl, rfl⟩ := hrel
    cases c with
    | zero =>
      rw [show ((0 : Nat) : Int) - 1 = -1 from rfl]
      rw [List.drop_zero]
      go_wp2
      go_ret2
      exact ⟨rfl, rfl⟩
    | succ c =>
      rw [show ((c + 1 : Nat) : Int) - 1 = (c : Int) by omega]
      have h2 : p + c < s.size := by omega
      have HS := Lib.hid (bytesAt_step s p q c h (by omega) h2)
      have hy := bytesAt_small s p q c h (by omega) (by omega)
      generalize Lib.leNat ((bytesAt s p q).drop (c + 1)) = y at HS hy ⊢
      have hb : s[p + c].toNat < 256 := UInt8.toNat_lt _
      go_wp2
      go_round
      case rel => exact ⟨c, by omega, by go_num, by rw [HS.out]; first | rfl | go_num⟩
      case measure => simp [intOf]

theorem bytesAt_lenAt (s : ByteArray) (p : Nat) : getI (bytesAt s p 4) = (lenAt s p : Int) := getI_lenAt s p

end Go.Proofs.YtkplmaaeggnbgaaDoor
