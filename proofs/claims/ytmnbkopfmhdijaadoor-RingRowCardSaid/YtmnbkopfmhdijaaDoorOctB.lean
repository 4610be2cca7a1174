/- The walk of octet.Put, octet.decode and octet.Get: their contracts. No condition but those that each states. -/
import Derived.Test.YtmnbkopfmhdijaaDoorOctA
namespace Go.Proofs.YtmnbkopfmhdijaaDoor
open Go.RowKit

theorem wide_cases {k : Int} (h : wideB k = true) : k = 1 ∨ k = 2 ∨ k = 4 ∨ k = 8 := by
  simp [wideB] at h; omega

set_option maxHeartbeats 400000 in
theorem put_wide (n k : Int) (w : World) (hk : wideB k = false) :
    Calls Tryd.prog 74 #[.int .i64 n, .int .i64 k] w fun e w' => e = .returned (.tuple #[.string ⟨#[]⟩, .int .i64 1]) ∧ w = w' := by
  go_enter Tryd.func74, Tryd.ntmps74
  go_wp2_with (first | (go_at_call 82; refine (isWidth_any _ _).mono ?_; rintro e w' ⟨rfl, rfl⟩))
  go_ret2
  exact ⟨rfl, rfl⟩

set_option maxHeartbeats 400000 in
theorem put_fits (n k : Int) (w : World) (hk : wideB k = true) (hf : fitsB n k = false) :
    Calls Tryd.prog 74 #[.int .i64 n, .int .i64 k] w fun e w' => e = .returned (.tuple #[.string ⟨#[]⟩, .int .i64 1]) ∧ w = w' := by
  go_enter Tryd.func74, Tryd.ntmps74
  go_wp2_with (first | (go_at_call 82; refine (isWidth_any _ _).mono ?_; rintro e w' ⟨rfl, rfl⟩) | (go_at_call 83; refine (fits_any _ _ _ (wide_cases hk)).mono ?_; rintro e w' ⟨rfl, rfl⟩))
  go_ret2
  exact ⟨rfl, rfl⟩

set_option maxHeartbeats 400000 in
theorem put_ok (n k : Int) (w : World) (hk : wideB k = true) (hf : fitsB n k = true) :
    Calls Tryd.prog 74 #[.int .i64 n, .int .i64 k] w fun e w' => e = .returned (.tuple #[.string ⟨(Lib.leBytes k.toNat (u64 n)).toArray⟩, .int .i64 0]) ∧ Below w.heap.size w w' := by
  go_enter Tryd.func74, Tryd.ntmps74
  go_wp2_with (first | (go_at_call 82; refine (isWidth_any _ _).mono ?_; rintro e w' ⟨rfl, rfl⟩) | (go_at_call 83; refine (fits_any _ _ _ (wide_cases hk)).mono ?_; rintro e w' ⟨rfl, rfl⟩))
  rw [← u64_cast]
  have hk' := wide_cases hk
  have hu := u64_lt n
  refine (encode_int _ _ _ (by omega) (by omega) (by omega) (by omega)).mono ?_
  rintro e w' ⟨rfl, hb⟩
  rw [Int.toNat_natCast]
  have HB := Lib.hid hb
  clear hb
  go_wp2
  go_ret2
  exact ⟨rfl, HB.out⟩

def decAt (l : List UInt8) (j : Nat) : Nat := Lib.leNat (l.take j)

set_option maxHeartbeats 400000 in
theorem decode_any (s : ByteArray) (w : World) (hs : s.size ≤ 8) :
    Calls Tryd.prog 86 #[.string s] w fun e w' => e = .returned (.int .u64 (Lib.leNat s.data.toList)) ∧ w = w' := by
  go_enter Tryd.func86, Tryd.ntmps86
  go_wp2
  go_loop [3, 7] (fun vn vi => ∃ j : Nat, j ≤ s.size ∧ vi = .int .i64 j ∧ vn = .int .u64 (decAt s.data.toList j)) (fun _ vi => s.size - (intOf vi).toNat)
  case atStart => exact ⟨0, Nat.zero_le _, rfl, by simp [decAt, Lib.leNat]⟩
  case round =>
    obtain ⟨j, hj, rfl, rfl⟩ := hrel
    by_cases hlt : j < s.size
    · have hst : Hid (bits .or .u64 (decAt s.data.toList j : Int) (IntKind.u64.wrap (IntKind.u64.wrap (s[j].toNat : Int) * 2 ^ (8 * j))) = (decAt s.data.toList (j + 1) : Int)) := by
        have h1 := leNat_lt (s.data.toList.take j)
        have h2 : (s.data.toList.take j).length = j := by simp; omega
        rw [h2] at h1
        have h3 := or_step (decAt s.data.toList j) s[j].toNat j (by omega) h1 (UInt8.toNat_lt _)
        unfold Hid
        rw [h3]
        unfold decAt
        rw [leNat_take_succ _ _ (by simpa using hlt)]
        rfl
      go_wp2
      go_round
      case rel => exact ⟨j + 1, by omega, by go_num, by rw [hst.out]⟩
      case measure => simp [intOf]; omega
    · obtain rfl : j = s.size := by omega
      go_wp2
      go_ret
      exact ⟨by unfold decAt; rw [List.take_of_length_le (by simp)]; rfl, rfl⟩

end Go.Proofs.YtmnbkopfmhdijaaDoor
