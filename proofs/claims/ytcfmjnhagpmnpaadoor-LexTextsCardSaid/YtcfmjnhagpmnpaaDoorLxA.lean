/- The walks of lex's isBlank, isLetter, isDigit, escape, unescape: their contracts. No condition but those that each states. -/
import Derived.Test.YtcfmjnhagpmnpaaDoorChecked
import Derived.Test.YtcfmjnhagpmnpaaDoorLxP
import Derived.ProofKit
import Derived.WalkKit
import Derived.Below
namespace Go.Proofs.YtcfmjnhagpmnpaaDoor.Lx
open Go.RowKit

set_option maxHeartbeats 400000 in
theorem letter_any (r : Int) (w : World) : Calls Tryd.prog 28 #[.int .i32 r] w fun e w' => e = .returned (.bool (rL r)) ∧ w = w' := by
  rcases (show r < 97 ∨ (97 ≤ r ∧ r ≤ 122) ∨ 122 < r by omega) with h | ⟨h, h'⟩ | h
  all_goals
    go_enter Tryd.func28, Tryd.ntmps28
    go_wp2
    go_ret
    refine ⟨?_, rfl⟩
    congr 2
    unfold rL
    simp
    omega

set_option maxHeartbeats 400000 in
theorem digit_any (r : Int) (w : World) : Calls Tryd.prog 33 #[.int .i32 r] w fun e w' => e = .returned (.bool (rD r)) ∧ w = w' := by
  rcases (show r < 48 ∨ (48 ≤ r ∧ r ≤ 57) ∨ 57 < r by omega) with h | ⟨h, h'⟩ | h
  all_goals
    go_enter Tryd.func33, Tryd.ntmps33
    go_wp2
    go_ret
    refine ⟨?_, rfl⟩
    congr 2
    unfold rD
    simp
    omega

set_option maxHeartbeats 400000 in
theorem blank_any (r : Int) (w : World) : Calls Tryd.prog 31 #[.int .i32 r] w fun e w' => e = .returned (.bool (rB r)) ∧ w = w' := by
  rcases (show r = 32 ∨ r = 9 ∨ r = 10 ∨ r = 13 ∨ (r ≠ 32 ∧ r ≠ 9 ∧ r ≠ 10 ∧ r ≠ 13) by omega) with rfl | rfl | rfl | rfl | ⟨h1, h2, h3, h4⟩
  all_goals
    go_enter Tryd.func31, Tryd.ntmps31
    go_wp2
    go_ret
    refine ⟨?_, rfl⟩
    simp [rB, *]

/-- What stands behind a backslash in place of a byte, and whether there is one. -/
def escR (r : Int) : Value := if r = 10 then .tuple #[.int .u8 110, .bool true] else if r = 34 ∨ r = 92 then .tuple #[.int .u8 r, .bool true] else .tuple #[.int .u8 0, .bool false]
def unescR (r : Int) : Value := if r = 110 then .tuple #[.int .u8 10, .bool true] else if r = 34 ∨ r = 92 then .tuple #[.int .u8 r, .bool true] else .tuple #[.int .u8 0, .bool false]

set_option maxHeartbeats 400000 in
theorem escape_any (r : Int) (w : World) : Calls Tryd.prog 27 #[.int .i32 r] w fun e w' => e = .returned (escR r) ∧ w = w' := by
  rcases (show r = 10 ∨ r = 34 ∨ r = 92 ∨ (r ≠ 10 ∧ r ≠ 34 ∧ r ≠ 92) by omega) with rfl | rfl | rfl | ⟨h1, h2, h3⟩
  all_goals
    go_enter Tryd.func27, Tryd.ntmps27
    go_wp2
    go_ret2
    refine ⟨?_, rfl⟩
    unfold escR
    simp [*]

set_option maxHeartbeats 400000 in
theorem unescape_any (r : Int) (w : World) : Calls Tryd.prog 48 #[.int .i32 r] w fun e w' => e = .returned (unescR r) ∧ w = w' := by
  rcases (show r = 110 ∨ r = 34 ∨ r = 92 ∨ (r ≠ 110 ∧ r ≠ 34 ∧ r ≠ 92) by omega) with rfl | rfl | rfl | ⟨h1, h2, h3⟩
  all_goals
    go_enter Tryd.func48, Tryd.ntmps48
    go_wp2
    go_ret2
    refine ⟨?_, rfl⟩
    unfold unescR
    simp [*]

/-! a rune of more than one byte -/
theorem get_drop (s : ByteArray) (i j : Nat) (h : i + j < s.size) : (s.data.toList.drop i)[j]? = some (s.get! (i + j)) := by
  rw [List.getElem?_drop, List.getElem?_eq_getElem (by simpa using h)]
  congr 1
  simp [ByteArray.get!, getElem!_pos, h]

/-- A rune that is no ASCII takes bytes that are none, each. -/
theorem decode_bytes (s : ByteArray) (i : Nat) (h : i < s.size) (ha : 128 ≤ (s[i]'h).toNat) :
    1 ≤ (Utf8.decode s i).2 ∧ i + (Utf8.decode s i).2 ≤ s.size ∧ ∀ c ∈ (s.data.toList.drop i).take (Utf8.decode s i).2, 128 ≤ c.toNat := by
  have e0 : (s.get! i).toNat = (s[i]'h).toNat := by simp [ByteArray.get!, getElem!_pos, h]; rfl
  have key : ∀ k, 1 ≤ k → i + k ≤ s.size → (∀ j, j < k → 128 ≤ (s.get! (i + j)).toNat) → 1 ≤ k ∧ i + k ≤ s.size ∧ ∀ c ∈ (s.data.toList.drop i).take k, 128 ≤ c.toNat := by
    intro k h1 h2 h3
    refine ⟨h1, h2, fun c hc => ?_⟩
    obtain ⟨j, hj, rfl⟩ := List.mem_iff_getElem.1 hc
    rw [List.length_take] at hj
    have := get_drop s i j (by omega)
    rw [List.getElem_take]
    rw [List.getElem?_eq_getElem (by omega)] at this
    rw [Option.some.inj this]
    exact h3 j (by omega)
  rw [Lib.decode_at]
  unfold Lib.decodeN
  rw [e0]
  have a0 : ∀ j, j < 1 → 128 ≤ (s.get! (i + j)).toNat := fun j hj => by rw [show j = 0 by omega, Nat.add_zero, e0]; exact ha
  have a1 : (s.get! (i + 1)).toNat / 64 = 2 → ∀ j, j < 2 → 128 ≤ (s.get! (i + j)).toNat := fun q j hj => by
    rcases (show j < 1 ∨ j = 1 by omega) with hj | rfl
    · exact a0 j hj
    · omega
  have a2 : (s.get! (i + 1)).toNat / 64 = 2 → (s.get! (i + 2)).toNat / 64 = 2 → ∀ j, j < 3 → 128 ≤ (s.get! (i + j)).toNat := fun q q2 j hj => by
    rcases (show j < 2 ∨ j = 2 by omega) with hj | rfl
    · exact a1 q j hj
    · omega
  have a3 : (s.get! (i + 1)).toNat / 64 = 2 → (s.get! (i + 2)).toNat / 64 = 2 → (s.get! (i + 3)).toNat / 64 = 2 → ∀ j, j < 4 → 128 ≤ (s.get! (i + j)).toNat := fun q q2 q3 j hj => by
    rcases (show j < 3 ∨ j = 3 by omega) with hj | rfl
    · exact a2 q q2 j hj
    · omega
  repeat' split
  all_goals first
    | (exfalso; omega)
    | exact key 1 (by omega) (by omega) a0
    | exact key 2 (by omega) (by omega) (a1 (by omega))
    | exact key 3 (by omega) (by omega) (a2 (by omega) (by omega))
    | exact key 4 (by omega) (by omega) (a3 (by omega) (by omega) (by omega))

end Go.Proofs.YtcfmjnhagpmnpaaDoor.Lx
