/- The walks of lex's isLetter and isDigit: their contracts. No condition but those that each states. -/
import Derived.Test.YtcfgngaabledpaaChecked
import Derived.Test.YtcfgngaabledpaaLxP
import Derived.ProofKit
import Derived.WalkKit
import Derived.Below
namespace Go.Proofs.Ytcfgngaabledpaa.Lx
open Go.RowKit
set_option maxHeartbeats 400000 in
theorem letter_any (r : Int) (w : World) : Calls Try.prog 43 #[.int .i32 r] w fun e w' => e = .returned (.bool (rL r)) ∧ w = w' := by
  rcases (show r < 97 ∨ (97 ≤ r ∧ r ≤ 122) ∨ 122 < r by omega) with h | ⟨h, h'⟩ | h
  all_goals
    go_enter Try.func43, Try.ntmps43
    go_wp2
    go_ret
    refine ⟨?_, rfl⟩
    congr 2
    unfold rL
    simp
    omega
set_option maxHeartbeats 400000 in
theorem digit_any (r : Int) (w : World) : Calls Try.prog 49 #[.int .i32 r] w fun e w' => e = .returned (.bool (rD r)) ∧ w = w' := by
  rcases (show r < 48 ∨ (48 ≤ r ∧ r ≤ 57) ∨ 57 < r by omega) with h | ⟨h, h'⟩ | h
  all_goals
    go_enter Try.func49, Try.ntmps49
    go_wp2
    go_ret
    refine ⟨?_, rfl⟩
    congr 2
    unfold rD
    simp
    omega
theorem get_drop (s : ByteArray) (i j : Nat) (h : i + j < s.size) : (s.data.toList.drop i)[j]? = some (s.get! (i + j)) := by
  rw [List.getElem?_drop, List.getElem?_eq_getElem (by simpa using h)]
  congr 1
  simp [ByteArray.get!, getElem!_pos, h]
/-- A rune that is no ASCII takes bytes that are none, each. -/
theorem decode_bytes (s : ByteArray) (i : Nat) (h : i < s.size) (ha : 128 ≤ (s[i]'h).toNat) :
    1 ≤ (Utf8.decode s i).2 ∧ i + (Utf8.decode s i).2 ≤ s.size ∧ ∀ c ∈ (s.data.toList.drop i).take (Utf8.decode s i).2, 128 ≤ c.toNat := by
  have e0 : (s.get! i).toNat = (s[i]'h).toNat := by simp [ByteArray.get!, getElem!_pos, h]; rfl
  have key : ∀ k, 1 ≤ k → i + k ≤ s.size → (∀ j, j < k → 128 ≤ (s.get! (i + j)).toNat) → 1 ≤ k ∧ i + k ≤ s.size ∧ ∀ c ∈ (s.data.toList.drop i).take k, 128 ≤ c.toNat := by
    intro k h1 h2 h3
    refine ⟨h1, h2, fun c hc => ?_⟩
    obtain ⟨j, hj, rfl⟩ := List.mem_iff_getElem.1 hc
    rw [List.length_take] at hj
    have := get_drop s i j (by omega)
    rw [List.getElem_take]
    rw [List.getElem?_eq_getElem (by omega)] at this
    rw [Option.some.inj this]
    exact h3 j (by omega)
  rw [Lib.decode_at]
  unfold Lib.decodeN
  rw [e0]
  have a0 : ∀ j, j < 1 → 128 ≤ (s.get! (i + j)).toNat := fun j hj => by rw [show j = 0 by omega, Nat.add_zero, e0]; exact ha
  have a1 : (s.get! (i + 1)).toNat / 64 = 2 → ∀ j, j < 2 → 128 ≤ (s.get! (i + j)).toNat := fun q j hj => by
    rcases (show j < 1 ∨ j = 1 by omega) with hj | rfl
    · exact a0 j hj
    · omega
  have a2 : (s.get! (i + 1)).toNat / 64 = 2 → (s.get! (i + 2)).toNat / 64 = 2 → ∀ j, j < 3 → 128 ≤ (s.get! (i + j)).toNat := fun q q2 j hj => by
    rcases (show j < 2 ∨ j = 2 by omega) with hj | rfl
    · exact a1 q j hj
    · omega
  have a3 : (s.get! (i + 1)).toNat / 64 = 2 → (s.get! (i + 2)).toNat / 64 = 2 → (s.get! (i + 3)).toNat / 64 = 2 → ∀ j, j < 4 → 128 ≤ (s.get! (i + j)).toNat := fun q q2 q3 j hj => by
    rcases (show j < 3 ∨ j = 3 by omega) with hj | rfl
    · exact a2 q q2 j hj
    · omega
  repeat' split
  all_goals first
    | (exfalso; omega)
    | exact key 1 (by omega) (by omega) a0
    | exact key 2 (by omega) (by omega) (a1 (by omega))
    | exact key 3 (by omega) (by omega) (a2 (by omega) (by omega))
    | exact key 4 (by omega) (by omega) (a3 (by omega) (by omega) (by omega))
end Go.Proofs.Ytcfgngaabledpaa.Lx
