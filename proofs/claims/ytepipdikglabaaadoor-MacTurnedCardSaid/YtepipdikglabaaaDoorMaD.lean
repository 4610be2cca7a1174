/- The walk of mac.same: its contract. No condition but that it states. -/
import Derived.Test.YtepipdikglabaaaDoorMaA
namespace Go.Proofs.YtepipdikglabaaaDoor
open Go.RowKit

theorem nat_xor_zero {a b : Nat} : a ^^^ b = 0 ↔ a = b := by
  constructor
  · intro h
    have : (a ^^^ b) ^^^ b = 0 ^^^ b := by rw [h]
    rwa [Nat.xor_assoc, Nat.xor_self, Nat.xor_zero, Nat.zero_xor] at this
  · rintro rfl; exact Nat.xor_self a

theorem nat_or_zero {a b : Nat} : a ||| b = 0 ↔ a = 0 ∧ b = 0 := by
  constructor
  · intro h
    have h1 : a ≤ a ||| b := Nat.left_le_or
    have h2 : b ≤ a ||| b := Nat.right_le_or
    omega
  · rintro ⟨rfl, rfl⟩; rfl

theorem wraps_i64' (n : Int) (h0 : 0 ≤ n) (h1 : n < 2 ^ 62) : IntKind.i64.wrap n = n := IntWalk.i64_in _ (by omega)

theorem u8_xor_zero (a b : UInt8) : (a ^^^ b).toNat = 0 ↔ a = b := by
  rw [UInt8.toNat_xor, nat_xor_zero, UInt8.toNat_inj]

/-- Alike, byte for byte. -/
def eqB (a b : ByteArray) : Bool := decide (a = b)

theorem eq_of_bytes (a b : ByteArray) : (a.size = b.size ∧ ∀ i, i < b.size → a.data.toList.getD i 0 = b.data.toList.getD i 0) ↔ a = b := by
  have ha : a.data.toList.length = a.size := by simp
  have hb : b.data.toList.length = b.size := by simp
  constructor
  · rintro ⟨h1, h2⟩
    apply ByteArray.ext
    apply Array.ext'
    refine List.ext_getElem (by omega) (fun i h3 h4 => ?_)
    have := h2 i (by omega)
    simpa [List.getD, List.getElem?_eq_getElem h3, List.getElem?_eq_getElem h4] using this
  · rintro rfl; exact ⟨rfl, fun _ _ => rfl⟩

set_option maxHeartbeats 1000000 in
set_option maxRecDepth 100000 in
theorem same_any (a b : ByteArray) (w : World) (ha : a.size ≤ 100000) (hb : b.size ≤ 100000) :
    Calls Tryd.prog 32 #[.string a, .string b] w fun e w' => e = .returned (.bool (eqB a b)) ∧ w = w' := by
  obtain ⟨d0, hd0⟩ : ∃ d0, d0 = a.size ^^^ b.size := ⟨_, rfl⟩
  have hx0 : bits .xor .i64 (a.size : Int) (b.size : Int) = (d0 : Int) := by
    rw [hd0]; exact bits_xor_nat .i64 62 (by decide) wraps_i64' _ _ (by omega) (by omega)
  have hd1 : d0 < 2 ^ 62 := by rw [hd0]; exact Nat.xor_lt_two_pow (by omega) (by omega)
  have hz : Hid (d0 = 0 ↔ a.size = b.size ∧ ∀ i, i < 0 → a.data.toList.getD i 0 = b.data.toList.getD i 0) := Lib.hid (by
    rw [hd0, nat_xor_zero]; exact ⟨fun h => ⟨h, fun i hi => absurd hi (Nat.not_lt_zero i)⟩, fun h => h.1⟩)
  clear hd0
  have HEQ := Lib.hid (eq_of_bytes a b)
  go_enter Tryd.func32, Tryd.ntmps32
  go_wp2
  clear hx0
  go_loop [5, 15] (fun vd vi => ∃ j d : Nat, j ≤ b.size ∧ vi = .int .i64 j ∧ vd = .int .i64 d ∧ d < 2 ^ 62 ∧ Hid (d = 0 ↔ a.size = b.size ∧ ∀ i, i < j → a.data.toList.getD i 0 = b.data.toList.getD i 0)) (fun _ vi => b.size - (intOf vi).toNat)
  case atStart => exact ⟨0, d0, Nat.zero_le _, rfl, rfl, hd1, hz⟩
  case round =>
    clear hz hd1
    obtain ⟨j, d, hj, rfl, rfl, hd, hD⟩ := hrel
    by_cases hlt : j < b.size
    · have hbj : b.data.toList.getD j 0 = b[j] := by simp [List.getD, hlt]; rfl
      have hstep : ∀ v : UInt8, a.data.toList.getD j 0 = v → Hid (d ||| (v ^^^ b[j]).toNat = 0 ↔ a.size = b.size ∧ ∀ i, i < j + 1 → a.data.toList.getD i 0 = b.data.toList.getD i 0) := fun v hv => Lib.hid (by
        rw [nat_or_zero, hD.out, u8_xor_zero, ← hbj, ← hv]
        constructor
        · rintro ⟨⟨h1, h2⟩, h3⟩
          exact ⟨h1, fun i hi => (Nat.lt_succ_iff_lt_or_eq.1 hi).elim (h2 i) (fun e => e ▸ h3)⟩
        · rintro ⟨h1, h2⟩
          exact ⟨⟨h1, fun i hi => h2 i (by omega)⟩, h2 j (Nat.lt_succ_self j)⟩)
      have hor : ∀ v : UInt8, bits .or .i64 (d : Int) (((v ^^^ b[j]).toNat : Nat) : Int) = ((d ||| (v ^^^ b[j]).toNat : Nat) : Int) := fun v =>
        (bits_nat .i64 62 (by decide) wraps_i64' d _ hd (by have := UInt8.toNat_lt (v ^^^ b[j]); omega)).2
      have hbd : ∀ v : UInt8, d ||| (v ^^^ b[j]).toNat < 2 ^ 62 := fun v => Nat.or_lt_two_pow hd (by have := UInt8.toNat_lt (v ^^^ b[j]); omega)
      by_cases hja : j < a.size
      · have hv := hstep a[j] (by simp [List.getD, hja]; rfl)
        have h1 := xor8 a[j] b[j]
        have h2 := hor a[j]
        have h3 := hbd a[j]
        generalize d ||| (a[j] ^^^ b[j]).toNat = d' at hv h2 h3
        have h4 := UInt8.toNat_lt (a[j] ^^^ b[j])
        generalize (a[j] ^^^ b[j]).toNat = x at h1 h2 h4
        clear hstep hor hbd hbj
        go_wp2
        go_round
        case rel => exact ⟨j + 1, d', by omega, by go_num, rfl, h3, hv⟩
        case measure => simp [intOf]; omega
      · have hv := hstep 0 (by
          have hl : a.data.toList.length = a.size := by simp
          rw [List.getD_eq_getElem?_getD, List.getElem?_eq_none (by omega)]; rfl)
        have t1 : decide (j < a.size) = false := decide_eq_false hja
        have h1 := xor8 0 b[j]
        have h2 := hor 0
        have h3 := hbd 0
        generalize d ||| (0 ^^^ b[j]).toNat = d' at hv h2 h3
        have h4 := UInt8.toNat_lt (0 ^^^ b[j])
        generalize (0 ^^^ b[j]).toNat = x at h1 h2 h4
        rw [show (((0 : UInt8).toNat : Nat) : Int) = 0 from rfl] at h1
        clear hstep hor hbd hbj
        go_wp2
        go_round
        case rel => exact ⟨j + 1, d', by omega, by go_num, rfl, h3, hv⟩
        case measure => simp [intOf]; omega
    · obtain rfl : j = b.size := by omega
      by_cases hd0 : d = 0
      · have HB : Hid (eqB a b = true) := Lib.hid (decide_eq_true (HEQ.out.1 (hD.out.1 hd0)))
        subst hd0
        go_wp2
        go_ret
        exact ⟨by rw [HB.out]; rfl, rfl⟩
      · have HB : Hid (eqB a b = false) := Lib.hid (decide_eq_false (fun h => hd0 (hD.out.2 (HEQ.out.2 h))))
        have t1 : ((d : Int) == 0) = false := by simp; omega
        clear hd0
        go_wp2
        go_ret
        exact ⟨by rw [HB.out]; rfl, rfl⟩

end Go.Proofs.YtepipdikglabaaaDoor
