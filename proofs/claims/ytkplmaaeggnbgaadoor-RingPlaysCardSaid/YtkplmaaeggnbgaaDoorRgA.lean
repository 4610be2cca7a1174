/- The walks of ring's isValid, home, encode and decode: their contracts. No condition but those that each states. -/
import Derived.Test.YtkplmaaeggnbgaaDoorRgP
namespace Go.Proofs.YtkplmaaeggnbgaaDoor.Rg
open Go.RowKit Dk

set_option maxHeartbeats 1000000 in
theorem isValid_any (e : Ent) (w : World) :
    Calls Tryd.prog 82 #[.agg e.cells.toArray] w fun x w' => x = .returned (.bool e.valid) ∧ Below w.heap.size w w' := by
  obtain ⟨kind, number, slot, size, sum⟩ := e
  show Calls _ _ #[.agg #[.int .i64 kind, .int .i64 number, .int .i64 slot, .int .i64 size, .string (strOf sum)]] w _
  by_cases a1 : 1 ≤ kind
  · have t0 : decide (1 ≤ kind) = true := decide_eq_true a1
    by_cases a2 : kind ≤ 3
    · have t1 : decide (kind ≤ 3) = true := decide_eq_true a2
      by_cases a3 : 1 ≤ number
      · have t2 : decide (1 ≤ number) = true := decide_eq_true a3
        by_cases a4 : number ≤ 4294967295
        · have t3 : decide (number ≤ 4294967295) = true := decide_eq_true a4
          by_cases a5 : 0 ≤ slot
          · have t4 : decide (0 ≤ slot) = true := decide_eq_true a5
            by_cases a6 : slot ≤ 2
            · have t5 : decide (slot ≤ 2) = true := decide_eq_true a6
              by_cases a7 : 0 ≤ size
              · have t6 : decide (0 ≤ size) = true := decide_eq_true a7
                by_cases a8 : size ≤ 4294967295
                · have t7 : decide (size ≤ 4294967295) = true := decide_eq_true a8
                  by_cases a9 : sum.length = 32
                  · have HV : Hid ((Ent.mk kind number slot size sum).valid = true) := Lib.hid (decide_eq_true ⟨a1, a2, a3, a4, a5, a6, a7, a8, a9⟩)
                    have u0 : (strOf sum).size = 32 := by rw [strOf_size]; exact a9
                    have u1 : ((strOf sum).size : Int) = 32 := by omega
                    go_enter Tryd.func82, Tryd.ntmps82
                    go_wp2
                    go_ret
                    exact ⟨by rw [HV.out]; rfl, (Below.refl _ _).alloc (Nat.le_refl _) _⟩
                  · have HV : Hid ((Ent.mk kind number slot size sum).valid = false) := Lib.hid (decide_eq_false (fun h => a9 h.2.2.2.2.2.2.2.2))
                    have u0 : ¬(strOf sum).size = 32 := by rw [strOf_size]; exact a9
                    have u1 : (((strOf sum).size : Int) == 32) = false := by simp; omega
                    have u2 : decide (((strOf sum).size : Int) = 32) = false := decide_eq_false (by omega)
                    have u3 : ((strOf sum).size == 32) = false := by simpa using u0
                    have u4 : decide ((strOf sum).size = 32) = false := decide_eq_false u0
                    go_enter Tryd.func82, Tryd.ntmps82
                    go_wp2
                    go_ret
                    exact ⟨by rw [HV.out]; rfl, (Below.refl _ _).alloc (Nat.le_refl _) _⟩
                · have HV : Hid ((Ent.mk kind number slot size sum).valid = false) := Lib.hid (decide_eq_false (fun h => a8 h.2.2.2.2.2.2.2.1))
                  have t7 : decide (size ≤ 4294967295) = false := decide_eq_false a8
                  go_enter Tryd.func82, Tryd.ntmps82
                  go_wp2
                  go_ret
                  exact ⟨by rw [HV.out]; rfl, (Below.refl _ _).alloc (Nat.le_refl _) _⟩
              · have HV : Hid ((Ent.mk kind number slot size sum).valid = false) := Lib.hid (decide_eq_false (fun h => a7 h.2.2.2.2.2.2.1))
                have t6 : decide (0 ≤ size) = false := decide_eq_false a7
                go_enter Tryd.func82, Tryd.ntmps82
                go_wp2
                go_ret
                exact ⟨by rw [HV.out]; rfl, (Below.refl _ _).alloc (Nat.le_refl _) _⟩
            · have HV : Hid ((Ent.mk kind number slot size sum).valid = false) := Lib.hid (decide_eq_false (fun h => a6 h.2.2.2.2.2.1))
              have t5 : decide (slot ≤ 2) = false := decide_eq_false a6
              go_enter Tryd.func82, Tryd.ntmps82
              go_wp2
              go_ret
              exact ⟨by rw [HV.out]; rfl, (Below.refl _ _).alloc (Nat.le_refl _) _⟩
          · have HV : Hid ((Ent.mk kind number slot size sum).valid = false) := Lib.hid (decide_eq_false (fun h => a5 h.2.2.2.2.1))
            have t4 : decide (0 ≤ slot) = false := decide_eq_false a5
            go_enter Tryd.func82, Tryd.ntmps82
            go_wp2
            go_ret
            exact ⟨by rw [HV.out]; rfl, (Below.refl _ _).alloc (Nat.le_refl _) _⟩
        · have HV : Hid ((Ent.mk kind number slot size sum).valid = false) := Lib.hid (decide_eq_false (fun h => a4 h.2.2.2.1))
          have t3 : decide (number ≤ 4294967295) = false := decide_eq_false a4
          go_enter Tryd.func82, Tryd.ntmps82
          go_wp2
          go_ret
          exact ⟨by rw [HV.out]; rfl, (Below.refl _ _).alloc (Nat.le_refl _) _⟩
      · have HV : Hid ((Ent.mk kind number slot size sum).valid = false) := Lib.hid (decide_eq_false (fun h => a3 h.2.2.1))
        have t2 : decide (1 ≤ number) = false := decide_eq_false a3
        go_enter Tryd.func82, Tryd.ntmps82
        go_wp2
        go_ret
        exact ⟨by rw [HV.out]; rfl, (Below.refl _ _).alloc (Nat.le_refl _) _⟩
    · have HV : Hid ((Ent.mk kind number slot size sum).valid = false) := Lib.hid (decide_eq_false (fun h => a2 h.2.1))
      have t1 : decide (kind ≤ 3) = false := decide_eq_false a2
      go_enter Tryd.func82, Tryd.ntmps82
      go_wp2
      go_ret
      exact ⟨by rw [HV.out]; rfl, (Below.refl _ _).alloc (Nat.le_refl _) _⟩
  · have HV : Hid ((Ent.mk kind number slot size sum).valid = false) := Lib.hid (decide_eq_false (fun h => a1 h.1))
    have t0 : decide (1 ≤ kind) = false := decide_eq_false a1
    go_enter Tryd.func82, Tryd.ntmps82
    go_wp2
    go_ret
    exact ⟨by rw [HV.out]; rfl, (Below.refl _ _).alloc (Nat.le_refl _) _⟩

set_option maxHeartbeats 400000 in
theorem home_any (e : Ent) (h0 : 0 ≤ e.number) (w : World) :
    Calls Tryd.prog 54 #[.agg e.cells.toArray] w fun x w' => x = .returned (.int .i64 (e.number % 8)) ∧ Below w.heap.size w w' := by
  obtain ⟨kind, number, slot, size, sum⟩ := e
  replace h0 : 0 ≤ number := h0
  show Calls _ _ #[.agg #[.int .i64 kind, .int .i64 number, .int .i64 slot, .int .i64 size, .string (strOf sum)]] w fun x w' => x = .returned (.int .i64 (number % 8)) ∧ Below w.heap.size w w'
  go_enter Tryd.func54, Tryd.ntmps54
  go_wp2
  go_ret
  exact ⟨rfl, (Below.refl _ _).alloc (Nat.le_refl _) _⟩

theorem fits_le {n : Int} {k : Nat} (hk : k = 1 ∨ k = 4) (h0 : 0 ≤ n) (h1 : n < 256 ^ k) : wideB (k : Int) = true ∧ fitsB n (k : Int) = true := by
  rcases hk with rfl | rfl
  · exact ⟨rfl, by simp [fitsB]; omega⟩
  · exact ⟨rfl, by simp [fitsB]; omega⟩

set_option maxHeartbeats 400000 in
theorem encode_le (n : Int) (k : Nat) (hk : k = 1 ∨ k = 4) (h0 : 0 ≤ n) (h1 : n < 256 ^ k) (w : World) :
    Calls Tryd.prog 83 #[.int .i64 n, .int .i64 (k : Int)] w fun x w' => x = .returned (.string (strOf (le k n))) ∧ Below w.heap.size w w' := by
  obtain ⟨f1, f2⟩ := fits_le hk h0 h1
  have C := Lib.hid (put_ok n k w f1 f2)
  rw [Int.toNat_natCast] at C
  clear f1 f2
  go_enter Tryd.func83, Tryd.ntmps83
  go_wp2_with fail
  refine C.out.mono ?_
  rintro e w1 ⟨rfl, hb⟩
  have HB := Lib.hid hb
  clear hb
  go_wp2
  go_ret
  exact ⟨rfl, HB.out⟩

set_option maxHeartbeats 400000 in
theorem decode_at (s : Bytes) (p k : Nat) (hk : k = 1 ∨ k = 4) (_hp : p ≤ 1000) (hs : s.length ≤ 1000) (h : p + k ≤ s.length) (w : World) :
    Calls Tryd.prog 86 #[.string (strOf s), .int .i64 (p : Int), .int .i64 (k : Int)] w fun x w' => x = .returned (.int .i64 (getI ((s.drop p).take k))) ∧ w = w' := by
  have hw : wideB (k : Int) = true := by rcases hk with rfl | rfl <;> rfl
  have C := Lib.hid (get_nat (strOf s) p k w hw (by rw [strOf_size]; omega) (by rw [strOf_size]; omega))
  rw [strOf_toList] at C
  generalize getI ((s.drop p).take k) = v at C
  go_enter Tryd.func86, Tryd.ntmps86
  go_wp2_with fail
  refine C.out.mono ?_
  rintro e w1 ⟨rfl, rfl⟩
  go_wp2
  go_ret
  exact ⟨rfl, rfl⟩

end Go.Proofs.YtkplmaaeggnbgaaDoor.Rg
