/- The walks of the document's Write with a bad argument, and of Zero: their contracts. No condition but those that each states. -/
import Derived.Test.YthddiijnomhpfaaDkRf
namespace Go.Proofs.Ythddiijnomhpfaa.Dk
open Go.RowKit

set_option maxHeartbeats 2000000 in
theorem ref_write_bad (r : Nat) (S : DS) (i : Int) (s : ByteArray) (F : Nat → Prop) (w : World) (h : RefAt w F r S) (hon : S.on = true) (hi : i < 0 ∨ (S.L.length : Int) ≤ i ∨ s.size ≠ 64) :
    Calls Try.prog 43 #[.pointer (some ⟨r, 0, none⟩), .int .i64 i, .string s] w fun e w' => e = .returned (.int .i64 1) ∧ w = w' := by
  obtain ⟨vl, vw, a, m, hR, -⟩ := h
  have c2 := hR.cell (i := 2) rfl
  rw [hon] at c2
  obtain ⟨gl, cl, rfl⟩ := hR.formL
  have c0 := hR.cell (i := 0) rfl
  clear hR
  by_cases h0 : i < 0
  · have t0 : decide (i < 0) = true := decide_eq_true h0
    go_enter Try.func43, Try.ntmps43
    go_wp2
    go_ret
    exact ⟨rfl, rfl⟩
  · have t0 : decide (i < 0) = false := decide_eq_false h0
    by_cases h1 : (S.L.length : Int) ≤ i
    · have t1 : decide ((S.L.length : Int) ≤ i) = true := decide_eq_true h1
      go_enter Try.func43, Try.ntmps43
      go_wp2
      go_ret
      exact ⟨rfl, rfl⟩
    · have t1 : decide ((S.L.length : Int) ≤ i) = false := decide_eq_false h1
      have h2 : s.size ≠ 64 := by rcases hi with e | e | e; exact absurd e h0; exact absurd e h1; exact e
      have u0 : ((s.size : Int) == 64) = false := by simp; omega
      have u1 : (s.size == 64) = false := by simpa using h2
      have u2 : decide ((s.size : Int) = 64) = false := decide_eq_false (by omega)
      have u3 : decide (s.size = 64) = false := decide_eq_false h2
      go_enter Try.func43, Try.ntmps43
      go_wp2
      go_ret
      exact ⟨rfl, rfl⟩

set_option maxHeartbeats 1000000 in
theorem ref_zero (w : World) : Calls Try.prog 24 #[] w fun e w' => e = .returned (.string (strOf zeroB)) ∧ Below w.heap.size w w' := by
  have hm := make64
  have hcv := convert_range (P := Try.prog) (w := w.alloc (.cells (List.replicate 64 (.int .u8 0)).toArray 5)) (src := 53) (dst := 9) (e := 5) w.heap.size 0 64 64 zeroB Try.underlying53 Try.underlying5 Try.underlying9 rfl (by
    rw [show bv zeroB = List.replicate 64 (.int .u8 0) from rfl]; exact range_new w _ _)
  replace hcv : _ = Result.ok (Value.string (strOf zeroB)) _ := hcv
  have HB : Hid (Below w.heap.size w (w.alloc (.cells (List.replicate 64 (.int .u8 0)).toArray 5))) := Lib.hid ((Below.refl _ _).alloc (Nat.le_refl _) _)
  generalize (List.replicate 64 (Value.int .u8 0)).toArray = Z at *
  generalize strOf zeroB = X at *
  go_enter Try.func24, Try.ntmps24
  go_wp2
  go_ret
  exact ⟨rfl, HB.out⟩

end Go.Proofs.Ythddiijnomhpfaa.Dk
