/- The walk of lex.Name: its contract. No condition but those that each states. -/
import Derived.Test.YtcfgngaabledpaaTnC
namespace Go.Proofs.Ytcfgngaabledpaa.Lx
open Go.RowKit Dk
theorem spanN_full (p : UInt8 → Bool) : ∀ l : List UInt8, spanN p l = l.length ↔ l.all p = true
  | [] => by simp [spanN]
  | c :: r => by
    have h := spanN_full p r
    have hle := spanN_le p r
    unfold spanN
    by_cases hc : p c = true
    · rw [if_pos hc, List.length_cons, List.all_cons, hc, Bool.true_and, ← h]; omega
    · rw [if_neg hc, List.length_cons, List.all_cons]; simp [hc]
theorem isName_cons (c : UInt8) (r : List UInt8) : isName (c :: r) = (decide ((c :: r).length ≤ 16) && isL c && decide (spanN isW (c :: r) = (c :: r).length) && !isKey (c :: r)) := by
  unfold isName
  have h : (c :: r).all isW = decide (spanN isW (c :: r) = (c :: r).length) := by
    cases h : (c :: r).all isW with
    | true => exact (decide_eq_true ((spanN_full _ _).2 h)).symm
    | false => exact (decide_eq_false (fun e => by rw [(spanN_full _ _).1 e] at h; cases h)).symm
  rw [h]
  simp
theorem i32_byte (c : UInt8) : IntKind.i32.wrap (c.toNat : Int) = (c.toNat : Int) := by
  have := c.toNat_lt
  simp [IntKind.wrap, IntKind.bits, IntKind.signed]; omega
set_option maxHeartbeats 400000 in
theorem name_nil (w : World) : Calls Try.prog 34 #[.string ⟨#[]⟩] w fun e w' => e = .returned (.bool (isName [])) ∧ Below w.heap.size w w' := by
  go_enter Try.func34, Try.ntmps34
  go_wp2
  go_ret
  exact ⟨rfl, Below.refl _ _⟩
set_option maxHeartbeats 1000000 in
theorem name_cons (c : UInt8) (r : List UInt8) (w : World) (hs : (c :: r).length ≤ 2 ^ 40) : Calls Try.prog 34 #[.string (strOf (c :: r))] w fun e w' => e = .returned (.bool (isName (c :: r))) ∧ Below w.heap.size w w' := by
  have hsz := strOf_size (c :: r)
  have hne : ((strOf (c :: r)).toList == []) = false := by rw [strOf_tl]; rfl
  have hne2 : ((strOf (c :: r)).toList != []) = true := by rw [strOf_tl]; rfl
  have hpos : 0 < (strOf (c :: r)).size := by rw [hsz]; simp
  have hidx : ∀ W : World, (Instr.index 9 (.string (strOf (c :: r))) (.int .i64 0)).run Try.prog W = .ok (.int .u8 (c.toNat : Int)) W := fun W => by
    have h1 : ((strOf (c :: r))[0]'hpos) = c := rfl
    rw [← h1]
    go_simp
  have hcv := i32_byte c
  have CL := Lib.hid (fun W => letter_any (c.toNat : Int) W)
  have CW : Hid (∀ W, Calls Try.prog 44 #[.string (strOf (c :: r)), .int .i64 0] W fun e w' => e = .returned (.int .i64 (spanN isW (c :: r) : Nat)) ∧ Below W.heap.size W w') := Lib.hid (fun W => by
    have := wordEnd_any (strOf (c :: r)) 0 W (Nat.zero_le _) (by omega)
    rw [show from' (strOf (c :: r)) 0 = c :: r by simp [from', strOf], Nat.zero_add] at this
    exact this)
  have CK := Lib.hid (fun W => key_any (c :: r) W)
  have HN := Lib.hid (isName_cons c r)
  generalize isName (c :: r) = N at *
  generalize (c :: r).length = m at *
  generalize spanN isW (c :: r) = n at *
  generalize isKey (c :: r) = K at *
  generalize strOf (c :: r) = s at *
  by_cases h16 : m ≤ 16
  · cases hl : isL c with
    | false =>
      have k1 : rL (c.toNat : Int) = false := hl
      rw [k1] at CL
      have HF : Hid (N = false) := Lib.hid (by rw [HN.out, hl]; simp)
      clear k1 hl
      go_enter Try.func34, Try.ntmps34
      go_wp2_with (go_at_call 43; refine (CL.out _).mono ?_; rintro e w' ⟨rfl, rfl⟩)
      go_ret
      exact ⟨by rw [HF.out]; rfl, Below.refl _ _⟩
    | true =>
      have k1 : rL (c.toNat : Int) = true := hl
      rw [k1] at CL
      by_cases hn : n = m
      · have HF : Hid (N = !K) := Lib.hid (by rw [HN.out, hl]; simp [h16, hn])
        subst hn
        clear k1 hl
        cases K
        all_goals
          go_enter Try.func34, Try.ntmps34
          go_wp2_with (first
            | (go_at_call 43; refine (CL.out _).mono ?_; rintro e w' ⟨rfl, rfl⟩)
            | (go_at_call 44; refine (CW.out _).mono ?_; rintro e w' ⟨rfl, hb⟩; have HB := Lib.hid hb; clear hb)
            | (go_at_call 45; refine (CK.out _).mono ?_; rintro e w' ⟨rfl, rfl⟩))
          go_ret
          exact ⟨by rw [HF.out]; rfl, HB.out⟩
      · have HF : Hid (N = false) := Lib.hid (by rw [HN.out, hl]; simp [hn])
        have hnm : ((n : Int) == (m : Int)) = false := by simp; omega
        clear k1 hl
        go_enter Try.func34, Try.ntmps34
        go_wp2_with (first
          | (go_at_call 43; refine (CL.out _).mono ?_; rintro e w' ⟨rfl, rfl⟩)
          | (go_at_call 44; refine (CW.out _).mono ?_; rintro e w' ⟨rfl, hb⟩; have HB := Lib.hid hb; clear hb))
        go_ret
        exact ⟨by rw [HF.out]; rfl, HB.out⟩
  · have HF : Hid (N = false) := Lib.hid (by rw [HN.out]; simp [h16])
    go_enter Try.func34, Try.ntmps34
    go_wp2
    go_ret
    exact ⟨by rw [HF.out]; rfl, Below.refl _ _⟩
theorem name_any (l : List UInt8) (w : World) (hs : l.length ≤ 2 ^ 40) : Calls Try.prog 34 #[.string (strOf l)] w fun e w' => e = .returned (.bool (isName l)) ∧ Below w.heap.size w w' := by
  cases l with
  | nil => exact name_nil w
  | cons c r => exact name_cons c r w hs
end Go.Proofs.Ytcfgngaabledpaa.Lx
