/- The walks of the document's exprs, function and kids: their contracts. No condition but those that each states. -/
import Derived.Test.YtcfgngaabledpaaTrF
namespace Go.Proofs.Ytcfgngaabledpaa.Tr
open Go.RowKit Dk Lx

set_option maxHeartbeats 1000000 in
theorem exprs_any (K : List Int) (v : Value) (lo hi : Nat) (w : World) (h : Ins w v K) (hl : K.length ≤ 4000) :
    Calls Try.prog 42 #[v, .int .i64 (lo : Int), .int .i64 (hi : Int)] w fun e w' => e = .returned (.bool (K.all isExpr && decide (lo ≤ K.length) && decide (K.length ≤ hi))) ∧ w = w' := by
  obtain ⟨p, c, rfl, -⟩ := id h
  have HK := Lib.hid h
  obtain ⟨n, hn⟩ : ∃ n, n = K.length := ⟨_, rfl⟩
  rw [← hn] at HK hl
  obtain ⟨R, hR⟩ : ∃ R, R = (K.all isExpr && decide (lo ≤ K.length) && decide (K.length ≤ hi)) := ⟨_, rfl⟩
  rw [← hR, ← hn]
  have HR := Lib.hid hR
  have HN := Lib.hid hn
  clear h hn hR
  go_enter Try.func42, Try.ntmps42
  go_wp2
  go_loopw [7] (fun vi wr => ∃ i : Nat, i ≤ n ∧ vi = .int .i64 (i : Int) ∧ wr = w ∧ Hid (∀ x ∈ K.take i, isExpr x = true)) (fun vi _ => n - (intOf vi).toNat)
  case atStart => exact ⟨0, Nat.zero_le _, rfl, rfl, Lib.hid (fun x hx => by simp at hx)⟩
  case round =>
    obtain ⟨i, hi', rfl, rfl, hA⟩ := hrel
    by_cases hlt : i < n
    · have h1 : i < K.length := by rw [← HN.out]; exact hlt
      obtain ⟨g1, o1, rfl, -, c1⟩ := HK.out.int i h1
      have z0 : (0 : Int) ≤ (i : Int) := by omega
      have z1 : (i : Int) < (n : Int) := by omega
      have C := Lib.hid (rexpr_any K[i] wr)
      cases hx : isExpr K[i] with
      | true =>
        have HA : Hid (∀ x ∈ K.take (i + 1), isExpr x = true) := Lib.hid (fun x hm => by
          rw [List.take_succ_eq_append_getElem h1] at hm
          rcases List.mem_append.1 hm with hm | hm
          · exact hA.out x hm
          · rw [List.mem_singleton.1 hm]; exact hx)
        rw [hx] at C
        generalize K[i] = x at *
        clear hx hA h1
        go_wp2_with fail
        refine C.out.mono ?_
        rintro e w1 ⟨rfl, rfl⟩
        go_wp2
        go_roundw
        case rel => exact ⟨i + 1, by omega, by go_num, by trivial, HA⟩
        case measure => simp [intOf]; omega
      | false =>
        have HF : Hid (R = false) := Lib.hid (by
          have : K.all isExpr = false := by
            cases h : K.all isExpr with
            | false => rfl
            | true => have := List.all_eq_true.1 h _ (List.getElem_mem h1); rw [hx] at this; cases this
          rw [HR.out, this]; rfl)
        rw [hx] at C
        generalize K[i] = x at *
        clear hx hA h1
        go_wp2_with fail
        refine C.out.mono ?_
        rintro e w1 ⟨rfl, rfl⟩
        go_wp2
        go_ret
        exact ⟨by rw [HF.out]; rfl, rfl⟩
    · obtain rfl : i = n := by omega
      have HT : Hid (R = (decide (lo ≤ i) && decide (i ≤ hi))) := Lib.hid (by
        have : K.all isExpr = true := List.all_eq_true.2 (by have := hA.out; rwa [List.take_of_length_le (by rw [← HN.out]; exact Nat.le_refl _)] at this)
        rw [HR.out, this, ← HN.out]; rfl)
      clear hA
      by_cases q1 : lo ≤ i
      · have v1 : (i : Int) ≥ (lo : Int) := by omega
        by_cases q2 : i ≤ hi
        · have v2 : (i : Int) ≤ (hi : Int) := by omega
          have HF : Hid (R = true) := Lib.hid (by rw [HT.out]; simp [q1, q2])
          clear q1 q2
          go_wp2
          go_ret
          exact ⟨by rw [HF.out]; rfl, rfl⟩
        · have v2 : ¬(i : Int) ≤ (hi : Int) := by omega
          have HF : Hid (R = false) := Lib.hid (by rw [HT.out]; simp [q2])
          clear q1 q2
          go_wp2
          go_ret
          exact ⟨by rw [HF.out]; rfl, rfl⟩
      · have v1 : ¬(i : Int) ≥ (lo : Int) := by omega
        have HF : Hid (R = false) := Lib.hid (by rw [HT.out]; simp [q1])
        clear q1
        go_wp2
        go_ret
        exact ⟨by rw [HF.out]; rfl, rfl⟩

/-- Parameters and a block, by their places. -/
theorem fun_iff : ∀ K : List Int, funR K = true ↔ 1 ≤ K.length ∧ K.length ≤ 9 ∧ K[K.length - 1]? = some 5 ∧ ∀ i, i + 1 < K.length → K[i]? = some 4
  | [] => by simp [funR]
  | x :: r => by
    have ih := fun_iff r
    rw [funR]
    by_cases hr : r = []
    · subst hr; simp
    · have hpos : 0 < r.length := List.length_pos_iff.2 hr
      rw [if_neg hr, Bool.and_eq_true, Bool.and_eq_true, ih]
      constructor
      · rintro ⟨⟨h1, h2⟩, h3, h4, h5, h6⟩
        have h1' : x = 4 := eq_of_beq h1
        have h2' := of_decide_eq_true h2
        refine ⟨by simp, by simp; omega, ?_, fun i hi => ?_⟩
        · rw [List.length_cons, show r.length + 1 - 1 = (r.length - 1) + 1 by omega, List.getElem?_cons_succ]; exact h5
        · cases i with
          | zero => rw [List.getElem?_cons_zero, h1']
          | succ i => rw [List.getElem?_cons_succ]; exact h6 i (by simp at hi; omega)
      · rintro ⟨h1, h2, h3, h4⟩
        rw [List.length_cons] at h2 h3
        refine ⟨⟨?_, decide_eq_true (by omega)⟩, by omega, by omega, ?_, fun i hi => ?_⟩
        · have := h4 0 (by simp; omega)
          rw [List.getElem?_cons_zero] at this
          rw [Option.some.inj this]; rfl
        · rw [show r.length + 1 - 1 = (r.length - 1) + 1 by omega, List.getElem?_cons_succ] at h3; exact h3
        · have := h4 (i + 1) (by simp; omega)
          rwa [List.getElem?_cons_succ] at this

set_option maxHeartbeats 1000000 in
theorem function_any (K : List Int) (v : Value) (w : World) (h : Ins w v K) (hl : K.length ≤ 4000) :
    Calls Try.prog 41 #[v] w fun e w' => e = .returned (.bool (funR K)) ∧ w = w' := by
  obtain ⟨p, c, rfl, -⟩ := id h
  have HK := Lib.hid h
  have HI := Lib.hid (fun_iff K)
  obtain ⟨n, hn⟩ : ∃ n, n = K.length := ⟨_, rfl⟩
  rw [← hn] at HK hl HI
  obtain ⟨R, hR⟩ : ∃ R, R = funR K := ⟨_, rfl⟩
  rw [← hR, ← hn]
  rw [← hR] at HI
  have HN := Lib.hid hn
  clear h hn hR
  by_cases q1 : 1 ≤ n
  case neg =>
    have HF : Hid (R = false) := Lib.hid (by cases h : R with
      | false => rfl
      | true => exact absurd (HI.out.1 h).1 q1)
    have v1 : (n : Int) < 1 := by omega
    clear q1
    go_enter Try.func41, Try.ntmps41
    go_wp2
    go_ret
    exact ⟨by rw [HF.out]; rfl, rfl⟩
  have v1 : ¬(n : Int) < 1 := by omega
  by_cases q2 : n ≤ 9
  case neg =>
    have HF : Hid (R = false) := Lib.hid (by cases h : R with
      | false => rfl
      | true => exact absurd (HI.out.1 h).2.1 q2)
    have v2 : (n : Int) > 9 := by omega
    clear q1 q2
    go_enter Try.func41, Try.ntmps41
    go_wp2
    go_ret
    exact ⟨by rw [HF.out]; rfl, rfl⟩
  have v2 : ¬(n : Int) > 9 := by omega
  obtain ⟨m, rfl⟩ : ∃ m, n = m + 1 := ⟨n - 1, by omega⟩
  have hmK : m < K.length := by rw [← HN.out]; omega
  obtain ⟨g, o, rfl, -, c0⟩ := HK.out.int m hmK
  have e1 : IntKind.i64.wrap (((m + 1 : Nat) : Int) - 1) = (m : Int) := by rw [wrap_in _ (by omega)]; omega
  have e2 : IntKind.i64.wrap ((m : Int) + 1 - 1) = (m : Int) := by rw [wrap_in _ (by omega)]; omega
  have z0 : (0 : Int) ≤ (m : Int) := by omega
  have z1 : (m : Int) < ((m + 1 : Nat) : Int) := by omega
  have HL : Hid (K[m]? = some K[m]) := Lib.hid (List.getElem?_eq_getElem hmK)
  generalize K[m] = x at *
  by_cases q3 : x = 5
  case neg =>
    have HF : Hid (R = false) := Lib.hid (by cases h : R with
      | false => rfl
      | true =>
        have := (HI.out.1 h).2.2.1
        rw [Nat.add_sub_cancel, HL.out] at this
        exact absurd (Option.some.inj this) q3)
    have v3 : (x == 5) = false := by simpa using q3
    have v4 : (x != 5) = true := by simpa using q3
    clear q1 q2 q3 hmK
    go_enter Try.func41, Try.ntmps41
    go_wp2
    go_ret
    exact ⟨by rw [HF.out]; rfl, rfl⟩
  subst q3
  clear q1 hmK
  go_enter Try.func41, Try.ntmps41
  go_wp2
  go_loopw [4] (fun vi wr => ∃ i : Nat, i ≤ m ∧ vi = .int .i64 (i : Int) ∧ wr = w ∧ Hid (∀ j, j < i → K[j]? = some 4)) (fun vi _ => m - (intOf vi).toNat)
  case atStart => exact ⟨0, Nat.zero_le _, rfl, rfl, Lib.hid (fun j hj => absurd hj (Nat.not_lt_zero j))⟩
  case round =>
    obtain ⟨i, hi', rfl, rfl, hA⟩ := hrel
    by_cases hlt : i < m
    · have h1 : i < K.length := by rw [← HN.out]; omega
      obtain ⟨g1, o1, hp, -, c1⟩ := HK.out.int i h1
      cases hp
      have y0 : (0 : Int) ≤ (i : Int) := by omega
      have y1 : (i : Int) < (m : Int) := by omega
      have y2 : (i : Int) < ((m + 1 : Nat) : Int) := by omega
      have HL2 : Hid (K[i]? = some K[i]) := Lib.hid (List.getElem?_eq_getElem h1)
      generalize K[i] = y at *
      by_cases q4 : y = 4
      · subst q4
        have HA : Hid (∀ j, j < i + 1 → K[j]? = some 4) := Lib.hid (fun j hj => by
          by_cases hji : j = i
          · subst hji; exact HL2.out
          · exact hA.out j (by omega))
        clear hA h1
        go_wp2
        go_roundw
        case rel => exact ⟨i + 1, by omega, by go_num, by trivial, HA⟩
        case measure => simp [intOf]; omega
      · have HF : Hid (R = false) := Lib.hid (by cases h : R with
          | false => rfl
          | true =>
            have := (HI.out.1 h).2.2.2 i (by omega)
            rw [HL2.out] at this
            exact absurd (Option.some.inj this) q4)
        have v3 : (y == 4) = false := by simpa using q4
        have v4 : (y != 4) = true := by simpa using q4
        clear hA h1 q4
        go_wp2
        go_ret
        exact ⟨by rw [HF.out]; rfl, rfl⟩
    · obtain rfl : i = m := by omega
      have HF : Hid (R = true) := Lib.hid (HI.out.2 ⟨by omega, q2, by rw [Nat.add_sub_cancel]; exact HL.out, fun j hj => hA.out j (by omega)⟩)
      have y1 : ¬(i : Int) < (i : Int) := by omega
      clear hA
      go_wp2
      go_ret
      exact ⟨by rw [HF.out]; rfl, rfl⟩

end Go.Proofs.Ytcfgngaabledpaa.Tr
