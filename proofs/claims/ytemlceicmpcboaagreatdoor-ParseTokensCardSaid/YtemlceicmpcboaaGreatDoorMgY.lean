/- The walk of the document's kids: its contract. The walks of the document's fields, whole, and of its Check; TreeChecks: the walk of the law. No condition but those that each states. -/
import Derived.Test.YtemlceicmpcboaaGreatDoorMgV
import Derived.Test.YtemlceicmpcboaaGreatDoorMgW
import Derived.Test.YtemlceicmpcboaaGreatDoorMgX
namespace Go.Proofs.YtemlceicmpcboaaGreatDoor.Tr
open Go.RowKit Dk Lx

/-- Uses, then functions: behind functions or not. -/
def modS : Bool → List Int → Bool
  | _, [] => true
  | p, x :: r => if x = 2 then (!p && modS false r) else if x = 3 then modS true r else false
theorem modS_true : ∀ K : List Int, modS true K = K.all (· == 3)
  | [] => rfl
  | x :: r => by
    have ih := modS_true r
    rw [modS, List.all_cons]
    by_cases h2 : x = 2
    · subst h2; simp
    · rw [if_neg h2]
      by_cases h3 : x = 3
      · subst h3; rw [if_pos rfl, ih]; simp
      · rw [if_neg h3]; simp [h3]
theorem modS_false : ∀ K : List Int, modS false K = modR K
  | [] => rfl
  | x :: r => by
    have ih := modS_false r
    rw [modS, modR]
    by_cases h2 : x = 2
    · rw [if_pos h2, if_pos h2, ih]; simp
    · rw [if_neg h2, if_neg h2, modS_true, List.all_cons]
      by_cases h3 : x = 3
      · subst h3; simp
      · rw [if_neg h3]; simp [h3]

set_option maxHeartbeats 4000000 in
set_option maxRecDepth 100000 in
theorem rk_e1 (k : Int) (hk : k = 6 ∨ k = 7 ∨ k = 13 ∨ k = 14 ∨ k = 15 ∨ k = 17 ∨ k = 28 ∨ k = 30) (K : List Int) (v : Value) (w : World) (h : Ins w v K) (hl : K.length ≤ 2000) :
    Calls Tryz.prog 83 #[.int .i64 k, v] w fun e w' => e = .returned (.bool (kidsR k K)) ∧ w = w' := by
  have C : Hid (Calls Tryz.prog 141 #[v, .int .i64 1, .int .i64 1] w fun e w' => e = .returned (.bool (kidsR k K)) ∧ w = w') := Lib.hid (by
    have := exprs_any K v 1 1 w h (by omega)
    rw [show (K.all isExpr && decide (1 ≤ K.length) && decide (K.length ≤ 1)) = kidsR k K by
      rcases hk with rfl | rfl | rfl | rfl | rfl | rfl | rfl | rfl
      all_goals
        show _ = (K.all isExpr && _)
        rw [Bool.and_assoc]
        first
        | rfl
        | (congr 1; rw [← Bool.decide_and]; exact decide_eq_decide.2 (by omega))
        | (congr 1; simp)] at this
    exact this)
  obtain ⟨R, hR⟩ : ∃ R, R = kidsR k K := ⟨_, rfl⟩
  rw [← hR] at C ⊢
  clear hR
  obtain ⟨p, c, rfl, -⟩ := h
  clear hl
  rcases hk with rfl | rfl | rfl | rfl | rfl | rfl | rfl | rfl
  all_goals
    go_enter Tryz.func83, Tryz.ntmps83
    go_wp2_with fail
    refine C.out.mono ?_
    rintro e w1 ⟨rfl, rfl⟩
    go_wp2
    go_ret
    exact ⟨rfl, rfl⟩

set_option maxHeartbeats 4000000 in
set_option maxRecDepth 100000 in
theorem rk_e2 (k : Int) (hk : k = 26 ∨ k = 27) (K : List Int) (v : Value) (w : World) (h : Ins w v K) (hl : K.length ≤ 2000) :
    Calls Tryz.prog 83 #[.int .i64 k, v] w fun e w' => e = .returned (.bool (kidsR k K)) ∧ w = w' := by
  have C : Hid (Calls Tryz.prog 141 #[v, .int .i64 2, .int .i64 2] w fun e w' => e = .returned (.bool (kidsR k K)) ∧ w = w') := Lib.hid (by
    have := exprs_any K v 2 2 w h (by omega)
    rw [show (K.all isExpr && decide (2 ≤ K.length) && decide (K.length ≤ 2)) = kidsR k K by
      rcases hk with rfl | rfl
      all_goals
        show _ = (K.all isExpr && _)
        rw [Bool.and_assoc]
        first
        | rfl
        | (congr 1; rw [← Bool.decide_and]; exact decide_eq_decide.2 (by omega))
        | (congr 1; simp)] at this
    exact this)
  obtain ⟨R, hR⟩ : ∃ R, R = kidsR k K := ⟨_, rfl⟩
  rw [← hR] at C ⊢
  clear hR
  obtain ⟨p, c, rfl, -⟩ := h
  clear hl
  rcases hk with rfl | rfl
  all_goals
    go_enter Tryz.func83, Tryz.ntmps83
    go_wp2_with fail
    refine C.out.mono ?_
    rintro e w1 ⟨rfl, rfl⟩
    go_wp2
    go_ret
    exact ⟨rfl, rfl⟩

set_option maxHeartbeats 4000000 in
set_option maxRecDepth 100000 in
theorem rk_e3 (k : Int) (hk : k = 8) (K : List Int) (v : Value) (w : World) (h : Ins w v K) (hl : K.length ≤ 2000) :
    Calls Tryz.prog 83 #[.int .i64 k, v] w fun e w' => e = .returned (.bool (kidsR k K)) ∧ w = w' := by
  have C : Hid (Calls Tryz.prog 141 #[v, .int .i64 3, .int .i64 3] w fun e w' => e = .returned (.bool (kidsR k K)) ∧ w = w') := Lib.hid (by
    have := exprs_any K v 3 3 w h (by omega)
    rw [show (K.all isExpr && decide (3 ≤ K.length) && decide (K.length ≤ 3)) = kidsR k K by
      rcases hk with rfl
      all_goals
        show _ = (K.all isExpr && _)
        rw [Bool.and_assoc]
        first
        | rfl
        | (congr 1; rw [← Bool.decide_and]; exact decide_eq_decide.2 (by omega))
        | (congr 1; simp)] at this
    exact this)
  obtain ⟨R, hR⟩ : ∃ R, R = kidsR k K := ⟨_, rfl⟩
  rw [← hR] at C ⊢
  clear hR
  obtain ⟨p, c, rfl, -⟩ := h
  clear hl
  subst hk
  go_enter Tryz.func83, Tryz.ntmps83
  go_wp2_with fail
  refine C.out.mono ?_
  rintro e w1 ⟨rfl, rfl⟩
  go_wp2
  go_ret
  exact ⟨rfl, rfl⟩

set_option maxHeartbeats 4000000 in
set_option maxRecDepth 100000 in
theorem rk_e9 (k : Int) (hk : k = 22) (K : List Int) (v : Value) (w : World) (h : Ins w v K) (hl : K.length ≤ 2000) :
    Calls Tryz.prog 83 #[.int .i64 k, v] w fun e w' => e = .returned (.bool (kidsR k K)) ∧ w = w' := by
  have C : Hid (Calls Tryz.prog 141 #[v, .int .i64 1, .int .i64 9] w fun e w' => e = .returned (.bool (kidsR k K)) ∧ w = w') := Lib.hid (by
    have := exprs_any K v 1 9 w h (by omega)
    rw [show (K.all isExpr && decide (1 ≤ K.length) && decide (K.length ≤ 9)) = kidsR k K by
      rcases hk with rfl
      all_goals
        skip
        first
        | rfl
        | (congr 1; rw [← Bool.decide_and]; exact decide_eq_decide.2 (by omega))
        | (congr 1; simp)] at this
    exact this)
  obtain ⟨R, hR⟩ : ∃ R, R = kidsR k K := ⟨_, rfl⟩
  rw [← hR] at C ⊢
  clear hR
  obtain ⟨p, c, rfl, -⟩ := h
  clear hl
  subst hk
  go_enter Tryz.func83, Tryz.ntmps83
  go_wp2_with fail
  refine C.out.mono ?_
  rintro e w1 ⟨rfl, rfl⟩
  go_wp2
  go_ret
  exact ⟨rfl, rfl⟩

set_option maxHeartbeats 4000000 in
set_option maxRecDepth 100000 in
theorem rk_e8 (k : Int) (hk : k = 23) (K : List Int) (v : Value) (w : World) (h : Ins w v K) (hl : K.length ≤ 2000) :
    Calls Tryz.prog 83 #[.int .i64 k, v] w fun e w' => e = .returned (.bool (kidsR k K)) ∧ w = w' := by
  have C : Hid (Calls Tryz.prog 141 #[v, .int .i64 0, .int .i64 8] w fun e w' => e = .returned (.bool (kidsR k K)) ∧ w = w') := Lib.hid (by
    have := exprs_any K v 0 8 w h (by omega)
    rw [show (K.all isExpr && decide (0 ≤ K.length) && decide (K.length ≤ 8)) = kidsR k K by
      rcases hk with rfl
      all_goals
        show _ = (K.all isExpr && _)
        rw [Bool.and_assoc]
        first
        | rfl
        | (congr 1; rw [← Bool.decide_and]; exact decide_eq_decide.2 (by omega))
        | (congr 1; simp)] at this
    exact this)
  obtain ⟨R, hR⟩ : ∃ R, R = kidsR k K := ⟨_, rfl⟩
  rw [← hR] at C ⊢
  clear hR
  obtain ⟨p, c, rfl, -⟩ := h
  clear hl
  subst hk
  go_enter Tryz.func83, Tryz.ntmps83
  go_wp2_with fail
  refine C.out.mono ?_
  rintro e w1 ⟨rfl, rfl⟩
  go_wp2
  go_ret
  exact ⟨rfl, rfl⟩

set_option maxHeartbeats 4000000 in
set_option maxRecDepth 100000 in
theorem rk_f (k : Int) (hk : k = 3 ∨ k = 24) (K : List Int) (v : Value) (w : World) (h : Ins w v K) (hl : K.length ≤ 2000) :
    Calls Tryz.prog 83 #[.int .i64 k, v] w fun e w' => e = .returned (.bool (kidsR k K)) ∧ w = w' := by
  have C : Hid (Calls Tryz.prog 140 #[v] w fun e w' => e = .returned (.bool (kidsR k K)) ∧ w = w') := Lib.hid (by
    have := function_any K v w h (by omega)
    rw [show funR K = kidsR k K by rcases hk with rfl | rfl <;> rfl] at this
    exact this)
  obtain ⟨R, hR⟩ : ∃ R, R = kidsR k K := ⟨_, rfl⟩
  rw [← hR] at C ⊢
  clear hR
  obtain ⟨p, c, rfl, -⟩ := h
  clear hl
  rcases hk with rfl | rfl
  all_goals
    go_enter Tryz.func83, Tryz.ntmps83
    go_wp2_with fail
    refine C.out.mono ?_
    rintro e w1 ⟨rfl, rfl⟩
    go_wp2
    go_ret
    exact ⟨rfl, rfl⟩

set_option maxHeartbeats 4000000 in
set_option maxRecDepth 100000 in
theorem rk_s (k : Int) (hk : k = 5) (K : List Int) (v : Value) (w : World) (h : Ins w v K) (hl : K.length ≤ 2000) :
    Calls Tryz.prog 83 #[.int .i64 k, v] w fun e w' => e = .returned (.bool (kidsR k K)) ∧ w = w' := by
  subst hk
  obtain ⟨p, c, rfl, -⟩ := id h
  have HK := Lib.hid h
  obtain ⟨n, hn⟩ : ∃ n, n = K.length := ⟨_, rfl⟩
  rw [← hn] at HK hl
  obtain ⟨R, hR⟩ : ∃ R, R = kidsR 5 K := ⟨_, rfl⟩
  rw [← hR, ← hn]
  have HN := Lib.hid hn
  have HR : Hid (R = K.all isStmt) := Lib.hid hR
  clear h hn hR
  go_enter Tryz.func83, Tryz.ntmps83
  go_wp2
  go_loopw [7] (fun vi wr => ∃ i : Nat, i ≤ n ∧ vi = .int .i64 (i : Int) ∧ wr = w ∧ Hid (∀ x ∈ K.take i, isStmt x = true)) (fun vi _ => n - (intOf vi).toNat)
  case atStart => exact ⟨0, Nat.zero_le _, rfl, rfl, Lib.hid (fun x hx => by simp at hx)⟩
  case round =>
    obtain ⟨i, hi', rfl, rfl, hA⟩ := hrel
    by_cases hlt : i < n
    · have h1 : i < K.length := by rw [← HN.out]; exact hlt
      obtain ⟨g1, o1, rfl, -, c1⟩ := HK.out.int i h1
      have z0 : (0 : Int) ≤ (i : Int) := by omega
      have z1 : (i : Int) < (n : Int) := by omega
      have C := Lib.hid (rstmt_any K[i] wr)
      cases hx : isStmt K[i] with
      | true =>
        have HA : Hid (∀ x ∈ K.take (i + 1), isStmt x = true) := Lib.hid (fun x hm => by
          rw [List.take_succ_eq_append_getElem h1] at hm
          rcases List.mem_append.1 hm with hm | hm
          · exact hA.out x hm
          · rw [List.mem_singleton.1 hm]; exact hx)
        rw [hx] at C
        generalize K[i] = x at *
        clear hx hA h1
        go_wp2_with fail
        refine C.out.mono ?_
        rintro e w1 ⟨rfl, rfl⟩
        go_wp2
        go_roundw
        case rel => exact ⟨i + 1, by omega, by go_num, by trivial, HA⟩
        case measure => simp [intOf]; omega
      | false =>
        have HF : Hid (R = false) := Lib.hid (by
          rw [HR.out]
          cases h : K.all isStmt with
          | false => rfl
          | true => have := List.all_eq_true.1 h _ (List.getElem_mem h1); rw [hx] at this; cases this)
        rw [hx] at C
        generalize K[i] = x at *
        clear hx hA h1
        go_wp2_with fail
        refine C.out.mono ?_
        rintro e w1 ⟨rfl, rfl⟩
        go_wp2
        go_ret
        exact ⟨by rw [HF.out]; rfl, rfl⟩
    · obtain rfl : i = n := by omega
      have HT : Hid (R = true) := Lib.hid (by
        rw [HR.out]
        exact List.all_eq_true.2 (by have := hA.out; rwa [List.take_of_length_le (by rw [← HN.out]; exact Nat.le_refl _)] at this))
      clear hA
      go_wp2
      go_ret
      exact ⟨by rw [HT.out]; rfl, rfl⟩

set_option maxHeartbeats 4000000 in
set_option maxRecDepth 100000 in
theorem rk_m (k : Int) (hk : k = 1) (K : List Int) (v : Value) (w : World) (h : Ins w v K) (hl : K.length ≤ 2000) :
    Calls Tryz.prog 83 #[.int .i64 k, v] w fun e w' => e = .returned (.bool (kidsR k K)) ∧ w = w' := by
  subst hk
  obtain ⟨p, c, rfl, -⟩ := id h
  have HK := Lib.hid h
  obtain ⟨n, hn⟩ : ∃ n, n = K.length := ⟨_, rfl⟩
  rw [← hn] at HK hl
  obtain ⟨R, hR⟩ : ∃ R, R = kidsR 1 K := ⟨_, rfl⟩
  rw [← hR, ← hn]
  have HN := Lib.hid hn
  have HR : Hid (R = modS false (K.drop 0)) := Lib.hid (by rw [hR, List.drop_zero, modS_false]; rfl)
  clear h hn hR
  go_enter Tryz.func83, Tryz.ntmps83
  go_wp2
  go_loopw [6] (fun vi wr => ∃ (i : Nat) (q : Bool), i ≤ n ∧ vi = .int .i64 (i : Int) ∧ wr = w ∧ Hid (R = modS q (K.drop i)) ∧ Hid (i = 0 → q = false) ∧ Hid (∀ t, i = t + 1 → K[t]? = some (if q then 3 else 2))) (fun vi _ => n - (intOf vi).toNat)
  case atStart => exact ⟨0, false, Nat.zero_le _, rfl, rfl, HR, Lib.hid (fun _ => rfl), Lib.hid (fun t ht => by omega)⟩
  case round =>
    obtain ⟨i, q, hi', rfl, rfl, hA, h0, ht⟩ := hrel
    by_cases hlt : i < n
    · have h1 : i < K.length := by rw [← HN.out]; exact hlt
      obtain ⟨g1, o1, rfl, -, c1⟩ := HK.out.int i h1
      have z0 : (0 : Int) ≤ (i : Int) := by omega
      have z1 : (i : Int) < (n : Int) := by omega
      have hA' := hA.out
      rw [List.drop_eq_getElem_cons h1, modS] at hA'
      have HL : Hid (K[i]? = some K[i]) := Lib.hid (List.getElem?_eq_getElem h1)
      generalize K[i] = x at *
      by_cases hx2 : x = 2
      · subst hx2
        rw [if_pos rfl] at hA'
        by_cases hi0 : i = 0
        · have hq := h0.out hi0
          subst hq
          have HA2 : Hid (R = modS false (K.drop (i + 1))) := Lib.hid (by rw [hA']; rfl)
          have HT2 : Hid (∀ t, i + 1 = t + 1 → K[t]? = some (if false = true then 3 else 2)) := Lib.hid (fun t e => by
            obtain rfl : t = i := by omega
            rw [HL.out]; rfl)
          have y2 : ¬(i : Int) > 0 := by omega
          clear hA hA' h0 ht h1 hi0
          go_wp2
          go_roundw
          case rel => exact ⟨i + 1, false, by omega, by go_num, by trivial, HA2, Lib.hid (fun e => by omega), HT2⟩
          case measure => simp [intOf]; omega
        · obtain ⟨t, hti⟩ : ∃ t, i = t + 1 := ⟨i - 1, by omega⟩
          have hp := ht.out t hti
          have htK : t < K.length := by omega
          obtain ⟨g2, o2, hpp, -, c2⟩ := HK.out.int t htK
          cases hpp
          rw [List.getElem?_eq_getElem htK] at hp
          rw [Option.some.inj hp] at c2
          have e1 : IntKind.i64.wrap ((i : Int) - 1) = (t : Int) := by rw [wrap_in _ (by omega)]; omega
          have y0 : (0 : Int) ≤ (t : Int) := by omega
          have y1 : (t : Int) < (n : Int) := by omega
          have y2 : (i : Int) > 0 := by omega
          cases q with
          | true =>
            have HF : Hid (R = false) := Lib.hid (by rw [hA']; rfl)
            rw [if_pos rfl] at c2
            clear hA hA' h0 ht h1 hp htK hi0 hti
            go_wp2
            go_ret
            exact ⟨by rw [HF.out]; rfl, rfl⟩
          | false =>
            have HA2 : Hid (R = modS false (K.drop (i + 1))) := Lib.hid (by rw [hA']; rfl)
            have HT2 : Hid (∀ t', i + 1 = t' + 1 → K[t']? = some (if false = true then 3 else 2)) := Lib.hid (fun t' e => by
              obtain rfl : t' = i := by omega
              rw [HL.out]; rfl)
            rw [if_neg Bool.false_ne_true] at c2
            clear hA hA' h0 ht h1 hp htK hi0 hti
            go_wp2
            go_roundw
            case rel => exact ⟨i + 1, false, by omega, by go_num, by trivial, HA2, Lib.hid (fun e => by omega), HT2⟩
            case measure => simp [intOf]; omega
      · rw [if_neg hx2] at hA'
        have v1 : (x == 2) = false := by simpa using hx2
        have v2 : (x != 2) = true := by simpa using hx2
        by_cases hx3 : x = 3
        · subst hx3
          rw [if_pos rfl] at hA'
          have HA2 : Hid (R = modS true (K.drop (i + 1))) := Lib.hid hA'
          have HT2 : Hid (∀ t, i + 1 = t + 1 → K[t]? = some (if true = true then 3 else 2)) := Lib.hid (fun t e => by
            obtain rfl : t = i := by omega
            rw [HL.out]; rfl)
          clear hA hA' h0 ht h1 hx2 v1 v2
          by_cases hi0 : i = 0
          · have y2 : ¬(i : Int) > 0 := by omega
            clear hi0
            go_wp2
            go_roundw
            case rel => exact ⟨i + 1, true, by omega, by go_num, by trivial, HA2, Lib.hid (fun e => by omega), HT2⟩
            case measure => simp [intOf]; omega
          · have y2 : (i : Int) > 0 := by omega
            clear hi0
            go_wp2
            go_roundw
            case rel => exact ⟨i + 1, true, by omega, by go_num, by trivial, HA2, Lib.hid (fun e => by omega), HT2⟩
            case measure => simp [intOf]; omega
        · have HF : Hid (R = false) := Lib.hid (by rw [hA', if_neg hx3])
          have v3 : (x == 3) = false := by simpa using hx3
          have v4 : (x != 3) = true := by simpa using hx3
          clear hA hA' h0 ht h1 hx2 hx3
          go_wp2
          go_ret
          exact ⟨by rw [HF.out]; rfl, rfl⟩
    · obtain rfl : i = n := by omega
      have HT : Hid (R = true) := Lib.hid (by rw [hA.out, List.drop_eq_nil_of_le (by rw [← HN.out]; exact Nat.le_refl _)]; cases q <;> rfl)
      clear hA h0 ht
      go_wp2
      go_ret
      exact ⟨by rw [HT.out]; rfl, rfl⟩

set_option maxHeartbeats 4000000 in
set_option maxRecDepth 100000 in
theorem rk_i (k : Int) (hk : k = 9) (K : List Int) (v : Value) (w : World) (h : Ins w v K) (hl : K.length ≤ 2000) :
    Calls Tryz.prog 83 #[.int .i64 k, v] w fun e w' => e = .returned (.bool (kidsR k K)) ∧ w = w' := by
  subst hk
  obtain ⟨p, c, rfl, -⟩ := id h
  have HK := Lib.hid h
  obtain ⟨n, hn⟩ : ∃ n, n = K.length := ⟨_, rfl⟩
  rw [← hn] at HK hl
  obtain ⟨R, hR⟩ : ∃ R, R = kidsR 9 K := ⟨_, rfl⟩
  rw [← hR, ← hn]
  have HN := Lib.hid hn
  have HR : Hid (R = kidsR 9 K) := Lib.hid hR
  clear hn hR
  match K with
  | [] =>
    have HF : Hid (R = false) := Lib.hid (by rw [HR.out]; rfl)
    have hn : n = 0 := HN.out
    subst hn
    clear h HK HN HR
    go_enter Tryz.func83, Tryz.ntmps83
    go_wp2
    go_ret
    exact ⟨by rw [HF.out]; rfl, rfl⟩
  | [a] =>
    have HF : Hid (R = false) := Lib.hid (by rw [HR.out]; rfl)
    have hn : n = 1 := HN.out
    subst hn
    clear h HK HN HR
    go_enter Tryz.func83, Tryz.ntmps83
    go_wp2
    go_ret
    exact ⟨by rw [HF.out]; rfl, rfl⟩
  | [a, b] =>
    obtain ⟨g, o, rfl, -, c0⟩ := HK.out.int 0 (by simp)
    obtain ⟨g1, o1, hp1, -, c1⟩ := HK.out.int 1 (by simp)
    cases hp1
    simp only [List.getElem_cons_zero, List.getElem_cons_succ] at c0 c1
    rw [Nat.add_zero] at c0
    have hn : n = 2 := HN.out
    subst hn
    have C := Lib.hid (rexpr_any a w)
    clear h HN HK
    cases hx : isExpr a with
    | false =>
      have HF : Hid (R = false) := Lib.hid (by rw [HR.out]; show (isExpr a && b == 5) = false; rw [hx]; rfl)
      rw [hx] at C
      clear hx
      go_enter Tryz.func83, Tryz.ntmps83
      go_wp2_with fail
      refine C.out.mono ?_
      rintro e w1 ⟨rfl, rfl⟩
      go_wp2
      go_ret
      exact ⟨by rw [HF.out]; rfl, rfl⟩
    | true =>
      rw [hx] at C
      by_cases q2 : b = 5
      case neg =>
        have HF : Hid (R = false) := Lib.hid (by rw [HR.out]; show (isExpr a && b == 5) = false; simp [q2])
        have u2 : (b == 5) = false := by simpa using q2
        clear q2 hx
        go_enter Tryz.func83, Tryz.ntmps83
        go_wp2_with fail
        refine C.out.mono ?_
        rintro e w1 ⟨rfl, rfl⟩
        go_wp2
        go_ret
        exact ⟨by rw [HF.out]; rfl, rfl⟩
      subst q2
      have HF : Hid (R = true) := Lib.hid (by rw [HR.out]; show (isExpr a && (5 : Int) == 5) = true; rw [hx]; rfl)
      clear hx
      go_enter Tryz.func83, Tryz.ntmps83
      go_wp2_with fail
      refine C.out.mono ?_
      rintro e w1 ⟨rfl, rfl⟩
      go_wp2
      go_ret
      exact ⟨by rw [HF.out]; rfl, rfl⟩
  | [a, b, c'] =>
    obtain ⟨g, o, rfl, -, c0⟩ := HK.out.int 0 (by simp)
    obtain ⟨g1, o1, hp1, -, c1⟩ := HK.out.int 1 (by simp)
    cases hp1
    obtain ⟨g2, o2, hp2, -, c2⟩ := HK.out.int 2 (by simp)
    cases hp2
    simp only [List.getElem_cons_zero, List.getElem_cons_succ] at c0 c1 c2
    rw [Nat.add_zero] at c0
    have hn : n = 3 := HN.out
    subst hn
    have C := Lib.hid (rexpr_any a w)
    clear h HN HK
    by_cases q3 : c' = 5
    case neg =>
      have HF : Hid (R = false) := Lib.hid (by rw [HR.out]; show (isExpr a && b == 5 && c' == 5) = false; simp [q3])
      have u1 : (c' == 5) = false := by simpa using q3
      clear q3
      go_enter Tryz.func83, Tryz.ntmps83
      go_wp2
      go_ret
      exact ⟨by rw [HF.out]; rfl, rfl⟩
    subst q3
    cases hx : isExpr a with
    | false =>
      have HF : Hid (R = false) := Lib.hid (by rw [HR.out]; show (isExpr a && b == 5 && (5 : Int) == 5) = false; rw [hx]; rfl)
      rw [hx] at C
      clear hx
      go_enter Tryz.func83, Tryz.ntmps83
      go_wp2_with fail
      refine C.out.mono ?_
      rintro e w1 ⟨rfl, rfl⟩
      go_wp2
      go_ret
      exact ⟨by rw [HF.out]; rfl, rfl⟩
    | true =>
      rw [hx] at C
      by_cases q2 : b = 5
      case neg =>
        have HF : Hid (R = false) := Lib.hid (by rw [HR.out]; show (isExpr a && b == 5 && (5 : Int) == 5) = false; simp [q2])
        have u2 : (b == 5) = false := by simpa using q2
        clear q2 hx
        go_enter Tryz.func83, Tryz.ntmps83
        go_wp2_with fail
        refine C.out.mono ?_
        rintro e w1 ⟨rfl, rfl⟩
        go_wp2
        go_ret
        exact ⟨by rw [HF.out]; rfl, rfl⟩
      subst q2
      have HF : Hid (R = true) := Lib.hid (by rw [HR.out]; show (isExpr a && (5 : Int) == 5 && (5 : Int) == 5) = true; rw [hx]; rfl)
      clear hx
      go_enter Tryz.func83, Tryz.ntmps83
      go_wp2_with fail
      refine C.out.mono ?_
      rintro e w1 ⟨rfl, rfl⟩
      go_wp2
      go_ret
      exact ⟨by rw [HF.out]; rfl, rfl⟩
  | a :: b :: c' :: d :: r =>
    have HF : Hid (R = false) := Lib.hid (by rw [HR.out]; rfl)
    have hn : n = r.length + 4 := HN.out
    have u1 : ((n : Int) == 2) = false := by simp; omega
    have u2 : ((n : Int) == 3) = false := by simp; omega
    clear hn
    clear h HK HN HR
    go_enter Tryz.func83, Tryz.ntmps83
    go_wp2
    go_ret
    exact ⟨by rw [HF.out]; rfl, rfl⟩

set_option maxHeartbeats 4000000 in
set_option maxRecDepth 100000 in
theorem rk_w (k : Int) (hk : k = 10) (K : List Int) (v : Value) (w : World) (h : Ins w v K) (hl : K.length ≤ 2000) :
    Calls Tryz.prog 83 #[.int .i64 k, v] w fun e w' => e = .returned (.bool (kidsR k K)) ∧ w = w' := by
  subst hk
  obtain ⟨p, c, rfl, -⟩ := id h
  have HK := Lib.hid h
  obtain ⟨n, hn⟩ : ∃ n, n = K.length := ⟨_, rfl⟩
  rw [← hn] at HK hl
  obtain ⟨R, hR⟩ : ∃ R, R = kidsR 10 K := ⟨_, rfl⟩
  rw [← hR, ← hn]
  have HN := Lib.hid hn
  have HR : Hid (R = kidsR 10 K) := Lib.hid hR
  clear hn hR
  match K with
  | [] =>
    have HF : Hid (R = false) := Lib.hid (by rw [HR.out]; rfl)
    have hn : n = 0 := HN.out
    subst hn
    clear h HK HN HR
    go_enter Tryz.func83, Tryz.ntmps83
    go_wp2
    go_ret
    exact ⟨by rw [HF.out]; rfl, rfl⟩
  | [a] =>
    have HF : Hid (R = false) := Lib.hid (by rw [HR.out]; rfl)
    have hn : n = 1 := HN.out
    subst hn
    clear h HK HN HR
    go_enter Tryz.func83, Tryz.ntmps83
    go_wp2
    go_ret
    exact ⟨by rw [HF.out]; rfl, rfl⟩
  | [a, b] =>
    obtain ⟨g, o, rfl, -, c0⟩ := HK.out.int 0 (by simp)
    obtain ⟨g1, o1, hp1, -, c1⟩ := HK.out.int 1 (by simp)
    cases hp1
    simp only [List.getElem_cons_zero, List.getElem_cons_succ] at c0 c1
    rw [Nat.add_zero] at c0
    have hn : n = 2 := HN.out
    subst hn
    have C := Lib.hid (rexpr_any a w)
    clear h HN HK
    cases hx : isExpr a with
    | false =>
      have HF : Hid (R = false) := Lib.hid (by rw [HR.out]; show (isExpr a && b == 5) = false; rw [hx]; rfl)
      rw [hx] at C
      clear hx
      go_enter Tryz.func83, Tryz.ntmps83
      go_wp2_with fail
      refine C.out.mono ?_
      rintro e w1 ⟨rfl, rfl⟩
      go_wp2
      go_ret
      exact ⟨by rw [HF.out]; rfl, rfl⟩
    | true =>
      rw [hx] at C
      by_cases q2 : b = 5
      case neg =>
        have HF : Hid (R = false) := Lib.hid (by rw [HR.out]; show (isExpr a && b == 5) = false; simp [q2])
        have u2 : (b == 5) = false := by simpa using q2
        clear q2 hx
        go_enter Tryz.func83, Tryz.ntmps83
        go_wp2_with fail
        refine C.out.mono ?_
        rintro e w1 ⟨rfl, rfl⟩
        go_wp2
        go_ret
        exact ⟨by rw [HF.out]; rfl, rfl⟩
      subst q2
      have HF : Hid (R = true) := Lib.hid (by rw [HR.out]; show (isExpr a && (5 : Int) == 5) = true; rw [hx]; rfl)
      clear hx
      go_enter Tryz.func83, Tryz.ntmps83
      go_wp2_with fail
      refine C.out.mono ?_
      rintro e w1 ⟨rfl, rfl⟩
      go_wp2
      go_ret
      exact ⟨by rw [HF.out]; rfl, rfl⟩
  | a :: b :: c' :: r =>
    have HF : Hid (R = false) := Lib.hid (by rw [HR.out]; rfl)
    have hn : n = r.length + 3 := HN.out
    have u1 : ((n : Int) == 2) = false := by simp; omega
    clear hn
    clear h HK HN HR
    go_enter Tryz.func83, Tryz.ntmps83
    go_wp2
    go_ret
    exact ⟨by rw [HF.out]; rfl, rfl⟩

set_option maxHeartbeats 4000000 in
set_option maxRecDepth 100000 in
theorem rk_0 (k : Int) (hk : k ≠ 1 ∧ k ≠ 3 ∧ k ≠ 24 ∧ k ≠ 5 ∧ k ≠ 8 ∧ k ≠ 9 ∧ k ≠ 10 ∧ k ≠ 6 ∧ k ≠ 7 ∧ k ≠ 13 ∧ k ≠ 14 ∧ k ≠ 15 ∧ k ≠ 17 ∧ k ≠ 28 ∧ k ≠ 30 ∧ k ≠ 22 ∧ k ≠ 23 ∧ k ≠ 26 ∧ k ≠ 27) (K : List Int) (v : Value) (w : World) (h : Ins w v K) (_hl : K.length ≤ 2000) :
    Calls Tryz.prog 83 #[.int .i64 k, v] w fun e w' => e = .returned (.bool (kidsR k K)) ∧ w = w' := by
  obtain ⟨p, c, rfl, -⟩ := id h
  have HK := Lib.hid h
  obtain ⟨n, hn⟩ : ∃ n, n = K.length := ⟨_, rfl⟩
  rw [← hn] at HK
  obtain ⟨R, hR⟩ : ∃ R, R = kidsR k K := ⟨_, rfl⟩
  rw [← hR, ← hn]
  have HN := Lib.hid hn
  have HR : Hid (R = decide (n = 0)) := Lib.hid (by rw [hR, hn]; unfold kidsR; simp [hk])
  obtain ⟨n1, n3, n24, n5, n8, n9, n10, n6, n7, n13, n14, n15, n17, n28, n30, n22, n23, n26, n27⟩ := hk
  have m1 : (k == 1) = false := beq_false_of_ne n1
  have m3 : (k == 3) = false := beq_false_of_ne n3
  have m24 : (k == 24) = false := beq_false_of_ne n24
  have m5 : (k == 5) = false := beq_false_of_ne n5
  have m8 : (k == 8) = false := beq_false_of_ne n8
  have m9 : (k == 9) = false := beq_false_of_ne n9
  have m10 : (k == 10) = false := beq_false_of_ne n10
  have m6 : (k == 6) = false := beq_false_of_ne n6
  have m7 : (k == 7) = false := beq_false_of_ne n7
  have m13 : (k == 13) = false := beq_false_of_ne n13
  have m14 : (k == 14) = false := beq_false_of_ne n14
  have m15 : (k == 15) = false := beq_false_of_ne n15
  have m17 : (k == 17) = false := beq_false_of_ne n17
  have m28 : (k == 28) = false := beq_false_of_ne n28
  have m30 : (k == 30) = false := beq_false_of_ne n30
  have m22 : (k == 22) = false := beq_false_of_ne n22
  have m23 : (k == 23) = false := beq_false_of_ne n23
  have m26 : (k == 26) = false := beq_false_of_ne n26
  have m27 : (k == 27) = false := beq_false_of_ne n27
  clear n1 n3 n24 n5 n8 n9 n10 n6 n7 n13 n14 n15 n17 n28 n30 n22 n23 n26 n27 h hn hR HK HN
  by_cases q0 : n = 0
  · have HF : Hid (R = true) := Lib.hid (by rw [HR.out]; exact decide_eq_true q0)
    have u1 : ((n : Int) == 0) = true := by simp [q0]
    clear q0
    go_enter Tryz.func83, Tryz.ntmps83
    go_wp2
    go_ret
    exact ⟨by rw [HF.out]; rfl, rfl⟩
  · have HF : Hid (R = false) := Lib.hid (by rw [HR.out]; exact decide_eq_false q0)
    have u1 : ((n : Int) == 0) = false := by simp; omega
    clear q0
    go_enter Tryz.func83, Tryz.ntmps83
    go_wp2
    go_ret
    exact ⟨by rw [HF.out]; rfl, rfl⟩

theorem rkids_kinds (k : Int) (K : List Int) (v : Value) (w : World) (h : Ins w v K) (hl : K.length ≤ 2000) :
    Calls Tryz.prog 83 #[.int .i64 k, v] w fun e w' => e = .returned (.bool (kidsR k K)) ∧ w = w' := by
  by_cases a1 : k = 6 ∨ k = 7 ∨ k = 13 ∨ k = 14 ∨ k = 15 ∨ k = 17 ∨ k = 28 ∨ k = 30
  · exact rk_e1 k a1 K v w h hl
  by_cases a2 : k = 26 ∨ k = 27
  · exact rk_e2 k a2 K v w h hl
  by_cases a3 : k = 8
  · exact rk_e3 k a3 K v w h hl
  by_cases a4 : k = 22
  · exact rk_e9 k a4 K v w h hl
  by_cases a5 : k = 23
  · exact rk_e8 k a5 K v w h hl
  by_cases a6 : k = 3 ∨ k = 24
  · exact rk_f k a6 K v w h hl
  by_cases a7 : k = 5
  · exact rk_s k a7 K v w h hl
  by_cases a8 : k = 1
  · exact rk_m k a8 K v w h hl
  by_cases a9 : k = 9
  · exact rk_i k a9 K v w h hl
  by_cases b1 : k = 10
  · exact rk_w k b1 K v w h hl
  exact rk_0 k (by omega) K v w h hl

end Go.Proofs.YtemlceicmpcboaaGreatDoor.Tr
namespace Go.Proofs.YtemlceicmpcboaaGreatDoor.Tr
open Go.RowKit Dk Lx

set_option maxRecDepth 100000 in
theorem rf_any (x : Nd) (h : x.name.length ≤ 9000 ∧ x.text.length ≤ 9000) (w : World) :
    Calls Tryz.prog 82 #[.agg x.cells.toArray] w fun e w' => e = .returned (.bool (fieldsR x)) ∧ Below w.heap.size w w' := by
  obtain ⟨k, d, q, z, s⟩ := x
  obtain ⟨h1, h2⟩ : q.length ≤ 9000 ∧ s.length ≤ 9000 := h
  show Calls _ _ #[.agg #[.int .i64 k, .int .i64 d, .string (strOf q), .int .i64 z, .string (strOf s)]] w _
  by_cases a0 : k = 1
  · have := rf_1 k d z q s a0 h1 h2 w
    have e : fieldsR ⟨k, d, q, z, s⟩ = _ := (congrArg (· && (decide (1 ≤ k) && decide (k ≤ 30))) (show fieldsP ⟨k, d, q, z, s⟩ = _ from if_pos a0)).trans ((congrArg (_ && ·) (show (decide (1 ≤ k) && decide (k ≤ 30)) = true by subst a0; rfl)).trans (Bool.and_true _))
    rw [e]
    simpa [Bool.and_comm, Bool.and_assoc, Bool.and_left_comm] using this
  by_cases a1 : k = 2
  · have := rf_2 k d z q s a1 h1 h2 w
    have e : fieldsR ⟨k, d, q, z, s⟩ = _ := (congrArg (· && (decide (1 ≤ k) && decide (k ≤ 30))) (show fieldsP ⟨k, d, q, z, s⟩ = _ from (if_neg a0).trans (if_pos a1))).trans ((congrArg (_ && ·) (show (decide (1 ≤ k) && decide (k ≤ 30)) = true by subst a1; rfl)).trans (Bool.and_true _))
    rw [e]
    simpa [Bool.and_comm, Bool.and_assoc, Bool.and_left_comm] using this
  by_cases a2 : k = 3 ∨ k = 4 ∨ k = 6 ∨ k = 7 ∨ k = 21
  · have := rf_3 k d z q s a2 h1 h2 w
    have e : fieldsR ⟨k, d, q, z, s⟩ = _ := (congrArg (· && (decide (1 ≤ k) && decide (k ≤ 30))) (show fieldsP ⟨k, d, q, z, s⟩ = _ from (if_neg a0).trans ((if_neg a1).trans (if_pos a2)))).trans ((congrArg (_ && ·) (show (decide (1 ≤ k) && decide (k ≤ 30)) = true by rcases a2 with rfl | rfl | rfl | rfl | rfl <;> rfl)).trans (Bool.and_true _))
    rw [e]
    simpa [Bool.and_comm, Bool.and_assoc, Bool.and_left_comm] using this
  by_cases a3 : k = 19
  · have := rf_19 k d z q s a3 h1 h2 w
    have e : fieldsR ⟨k, d, q, z, s⟩ = _ := (congrArg (· && (decide (1 ≤ k) && decide (k ≤ 30))) (show fieldsP ⟨k, d, q, z, s⟩ = _ from (if_neg a0).trans ((if_neg a1).trans ((if_neg a2).trans (if_pos a3))))).trans ((congrArg (_ && ·) (show (decide (1 ≤ k) && decide (k ≤ 30)) = true by subst a3; rfl)).trans (Bool.and_true _))
    rw [e]
    simpa [Bool.and_comm, Bool.and_assoc, Bool.and_left_comm] using this
  by_cases a4 : k = 20
  · have := rf_20 k d z q s a4 h1 h2 w
    have e : fieldsR ⟨k, d, q, z, s⟩ = _ := (congrArg (· && (decide (1 ≤ k) && decide (k ≤ 30))) (show fieldsP ⟨k, d, q, z, s⟩ = _ from (if_neg a0).trans ((if_neg a1).trans ((if_neg a2).trans ((if_neg a3).trans (if_pos a4)))))).trans ((congrArg (_ && ·) (show (decide (1 ≤ k) && decide (k ≤ 30)) = true by subst a4; rfl)).trans (Bool.and_true _))
    rw [e]
    simpa [Bool.and_comm, Bool.and_assoc, Bool.and_left_comm] using this
  by_cases a5 : k = 23
  · have := rf_23 k d z q s a5 h1 h2 w
    have e : fieldsR ⟨k, d, q, z, s⟩ = _ := (congrArg (· && (decide (1 ≤ k) && decide (k ≤ 30))) (show fieldsP ⟨k, d, q, z, s⟩ = _ from (if_neg a0).trans ((if_neg a1).trans ((if_neg a2).trans ((if_neg a3).trans ((if_neg a4).trans (if_pos a5))))))).trans ((congrArg (_ && ·) (show (decide (1 ≤ k) && decide (k ≤ 30)) = true by subst a5; rfl)).trans (Bool.and_true _))
    rw [e]
    simpa [Bool.and_comm, Bool.and_assoc, Bool.and_left_comm] using this
  by_cases a6 : k = 27
  · have := rf_27 k d z q s a6 h1 h2 w
    have e : fieldsR ⟨k, d, q, z, s⟩ = _ := (congrArg (· && (decide (1 ≤ k) && decide (k ≤ 30))) (show fieldsP ⟨k, d, q, z, s⟩ = _ from (if_neg a0).trans ((if_neg a1).trans ((if_neg a2).trans ((if_neg a3).trans ((if_neg a4).trans ((if_neg a5).trans (if_pos a6)))))))).trans ((congrArg (_ && ·) (show (decide (1 ≤ k) && decide (k ≤ 30)) = true by subst a6; rfl)).trans (Bool.and_true _))
    rw [e]
    simpa [Bool.and_comm, Bool.and_assoc, Bool.and_left_comm] using this
  by_cases a7 : k = 28
  · have := rf_28 k d z q s a7 h1 h2 w
    have e : fieldsR ⟨k, d, q, z, s⟩ = _ := (congrArg (· && (decide (1 ≤ k) && decide (k ≤ 30))) (show fieldsP ⟨k, d, q, z, s⟩ = _ from (if_neg a0).trans ((if_neg a1).trans ((if_neg a2).trans ((if_neg a3).trans ((if_neg a4).trans ((if_neg a5).trans ((if_neg a6).trans (if_pos a7))))))))).trans ((congrArg (_ && ·) (show (decide (1 ≤ k) && decide (k ≤ 30)) = true by subst a7; rfl)).trans (Bool.and_true _))
    rw [e]
    simpa [Bool.and_comm, Bool.and_assoc, Bool.and_left_comm] using this
  have := rf_0 k d z q s (by omega) h1 h2 w
  have e : fieldsR ⟨k, d, q, z, s⟩ = _ := congrArg (· && (decide (1 ≤ k) && decide (k ≤ 30))) (show fieldsP ⟨k, d, q, z, s⟩ = _ from (if_neg a0).trans ((if_neg a1).trans ((if_neg a2).trans ((if_neg a3).trans ((if_neg a4).trans ((if_neg a5).trans ((if_neg a6).trans (if_neg a7))))))))
  rw [e]
  simpa [Bool.and_comm, Bool.and_assoc, Bool.and_left_comm] using this

set_option maxRecDepth 100000 in
/-- Where all ahead is right a node's kind is one of those that there are. -/
theorem kind_ok {ts : List Nd} (h3 : endW 1 ((kidsOf ts).drop 0) = some ts.length) (h4 : kindAt ts 0 = 1) {i : Nat} (hi : i < ts.length) (h5 : ∀ a, a < i → goodAt ts a = true) : 1 ≤ ts[i].kind ∧ ts[i].kind ≤ 30 := by
  by_cases h0 : i = 0
  · subst h0
    unfold kindAt at h4
    have : ts[0].kind = 1 := by simpa [hi] using h4
    omega
  · obtain ⟨a, c, m, j, ha, hm, hc, hj, hp⟩ := parent (ks := kidsOf ts) (i := i) i 0 ts.length (by omega) (by omega) h3 (by omega)
    have hg := h5 a ha
    unfold goodAt at hg
    rw [Bool.and_eq_true] at hg
    have hK : ts[i].kind ∈ kindsL ts (a : Int) := by
      unfold kindsL
      rw [kidsZ_some hm hc, Int.toNat_natCast]
      refine List.mem_map.2 ⟨(i : Int), ?_, ?_⟩
      · unfold posZ
        exact List.mem_map.2 ⟨i, List.mem_map.2 ⟨j, List.mem_range.2 hj, hp⟩, rfl⟩
      · unfold kindAt; simp [hi]
    obtain ⟨g, hg1, hg2⟩ := matchG_mem _ _ hg.2 _ hK
    have := pr_range (groups_range _ g hg1) hg2
    omega

theorem kidsZ_le (ts : List Nd) (i : Int) : (kidsZ (kidsOf ts) i).length ≤ ts.length := by
  rcases endI_cases (kidsOf ts) i with h | ⟨a, m, rfl, h, h1, h2, h3⟩
  · rw [kidsZ_none (by rw [h]; decide)]; exact Nat.zero_le _
  · obtain ⟨k, hk, hk0, hF, -⟩ := endW_node h
    rw [kidsZ_some h hk, posZ_len]
    have := (endW_le _ _ _ hF).1
    have h5 := (endW_le _ _ _ hF).2
    rw [List.length_drop, kidsOf_len] at h5
    omega

set_option maxHeartbeats 2000000 in
set_option maxRecDepth 100000 in
theorem rcheck_nat (ts : List Nd) (p : Option Addr) (n c : Nat) (w : World) (hn : n = ts.length) (h : Nds w (.slice p n c) ts) (hl : n ≤ 4000) (hs : Short ts) :
    Calls Tryz.prog 41 #[.slice p n c] w fun e w' => e = .returned (pairV (checkL ts)) ∧ Below w.heap.size w w' := by
  have HN := Lib.hid hn
  by_cases g1 : 2000 < ts.length
  · have HF : Hid (checkL ts = (3, 0)) := Lib.hid (if_pos g1)
    have v1 : (n : Int) > 2000 := by omega
    rw [HF.out]
    clear h hn g1 hl
    go_enter Tryz.func41, Tryz.ntmps41
    go_wp2
    go_ret2
    exact ⟨rfl, Below.refl _ _⟩
  have v1 : ¬(n : Int) > 2000 := by omega
  have CE := Lib.hid (rend_any ts (.slice p n c) 0 w h (by omega))
  generalize hE : endI (kidsOf ts) 0 = E at *
  by_cases g2 : E = (n : Int)
  case neg =>
    have HF : Hid (checkL ts = (2, 0)) := Lib.hid ((if_neg g1).trans (if_pos (by rw [hE, ← hn]; exact g2)))
    have v2 : (E == (n : Int)) = false := by simpa using g2
    have v3 : (E != (n : Int)) = true := by simpa using g2
    rw [HF.out]
    clear h hn g1 g2 hl hE
    go_enter Tryz.func41, Tryz.ntmps41
    go_wp2_with (go_at_call 63; refine CE.out.mono ?_; rintro e w1 ⟨rfl, rfl⟩)
    go_ret2
    exact ⟨rfl, Below.refl _ _⟩
  subst g2
  have hpos : 0 < ts.length := by
    rcases endI_cases (kidsOf ts) 0 with h1 | ⟨a, m, -, -, h1, h2, -⟩
    · omega
    · rw [kidsOf_len] at h2; omega
  have v2 : ((n : Int) == (n : Int)) = true := by simp
  have v7 : ((n : Int) == 0) = false := by simp; omega
  have v3 : ((n : Int) != (n : Int)) = false := by simp
  have CD := Lib.hid (rdepth_any ts (.slice p n c) w h (by omega))
  generalize hD : depI (kidsOf ts) = D at *
  by_cases g3 : 60 < D
  · have HF : Hid (checkL ts = (3, 0)) := Lib.hid ((if_neg g1).trans ((if_neg (by rw [hE, hn]; exact fun h => h rfl)).trans (if_pos (by rw [hD]; exact g3))))
    have v4 : D > 60 := g3
    rw [HF.out]
    clear h hn g1 g3 hl hE hD
    go_enter Tryz.func41, Tryz.ntmps41
    go_wp2_with (first
      | (go_at_call 63; refine CE.out.mono ?_; rintro e w1 ⟨rfl, rfl⟩)
      | (go_at_call 80; refine CD.out.mono ?_; rintro e w2 ⟨rfl, hb2⟩; have HB2 := Lib.hid hb2; clear hb2))
    go_ret2
    exact ⟨rfl, HB2.out⟩
  have v4 : ¬D > 60 := g3
  have HNd := Lib.hid h
  have HK0 : Hid (∀ W, Below w.heap.size w W → ∃ g o, p = some ⟨g, o, none⟩ ∧ W.cell? ⟨g, o, none⟩ = some (.int .i64 (kindAt ts 0))) := Lib.hid (fun W hb => by
    obtain ⟨g, o, hp, -, h1, -⟩ := (h.later hb).node 0 hpos
    refine ⟨g, o, hp, ?_⟩
    rw [Nat.zero_mul, Nat.add_zero] at h1
    rw [h1]; unfold kindAt; simp [hpos])
  obtain ⟨g, o, rfl, -⟩ := HK0.out w (Below.refl _ _)
  have HK1 : Hid (∀ W, Below w.heap.size w W → W.cell? ⟨g, o, none⟩ = some (.int .i64 (kindAt ts 0))) := Lib.hid (fun W hb => by
    obtain ⟨g', o', hp, h1⟩ := HK0.out W hb
    cases hp; exact h1)
  generalize hK : kindAt ts 0 = K at *
  have hn0 : (0 : Int) < (n : Int) := by omega
  by_cases g4 : K = 1
  case neg =>
    have HF : Hid (checkL ts = (4, 0)) := Lib.hid ((if_neg g1).trans ((if_neg (by rw [hE, hn]; exact fun h => h rfl)).trans ((if_neg (by rw [hD]; exact g3)).trans (if_pos (by rw [hK]; exact g4)))))
    have v5 : (K == 1) = false := by simpa using g4
    have v6 : (K != 1) = true := by simpa using g4
    rw [HF.out]
    clear h hn g1 g3 g4 hl hE hD hK HK0
    go_enter Tryz.func41, Tryz.ntmps41
    go_wp2_with (first
      | (go_at_call 63; refine CE.out.mono ?_; rintro e w1 ⟨rfl, rfl⟩)
      | (go_at_call 80; refine CD.out.mono ?_; rintro e w2 ⟨rfl, hb2⟩; have HB2 := Lib.hid hb2; have c0 := HK1.out _ hb2; clear hb2))
    go_ret2
    exact ⟨rfl, HB2.out⟩
  subst g4
  have HF : Hid (checkL ts = match scanG (goodAt ts) ts.length 0 with
    | some i => (4, (i : Int))
    | none => (0, 0)) := Lib.hid ((if_neg g1).trans ((if_neg (by rw [hE, hn]; exact fun h => h rfl)).trans ((if_neg (by rw [hD]; exact g3)).trans (if_neg (by rw [hK]; exact fun h => h rfl)))))
  obtain ⟨R, hR⟩ : ∃ R, R = checkL ts := ⟨_, rfl⟩
  rw [← hR] at HF ⊢
  have HS := Lib.hid hs
  have HK1q : Hid (kindAt ts 0 = 1) := Lib.hid hK
  have HWH : Hid (endW 1 ((kidsOf ts).drop 0) = some ts.length) := Lib.hid (by
    rcases endI_cases (kidsOf ts) 0 with q1 | ⟨a, m, q0, q1, -, -, q2⟩
    · omega
    · obtain rfl : a = 0 := by omega
      rw [q1]; congr 1; omega)
  obtain ⟨i0, hi0, hy0, hy1, hy2⟩ := info_parts int_info3
  clear h g1 g3 hE hD hK HK0 hn hR hs
  go_enter Tryz.func41, Tryz.ntmps41
  go_wp2_with (first
    | (go_at_call 63; refine CE.out.mono ?_; rintro e w1 ⟨rfl, rfl⟩)
    | (go_at_call 80; refine CD.out.mono ?_; rintro e w2 ⟨rfl, hb2⟩; have HB2 := Lib.hid hb2; have c0 := HK1.out _ hb2; clear hb2))
  clear CE CD HK1 c0 v2 v3 v4 v7
  have hn2 : n ≤ 2000 := by omega
  go_loopw [4] (fun vi wr => ∃ i : Nat, i ≤ n ∧ vi = .int .i64 (i : Int) ∧ Hid (Below w.heap.size w wr) ∧ Hid (scanG (goodAt ts) ts.length 0 = scanG (goodAt ts) (n - i) i) ∧ Hid (∀ a, a < i → goodAt ts a = true)) (fun vi _ => n - (intOf vi).toNat)
  case atStart => exact ⟨0, Nat.zero_le _, rfl, HB2, Lib.hid (by rw [HN.out]; rfl), Lib.hid (fun a ha => absurd ha (Nat.not_lt_zero a))⟩
  case round =>
    clear HB2
    obtain ⟨i, hi, rfl, hB, hG, hA⟩ := hrel
    by_cases hlt : i < n
    · have hil : i < ts.length := by rw [← HN.out]; exact hlt
      have hnl : ts.length ≤ 2000 := by rw [← HN.out]; exact hn2
      have z0 : (0 : Int) ≤ (i : Int) := by omega
      have z1 : (i : Int) < (n : Int) := by omega
      have hG' := hG.out
      obtain ⟨f, hf⟩ : ∃ f, n - i = f + 1 ∧ n - (i + 1) = f := ⟨n - i - 1, by omega, by omega⟩
      rw [hf.1, scanG_succ, ← hf.2] at hG'
      have HRN : Hid (∀ W, Below w.heap.size w W → W.rangeAt g (o + i * 5) (ts[i]'hil).cells ∧ W.cell? ⟨g, o + i * 5, none⟩ = some (.int .i64 (kindAt ts (i : Int)))) := Lib.hid (fun W hb => by
        obtain ⟨g', o', hp, -, h1, -, -, -, -, hr⟩ := (HNd.out.later hb).node i hil
        cases hp
        exact ⟨hr, by rw [h1]; unfold kindAt; rw [Int.toNat_natCast]; simp [hil]⟩)
      have HNA : Hid (∀ W, Below w.heap.size w W → ∀ a : Nat, a < ts.length → W.cell? ⟨g, o + a * 5, none⟩ = some (.int .i64 (kindAt ts (a : Int)))) := Lib.hid (fun W hb a ha => by
        obtain ⟨g', o', hp, -, h1, -⟩ := (HNd.out.later hb).node a ha
        cases hp
        rw [h1]; unfold kindAt; rw [Int.toNat_natCast]; simp [ha])
      have hsx := HS.out ts[i] (List.getElem_mem hil)
      have hko := kind_ok HWH.out HK1q.out hil hA.out
      have hga : goodAt ts i = (fieldsR ts[i] && kidsR (kindAt ts (i : Int)) (kindsL ts (i : Int))) := by
        unfold goodAt fieldsR
        rw [decide_eq_true hko.1, decide_eq_true hko.2, kids_match _ _ (by unfold kindsL; rw [List.length_map]; have := kidsZ_le ts (i : Int); omega)]
        simp [hil]
      have HAN : Hid (goodAt ts i = true → ∀ a, a < i + 1 → goodAt ts a = true) := Lib.hid (fun h a ha => by
        by_cases hai : a = i
        · rw [hai]; exact h
        · exact hA.out a (by omega))
      rw [hga] at hG' HAN
      have CK : Hid (∀ W, Below w.heap.size w W → Calls Tryz.prog 81 #[.slice (some ⟨g, o, none⟩) n c, .int .i64 (i : Int)] W fun e w' => ∃ v, e = .returned v ∧ IR W w' v (kidsZ (kidsOf ts) (i : Int))) := Lib.hid (fun W hb => rkids_any ts _ (i : Int) W (HNd.out.later hb) (by omega))
      have HZLT := Lib.hid (kidsZ_lt ts (i : Int))
      have hZL := kidsZ_le ts (i : Int)
      have hKL : kindsL ts (i : Int) = (kidsZ (kidsOf ts) (i : Int)).map (kindAt ts) := rfl
      rw [hKL] at hG' HAN
      clear hga hKL
      generalize kidsZ (kidsOf ts) (i : Int) = Z at *
      obtain ⟨m, hm⟩ : ∃ m, m = Z.length := ⟨_, rfl⟩
      have hm2 : m ≤ 2000 := by omega
      have HM := Lib.hid hm
      have CKK : Hid (∀ W v, Ins W v (Z.map (kindAt ts)) → Calls Tryz.prog 83 #[.int .i64 (kindAt ts (i : Int)), v] W fun e w' => e = .returned (.bool (kidsR (kindAt ts (i : Int)) (Z.map (kindAt ts)))) ∧ W = w') := Lib.hid (fun W v hv => rkids_kinds _ _ v W hv (by rw [List.length_map]; omega))
      generalize kidsR (kindAt ts (i : Int)) (Z.map (kindAt ts)) = mg at *
      have CF := Lib.hid (fun W => rf_any ts[i] hsx W)
      generalize fieldsR ts[i] = fx at *
      generalize ts[i] = x at *
      generalize kindAt ts (i : Int) = ki at *
      have HXI := Lib.hid (n_info x)
      have HG2 := Lib.hid hG'
      clear hf hsx hil hG hG' hko hA hZL hm hnl
      go_wp2_with fail
      refine (CK.out _ hB.out).mono ?_
      rintro e w5 ⟨v5, rfl, hr5⟩
      have HI5 := Lib.hid hr5.ins
      obtain ⟨p5, c5, rfl, -⟩ := own_form0 hr5.row
      rw [← HM.out] at HI5 ⊢
      have HB5 := Lib.hid (chain2 hB.out hr5.below)
      have HE0 : Hid (IR w5 w5 (.slice none 0 0) ((Z.take 0).map (kindAt ts))) := Lib.hid (by rw [List.take_zero]; exact IR.first w5)
      clear hr5 hB CK
      go_wp2_with fail
      go_loopw [6, 7] (fun vk vj wr => ∃ j : Nat, j ≤ m ∧ vj = .int .i64 (j : Int) ∧ Hid (IR w5 wr vk ((Z.take j).map (kindAt ts)))) (fun _ vj _ => m - (intOf vj).toNat)
      case atStart => exact ⟨0, Nat.zero_le _, rfl, HE0⟩
      case round =>
        clear HE0
        obtain ⟨j, hj, rfl, hI⟩ := hrel
        have HBW := Lib.hid (chain2 HB5.out hI.out.below)
        by_cases hjl : j < m
        · have hjZ : j < Z.length := by rw [← HM.out]; exact hjl
          obtain ⟨g6, o6, rfl, -, c6⟩ := (HI5.out.later hI.out.below).int j hjZ
          obtain ⟨q, hq, hqt⟩ := HZLT.out Z[j] (List.getElem_mem hjZ)
          rw [hq] at c6
          have c7 := HNA.out wr HBW.out q hqt
          have hqn : (q : Int) < (n : Int) := by rw [HN.out]; omega
          have hq0 : (0 : Int) ≤ (q : Int) := by omega
          have HST : Hid ((Z.take (j + 1)).map (kindAt ts) = (Z.take j).map (kindAt ts) ++ [kindAt ts (q : Int)]) := Lib.hid (by rw [List.take_succ_eq_append_getElem hjZ, List.map_append, hq]; rfl)
          have HLE : Hid (((Z.take j).map (kindAt ts)).length = j) := Lib.hid (by rw [List.length_map, List.length_take]; omega)
          generalize kindAt ts (q : Int) = kq at *
          generalize hLj : (Z.take j).map (kindAt ts) = Lj at *
          have N1 := Lib.hid (news_at wr #[.int .i64 kq] 3)
          have x0 : (0 : Int) ≤ (j : Int) := by omega
          have x1 : (j : Int) < (m : Int) := by omega
          clear hq hqt hjZ hLj
          go_wp2_with (first
            | (refine wpList_append_lies _ rfl (.tmp 44) (.tmp 53) 63 rfl w5.heap.size 3 i0 (.int .i64 0) 1 8 Tryz.underlying63 hi0 hy0 hy1 hy2 rfl (by decide) _ Lj.length (iv Lj) rfl (hI.out.row.alloc _) ⟨wr.heap.size, 0, none⟩ 1 1 [.int .i64 kq] rfl rfl N1.out (by simp [Value.oneCell']) (by decide) (by rw [HLE.out]; unfold maxLen; omega) (by rw [HLE.out]; omega) (by have := hI.out.below.size; simp; omega) (wr.heap.size + 1) (by simp) ?_; intro g' cap W7 hrow hgr hgl hlt7; have HX2 := Lib.hid (hI.out.push hrow hgr); clear hrow hgr hgl hlt7)
            | fail)
          go_roundw
          case rel => exact ⟨j + 1, hjl, by go_num, by rw [HST.out]; exact HX2⟩
          case measure => simp [intOf]; omega
        · obtain rfl : j = m := by omega
          have hlk : ((Z.take j).map (kindAt ts)).length = j := by rw [List.length_map, List.length_take, ← HM.out]; omega
          obtain ⟨pk, ckc, hvk, -, -⟩ := own_form0 hI.out.row
          rw [hlk] at hvk
          have HIK : Hid (Ins wr (.slice pk j ckc) (Z.map (kindAt ts))) := Lib.hid (by have := hI.out.ins; rw [hvk] at this; rwa [List.take_of_length_le (by rw [← HM.out]; exact Nat.le_refl _)] at this)
          clear hlk
          obtain ⟨rr, ck⟩ := HRN.out wr HBW.out
          have HRR := Lib.hid rr
          clear rr hI HRN HNA
          subst hvk
          cases fx with
          | false =>
            have HF2 : Hid (R = (4, (i : Int))) := Lib.hid (by rw [HF.out, HG2.out, Bool.false_and]; rfl)
            go_wp2_with (first
              | (refine wpList_load_mid rfl 29 (.tmp 57) rfl g (o + i * 5) rfl x.cells _ HRR.out Tryz.underlying29 rfl HXI.out ?_)
              | fail)
            refine (CF.out _).mono ?_
            rintro e W4 ⟨rfl, hb4⟩
            have HB4 := Lib.hid (chain2 HBW.out hb4)
            clear hb4
            go_wp2
            go_ret2
            exact ⟨by rw [HF2.out]; rfl, HB4.out⟩
          | true =>
            go_wp2_with (first
              | (refine wpList_load_mid rfl 29 (.tmp 57) rfl g (o + i * 5) rfl x.cells _ HRR.out Tryz.underlying29 rfl HXI.out ?_)
              | fail)
            refine (CF.out _).mono ?_
            rintro e W4 ⟨rfl, hb4⟩
            have HB4 := Lib.hid (chain2 HBW.out hb4)
            have HIK4 := Lib.hid (HIK.out.later hb4)
            have ck4 : W4.cell? ⟨g, o + i * 5, none⟩ = some (.int .i64 ki) := by rw [World.cell?_of_block (hb4.block g (World.block_lt_of_cell? wr _ ck))]; exact ck
            clear hb4 ck HIK
            go_wp2_with fail
            refine (CKK.out _ _ HIK4.out).mono ?_
            rintro e W5 ⟨rfl, rfl⟩
            cases mg with
            | false =>
              have HF2 : Hid (R = (4, (i : Int))) := Lib.hid (by rw [HF.out, HG2.out]; rfl)
              go_wp2
              go_ret2
              exact ⟨by rw [HF2.out]; rfl, HB4.out⟩
            | true =>
              have HG3 : Hid (scanG (goodAt ts) ts.length 0 = scanG (goodAt ts) (n - (i + 1)) (i + 1)) := Lib.hid HG2.out
              have HA3 := Lib.hid (HAN.out rfl)
              go_wp2
              go_roundw
              case rel => exact ⟨i + 1, by omega, by go_num, HB4, HG3, HA3⟩
              case measure => simp [intOf]; omega
    · obtain rfl : i = n := by omega
      have HF2 : Hid (R = (0, 0)) := Lib.hid (by rw [HF.out, hG.out, Nat.sub_self]; rfl)
      clear hG
      go_wp2
      go_ret2
      exact ⟨by rw [HF2.out]; rfl, hB.out⟩

set_option maxRecDepth 100000 in
theorem rcheck_any (ts : List Nd) (v : Value) (w : World) (h : Nds w v ts) (hl : ts.length ≤ 4000) (hs : Short ts) :
    Calls Tryz.prog 41 #[v] w fun e w' => e = .returned (pairV (checkL ts)) ∧ Below w.heap.size w w' := by
  obtain ⟨p, c, rfl, -⟩ := id h
  exact rcheck_nat ts p _ c w rfl h hl hs

end Go.Proofs.YtemlceicmpcboaaGreatDoor.Tr
