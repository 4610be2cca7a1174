/- The walk of the document's kids: its contract. No condition but those that each states. -/
import Derived.Test.YtmljjpdodcpohaaGreatDoorMgBQ
namespace Go.Proofs.YtmljjpdodcpohaaGreatDoor.Tr
open Lib (hid)
set_option maxRecDepth 100000
set_option maxHeartbeats 4000000
open Go.RowKit Dk Lx
def modS : Bool → List Int → Bool
  | _, [] => true
  | p, x :: r => if x = 2 then (!p && modS false r) else if x = 3 then modS true r else false
theorem modS_true : ∀ K : List Int, modS true K = K.all (· == 3)
  | [] => rfl
  | x :: r => by
    have ih := modS_true r; rw [modS, List.all_cons]; by_cases h2 : x = 2
    · subst h2; simp
    · rw [if_neg h2]
      by_cases h3 : x = 3
      · subst h3; rw [if_pos rfl, ih]; simp
      · rw [if_neg h3]; simp [h3]
theorem modS_false : ∀ K : List Int, modS false K = modR K
  | [] => rfl
  | x :: r => by
    have ih := modS_false r; rw [modS, modR]; by_cases h2 : x = 2
    · rw [if_pos h2, if_pos h2, ih]; simp
    · rw [if_neg h2, if_neg h2, modS_true, List.all_cons]
      by_cases h3 : x = 3
      · subst h3; simp
      · rw [if_neg h3]; simp [h3]
theorem rk_e1 (k : Int) (hk : k = 6 ∨ k = 7 ∨ k = 13 ∨ k = 14 ∨ k = 15 ∨ k = 17 ∨ k = 28 ∨ k = 30) (K : List Int) (v : Value) (w : World) (h : Ins w v K) (hl : K.length ≤ 2000) :
    Calls Tryz.prog 64 #[.int .i64 k, v] w fun e w' => e = .returned (.bool (kidsR k K)) ∧ w = w' := by
  have C : Hid (Calls Tryz.prog 105 #[v, .int .i64 1, .int .i64 1] w fun e w' => e = .returned (.bool (kidsR k K)) ∧ w = w') := hid (by
    have := exprs_any K v 1 1 w h (by omega)
    rw [show (K.all isExpr && decide (1 ≤ K.length) && decide (K.length ≤ 1)) = kidsR k K by
      rcases hk with rfl | rfl | rfl | rfl | rfl | rfl | rfl | rfl
      all_goals
        show _ = (K.all isExpr && _)
        rw [Bool.and_assoc]; first
        | rfl
        | (congr 1; rw [← Bool.decide_and]; exact decide_eq_decide.2 (by omega))
        | (congr 1; simp)] at this
    exact this)
  obtain ⟨R, hR⟩ : ∃ R, R = kidsR k K := ⟨_, rfl⟩; rw [← hR] at C ⊢; clear hR; obtain ⟨p, c, rfl, -⟩ := h; clear hl; rcases hk with rfl | rfl | rfl | rfl | rfl | rfl | rfl | rfl
  all_goals
    go_enter Tryz.func64, Tryz.ntmps64
    go_wp2_with fail
    refine C.out.mono ?_; rintro e w1 ⟨rfl, rfl⟩; go_wp2; go_ret; exact ⟨rfl, rfl⟩
theorem rk_e2 (k : Int) (hk : k = 26 ∨ k = 27) (K : List Int) (v : Value) (w : World) (h : Ins w v K) (hl : K.length ≤ 2000) :
    Calls Tryz.prog 64 #[.int .i64 k, v] w fun e w' => e = .returned (.bool (kidsR k K)) ∧ w = w' := by
  have C : Hid (Calls Tryz.prog 105 #[v, .int .i64 2, .int .i64 2] w fun e w' => e = .returned (.bool (kidsR k K)) ∧ w = w') := hid (by
    have := exprs_any K v 2 2 w h (by omega)
    rw [show (K.all isExpr && decide (2 ≤ K.length) && decide (K.length ≤ 2)) = kidsR k K by
      rcases hk with rfl | rfl
      all_goals
        show _ = (K.all isExpr && _)
        rw [Bool.and_assoc]; first
        | rfl
        | (congr 1; rw [← Bool.decide_and]; exact decide_eq_decide.2 (by omega))
        | (congr 1; simp)] at this
    exact this)
  obtain ⟨R, hR⟩ : ∃ R, R = kidsR k K := ⟨_, rfl⟩; rw [← hR] at C ⊢; clear hR; obtain ⟨p, c, rfl, -⟩ := h; clear hl; rcases hk with rfl | rfl
  all_goals
    go_enter Tryz.func64, Tryz.ntmps64
    go_wp2_with fail
    refine C.out.mono ?_; rintro e w1 ⟨rfl, rfl⟩; go_wp2; go_ret; exact ⟨rfl, rfl⟩
theorem rk_e3 (k : Int) (hk : k = 8) (K : List Int) (v : Value) (w : World) (h : Ins w v K) (hl : K.length ≤ 2000) :
    Calls Tryz.prog 64 #[.int .i64 k, v] w fun e w' => e = .returned (.bool (kidsR k K)) ∧ w = w' := by
  have C : Hid (Calls Tryz.prog 105 #[v, .int .i64 3, .int .i64 3] w fun e w' => e = .returned (.bool (kidsR k K)) ∧ w = w') := hid (by
    have := exprs_any K v 3 3 w h (by omega)
    rw [show (K.all isExpr && decide (3 ≤ K.length) && decide (K.length ≤ 3)) = kidsR k K by
      rcases hk with rfl
      all_goals
        show _ = (K.all isExpr && _)
        rw [Bool.and_assoc]; first
        | rfl
        | (congr 1; rw [← Bool.decide_and]; exact decide_eq_decide.2 (by omega))
        | (congr 1; simp)] at this
    exact this)
  obtain ⟨R, hR⟩ : ∃ R, R = kidsR k K := ⟨_, rfl⟩; rw [← hR] at C ⊢; clear hR; obtain ⟨p, c, rfl, -⟩ := h; clear hl; subst hk; go_enter Tryz.func64, Tryz.ntmps64
  go_wp2_with fail
  refine C.out.mono ?_; rintro e w1 ⟨rfl, rfl⟩; go_wp2; go_ret; exact ⟨rfl, rfl⟩
theorem rk_e9 (k : Int) (hk : k = 22) (K : List Int) (v : Value) (w : World) (h : Ins w v K) (hl : K.length ≤ 2000) :
    Calls Tryz.prog 64 #[.int .i64 k, v] w fun e w' => e = .returned (.bool (kidsR k K)) ∧ w = w' := by
  have C : Hid (Calls Tryz.prog 105 #[v, .int .i64 1, .int .i64 9] w fun e w' => e = .returned (.bool (kidsR k K)) ∧ w = w') := hid (by
    have := exprs_any K v 1 9 w h (by omega)
    rw [show (K.all isExpr && decide (1 ≤ K.length) && decide (K.length ≤ 9)) = kidsR k K by
      rcases hk with rfl
      all_goals
        skip
        first
        | rfl
        | (congr 1; rw [← Bool.decide_and]; exact decide_eq_decide.2 (by omega))
        | (congr 1; simp)] at this
    exact this)
  obtain ⟨R, hR⟩ : ∃ R, R = kidsR k K := ⟨_, rfl⟩; rw [← hR] at C ⊢; clear hR; obtain ⟨p, c, rfl, -⟩ := h; clear hl; subst hk; go_enter Tryz.func64, Tryz.ntmps64
  go_wp2_with fail
  refine C.out.mono ?_; rintro e w1 ⟨rfl, rfl⟩; go_wp2; go_ret; exact ⟨rfl, rfl⟩
theorem rk_e8 (k : Int) (hk : k = 23) (K : List Int) (v : Value) (w : World) (h : Ins w v K) (hl : K.length ≤ 2000) :
    Calls Tryz.prog 64 #[.int .i64 k, v] w fun e w' => e = .returned (.bool (kidsR k K)) ∧ w = w' := by
  have C : Hid (Calls Tryz.prog 105 #[v, .int .i64 0, .int .i64 8] w fun e w' => e = .returned (.bool (kidsR k K)) ∧ w = w') := hid (by
    have := exprs_any K v 0 8 w h (by omega)
    rw [show (K.all isExpr && decide (0 ≤ K.length) && decide (K.length ≤ 8)) = kidsR k K by
      rcases hk with rfl
      all_goals
        show _ = (K.all isExpr && _)
        rw [Bool.and_assoc]; first
        | rfl
        | (congr 1; rw [← Bool.decide_and]; exact decide_eq_decide.2 (by omega))
        | (congr 1; simp)] at this
    exact this)
  obtain ⟨R, hR⟩ : ∃ R, R = kidsR k K := ⟨_, rfl⟩; rw [← hR] at C ⊢; clear hR; obtain ⟨p, c, rfl, -⟩ := h; clear hl; subst hk; go_enter Tryz.func64, Tryz.ntmps64
  go_wp2_with fail
  refine C.out.mono ?_; rintro e w1 ⟨rfl, rfl⟩; go_wp2; go_ret; exact ⟨rfl, rfl⟩
theorem rk_f (k : Int) (hk : k = 3 ∨ k = 24) (K : List Int) (v : Value) (w : World) (h : Ins w v K) (hl : K.length ≤ 2000) :
    Calls Tryz.prog 64 #[.int .i64 k, v] w fun e w' => e = .returned (.bool (kidsR k K)) ∧ w = w' := by
  have C : Hid (Calls Tryz.prog 104 #[v] w fun e w' => e = .returned (.bool (kidsR k K)) ∧ w = w') := hid (by
    have := function_any K v w h (by omega); rw [show funR K = kidsR k K by rcases hk with rfl | rfl <;> rfl] at this
    exact this)
  obtain ⟨R, hR⟩ : ∃ R, R = kidsR k K := ⟨_, rfl⟩; rw [← hR] at C ⊢; clear hR; obtain ⟨p, c, rfl, -⟩ := h; clear hl; rcases hk with rfl | rfl
  all_goals
    go_enter Tryz.func64, Tryz.ntmps64
    go_wp2_with fail
    refine C.out.mono ?_; rintro e w1 ⟨rfl, rfl⟩; go_wp2; go_ret; exact ⟨rfl, rfl⟩
theorem rk_s (k : Int) (hk : k = 5) (K : List Int) (v : Value) (w : World) (h : Ins w v K) (hl : K.length ≤ 2000) :
    Calls Tryz.prog 64 #[.int .i64 k, v] w fun e w' => e = .returned (.bool (kidsR k K)) ∧ w = w' := by
  subst hk; obtain ⟨p, c, rfl, -⟩ := id h; have HK := hid h; obtain ⟨n, hn⟩ : ∃ n, n = K.length := ⟨_, rfl⟩; rw [← hn] at HK hl; obtain ⟨R, hR⟩ : ∃ R, R = kidsR 5 K := ⟨_, rfl⟩; rw [← hR, ← hn]; have HN := hid hn; have HR : Hid (R = K.all isStmt) := hid hR; clear h hn hR; go_enter Tryz.func64, Tryz.ntmps64
  go_wp2; go_loopw [7] (fun vi wr => ∃ i : Nat, i ≤ n ∧ vi = .int .i64 (i : Int) ∧ wr = w ∧ Hid (∀ x ∈ K.take i, isStmt x = true)) (fun vi _ => n - (intOf vi).toNat)
  case atStart => exact ⟨0, Nat.zero_le _, rfl, rfl, hid (fun x hx => by simp at hx)⟩
  case round =>
    obtain ⟨i, hi', rfl, rfl, hA⟩ := hrel; by_cases hlt : i < n
    · have h1 : i < K.length := by rw [← HN.out]; exact hlt
      obtain ⟨g1, o1, rfl, -, c1⟩ := HK.out.int i h1; have z0 : (0 : Int) ≤ (i : Int) := by omega
      have z1 : (i : Int) < (n : Int) := by omega
      have C := hid (rstmt_any K[i] wr); cases hx : isStmt K[i] with
      | true =>
        have HA : Hid (∀ x ∈ K.take (i + 1), isStmt x = true) := hid (fun x hm => by
          rw [List.take_succ_eq_append_getElem h1] at hm; rcases List.mem_append.1 hm with hm | hm
          · exact hA.out x hm
          · rw [List.mem_singleton.1 hm]; exact hx)
        rw [hx] at C; generalize K[i] = x at *; clear hx hA h1; go_wp2_with fail
        refine C.out.mono ?_; rintro e w1 ⟨rfl, rfl⟩; go_wp2; go_roundw
        case rel => exact ⟨i + 1, by omega, by go_num, by trivial, HA⟩
        case measure => simp [intOf]; omega
      | false =>
        have HF : Hid (R = false) := hid (by
          rw [HR.out]; cases h : K.all isStmt with
          | false => rfl
          | true => have := List.all_eq_true.1 h _ (List.getElem_mem h1); rw [hx] at this; cases this)
        rw [hx] at C; generalize K[i] = x at *; clear hx hA h1; go_wp2_with fail
        refine C.out.mono ?_; rintro e w1 ⟨rfl, rfl⟩; go_wp2; go_ret; exact ⟨by rw [HF.out]; rfl, rfl⟩
    · obtain rfl : i = n := by omega
      have HT : Hid (R = true) := hid (by
        rw [HR.out]
        exact List.all_eq_true.2 (by have := hA.out; rwa [List.take_of_length_le (by rw [← HN.out]; exact Nat.le_refl _)] at this))
      clear hA; go_wp2; go_ret; exact ⟨by rw [HT.out]; rfl, rfl⟩
theorem rk_m (k : Int) (hk : k = 1) (K : List Int) (v : Value) (w : World) (h : Ins w v K) (hl : K.length ≤ 2000) :
    Calls Tryz.prog 64 #[.int .i64 k, v] w fun e w' => e = .returned (.bool (kidsR k K)) ∧ w = w' := by
  subst hk; obtain ⟨p, c, rfl, -⟩ := id h; have HK := hid h; obtain ⟨n, hn⟩ : ∃ n, n = K.length := ⟨_, rfl⟩; rw [← hn] at HK hl; obtain ⟨R, hR⟩ : ∃ R, R = kidsR 1 K := ⟨_, rfl⟩; rw [← hR, ← hn]; have HN := hid hn; have HR : Hid (R = modS false (K.drop 0)) := hid (by rw [hR, List.drop_zero, modS_false]; rfl)
  clear h hn hR; go_enter Tryz.func64, Tryz.ntmps64
  go_wp2; go_loopw [6] (fun vi wr => ∃ (i : Nat) (q : Bool), i ≤ n ∧ vi = .int .i64 (i : Int) ∧ wr = w ∧ Hid (R = modS q (K.drop i)) ∧ Hid (i = 0 → q = false) ∧ Hid (∀ t, i = t + 1 → K[t]? = some (if q then 3 else 2))) (fun vi _ => n - (intOf vi).toNat)
  case atStart => exact ⟨0, false, Nat.zero_le _, rfl, rfl, HR, hid (fun _ => rfl), hid (fun t ht => by omega)⟩
  case round =>
    obtain ⟨i, q, hi', rfl, rfl, hA, h0, ht⟩ := hrel; by_cases hlt : i < n
    · have h1 : i < K.length := by rw [← HN.out]; exact hlt
      obtain ⟨g1, o1, rfl, -, c1⟩ := HK.out.int i h1; have z0 : (0 : Int) ≤ (i : Int) := by omega
      have z1 : (i : Int) < (n : Int) := by omega
      have hA' := hA.out; rw [List.drop_eq_getElem_cons h1, modS] at hA'; have HL : Hid (K[i]? = some K[i]) := hid (List.getElem?_eq_getElem h1); generalize K[i] = x at *; by_cases hx2 : x = 2
      · subst hx2
        rw [if_pos rfl] at hA'; by_cases hi0 : i = 0
        · have hq := h0.out hi0
          subst hq; have HA2 : Hid (R = modS false (K.drop (i + 1))) := hid (by rw [hA']; rfl)
          have HT2 : Hid (∀ t, i + 1 = t + 1 → K[t]? = some (if false = true then 3 else 2)) := hid (fun t e => by
            obtain rfl : t = i := by omega
            rw [HL.out]; rfl)
          have y2 : ¬(i : Int) > 0 := by omega
          clear hA hA' h0 ht h1 hi0; go_wp2; go_roundw
          case rel => exact ⟨i + 1, false, by omega, by go_num, by trivial, HA2, hid (fun e => by omega), HT2⟩
          case measure => simp [intOf]; omega
        · obtain ⟨t, hti⟩ : ∃ t, i = t + 1 := ⟨i - 1, by omega⟩
          have hp := ht.out t hti; have htK : t < K.length := by omega
          obtain ⟨g2, o2, hpp, -, c2⟩ := HK.out.int t htK; cases hpp
          rw [List.getElem?_eq_getElem htK] at hp; rw [Option.some.inj hp] at c2; have e1 : IntKind.i64.wrap ((i : Int) - 1) = (t : Int) := by rw [wrap_in _ (by omega)]; omega
          have y0 : (0 : Int) ≤ (t : Int) := by omega
          have y1 : (t : Int) < (n : Int) := by omega
          have y2 : (i : Int) > 0 := by omega
          cases q with
          | true =>
            have HF : Hid (R = false) := hid (by rw [hA']; rfl)
            rw [if_pos rfl] at c2; clear hA hA' h0 ht h1 hp htK hi0 hti; go_wp2; go_ret; exact ⟨by rw [HF.out]; rfl, rfl⟩
          | false =>
            have HA2 : Hid (R = modS false (K.drop (i + 1))) := hid (by rw [hA']; rfl)
            have HT2 : Hid (∀ t', i + 1 = t' + 1 → K[t']? = some (if false = true then 3 else 2)) := hid (fun t' e => by
              obtain rfl : t' = i := by omega
              rw [HL.out]; rfl)
            rw [if_neg Bool.false_ne_true] at c2; clear hA hA' h0 ht h1 hp htK hi0 hti; go_wp2; go_roundw
            case rel => exact ⟨i + 1, false, by omega, by go_num, by trivial, HA2, hid (fun e => by omega), HT2⟩
            case measure => simp [intOf]; omega
      · rw [if_neg hx2] at hA'
        have v1 : (x == 2) = false := by simpa using hx2
        have v2 : (x != 2) = true := by simpa using hx2
        by_cases hx3 : x = 3
        · subst hx3
          rw [if_pos rfl] at hA'; have HA2 : Hid (R = modS true (K.drop (i + 1))) := hid hA'
          have HT2 : Hid (∀ t, i + 1 = t + 1 → K[t]? = some (if true = true then 3 else 2)) := hid (fun t e => by
            obtain rfl : t = i := by omega
            rw [HL.out]; rfl)
          clear hA hA' h0 ht h1 hx2 v1 v2; by_cases hi0 : i = 0
          · have y2 : ¬(i : Int) > 0 := by omega
            clear hi0; go_wp2; go_roundw
            case rel => exact ⟨i + 1, true, by omega, by go_num, by trivial, HA2, hid (fun e => by omega), HT2⟩
            case measure => simp [intOf]; omega
          · have y2 : (i : Int) > 0 := by omega
            clear hi0; go_wp2; go_roundw
            case rel => exact ⟨i + 1, true, by omega, by go_num, by trivial, HA2, hid (fun e => by omega), HT2⟩
            case measure => simp [intOf]; omega
        · have HF : Hid (R = false) := hid (by rw [hA', if_neg hx3])
          have v3 : (x == 3) = false := by simpa using hx3
          have v4 : (x != 3) = true := by simpa using hx3
          clear hA hA' h0 ht h1 hx2 hx3; go_wp2; go_ret; exact ⟨by rw [HF.out]; rfl, rfl⟩
    · obtain rfl : i = n := by omega
      have HT : Hid (R = true) := hid (by rw [hA.out, List.drop_eq_nil_of_le (by rw [← HN.out]; exact Nat.le_refl _)]; cases q <;> rfl)
      clear hA h0 ht; go_wp2; go_ret; exact ⟨by rw [HT.out]; rfl, rfl⟩
theorem rk_i (k : Int) (hk : k = 9) (K : List Int) (v : Value) (w : World) (h : Ins w v K) (hl : K.length ≤ 2000) :
    Calls Tryz.prog 64 #[.int .i64 k, v] w fun e w' => e = .returned (.bool (kidsR k K)) ∧ w = w' := by
  subst hk; obtain ⟨p, c, rfl, -⟩ := id h; have HK := hid h; obtain ⟨n, hn⟩ : ∃ n, n = K.length := ⟨_, rfl⟩; rw [← hn] at HK hl; obtain ⟨R, hR⟩ : ∃ R, R = kidsR 9 K := ⟨_, rfl⟩; rw [← hR, ← hn]; have HN := hid hn; have HR : Hid (R = kidsR 9 K) := hid hR; clear hn hR; match K with
  | [] =>
    have HF : Hid (R = false) := hid (by rw [HR.out]; rfl)
    have hn : n = 0 := HN.out; subst hn; clear h HK HN HR; go_enter Tryz.func64, Tryz.ntmps64
    go_wp2; go_ret; exact ⟨by rw [HF.out]; rfl, rfl⟩
  | [a] =>
    have HF : Hid (R = false) := hid (by rw [HR.out]; rfl)
    have hn : n = 1 := HN.out; subst hn; clear h HK HN HR; go_enter Tryz.func64, Tryz.ntmps64
    go_wp2; go_ret; exact ⟨by rw [HF.out]; rfl, rfl⟩
  | [a, b] =>
    obtain ⟨g, o, rfl, -, c0⟩ := HK.out.int 0 (by simp); obtain ⟨g1, o1, hp1, -, c1⟩ := HK.out.int 1 (by simp); cases hp1
    simp only [List.getElem_cons_zero, List.getElem_cons_succ] at c0 c1; rw [Nat.add_zero] at c0; have hn : n = 2 := HN.out; subst hn; have C := hid (rexpr_any a w); clear h HN HK; cases hx : isExpr a with
    | false =>
      have HF : Hid (R = false) := hid (by rw [HR.out]; show (isExpr a && b == 5) = false; rw [hx]; rfl)
      rw [hx] at C; clear hx; go_enter Tryz.func64, Tryz.ntmps64
      go_wp2_with fail
      refine C.out.mono ?_; rintro e w1 ⟨rfl, rfl⟩; go_wp2; go_ret; exact ⟨by rw [HF.out]; rfl, rfl⟩
    | true =>
      rw [hx] at C; by_cases q2 : b = 5
      case neg =>
        have HF : Hid (R = false) := hid (by rw [HR.out]; show (isExpr a && b == 5) = false; simp [q2])
        have u2 : (b == 5) = false := by simpa using q2
        clear q2 hx; go_enter Tryz.func64, Tryz.ntmps64
        go_wp2_with fail
        refine C.out.mono ?_; rintro e w1 ⟨rfl, rfl⟩; go_wp2; go_ret; exact ⟨by rw [HF.out]; rfl, rfl⟩
      subst q2; have HF : Hid (R = true) := hid (by rw [HR.out]; show (isExpr a && (5 : Int) == 5) = true; rw [hx]; rfl)
      clear hx; go_enter Tryz.func64, Tryz.ntmps64
      go_wp2_with fail
      refine C.out.mono ?_; rintro e w1 ⟨rfl, rfl⟩; go_wp2; go_ret; exact ⟨by rw [HF.out]; rfl, rfl⟩
  | [a, b, c'] =>
    obtain ⟨g, o, rfl, -, c0⟩ := HK.out.int 0 (by simp); obtain ⟨g1, o1, hp1, -, c1⟩ := HK.out.int 1 (by simp); cases hp1
    obtain ⟨g2, o2, hp2, -, c2⟩ := HK.out.int 2 (by simp); cases hp2
    simp only [List.getElem_cons_zero, List.getElem_cons_succ] at c0 c1 c2; rw [Nat.add_zero] at c0; have hn : n = 3 := HN.out; subst hn; have C := hid (rexpr_any a w); clear h HN HK; by_cases q3 : c' = 5
    case neg =>
      have HF : Hid (R = false) := hid (by rw [HR.out]; show (isExpr a && b == 5 && c' == 5) = false; simp [q3])
      have u1 : (c' == 5) = false := by simpa using q3
      clear q3; go_enter Tryz.func64, Tryz.ntmps64
      go_wp2; go_ret; exact ⟨by rw [HF.out]; rfl, rfl⟩
    subst q3; cases hx : isExpr a with
    | false =>
      have HF : Hid (R = false) := hid (by rw [HR.out]; show (isExpr a && b == 5 && (5 : Int) == 5) = false; rw [hx]; rfl)
      rw [hx] at C; clear hx; go_enter Tryz.func64, Tryz.ntmps64
      go_wp2_with fail
      refine C.out.mono ?_; rintro e w1 ⟨rfl, rfl⟩; go_wp2; go_ret; exact ⟨by rw [HF.out]; rfl, rfl⟩
    | true =>
      rw [hx] at C; by_cases q2 : b = 5
      case neg =>
        have HF : Hid (R = false) := hid (by rw [HR.out]; show (isExpr a && b == 5 && (5 : Int) == 5) = false; simp [q2])
        have u2 : (b == 5) = false := by simpa using q2
        clear q2 hx; go_enter Tryz.func64, Tryz.ntmps64
        go_wp2_with fail
        refine C.out.mono ?_; rintro e w1 ⟨rfl, rfl⟩; go_wp2; go_ret; exact ⟨by rw [HF.out]; rfl, rfl⟩
      subst q2; have HF : Hid (R = true) := hid (by rw [HR.out]; show (isExpr a && (5 : Int) == 5 && (5 : Int) == 5) = true; rw [hx]; rfl)
      clear hx; go_enter Tryz.func64, Tryz.ntmps64
      go_wp2_with fail
      refine C.out.mono ?_; rintro e w1 ⟨rfl, rfl⟩; go_wp2; go_ret; exact ⟨by rw [HF.out]; rfl, rfl⟩
  | a :: b :: c' :: d :: r =>
    have HF : Hid (R = false) := hid (by rw [HR.out]; rfl)
    have hn : n = r.length + 4 := HN.out; have u1 : ((n : Int) == 2) = false := by simp; omega
    have u2 : ((n : Int) == 3) = false := by simp; omega
    clear hn; clear h HK HN HR; go_enter Tryz.func64, Tryz.ntmps64
    go_wp2; go_ret; exact ⟨by rw [HF.out]; rfl, rfl⟩
theorem rk_w (k : Int) (hk : k = 10) (K : List Int) (v : Value) (w : World) (h : Ins w v K) (hl : K.length ≤ 2000) :
    Calls Tryz.prog 64 #[.int .i64 k, v] w fun e w' => e = .returned (.bool (kidsR k K)) ∧ w = w' := by
  subst hk; obtain ⟨p, c, rfl, -⟩ := id h; have HK := hid h; obtain ⟨n, hn⟩ : ∃ n, n = K.length := ⟨_, rfl⟩; rw [← hn] at HK hl; obtain ⟨R, hR⟩ : ∃ R, R = kidsR 10 K := ⟨_, rfl⟩; rw [← hR, ← hn]; have HN := hid hn; have HR : Hid (R = kidsR 10 K) := hid hR; clear hn hR; match K with
  | [] =>
    have HF : Hid (R = false) := hid (by rw [HR.out]; rfl)
    have hn : n = 0 := HN.out; subst hn; clear h HK HN HR; go_enter Tryz.func64, Tryz.ntmps64
    go_wp2; go_ret; exact ⟨by rw [HF.out]; rfl, rfl⟩
  | [a] =>
    have HF : Hid (R = false) := hid (by rw [HR.out]; rfl)
    have hn : n = 1 := HN.out; subst hn; clear h HK HN HR; go_enter Tryz.func64, Tryz.ntmps64
    go_wp2; go_ret; exact ⟨by rw [HF.out]; rfl, rfl⟩
  | [a, b] =>
    obtain ⟨g, o, rfl, -, c0⟩ := HK.out.int 0 (by simp); obtain ⟨g1, o1, hp1, -, c1⟩ := HK.out.int 1 (by simp); cases hp1
    simp only [List.getElem_cons_zero, List.getElem_cons_succ] at c0 c1; rw [Nat.add_zero] at c0; have hn : n = 2 := HN.out; subst hn; have C := hid (rexpr_any a w); clear h HN HK; cases hx : isExpr a with
    | false =>
      have HF : Hid (R = false) := hid (by rw [HR.out]; show (isExpr a && b == 5) = false; rw [hx]; rfl)
      rw [hx] at C; clear hx; go_enter Tryz.func64, Tryz.ntmps64
      go_wp2_with fail
      refine C.out.mono ?_; rintro e w1 ⟨rfl, rfl⟩; go_wp2; go_ret; exact ⟨by rw [HF.out]; rfl, rfl⟩
    | true =>
      rw [hx] at C; by_cases q2 : b = 5
      case neg =>
        have HF : Hid (R = false) := hid (by rw [HR.out]; show (isExpr a && b == 5) = false; simp [q2])
        have u2 : (b == 5) = false := by simpa using q2
        clear q2 hx; go_enter Tryz.func64, Tryz.ntmps64
        go_wp2_with fail
        refine C.out.mono ?_; rintro e w1 ⟨rfl, rfl⟩; go_wp2; go_ret; exact ⟨by rw [HF.out]; rfl, rfl⟩
      subst q2; have HF : Hid (R = true) := hid (by rw [HR.out]; show (isExpr a && (5 : Int) == 5) = true; rw [hx]; rfl)
      clear hx; go_enter Tryz.func64, Tryz.ntmps64
      go_wp2_with fail
      refine C.out.mono ?_; rintro e w1 ⟨rfl, rfl⟩; go_wp2; go_ret; exact ⟨by rw [HF.out]; rfl, rfl⟩
  | a :: b :: c' :: r =>
    have HF : Hid (R = false) := hid (by rw [HR.out]; rfl)
    have hn : n = r.length + 3 := HN.out; have u1 : ((n : Int) == 2) = false := by simp; omega
    clear hn; clear h HK HN HR; go_enter Tryz.func64, Tryz.ntmps64
    go_wp2; go_ret; exact ⟨by rw [HF.out]; rfl, rfl⟩
theorem rk_0 (k : Int) (hk : k ≠ 1 ∧ k ≠ 3 ∧ k ≠ 24 ∧ k ≠ 5 ∧ k ≠ 8 ∧ k ≠ 9 ∧ k ≠ 10 ∧ k ≠ 6 ∧ k ≠ 7 ∧ k ≠ 13 ∧ k ≠ 14 ∧ k ≠ 15 ∧ k ≠ 17 ∧ k ≠ 28 ∧ k ≠ 30 ∧ k ≠ 22 ∧ k ≠ 23 ∧ k ≠ 26 ∧ k ≠ 27) (K : List Int) (v : Value) (w : World) (h : Ins w v K) (_hl : K.length ≤ 2000) :
    Calls Tryz.prog 64 #[.int .i64 k, v] w fun e w' => e = .returned (.bool (kidsR k K)) ∧ w = w' := by
  obtain ⟨p, c, rfl, -⟩ := id h; have HK := hid h; obtain ⟨n, hn⟩ : ∃ n, n = K.length := ⟨_, rfl⟩; rw [← hn] at HK; obtain ⟨R, hR⟩ : ∃ R, R = kidsR k K := ⟨_, rfl⟩; rw [← hR, ← hn]; have HN := hid hn; have HR : Hid (R = decide (n = 0)) := hid (by rw [hR, hn]; unfold kidsR; simp [hk])
  obtain ⟨n1, n3, n24, n5, n8, n9, n10, n6, n7, n13, n14, n15, n17, n28, n30, n22, n23, n26, n27⟩ := hk; have m1 : (k == 1) = false := beq_false_of_ne n1; have m3 : (k == 3) = false := beq_false_of_ne n3; have m24 : (k == 24) = false := beq_false_of_ne n24; have m5 : (k == 5) = false := beq_false_of_ne n5; have m8 : (k == 8) = false := beq_false_of_ne n8; have m9 : (k == 9) = false := beq_false_of_ne n9; have m10 : (k == 10) = false := beq_false_of_ne n10; have m6 : (k == 6) = false := beq_false_of_ne n6; have m7 : (k == 7) = false := beq_false_of_ne n7; have m13 : (k == 13) = false := beq_false_of_ne n13; have m14 : (k == 14) = false := beq_false_of_ne n14; have m15 : (k == 15) = false := beq_false_of_ne n15; have m17 : (k == 17) = false := beq_false_of_ne n17; have m28 : (k == 28) = false := beq_false_of_ne n28; have m30 : (k == 30) = false := beq_false_of_ne n30; have m22 : (k == 22) = false := beq_false_of_ne n22; have m23 : (k == 23) = false := beq_false_of_ne n23; have m26 : (k == 26) = false := beq_false_of_ne n26; have m27 : (k == 27) = false := beq_false_of_ne n27; clear n1 n3 n24 n5 n8 n9 n10 n6 n7 n13 n14 n15 n17 n28 n30 n22 n23 n26 n27 h hn hR HK HN; by_cases q0 : n = 0
  · have HF : Hid (R = true) := hid (by rw [HR.out]; exact decide_eq_true q0)
    have u1 : ((n : Int) == 0) = true := by simp [q0]
    clear q0; go_enter Tryz.func64, Tryz.ntmps64
    go_wp2; go_ret; exact ⟨by rw [HF.out]; rfl, rfl⟩
  · have HF : Hid (R = false) := hid (by rw [HR.out]; exact decide_eq_false q0)
    have u1 : ((n : Int) == 0) = false := by simp; omega
    clear q0; go_enter Tryz.func64, Tryz.ntmps64
    go_wp2; go_ret; exact ⟨by rw [HF.out]; rfl, rfl⟩
theorem rkids_kinds (k : Int) (K : List Int) (v : Value) (w : World) (h : Ins w v K) (hl : K.length ≤ 2000) :
    Calls Tryz.prog 64 #[.int .i64 k, v] w fun e w' => e = .returned (.bool (kidsR k K)) ∧ w = w' := by
  by_cases a1 : k = 6 ∨ k = 7 ∨ k = 13 ∨ k = 14 ∨ k = 15 ∨ k = 17 ∨ k = 28 ∨ k = 30
  · exact rk_e1 k a1 K v w h hl
  by_cases a2 : k = 26 ∨ k = 27
  · exact rk_e2 k a2 K v w h hl
  by_cases a3 : k = 8
  · exact rk_e3 k a3 K v w h hl
  by_cases a4 : k = 22
  · exact rk_e9 k a4 K v w h hl
  by_cases a5 : k = 23
  · exact rk_e8 k a5 K v w h hl
  by_cases a6 : k = 3 ∨ k = 24
  · exact rk_f k a6 K v w h hl
  by_cases a7 : k = 5
  · exact rk_s k a7 K v w h hl
  by_cases a8 : k = 1
  · exact rk_m k a8 K v w h hl
  by_cases a9 : k = 9
  · exact rk_i k a9 K v w h hl
  by_cases b1 : k = 10
  · exact rk_w k b1 K v w h hl
  exact rk_0 k (by omega) K v w h hl
end Go.Proofs.YtmljjpdodcpohaaGreatDoor.Tr

