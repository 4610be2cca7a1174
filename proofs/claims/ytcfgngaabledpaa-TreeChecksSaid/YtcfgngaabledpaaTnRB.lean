/- The walks of chrysalisref08's word and Name: their contracts. No condition but those that each states. -/
import Derived.Test.YtcfgngaabledpaaTnRA
namespace Go.Proofs.Ytcfgngaabledpaa.Lx
open Go.RowKit Dk
/-- A byte at a place, and the rest. -/
theorem from_split (s : ByteArray) (a n : Nat) (h : a + n < s.size) : ∃ c r, (from' s a).drop n = c :: r ∧ from' s (a + n) = c :: r ∧ (from' s a).drop (n + 1) = r := by
  cases hd : (from' s a).drop n with
  | nil =>
    have := congrArg List.length hd
    rw [List.length_drop, from_length] at this
    simp at this
    omega
  | cons c r =>
    refine ⟨c, r, rfl, by rw [← from_drop, hd], ?_⟩
    rw [show n + 1 = n + 1 from rfl, ← List.drop_drop, hd]; rfl
theorem byte_sum {P : Program} (s : ByteArray) (a n : Nat) (c : UInt8) (r : List UInt8) (hl : from' s (a + n) = c :: r) (t : TypeId) (ht : P.underlying t = some .string) (W : World) : (Instr.index t (.string s) (.int .i64 ((a : Int) + (n : Int)))).run P W = .ok (.int .u8 (c.toNat : Int)) W := by
  have := byte_at (P := P) s (a + n) c r hl t ht W
  rwa [Int.natCast_add] at this
theorem rW_parts (x : Int) : rW x = (rL x || (rD x || decide (x = 95))) := by unfold rW; rw [Bool.or_assoc]
set_option maxHeartbeats 2000000 in
theorem word_any (s : ByteArray) (a : Nat) (w : World) (ha : a ≤ s.size) (hs : s.size ≤ 2 ^ 40) :
    Calls Try.prog 47 #[.string s, .int .i64 (a : Int)] w fun e w' => e = .returned (.int .i64 ((wordN (from' s a) : Nat) : Int)) ∧ w = w' := by
  have hlen := from_length s a
  go_enter Try.func47, Try.ntmps47
  go_wp2
  go_loopw [5] (fun vi wr => ∃ n : Nat, a + n ≤ s.size ∧ vi = .int .i64 (n : Int) ∧ wr = w ∧ Hid (n = 0 ∨ wordN (from' s a) = n + spanN isW ((from' s a).drop n))) (fun vi _ => s.size - (intOf vi).toNat)
  case atStart => exact ⟨0, ha, rfl, rfl, Lib.hid (.inl rfl)⟩
  case round =>
    obtain ⟨n, hn, rfl, rfl, hS⟩ := hrel
    have e1 : IntKind.i64.wrap ((a : Int) + (n : Int)) = (a : Int) + (n : Int) := IntWalk.i64_in _ (by omega)
    by_cases hlt : a + n < s.size
    · obtain ⟨c, r, h1, h2, h3⟩ := from_split s a n hlt
      have hix := fun W => byte_sum (P := Try.prog) s a n c r h2 9 Try.underlying9 W
      have CL := Lib.hid (fun W => rletter_any (c.toNat : Int) W)
      have CD := Lib.hid (fun W => rdigit_any (c.toNat : Int) W)
      have hlt' : (a : Int) + (n : Int) < (s.size : Int) := by omega
      have HW : Hid (∀ m : Nat, isW c = true → (n = 0 → isL c = true) → (n + 1 = 0 ∨ wordN (from' s a) = (n + 1 : Nat) + spanN isW ((from' s a).drop (n + 1)))) := Lib.hid (fun _ hw hz => by
        refine .inr ?_
        have hsp : spanN isW (c :: r) = spanN isW r + 1 := by rw [spanN, if_pos hw]
        rcases hS.out with h0 | h0
        · subst h0
          rw [List.drop_zero] at h1
          rw [h3, h1]
          show (if isL c = true then spanN isW (c :: r) else 0) = _
          rw [if_pos (hz rfl), hsp]; omega
        · rw [h0, h1, h3, hsp]; omega)
      have HE0 : Hid (n = 0 → isL c = false → wordN (from' s a) = 0) := Lib.hid (fun h0 hl => by
        subst h0
        rw [List.drop_zero] at h1
        rw [h1]
        show (if isL c = true then _ else 0) = _
        rw [if_neg (by rw [hl]; exact Bool.false_ne_true)])
      have HE1 : Hid (n ≠ 0 → isW c = false → wordN (from' s a) = n) := Lib.hid (fun h0 hl => by
        rcases hS.out with h4 | h4
        · exact absurd h4 h0
        · rw [h4, h1, spanN, if_neg (by rw [hl]; exact Bool.false_ne_true)]; rfl)
      clear h1 h2 h3 hS
      have ARM : True := trivial
      cases hl : rL (c.toNat : Int) with
      | true =>
        have HN := Lib.hid (HW.out 0 (isL_W hl) (fun _ => hl))
        rw [hl] at CL
        clear hl
        go_wp2_with (go_at_call 51; refine (CL.out _).mono ?_; rintro e w' ⟨rfl, rfl⟩)
        go_roundw
        case rel => exact ⟨n + 1, by omega, by go_num, by trivial, HN⟩
        case measure => simp [intOf]; omega
      | false =>
        have HL : Hid (isL c = false) := Lib.hid hl
        have hwp := rW_parts (c.toNat : Int)
        rw [hl, Bool.false_or] at hwp
        rw [hl] at CL
        clear hl
        by_cases h0 : n = 0
        · have HF := Lib.hid (HE0.out h0 HL.out)
          have h0' : ¬(n : Int) > 0 := by omega
          clear hwp h0
          go_wp2_with (go_at_call 51; refine (CL.out _).mono ?_; rintro e w' ⟨rfl, rfl⟩)
          go_ret
          exact ⟨by rw [HF.out]; have : n = 0 := by omega
                    subst this; rfl, rfl⟩
        · have h0' : (n : Int) > 0 := by omega
          cases hd : rD (c.toNat : Int) with
          | true =>
            rw [hd, Bool.true_or] at hwp
            have HN := Lib.hid (HW.out 0 hwp (fun h => absurd h h0))
            rw [hd] at CD
            clear hd hwp
            go_wp2_with (first
              | (go_at_call 51; refine (CL.out _).mono ?_; rintro e w' ⟨rfl, rfl⟩)
              | (go_at_call 52; refine (CD.out _).mono ?_; rintro e w' ⟨rfl, rfl⟩))
            go_roundw
            case rel => exact ⟨n + 1, by omega, by go_num, by trivial, HN⟩
            case measure => simp [intOf]; omega
          | false =>
            rw [hd, Bool.false_or] at hwp
            rw [hd] at CD
            clear hd
            by_cases h95 : (c.toNat : Int) = 95
            · rw [decide_eq_true h95] at hwp
              have HN := Lib.hid (HW.out 0 hwp (fun h => absurd h h0))
              have v1 : ((c.toNat : Int) == 95) = true := by simpa using h95
              generalize (c.toNat : Int) = x at *
              clear hwp h95
              go_wp2_with (first
                | (go_at_call 51; refine (CL.out _).mono ?_; rintro e w' ⟨rfl, rfl⟩)
                | (go_at_call 52; refine (CD.out _).mono ?_; rintro e w' ⟨rfl, rfl⟩))
              go_roundw
              case rel => exact ⟨n + 1, by omega, by go_num, by trivial, HN⟩
              case measure => simp [intOf]; omega
            · rw [decide_eq_false h95] at hwp
              have HF := Lib.hid (HE1.out h0 hwp)
              have v1 : ((c.toNat : Int) == 95) = false := by simpa using h95
              generalize (c.toNat : Int) = x at *
              clear hwp h95
              go_wp2_with (first
                | (go_at_call 51; refine (CL.out _).mono ?_; rintro e w' ⟨rfl, rfl⟩)
                | (go_at_call 52; refine (CD.out _).mono ?_; rintro e w' ⟨rfl, rfl⟩))
              go_ret
              exact ⟨by rw [HF.out]; rfl, rfl⟩
    · have hge : ¬(a : Int) + (n : Int) < (s.size : Int) := by omega
      have HF : Hid (wordN (from' s a) = n) := Lib.hid (by
        have hd : (from' s a).drop n = [] := List.drop_eq_nil_of_le (by omega)
        rcases hS.out with h0 | h0
        · subst h0
          rw [List.drop_zero] at hd
          rw [hd]; rfl
        · rw [h0, hd]; rfl)
      clear hS
      go_wp2
      go_ret
      exact ⟨by rw [HF.out]; rfl, rfl⟩
theorem isName_word (l : List UInt8) : isName l = (decide (0 < l.length) && decide (l.length ≤ 16) && decide (wordN l = l.length) && !isKey l) := by
  cases l with
  | nil => rfl
  | cons c r =>
    rw [isName_cons]
    cases h : isL c with
    | true =>
      have e : wordN (c :: r) = spanN isW (c :: r) := if_pos h
      rw [e]
      simp
    | false =>
      have e : wordN (c :: r) = 0 := if_neg (by rw [h]; exact Bool.false_ne_true)
      rw [e]
      simp
set_option maxHeartbeats 1000000 in
theorem rname_any (l : List UInt8) (w : World) (hs : l.length ≤ 2 ^ 40) : Calls Try.prog 38 #[.string (strOf l)] w fun e w' => e = .returned (.bool (isName l)) ∧ Below w.heap.size w w' := by
  have hsz := strOf_size l
  have CW : Hid (∀ W, Calls Try.prog 47 #[.string (strOf l), .int .i64 0] W fun e w' => e = .returned (.int .i64 ((wordN l : Nat) : Int)) ∧ W = w') := Lib.hid (fun W => by
    have := word_any (strOf l) 0 W (Nat.zero_le _) (by omega)
    rw [show from' (strOf l) 0 = l by simp [from', strOf]] at this
    exact this)
  have CK := Lib.hid (fun W => rkey_any l W)
  have HN := Lib.hid (isName_word l)
  generalize isName l = N at *
  generalize l.length = m at *
  generalize wordN l = n at *
  generalize isKey l = K at *
  generalize strOf l = s at *
  by_cases h0 : 0 < m
  · by_cases h16 : m ≤ 16
    · by_cases hn : n = m
      · have HF : Hid (N = !K) := Lib.hid (by rw [HN.out]; simp [h0, h16, hn])
        subst hn
        cases K
        all_goals
          go_enter Try.func38, Try.ntmps38
          go_wp2_with (first
            | (go_at_call 47; refine (CW.out _).mono ?_; rintro e w' ⟨rfl, rfl⟩)
            | (go_at_call 48; refine (CK.out _).mono ?_; rintro e w' ⟨rfl, hb⟩; have HB := Lib.hid hb; clear hb))
          go_ret
          exact ⟨by rw [HF.out]; rfl, HB.out⟩
      · have HF : Hid (N = false) := Lib.hid (by rw [HN.out]; simp [hn])
        have hnm : ((n : Int) == (m : Int)) = false := by simp; omega
        go_enter Try.func38, Try.ntmps38
        go_wp2_with (go_at_call 47; refine (CW.out _).mono ?_; rintro e w' ⟨rfl, rfl⟩)
        go_ret
        exact ⟨by rw [HF.out]; rfl, Below.refl _ _⟩
    · have HF : Hid (N = false) := Lib.hid (by rw [HN.out]; simp [h16])
      go_enter Try.func38, Try.ntmps38
      go_wp2
      go_ret
      exact ⟨by rw [HF.out]; rfl, Below.refl _ _⟩
  · have HF : Hid (N = false) := Lib.hid (by rw [HN.out]; simp [h0])
    go_enter Try.func38, Try.ntmps38
    go_wp2
    go_ret
    exact ⟨by rw [HF.out]; rfl, Below.refl _ _⟩
end Go.Proofs.Ytcfgngaabledpaa.Lx
