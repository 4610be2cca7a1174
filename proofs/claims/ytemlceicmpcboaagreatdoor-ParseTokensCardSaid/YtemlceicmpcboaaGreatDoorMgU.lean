/- The walks of chrysalisref08's letter, digit, blank, Key, word, Name: their contracts. The walks of chrysalisref08's word and Name: their contracts. A name for a text that stands elsewhere. The walks of chrysalisref08's skip and mark: their contracts. The walks of chrysalisref08's unquoted and Quote: their contracts. The walk of chrysalisref08.number: its contract. The walk of chrysalisref08.mark: its contract. The walk of chrysalisref08.one: its contract. The walk of chrysalisref08.Scan: its contract. No condition but those that each states. -/
import Derived.Test.YtemlceicmpcboaaGreatDoorMgB
import Derived.Test.YtemlceicmpcboaaGreatDoorMgC
namespace Go.Proofs.YtemlceicmpcboaaGreatDoor.Lx
open Go.RowKit Dk

set_option maxHeartbeats 400000 in
theorem rletter_any (r : Int) (w : World) : Calls Tryz.prog 121 #[.int .u8 r] w fun e w' => e = .returned (.bool (rL r)) ∧ w = w' := by
  rcases (show r < 97 ∨ (97 ≤ r ∧ r ≤ 122) ∨ 122 < r by omega) with h | ⟨h, h'⟩ | h
  all_goals
    go_enter Tryz.func121, Tryz.ntmps121
    go_wp2
    go_ret
    refine ⟨?_, rfl⟩
    congr 2
    unfold rL
    simp
    omega

set_option maxHeartbeats 400000 in
theorem rdigit_any (r : Int) (w : World) : Calls Tryz.prog 124 #[.int .u8 r] w fun e w' => e = .returned (.bool (rD r)) ∧ w = w' := by
  rcases (show r < 48 ∨ (48 ≤ r ∧ r ≤ 57) ∨ 57 < r by omega) with h | ⟨h, h'⟩ | h
  all_goals
    go_enter Tryz.func124, Tryz.ntmps124
    go_wp2
    go_ret
    refine ⟨?_, rfl⟩
    congr 2
    unfold rD
    simp
    omega

set_option maxHeartbeats 400000 in
theorem rblank_any (r : Int) (w : World) : Calls Tryz.prog 120 #[.int .u8 r] w fun e w' => e = .returned (.bool (rB r)) ∧ w = w' := by
  rcases (show r = 32 ∨ r = 9 ∨ r = 10 ∨ r = 13 ∨ (r ≠ 32 ∧ r ≠ 9 ∧ r ≠ 10 ∧ r ≠ 13) by omega) with rfl | rfl | rfl | rfl | ⟨h1, h2, h3, h4⟩
  all_goals
    go_enter Tryz.func120, Tryz.ntmps120
    go_wp2
    go_ret
    refine ⟨?_, rfl⟩
    simp [rB, *]

theorem row_strings (w : World) (ks : List (List UInt8)) (t : TypeId) (j : Nat) (k : List UInt8) (h : ks[j]? = some k) : (w.alloc (.cells (ks.map fun l => Value.string (strOf l)).toArray t)).cell? ⟨w.heap.size, j, none⟩ = some (.string (strOf k)) := by
  rw [World.cell?_alloc_mark]
  simp [h]

set_option maxHeartbeats 1000000 in
theorem rkey_any (l : List UInt8) (w : World) : Calls Tryz.prog 123 #[.string (strOf l)] w fun e w' => e = .returned (.bool (isKey l)) ∧ Below w.heap.size w w' := by
  have HB : Hid (Below w.heap.size w (w.alloc (.cells (keyList.map fun l => Value.string (strOf l)).toArray 9))) := Lib.hid ((Below.refl _ _).alloc (Nat.le_refl _) _)
  have HC := Lib.hid (fun j k h => row_strings w keyList 9 j k h)
  have HK := Lib.hid (isKey_iff l)
  go_enter Tryz.func123, Tryz.ntmps123
  go_wp2
  obtain ⟨W1, hW⟩ : ∃ W1, W1 = w.alloc (.cells (keyList.map fun l => Value.string (strOf l)).toArray 9) := ⟨_, rfl⟩
  rw [← hW] at HB HC
  go_loopw [4] (fun vi wr => ∃ j : Nat, j ≤ 20 ∧ vi = .int .i64 (j : Int) ∧ wr = W1 ∧ Hid (l ∉ keyList.take j)) (fun vi _ => 20 - (intOf vi).toNat)
  case atStart => exact ⟨0, Nat.zero_le _, rfl, hW.symm, Lib.hid (by simp)⟩
  case round =>
    obtain ⟨j, hj, rfl, rfl, hn⟩ := hrel
    by_cases hlt : j < 20
    · obtain ⟨k, hk⟩ : ∃ k, keyList[j]? = some k := ⟨_, List.getElem?_eq_getElem (by show j < 20; exact hlt)⟩
      have c := HC.out j k hk
      have hb := str_beq k l
      have z0 : (0 : Int) ≤ (j : Int) := by omega
      have z1 : (j : Int) < 20 := by omega
      by_cases he : k = l
      · have HT : Hid (isKey l = true) := Lib.hid (HK.out.2 (by rw [← he]; exact List.mem_of_getElem? hk))
        rw [decide_eq_true he] at hb
        generalize strOf k = y at *
        generalize strOf l = z at *
        clear he hk hW
        go_wp2
        go_ret
        exact ⟨by rw [HT.out]; rfl, HB.out⟩
      · have HN : Hid (l ∉ keyList.take (j + 1)) := Lib.hid (by
          have e := List.getElem?_eq_some_iff.1 hk
          obtain ⟨h1, h2⟩ := e
          rw [List.take_succ_eq_append_getElem h1, List.mem_append]
          rintro (h | h)
          · exact hn.out h
          · rw [List.mem_singleton, h2] at h; exact he h.symm)
        rw [decide_eq_false he] at hb
        generalize strOf k = y at *
        generalize strOf l = z at *
        clear he hk hW hn
        go_wp2
        go_roundw
        case rel => exact ⟨j + 1, by omega, by go_num, by trivial, HN⟩
        case measure => simp [intOf]; omega
    · obtain rfl : j = 20 := by omega
      have HF : Hid (isKey l = false) := Lib.hid (by
        cases h : isKey l with
        | false => rfl
        | true => exact absurd (HK.out.1 h) hn.out)
      clear hW hn
      go_wp2
      go_ret
      exact ⟨by rw [HF.out]; rfl, HB.out⟩

/-- How many bytes of a word stand there. -/
def wordN (L : List UInt8) : Nat := match L with
  | [] => 0
  | c :: r => if isL c then spanN isW (c :: r) else 0

end Go.Proofs.YtemlceicmpcboaaGreatDoor.Lx
namespace Go.Proofs.YtemlceicmpcboaaGreatDoor.Lx
open Go.RowKit Dk

/-- A byte at a place, and the rest. -/
theorem from_split (s : ByteArray) (a n : Nat) (h : a + n < s.size) : ∃ c r, (from' s a).drop n = c :: r ∧ from' s (a + n) = c :: r ∧ (from' s a).drop (n + 1) = r := by
  cases hd : (from' s a).drop n with
  | nil =>
    have := congrArg List.length hd
    rw [List.length_drop, from_length] at this
    simp at this
    omega
  | cons c r =>
    refine ⟨c, r, rfl, by rw [← from_drop, hd], ?_⟩
    rw [show n + 1 = n + 1 from rfl, ← List.drop_drop, hd]; rfl

theorem byte_sum {P : Program} (s : ByteArray) (a n : Nat) (c : UInt8) (r : List UInt8) (hl : from' s (a + n) = c :: r) (t : TypeId) (ht : P.underlying t = some .string) (W : World) : (Instr.index t (.string s) (.int .i64 ((a : Int) + (n : Int)))).run P W = .ok (.int .u8 (c.toNat : Int)) W := by
  have := byte_at (P := P) s (a + n) c r hl t ht W
  rwa [Int.natCast_add] at this

theorem rW_parts (x : Int) : rW x = (rL x || (rD x || decide (x = 95))) := by unfold rW; rw [Bool.or_assoc]

set_option maxHeartbeats 2000000 in
theorem word_any (s : ByteArray) (a : Nat) (w : World) (ha : a ≤ s.size) (hs : s.size ≤ 2 ^ 40) :
    Calls Tryz.prog 122 #[.string s, .int .i64 (a : Int)] w fun e w' => e = .returned (.int .i64 ((wordN (from' s a) : Nat) : Int)) ∧ w = w' := by
  have hlen := from_length s a
  go_enter Tryz.func122, Tryz.ntmps122
  go_wp2
  go_loopw [5] (fun vi wr => ∃ n : Nat, a + n ≤ s.size ∧ vi = .int .i64 (n : Int) ∧ wr = w ∧ Hid (n = 0 ∨ wordN (from' s a) = n + spanN isW ((from' s a).drop n))) (fun vi _ => s.size - (intOf vi).toNat)
  case atStart => exact ⟨0, ha, rfl, rfl, Lib.hid (.inl rfl)⟩
  case round =>
    obtain ⟨n, hn, rfl, rfl, hS⟩ := hrel
    have e1 : IntKind.i64.wrap ((a : Int) + (n : Int)) = (a : Int) + (n : Int) := IntWalk.i64_in _ (by omega)
    by_cases hlt : a + n < s.size
    · obtain ⟨c, r, h1, h2, h3⟩ := from_split s a n hlt
      have hix := fun W => byte_sum (P := Tryz.prog) s a n c r h2 9 Tryz.underlying9 W
      have CL := Lib.hid (fun W => rletter_any (c.toNat : Int) W)
      have CD := Lib.hid (fun W => rdigit_any (c.toNat : Int) W)
      have hlt' : (a : Int) + (n : Int) < (s.size : Int) := by omega
      have HW : Hid (∀ m : Nat, isW c = true → (n = 0 → isL c = true) → (n + 1 = 0 ∨ wordN (from' s a) = (n + 1 : Nat) + spanN isW ((from' s a).drop (n + 1)))) := Lib.hid (fun _ hw hz => by
        refine .inr ?_
        have hsp : spanN isW (c :: r) = spanN isW r + 1 := by rw [spanN, if_pos hw]
        rcases hS.out with h0 | h0
        · subst h0
          rw [List.drop_zero] at h1
          rw [h3, h1]
          show (if isL c = true then spanN isW (c :: r) else 0) = _
          rw [if_pos (hz rfl), hsp]; omega
        · rw [h0, h1, h3, hsp]; omega)
      have HE0 : Hid (n = 0 → isL c = false → wordN (from' s a) = 0) := Lib.hid (fun h0 hl => by
        subst h0
        rw [List.drop_zero] at h1
        rw [h1]
        show (if isL c = true then _ else 0) = _
        rw [if_neg (by rw [hl]; exact Bool.false_ne_true)])
      have HE1 : Hid (n ≠ 0 → isW c = false → wordN (from' s a) = n) := Lib.hid (fun h0 hl => by
        rcases hS.out with h4 | h4
        · exact absurd h4 h0
        · rw [h4, h1, spanN, if_neg (by rw [hl]; exact Bool.false_ne_true)]; rfl)
      clear h1 h2 h3 hS
      have ARM : True := trivial
      cases hl : rL (c.toNat : Int) with
      | true =>
        have HN := Lib.hid (HW.out 0 (isL_W hl) (fun _ => hl))
        rw [hl] at CL
        clear hl
        go_wp2_with (go_at_call 121; refine (CL.out _).mono ?_; rintro e w' ⟨rfl, rfl⟩)
        go_roundw
        case rel => exact ⟨n + 1, by omega, by go_num, by trivial, HN⟩
        case measure => simp [intOf]; omega
      | false =>
        have HL : Hid (isL c = false) := Lib.hid hl
        have hwp := rW_parts (c.toNat : Int)
        rw [hl, Bool.false_or] at hwp
        rw [hl] at CL
        clear hl
        by_cases h0 : n = 0
        · have HF := Lib.hid (HE0.out h0 HL.out)
          have h0' : ¬(n : Int) > 0 := by omega
          clear hwp h0
          go_wp2_with (go_at_call 121; refine (CL.out _).mono ?_; rintro e w' ⟨rfl, rfl⟩)
          go_ret
          exact ⟨by rw [HF.out]; have : n = 0 := by omega
                    subst this; rfl, rfl⟩
        · have h0' : (n : Int) > 0 := by omega
          cases hd : rD (c.toNat : Int) with
          | true =>
            rw [hd, Bool.true_or] at hwp
            have HN := Lib.hid (HW.out 0 hwp (fun h => absurd h h0))
            rw [hd] at CD
            clear hd hwp
            go_wp2_with (first
              | (go_at_call 121; refine (CL.out _).mono ?_; rintro e w' ⟨rfl, rfl⟩)
              | (go_at_call 124; refine (CD.out _).mono ?_; rintro e w' ⟨rfl, rfl⟩))
            go_roundw
            case rel => exact ⟨n + 1, by omega, by go_num, by trivial, HN⟩
            case measure => simp [intOf]; omega
          | false =>
            rw [hd, Bool.false_or] at hwp
            rw [hd] at CD
            clear hd
            by_cases h95 : (c.toNat : Int) = 95
            · rw [decide_eq_true h95] at hwp
              have HN := Lib.hid (HW.out 0 hwp (fun h => absurd h h0))
              have v1 : ((c.toNat : Int) == 95) = true := by simpa using h95
              generalize (c.toNat : Int) = x at *
              clear hwp h95
              go_wp2_with (first
                | (go_at_call 121; refine (CL.out _).mono ?_; rintro e w' ⟨rfl, rfl⟩)
                | (go_at_call 124; refine (CD.out _).mono ?_; rintro e w' ⟨rfl, rfl⟩))
              go_roundw
              case rel => exact ⟨n + 1, by omega, by go_num, by trivial, HN⟩
              case measure => simp [intOf]; omega
            · rw [decide_eq_false h95] at hwp
              have HF := Lib.hid (HE1.out h0 hwp)
              have v1 : ((c.toNat : Int) == 95) = false := by simpa using h95
              generalize (c.toNat : Int) = x at *
              clear hwp h95
              go_wp2_with (first
                | (go_at_call 121; refine (CL.out _).mono ?_; rintro e w' ⟨rfl, rfl⟩)
                | (go_at_call 124; refine (CD.out _).mono ?_; rintro e w' ⟨rfl, rfl⟩))
              go_ret
              exact ⟨by rw [HF.out]; rfl, rfl⟩
    · have hge : ¬(a : Int) + (n : Int) < (s.size : Int) := by omega
      have HF : Hid (wordN (from' s a) = n) := Lib.hid (by
        have hd : (from' s a).drop n = [] := List.drop_eq_nil_of_le (by omega)
        rcases hS.out with h0 | h0
        · subst h0
          rw [List.drop_zero] at hd
          rw [hd]; rfl
        · rw [h0, hd]; rfl)
      clear hS
      go_wp2
      go_ret
      exact ⟨by rw [HF.out]; rfl, rfl⟩

theorem isName_word (l : List UInt8) : isName l = (decide (0 < l.length) && decide (l.length ≤ 16) && decide (wordN l = l.length) && !isKey l) := by
  cases l with
  | nil => rfl
  | cons c r =>
    rw [isName_cons]
    cases h : isL c with
    | true =>
      have e : wordN (c :: r) = spanN isW (c :: r) := if_pos h
      rw [e]
      simp
    | false =>
      have e : wordN (c :: r) = 0 := if_neg (by rw [h]; exact Bool.false_ne_true)
      rw [e]
      simp

set_option maxHeartbeats 1000000 in
theorem rname_any (l : List UInt8) (w : World) (hs : l.length ≤ 2 ^ 40) : Calls Tryz.prog 137 #[.string (strOf l)] w fun e w' => e = .returned (.bool (isName l)) ∧ Below w.heap.size w w' := by
  have hsz := strOf_size l
  have CW : Hid (∀ W, Calls Tryz.prog 122 #[.string (strOf l), .int .i64 0] W fun e w' => e = .returned (.int .i64 ((wordN l : Nat) : Int)) ∧ W = w') := Lib.hid (fun W => by
    have := word_any (strOf l) 0 W (Nat.zero_le _) (by omega)
    rw [show from' (strOf l) 0 = l by simp [from', strOf]] at this
    exact this)
  have CK := Lib.hid (fun W => rkey_any l W)
  have HN := Lib.hid (isName_word l)
  generalize isName l = N at *
  generalize l.length = m at *
  generalize wordN l = n at *
  generalize isKey l = K at *
  generalize strOf l = s at *
  by_cases h0 : 0 < m
  · by_cases h16 : m ≤ 16
    · by_cases hn : n = m
      · have HF : Hid (N = !K) := Lib.hid (by rw [HN.out]; simp [h0, h16, hn])
        subst hn
        cases K
        all_goals
          go_enter Tryz.func137, Tryz.ntmps137
          go_wp2_with (first
            | (go_at_call 122; refine (CW.out _).mono ?_; rintro e w' ⟨rfl, rfl⟩)
            | (go_at_call 123; refine (CK.out _).mono ?_; rintro e w' ⟨rfl, hb⟩; have HB := Lib.hid hb; clear hb))
          go_ret
          exact ⟨by rw [HF.out]; rfl, HB.out⟩
      · have HF : Hid (N = false) := Lib.hid (by rw [HN.out]; simp [hn])
        have hnm : ((n : Int) == (m : Int)) = false := by simp; omega
        go_enter Tryz.func137, Tryz.ntmps137
        go_wp2_with (go_at_call 122; refine (CW.out _).mono ?_; rintro e w' ⟨rfl, rfl⟩)
        go_ret
        exact ⟨by rw [HF.out]; rfl, Below.refl _ _⟩
    · have HF : Hid (N = false) := Lib.hid (by rw [HN.out]; simp [h16])
      go_enter Tryz.func137, Tryz.ntmps137
      go_wp2
      go_ret
      exact ⟨by rw [HF.out]; rfl, Below.refl _ _⟩
  · have HF : Hid (N = false) := Lib.hid (by rw [HN.out]; simp [h0])
    go_enter Tryz.func137, Tryz.ntmps137
    go_wp2
    go_ret
    exact ⟨by rw [HF.out]; rfl, Below.refl _ _⟩

end Go.Proofs.YtemlceicmpcboaaGreatDoor.Lx
namespace Go.Proofs.YtemlceicmpcboaaGreatDoor.Lx
open Go.RowKit Dk

theorem from_cons (s : ByteArray) (a : Nat) (h : a < s.size) : ∃ c r, from' s a = c :: r ∧ from' s (a + 1) = r := by
  obtain ⟨c, r, h1, h2, h3⟩ := from_split s a 0 (by omega)
  rw [List.drop_zero] at h1
  refine ⟨c, r, h1, ?_⟩
  rw [← from_drop, h1]; rfl
theorem from_end (s : ByteArray) : from' s s.size = [] := List.eq_nil_of_length_eq_zero (by rw [from_length]; omega)

theorem skipT (c : UInt8) (r : List UInt8) : skipN true (c :: r) = skipN (decide (c.toNat ≠ 10)) r + 1 := by rw [skipN]
theorem skipF (c : UInt8) (r : List UInt8) : skipN false (c :: r) = if c.toNat = 35 then skipN true r + 1 else if isB c then skipN false r + 1 else 0 := by rw [skipN]

set_option maxHeartbeats 2000000 in
theorem rskip_any (s : ByteArray) (a : Nat) (w : World) (ha : a ≤ s.size) (hs : s.size ≤ 2 ^ 40) :
    Calls Tryz.prog 64 #[.string s, .int .i64 (a : Int)] w fun e w' => e = .returned (.int .i64 ((a + skipN false (from' s a) : Nat) : Int)) ∧ w = w' := by
  go_enter Tryz.func64, Tryz.ntmps64
  go_wp2
  go_loopw [1] (fun va wr => ∃ b : Nat, b ≤ s.size ∧ va = .int .i64 (b : Int) ∧ w = wr ∧ Hid (a + skipN false (from' s a) = b + skipN false (from' s b))) (fun va _ => s.size - (intOf va).toNat)
  case atStart => exact ⟨a, ha, rfl, rfl, Lib.hid rfl⟩
  case round =>
    obtain ⟨b, hb, rfl, rfl, hS⟩ := hrel
    by_cases hlt : b < s.size
    · obtain ⟨c, r, hl, hl1⟩ := from_cons s b hlt
      have hix := fun W => byte_at (P := Tryz.prog) s b c r hl 9 Tryz.underlying9 W
      have hlt' : (b : Int) < (s.size : Int) := by omega
      have CB := Lib.hid (fun W => rblank_any (c.toNat : Int) W)
      have hS' := hS.out
      rw [hl, skipF] at hS'
      by_cases h35 : c.toNat = 35
      · have v1 : ((c.toNat : Int) == 35) = true := by rw [h35]; rfl
        rw [show rB (c.toNat : Int) = false by rw [h35]; rfl] at CB
        have HI : Hid (a + skipN false (from' s a) = b + skipN true (from' s b)) := Lib.hid (by
          rw [hS', if_pos h35, hl, skipT, show decide (c.toNat ≠ 10) = true by rw [h35]; rfl])
        have H35 : Hid (from' s b = c :: r ∧ c.toNat = 35) := Lib.hid ⟨hl, h35⟩
        generalize (c.toNat : Int) = x at *
        clear hS' hS h35 hl hl1
        go_wp2_with (go_at_call 120; refine (CB.out _).mono ?_; rintro e w' ⟨rfl, rfl⟩)
        go_loopw [1] (fun va wr => ∃ d : Nat, b ≤ d ∧ d ≤ s.size ∧ va = .int .i64 (d : Int) ∧ w = wr ∧ Hid (a + skipN false (from' s a) = d + skipN true (from' s d))) (fun va _ => s.size - (intOf va).toNat)
        case atStart => exact ⟨b, Nat.le_refl _, hb, rfl, rfl, HI⟩
        case round =>
          clear hix hlt' v1 HI CB
          obtain ⟨d, hbd, hd, rfl, rfl, hT⟩ := hrel
          by_cases hlt2 : d < s.size
          · obtain ⟨y, q, hq, hq1⟩ := from_cons s d hlt2
            have hix := fun W => byte_at (P := Tryz.prog) s d y q hq 9 Tryz.underlying9 W
            have hlt' : (d : Int) < (s.size : Int) := by omega
            have hT' := hT.out
            rw [hq, skipT] at hT'
            by_cases h10 : y.toNat = 10
            · have v2 : ((y.toNat : Int) == 10) = true := by rw [h10]; rfl
              have v3 : ((y.toNat : Int) != 10) = false := by rw [h10]; rfl
              have HN : Hid (a + skipN false (from' s a) = d + skipN false (from' s d)) := Lib.hid (by
                rw [hT', hq, skipF, if_neg (by omega), if_pos (by unfold isB rB; rw [h10]; rfl), show decide (y.toNat ≠ 10) = false by rw [h10]; rfl])
              have HGT : Hid (b < d) := Lib.hid (by
                rcases Nat.lt_or_ge b d with h | h
                · exact h
                · have : b = d := by omega
                  subst this
                  have h1 := H35.out.1
                  rw [hq] at h1
                  have := (List.cons.inj h1).1
                  rw [this] at h10
                  have := H35.out.2
                  omega)
              generalize (y.toNat : Int) = x2 at *
              clear hT' hT h10 hq hq1
              go_wp2
              go_roundw
              case rel => exact ⟨d, hd, rfl, by trivial, HN⟩
              case measure => simp [intOf]; have := HGT.out; omega
            · have v2 : ((y.toNat : Int) == 10) = false := by simp; omega
              have v3 : ((y.toNat : Int) != 10) = true := by simp; omega
              have HN : Hid (a + skipN false (from' s a) = (d + 1) + skipN true (from' s (d + 1))) := Lib.hid (by
                rw [hT', hq1, show decide (y.toNat ≠ 10) = true by simpa using h10]; omega)
              generalize (y.toNat : Int) = x2 at *
              clear hT' hT h10 hq hq1
              go_wp2
              go_roundw
              case rel => exact ⟨d + 1, by omega, by omega, by go_num, by trivial, HN⟩
              case measure => simp [intOf]; omega
          · obtain rfl : d = s.size := by omega
            have hge : ¬((s.size : Int)) < (s.size : Int) := by omega
            have HN : Hid (a + skipN false (from' s a) = s.size + skipN false (from' s s.size)) := Lib.hid (by rw [hT.out, from_end]; rfl)
            clear hT
            go_wp2
            go_roundw
            case rel => exact ⟨s.size, Nat.le_refl _, rfl, by trivial, HN⟩
            case measure => simp [intOf]; omega
      · have v1 : ((c.toNat : Int) == 35) = false := by simp; omega
        rw [if_neg h35] at hS'
        cases hbk : isB c with
        | true =>
          have k1 : rB (c.toNat : Int) = true := hbk
          rw [k1] at CB
          have HN : Hid (a + skipN false (from' s a) = (b + 1) + skipN false (from' s (b + 1))) := Lib.hid (by rw [hS', hbk, if_pos rfl, hl1]; omega)
          generalize (c.toNat : Int) = x at *
          clear hS' hS h35 hl hl1 k1 hbk
          go_wp2_with (go_at_call 120; refine (CB.out _).mono ?_; rintro e w' ⟨rfl, rfl⟩)
          go_roundw
          case rel => exact ⟨b + 1, by omega, by go_num, by trivial, HN⟩
          case measure => simp [intOf]; omega
        | false =>
          have k1 : rB (c.toNat : Int) = false := hbk
          rw [k1] at CB
          have HN : Hid (a + skipN false (from' s a) = b) := Lib.hid (by rw [hS', hbk, if_neg Bool.false_ne_true]; rfl)
          generalize (c.toNat : Int) = x at *
          clear hS' hS h35 hl hl1 k1 hbk
          go_wp2_with (go_at_call 120; refine (CB.out _).mono ?_; rintro e w' ⟨rfl, rfl⟩)
          go_ret
          exact ⟨by first | (rw [HN.out]; rfl) | (rw [← Int.natCast_add, HN.out]; rfl), rfl⟩
    · obtain rfl : b = s.size := by omega
      have HN : Hid (a + skipN false (from' s a) = s.size) := Lib.hid (by rw [hS.out, from_end]; rfl)
      have hge : ¬((s.size : Int)) < (s.size : Int) := by omega
      clear hS
      go_wp2
      go_ret
      exact ⟨by first | (rw [HN.out]; rfl) | (rw [← Int.natCast_add, HN.out]; rfl), rfl⟩

end Go.Proofs.YtemlceicmpcboaaGreatDoor.Lx
namespace Go.Proofs.YtemlceicmpcboaaGreatDoor.Lx
open Go.RowKit Dk

/-- A row of bytes of the call's own. -/
structure BX (w W : World) (v : Value) (pre : List UInt8) : Prop where
  row : W.ownsRow w.heap.size 5 1 v pre.length (bv pre)
  below : Below w.heap.size w W
theorem BX.grown {w W W1 W' : World} {v v' : Value} {pre pre' : List UInt8} (h : BX w W v pre) (hW : Below W.heap.size W W1) (hg : W1.grownBy W' v.ownBlock) (hrow : W'.ownsRow w.heap.size 5 1 v' pre'.length (bv pre')) : BX w W' v' pre' :=
  ⟨hrow, ((Only.of_below (F := fun b => v.ownBlock = some b) hW).trans (Only.of_grown (F := fun b => v.ownBlock = some b) hg (fun _k hk => hk)) (fun _ _ h => h)).below h.below (fun b hb => (own_lo h.row b hb).1) (Nat.le_refl _)⟩
theorem BX.app1 {w W W' : World} {v v' : Value} {pre : List UInt8} {x : UInt8} {o : Obj} (h : BX w W v pre) (hrow : W'.ownsRow w.heap.size 5 1 v' (pre.length + 1) (bv pre ++ [.int .u8 (x.toNat : Int)])) (hg : (W.alloc o).grownBy W' v.ownBlock) : BX w W' v' (pre ++ [x]) :=
  h.grown ((Below.refl _ _).alloc (Nat.le_refl _) _) hg (by rw [show [Value.int .u8 (x.toNat : Int)] = bv [x] from rfl, ← bv_append] at hrow; rw [List.length_append]; exact hrow)
theorem BX.app2 {w W W' : World} {v v' : Value} {pre : List UInt8} {x y : UInt8} {o : Obj} (h : BX w W v pre) (hrow : W'.ownsRow w.heap.size 5 1 v' (pre.length + 2) (bv pre ++ [.int .u8 (x.toNat : Int), .int .u8 (y.toNat : Int)])) (hg : (W.alloc o).grownBy W' v.ownBlock) : BX w W' v' (pre ++ [x, y]) :=
  h.grown ((Below.refl _ _).alloc (Nat.le_refl _) _) hg (by rw [show [Value.int .u8 (x.toNat : Int), Value.int .u8 (y.toNat : Int)] = bv [x, y] from rfl, ← bv_append] at hrow; rw [List.length_append]; exact hrow)

/-- What is read of a text in quotes, and how many bytes it has. -/
def unqV : Option (List UInt8 × Nat) → Value
  | none => .tuple #[.string ⟨#[]⟩, .int .i64 0]
  | some q => .tuple #[.string (strOf q.1), .int .i64 ((q.2 + 1 : Nat) : Int)]

set_option maxHeartbeats 4000000 in
set_option maxRecDepth 100000 in
theorem unquoted_any (s : ByteArray) (a : Nat) (w : World) (ha : a < s.size) (hs : s.size ≤ 2 ^ 40) :
    Calls Tryz.prog 126 #[.string s, .int .i64 (a : Int)] w fun e w' => e = .returned (unqV (textL (from' s (a + 1)))) ∧ Below w.heap.size w w' := by
  obtain ⟨i0, hi0, hy0, hy1, hy2⟩ := info_parts b_info3
  have H0 : Hid (textL (from' s (a + 1)) = shift [] 0 (textL (from' s (a + 1)))) := Lib.hid (shift_nil _).symm
  obtain ⟨R, hR⟩ : ∃ R, R = unqV (textL (from' s (a + 1))) := ⟨_, rfl⟩
  rw [← hR]
  have HRR := Lib.hid hR
  clear hR
  go_enter Tryz.func126, Tryz.ntmps126
  go_wp2
  go_loopw [6, 7] (fun vb vi wr => ∃ (b : Nat) (pre : List UInt8), a < b ∧ b ≤ s.size ∧ pre.length ≤ b ∧ vi = .int .i64 (b : Int) ∧ Hid (BX w wr vb pre) ∧ Hid (textL (from' s (a + 1)) = shift pre (b - (a + 1)) (textL (from' s b)))) (fun _ vi _ => s.size - (intOf vi).toNat)
  case atStart => exact ⟨a + 1, [], by omega, by omega, by simp, by go_num, Lib.hid ⟨by simpa [bv] using World.ownsRow_nil _ _ _ _, Below.refl _ _⟩, Lib.hid (by rw [Nat.sub_self]; exact H0.out)⟩
  case round =>
    clear H0
    obtain ⟨b, pre, hab, hb, hpre, rfl, hX, hS⟩ := hrel
    have hsz := hX.out.below.size
    by_cases hlt : b < s.size
    · obtain ⟨c, r, hl, hl1⟩ := from_cons s b hlt
      have hix := fun W => byte_at (P := Tryz.prog) s b c r hl 9 Tryz.underlying9 W
      have hlt' : (b : Int) < (s.size : Int) := by omega
      have hS' := hS.out
      rw [hl] at hS'
      by_cases h34 : c.toNat = 34
      · have v1 : ((c.toNat : Int) == 34) = true := by rw [h34]; rfl
        rw [textL_end _ h34] at hS'
        have HS : Hid (textL (from' s (a + 1)) = some (pre, 1 + (b - (a + 1)))) := Lib.hid (by rw [hS']; simp [shift])
        have g := run_convert_owned (P := Tryz.prog) (src := 69) (dst := 9) Tryz.underlying69 Tryz.underlying5 Tryz.underlying9 hX.out.row
        generalize (c.toNat : Int) = x at *
        clear hS' hS h34 hl hl1
        have e1 : IntKind.i64.wrap ((b : Int) + 1) = (b : Int) + 1 := IntWalk.i64_in _ (by omega)
        have e2 : IntKind.i64.wrap ((b : Int) + 1 - (a : Int)) = (b : Int) + 1 - (a : Int) := IntWalk.i64_in _ (by omega)
        go_wp2
        go_ret2
        refine ⟨?_, hX.out.below⟩
        rw [HRR.out, HS.out]
        dsimp only [unqV]
        rw [show ((1 + (b - (a + 1)) + 1 : Nat) : Int) = (b : Int) + 1 - (a : Int) by omega]
        rfl
      · have v1 : ((c.toNat : Int) == 34) = false := by simp; omega
        by_cases h10 : c.toNat = 10
        · have v2 : ((c.toNat : Int) == 10) = true := by rw [h10]; rfl
          rw [textL_line _ h10, shift_none] at hS'
          have HS := Lib.hid hS'
          generalize (c.toNat : Int) = x at *
          clear hS' hS h34 h10 hl hl1
          go_wp2
          go_ret2
          exact ⟨by rw [HRR.out, HS.out]; rfl, hX.out.below⟩
        · have v2 : ((c.toNat : Int) == 10) = false := by simp; omega
          by_cases h92 : c.toNat = 92
          · have v3 : ((c.toNat : Int) != 92) = false := by rw [h92]; rfl
            have v4 : ((c.toNat : Int) == 92) = true := by rw [h92]; rfl
            rw [textL_esc _ h92, shift_shift, ← hl1] at hS'
            have e1 : IntKind.i64.wrap ((b : Int) + 1) = (b : Int) + 1 := IntWalk.i64_in _ (by omega)
            generalize (c.toNat : Int) = x at *
            clear h34 h10 h92 hl hl1 hS
            by_cases hlt2 : b + 1 < s.size
            · obtain ⟨d, r2, hd, hd1⟩ := from_cons s (b + 1) hlt2
              have hix2 : ∀ W : World, (Instr.index 9 (.string s) (.int .i64 ((b : Int) + 1))).run Tryz.prog W = .ok (.int .u8 (d.toNat : Int)) W := fun W => by
                have := byte_at (P := Tryz.prog) s (b + 1) d r2 hd 9 Tryz.underlying9 W
                rwa [show ((b + 1 : Nat) : Int) = (b : Int) + 1 by omega] at this
              have hlt3 : (b : Int) + 1 < (s.size : Int) := by omega
              rw [hd] at hS'
              have e2 : IntKind.i64.wrap ((b : Int) + 1 + 1) = (b : Int) + 1 + 1 := IntWalk.i64_in _ (by omega)
              by_cases hu : d.toNat = 110 ∨ d.toNat = 34 ∨ d.toNat = 92
              · obtain ⟨y, hy⟩ : ∃ y, unescN d = some y := by
                  unfold unescN
                  by_cases h1 : d.toNat = 110
                  · exact ⟨_, if_pos h1⟩
                  · rw [if_neg h1, if_pos (by omega)]; exact ⟨_, rfl⟩
                rw [show textE (d :: r2) = shift [y] 1 (textL r2) by rw [textE, hy]; rfl, shift_shift] at hS'
                have HS : Hid (textL (from' s (a + 1)) = shift (pre ++ [y]) (b + 2 - (a + 1)) (textL (from' s (b + 2)))) := Lib.hid (by
                  rw [hS', ← hd1, List.append_nil]
                  congr 1
                  omega)
                have N1 := Lib.hid (news_at wr #[.int .u8 (y.toNat : Int)] 5)
                by_cases h110 : d.toNat = 110
                · have hy10 : y = 10 := by unfold unescN at hy; rw [if_pos h110] at hy; exact (Option.some.inj hy).symm
                  subst hy10
                  have u1 : ((d.toNat : Int) == 110) = true := by rw [h110]; rfl
                  generalize (d.toNat : Int) = z at *
                  clear hS' hu hy h110 hd hd1
                  go_wp2_with (refine wpList_append_lies _ rfl (.tmp 56) (.tmp 57) 69 rfl w.heap.size 5 i0 (.int .u8 0) 1 1 Tryz.underlying69 hi0 hy0 hy1 hy2 rfl (by decide) _ pre.length (bv pre) rfl (hX.out.row.alloc _) ⟨wr.heap.size, 0, none⟩ 1 1 [.int .u8 10] rfl rfl N1.out (by simp [Value.oneCell']) (by decide) (by unfold maxLen; omega) (by omega) (by simp; omega) (wr.heap.size + 1) (by simp) ?_; intro g cap W7 hrow hgr hgl hlt7; have HX2 := Lib.hid (hX.out.app1 (x := 10) hrow hgr); clear hrow hgr hgl hlt7)
                  go_roundw
                  case rel => exact ⟨b + 2, pre ++ [10], by omega, by omega, by simp; omega, by go_num, HX2, HS⟩
                  case measure => simp [intOf]; omega
                · have hyd : y = d := by unfold unescN at hy; rw [if_neg h110, if_pos (by omega)] at hy; exact (Option.some.inj hy).symm
                  subst hyd
                  have u1 : ((y.toNat : Int) == 110) = false := by simp; omega
                  by_cases hq : y.toNat = 34
                  · have u2 : ((y.toNat : Int) == 34) = true := by rw [hq]; rfl
                    clear hS' hu hy h110 hd hd1 hq
                    go_wp2_with (refine wpList_append_lies _ rfl (.tmp 81) (.tmp 86) 69 rfl w.heap.size 5 i0 (.int .u8 0) 1 1 Tryz.underlying69 hi0 hy0 hy1 hy2 rfl (by decide) _ pre.length (bv pre) rfl (hX.out.row.alloc _) ⟨wr.heap.size, 0, none⟩ 1 1 [.int .u8 (y.toNat : Int)] rfl rfl N1.out (by simp [Value.oneCell']) (by decide) (by unfold maxLen; omega) (by omega) (by simp; omega) (wr.heap.size + 1) (by simp) ?_; intro g cap W7 hrow hgr hgl hlt7; have HX2 := Lib.hid (hX.out.app1 (x := y) hrow hgr); clear hrow hgr hgl hlt7)
                    go_roundw
                    case rel => exact ⟨b + 2, pre ++ [y], by omega, by omega, by simp; omega, by go_num, HX2, HS⟩
                    case measure => simp [intOf]; omega
                  · have u2 : ((y.toNat : Int) == 34) = false := by simp; omega
                    have u3 : ((y.toNat : Int) == 92) = true := by simp; omega
                    clear hS' hu hy h110 hd hd1 hq
                    go_wp2_with (refine wpList_append_lies _ rfl (.tmp 81) (.tmp 86) 69 rfl w.heap.size 5 i0 (.int .u8 0) 1 1 Tryz.underlying69 hi0 hy0 hy1 hy2 rfl (by decide) _ pre.length (bv pre) rfl (hX.out.row.alloc _) ⟨wr.heap.size, 0, none⟩ 1 1 [.int .u8 (y.toNat : Int)] rfl rfl N1.out (by simp [Value.oneCell']) (by decide) (by unfold maxLen; omega) (by omega) (by simp; omega) (wr.heap.size + 1) (by simp) ?_; intro g cap W7 hrow hgr hgl hlt7; have HX2 := Lib.hid (hX.out.app1 (x := y) hrow hgr); clear hrow hgr hgl hlt7)
                    go_roundw
                    case rel => exact ⟨b + 2, pre ++ [y], by omega, by omega, by simp; omega, by go_num, HX2, HS⟩
                    case measure => simp [intOf]; omega
              · have hn : unescN d = none := by unfold unescN; rw [if_neg (by omega), if_neg (by omega)]
                rw [show textE (d :: r2) = none by rw [textE, hn], shift_none] at hS'
                have HS := Lib.hid hS'
                have u1 : ((d.toNat : Int) == 110) = false := by simp; omega
                have u2 : ((d.toNat : Int) == 34) = false := by simp; omega
                have u3 : ((d.toNat : Int) == 92) = false := by simp; omega
                generalize (d.toNat : Int) = z at *
                clear hS' hu hn hd hd1
                go_wp2
                go_ret2
                exact ⟨by rw [HRR.out, HS.out]; rfl, hX.out.below⟩
            · have hlt3 : ¬(b : Int) + 1 < (s.size : Int) := by omega
              have : from' s (b + 1) = [] := List.eq_nil_of_length_eq_zero (by rw [from_length]; omega)
              rw [this, show textE [] = none from rfl, shift_none] at hS'
              have HS := Lib.hid hS'
              clear hS' this
              go_wp2
              go_ret2
              exact ⟨by rw [HRR.out, HS.out]; rfl, hX.out.below⟩
          · have v3 : ((c.toNat : Int) != 92) = true := by simp; omega
            rw [textL_other _ h34 h10 h92, shift_shift, ← hl1] at hS'
            have HS : Hid (textL (from' s (a + 1)) = shift (pre ++ [c]) (b + 1 - (a + 1)) (textL (from' s (b + 1)))) := Lib.hid (by
              rw [hS']
              congr 1
              omega)
            have N1 := Lib.hid (news_at wr #[.int .u8 (c.toNat : Int)] 5)
            clear hS' hS h34 h10 h92 hl hl1
            go_wp2_with (refine wpList_append_lies _ rfl (.tmp 37) (.tmp 41) 69 rfl w.heap.size 5 i0 (.int .u8 0) 1 1 Tryz.underlying69 hi0 hy0 hy1 hy2 rfl (by decide) _ pre.length (bv pre) rfl (hX.out.row.alloc _) ⟨wr.heap.size, 0, none⟩ 1 1 [.int .u8 (c.toNat : Int)] rfl rfl N1.out (by simp [Value.oneCell']) (by decide) (by unfold maxLen; omega) (by omega) (by simp; omega) (wr.heap.size + 1) (by simp) ?_; intro g cap W7 hrow hgr hgl hlt7; have HX2 := Lib.hid (hX.out.app1 (x := c) hrow hgr); clear hrow hgr hgl hlt7)
            go_roundw
            case rel => exact ⟨b + 1, pre ++ [c], by omega, by omega, by simp; omega, by go_num, HX2, HS⟩
            case measure => simp [intOf]; omega
    · obtain rfl : b = s.size := by omega
      have hS' := hS.out
      rw [from_end, show textL [] = none from rfl, shift_none] at hS'
      have HS := Lib.hid hS'
      have hge : ¬((s.size : Int)) < (s.size : Int) := by omega
      clear hS hS'
      go_wp2
      go_ret2
      exact ⟨by rw [HRR.out, HS.out]; rfl, hX.out.below⟩

end Go.Proofs.YtemlceicmpcboaaGreatDoor.Lx
namespace Go.Proofs.YtemlceicmpcboaaGreatDoor.Lx
open Go.RowKit Dk

def num1 (a : Nat) (c : UInt8) : Nat := a * 10 + (c.toNat - 48)
theorem numV_take (T : List UInt8) (i : Nat) (h : i < T.length) : numV (T.take (i + 1)) = numV (T.take i) * 10 + (T[i].toNat - 48) := by
  unfold numV
  rw [List.take_succ_eq_append_getElem h, List.foldl_append]
  rfl
theorem dig {c : UInt8} (h : isD c = true) : 48 ≤ c.toNat ∧ c.toNat ≤ 57 := by unfold isD rD at h; simp at h; omega
theorem fold_lt : ∀ (l : List UInt8) (a k : Nat), (∀ c ∈ l, isD c = true) → a < 10 ^ k → l.foldl (fun a c => a * 10 + (c.toNat - 48)) a < 10 ^ (k + l.length)
  | [], _, _, _, h => h
  | c :: r, a, k, hd, h => by
    have hc := dig (hd c (by simp))
    rw [List.foldl_cons, List.length_cons, show k + (r.length + 1) = (k + 1) + r.length by omega]
    refine fold_lt r _ (k + 1) (fun x hx => hd x (by simp [hx])) ?_
    rw [Nat.pow_succ]
    omega
theorem fold_ge : ∀ (l : List UInt8) (a : Nat), a * 10 ^ l.length ≤ l.foldl (fun a c => a * 10 + (c.toNat - 48)) a
  | [], a => by simp
  | c :: r, a => by
    have := fold_ge r (a * 10 + (c.toNat - 48))
    rw [List.foldl_cons, List.length_cons, Nat.pow_succ]
    refine Nat.le_trans ?_ this
    rw [show a * (10 ^ r.length * 10) = (a * 10) * 10 ^ r.length by rw [Nat.mul_comm (10 ^ r.length), Nat.mul_assoc]]
    exact Nat.mul_le_mul_right _ (by omega)

theorem numL_long {T : List UInt8} (hd : ∀ c ∈ T, isD c = true) (hl : 19 < T.length) : numL T = none := by
  unfold numL
  cases T with
  | nil => simp at hl
  | cons c r =>
    by_cases h0 : c = 48
    · rw [if_pos ⟨by omega, by rw [h0]; rfl⟩]
    · rw [if_neg (by rintro ⟨_, h⟩; exact h0 (Option.some.inj h)), if_neg]
      have hc := dig (hd c (by simp))
      have hc2 : c.toNat ≠ 48 := fun e => h0 (UInt8.toNat_inj.1 e)
      have h1 := fold_ge r (0 * 10 + (c.toNat - 48))
      have h2 : 10 ^ 19 ≤ 10 ^ r.length := Nat.pow_le_pow_right (by decide) (by rw [List.length_cons] at hl; omega)
      have h3 : 1 * 10 ^ r.length ≤ (0 * 10 + (c.toNat - 48)) * 10 ^ r.length := Nat.mul_le_mul_right _ (by omega)
      show ¬(List.foldl (fun a c => a * 10 + (c.toNat - 48)) (0 * 10 + (c.toNat - 48)) r) < _
      have h4 : (2 : Nat) ^ 63 ≤ 10 ^ 19 := by decide
      omega

/-- What the document's number answers. -/
structure NumR (x : Ending) (T : List UInt8) : Prop where
  yes : ∀ v, numL T = some v → x = .returned (.tuple #[.int .i64 (v : Nat), .bool true])
  no : numL T = none → ∃ n, x = .returned (.tuple #[.int .i64 n, .bool false])

set_option maxHeartbeats 2000000 in
theorem number_any (c : UInt8) (r : List UInt8) (w : World) (hd : ∀ x ∈ (c :: r), isD x = true) (hl : (c :: r).length ≤ 2 ^ 40) :
    Calls Tryz.prog 125 #[.string (strOf (c :: r))] w fun e w' => NumR e (c :: r) ∧ w = w' := by
  have hsz := strOf_size (c :: r)
  have hix0 : ∀ W : World, (Instr.index 9 (.string (strOf (c :: r))) (.int .i64 0)).run Tryz.prog W = .ok (.int .u8 (c.toNat : Int)) W := fun W => by
    have h1 : ((strOf (c :: r))[0]'(by rw [hsz]; simp)) = c := rfl
    rw [← h1]
    go_simp
  by_cases h19 : (c :: r).length > 19
  · have HF := Lib.hid (numL_long hd h19)
    have g1 : ((strOf (c :: r)).size : Int) > 19 := by omega
    generalize strOf (c :: r) = s at *
    clear hsz h19 hl hd
    go_enter Tryz.func125, Tryz.ntmps125
    go_wp2
    go_ret2
    exact ⟨⟨fun v h => (by rw [HF.out] at h; cases h), fun _ => ⟨_, rfl⟩⟩, rfl⟩
  · have g1 : ¬((strOf (c :: r)).size : Int) > 19 := by omega
    by_cases hz : (c :: r).length > 1 ∧ c.toNat = 48
    · have HF : Hid (numL (c :: r) = none) := Lib.hid (by unfold numL; rw [if_pos ⟨hz.1, by rw [List.head?_cons]; congr 1; exact UInt8.toNat_inj.1 hz.2⟩])
      have g2 : ((strOf (c :: r)).size : Int) > 1 := by omega
      have g3 : ((c.toNat : Int) == 48) = true := by rw [hz.2]; rfl
      generalize strOf (c :: r) = s at *
      clear hz hsz h19 hl hd
      go_enter Tryz.func125, Tryz.ntmps125
      go_wp2
      go_ret2
      exact ⟨⟨fun v h => (by rw [HF.out] at h; cases h), fun _ => ⟨_, rfl⟩⟩, rfl⟩
    · have HNL : Hid (numL (c :: r) = if numV (c :: r) < 2 ^ 63 then some (numV (c :: r)) else none) := Lib.hid (by
        unfold numL; rw [if_neg]; rintro ⟨h1, h2⟩; exact hz ⟨h1, by rw [List.head?_cons] at h2; rw [Option.some.inj h2]; rfl⟩)
      have HD := Lib.hid hd
      have HV : Hid (∀ i, i ≤ (c :: r).length → numV ((c :: r).take i) < 10 ^ 19) := Lib.hid (fun i hi => by
        have h1 := fold_lt ((c :: r).take i) 0 0 (fun x hx => hd x (List.mem_of_mem_take hx)) (by decide)
        rw [List.length_take, Nat.min_eq_left hi, Nat.zero_add] at h1
        exact Nat.lt_of_lt_of_le h1 (Nat.pow_le_pow_right (by decide) (by omega)))
      have HIX : Hid (∀ (i : Nat) (h : i < (c :: r).length) (W : World), (Instr.index 9 (.string (strOf (c :: r))) (.int .i64 (i : Int))).run Tryz.prog W = .ok (.int .u8 (((c :: r)[i]).toNat : Int)) W) := Lib.hid (fun i h W => by
        have hd2 := List.drop_eq_getElem_cons h
        exact byte_at (P := Tryz.prog) (strOf (c :: r)) i _ _ (by unfold from'; rw [strOf_toList]; exact hd2) 9 Tryz.underlying9 W)
      have HTS : Hid (∀ i (h : i < (c :: r).length), numV ((c :: r).take (i + 1)) = numV ((c :: r).take i) * 10 + ((c :: r)[i].toNat - 48)) := Lib.hid (fun i h => numV_take _ i h)
      have key : ¬((strOf (c :: r)).size : Int) > 1 ∨ (((strOf (c :: r)).size : Int) > 1 ∧ ((c.toNat : Int) == 48) = false) := by
        by_cases h : (c :: r).length > 1
        · refine .inr ⟨by omega, ?_⟩
          have : c.toNat ≠ 48 := fun e => hz ⟨h, e⟩
          simp; omega
        · exact .inl (by omega)
      have HT : Hid (numV ((c :: r).take (c :: r).length) = numV (c :: r)) := Lib.hid (by rw [List.take_length])
      have hm1 : 1 ≤ (c :: r).length := by simp
      generalize hTT : c :: r = T at *
      have HCC := Lib.hid hTT
      clear hTT hd hz
      have HSZ := Lib.hid hsz
      clear hsz
      rcases key with k1 | ⟨k1, k2⟩
      all_goals
        go_enter Tryz.func125, Tryz.ntmps125
        go_wp2
        go_loopw [4, 5] (fun vn vi wr => ∃ i : Nat, i ≤ T.length ∧ vi = .int .i64 (i : Int) ∧ vn = .int .u64 ((numV (T.take i) : Nat) : Int) ∧ wr = w) (fun _ vi _ => T.length - (intOf vi).toNat)
        case atStart => exact ⟨0, Nat.zero_le _, rfl, rfl, rfl⟩
        case round =>
          obtain ⟨i, hi, rfl, rfl, rfl⟩ := hrel
          have hv := HV.out i hi
          by_cases hlt : i < T.length
          · have hix := fun W => HIX.out i hlt W
            have hc := dig (HD.out T[i] (List.getElem_mem hlt))
            have hts := HTS.out i hlt
            have hv2 := HV.out (i + 1) hlt
            rw [hts] at hv2
            generalize numV (T.take i) = m at *
            generalize hx : T[i].toNat = x at *
            have s1 : IntKind.u64.wrap (10 * (m : Int)) = 10 * (m : Int) := by rw [IntKind.wrap_u64]; omega
            have s2 : IntKind.u8.wrap ((x : Int) - 48) = (x : Int) - 48 := by simp [IntKind.wrap, IntKind.bits, IntKind.signed]; omega
            have s3 : IntKind.u64.wrap ((x : Int) - 48) = (x : Int) - 48 := by rw [IntKind.wrap_u64]; omega
            have s4 : IntKind.u64.wrap (10 * (m : Int) + ((x : Int) - 48)) = 10 * (m : Int) + ((x : Int) - 48) := by rw [IntKind.wrap_u64]; omega
            have HTT := Lib.hid hts
            have g4 : (i : Int) < ((strOf T).size : Int) := by have := HSZ.out; omega
            have HXR := Lib.hid (show 48 ≤ x ∧ x ≤ 57 from hc)
            clear hts hx hv hv2 hc
            go_wp2
            go_roundw
            case rel => exact ⟨i + 1, hlt, by go_num, by rw [HTT.out]; congr 1; have := HXR.out; omega, by trivial⟩
            case measure => simp [intOf]; omega
          · obtain rfl : i = T.length := by omega
            rw [HT.out] at hv ⊢
            have g4 : ¬((T.length : Int)) < ((strOf T).size : Int) := by have := HSZ.out; omega
            generalize numV T = V at *
            by_cases h63 : V < 2 ^ 63
            · have g5 : (V : Int) < 9223372036854775808 := by omega
              have s5 : IntKind.i64.wrap (V : Int) = (V : Int) := IntWalk.i64_in _ (by omega)
              go_wp2
              go_ret2
              exact ⟨⟨fun v h => (by rw [HNL.out, if_pos h63] at h; cases h; rfl), fun h => (by rw [HNL.out, if_pos h63] at h; cases h)⟩, rfl⟩
            · have g5 : ¬(V : Int) < 9223372036854775808 := by omega
              go_wp2
              go_ret2
              exact ⟨⟨fun v h => (by rw [HNL.out, if_neg h63] at h; cases h), fun _ => ⟨_, rfl⟩⟩, rfl⟩

end Go.Proofs.YtemlceicmpcboaaGreatDoor.Lx
namespace Go.Proofs.YtemlceicmpcboaaGreatDoor.Lx
open Go.RowKit Dk

theorem ws_region2 {P : Program} {id : Nat} {Q : Exit → Act → World → Prop} {a : Act} {w : World} {l : List Oper} (hm : P.follows .mixedOrders = true) (hB : Region.lexB .any l.toArray = true)
    (w1 : World) (hw : w.drew = w1) (h : WS P l.toArray w1 (fun a' => Q .normal a' w1) l a) : (Code.region id l.toArray true).wp P Q a w :=
  region_still hm hB w1 hw h.out

theorem prefix_take (m L : List UInt8) : m.isPrefixOf L = decide (m.length ≤ L.length ∧ L.take m.length = m) := by
  cases h : m.isPrefixOf L with
  | true =>
    obtain ⟨r, rfl⟩ := List.isPrefixOf_iff_prefix.1 h
    exact (decide_eq_true ⟨by simp, List.take_left⟩).symm
  | false =>
    refine (decide_eq_false ?_).symm
    rintro ⟨_, h2⟩
    rw [List.isPrefixOf_iff_prefix.2 (by rw [← h2]; exact List.take_prefix _ _)] at h
    cases h

set_option maxHeartbeats 4000000 in
set_option maxRecDepth 100000 in
theorem mark_any (s : ByteArray) (a : Nat) (w : World) (ha : a ≤ s.size) (hs : s.size ≤ 2 ^ 40) :
    Calls Tryz.prog 127 #[.string s, .int .i64 (a : Int)] w fun e w' => e = .returned (.int .i64 ((markN (from' s a) : Nat) : Int)) ∧ Below w.heap.size w w' := by
  have hfl := from_length s a
  have HB : Hid (Below w.heap.size w (w.alloc (.cells (markList.map fun l => Value.string (strOf l)).toArray 9))) := Lib.hid ((Below.refl _ _).alloc (Nat.le_refl _) _)
  have HC := Lib.hid (fun j k h => row_strings w markList 9 j k h)
  have HMID := Lib.hid (fun n h W => run_mid (P := Tryz.prog) s a n h 9 Tryz.underlying9 W)
  have H0 : Hid (markN (from' s a) = markOf (from' s a) (markList.drop 0)) := Lib.hid rfl
  have HF := Lib.hid hfl
  have v0 : IntKind.i64.wrap ((s.size : Int) - (a : Int)) = (s.size : Int) - (a : Int) := IntWalk.i64_in _ (by omega)
  generalize from' s a = L at *
  clear hfl
  go_enter Tryz.func127, Tryz.ntmps127
  go_wp2
  obtain ⟨W1, hW⟩ : ∃ W1, W1 = w.alloc (.cells (markList.map fun l => Value.string (strOf l)).toArray 9) := ⟨_, rfl⟩
  rw [← hW] at HB HC
  go_loopw [6] (fun vi wr => ∃ j : Nat, j ≤ 20 ∧ vi = .int .i64 (j : Int) ∧ Hid (Below w.heap.size w wr ∧ wr.heap = W1.heap) ∧ Hid (markN L = markOf L (markList.drop j))) (fun vi _ => 20 - (intOf vi).toNat)
  case atStart => exact ⟨0, Nat.zero_le _, rfl, Lib.hid (by rw [hW] at HB ⊢; exact ⟨HB.out, rfl⟩), H0⟩
  case round =>
    clear hW H0
    obtain ⟨j, hj, rfl, hI, hM⟩ := hrel
    by_cases hlt : j < 20
    · obtain ⟨m, hm⟩ : ∃ m, markList[j]? = some m := ⟨_, List.getElem?_eq_getElem (by show j < 20; exact hlt)⟩
      have hdr : markList.drop j = m :: markList.drop (j + 1) := by
        obtain ⟨h1, h2⟩ := List.getElem?_eq_some_iff.1 hm
        rw [List.drop_eq_getElem_cons h1, h2]
      have hM' := hM.out
      rw [hdr, markOf_cons] at hM'
      have c0 : wr.cell? ⟨w.heap.size, j, none⟩ = some (.string (strOf m)) := (World.cell?_of_block (a := ⟨w.heap.size, j, none⟩) (by rw [hI.out.2])).trans (HC.out j m hm)
      obtain ⟨W2, hW2⟩ : ∃ W2, wr.drew = W2 := ⟨_, rfl⟩
      have HW2 := Lib.hid hW2
      have HD : Hid (Below w.heap.size w W2 ∧ W2.heap = W1.heap) := Lib.hid (by rw [← hW2]; exact ⟨hI.out.1.drew, hI.out.2⟩)
      have d0 : W2.cell? ⟨w.heap.size, j, none⟩ = some (.string (strOf m)) := by rw [← hW2]; exact c0
      have z0 : (0 : Int) ≤ (j : Int) := by omega
      have z1 : (j : Int) < 20 := by omega
      have hms := strOf_size m
      have hml : m.length ≤ 2 := by
        have : (markList.all fun m => decide (m.length ≤ 2)) = true := by decide
        have := List.all_eq_true.1 this m (List.mem_of_getElem? hm)
        exact of_decide_eq_true this
      have hpt := prefix_take m L
      clear hW2 hI c0 hM hdr hm
      by_cases hge : m.length ≤ L.length
      · have g1 : (s.size : Int) - (a : Int) ≥ ((strOf m).size : Int) := by have := HF.out; omega
        have g2 : decide (((strOf m).size : Int) ≤ (s.size : Int) - (a : Int)) = true := decide_eq_true (by have := HF.out; omega)
        have hmid := fun W => HMID.out m.length (by have := HF.out; omega) W
        have v1 : IntKind.i64.wrap ((a : Int) + ((strOf m).size : Int)) = (a : Int) + ((strOf m).size : Int) := IntWalk.i64_in _ (by omega)
        rw [← hms] at hmid
        have hb := str_beq (L.take (strOf m).size) m
        by_cases he : L.take m.length = m
        · rw [decide_eq_true ⟨hge, he⟩] at hpt
          rw [hpt, if_pos rfl] at hM'
          have HT : Hid (markN L = (strOf m).size) := Lib.hid (by rw [hM', hms])
          rw [hms, decide_eq_true he] at hb
          rw [← hms] at hb
          generalize strOf (L.take (strOf m).size) = y at *
          generalize strOf m = z at *
          clear hM' hpt he hge hml hms
          go_wp2_with fail
          refine ws_region2 (by kernel_rfl) (by kernel_rfl) W2 HW2.out ?_
          iterate 27 (refine ws_step (fun K hK => ?_); go_simp; refine hK _ ?_; clear hK K)
          refine ws_nil ?_
          go_wp2
          go_ret
          exact ⟨by rw [HT.out]; rfl, HD.out.1⟩
        · rw [decide_eq_false (fun h => he h.2)] at hpt
          rw [hpt, if_neg Bool.false_ne_true] at hM'
          have HN := Lib.hid hM'
          rw [hms, decide_eq_false he] at hb
          rw [← hms] at hb
          generalize strOf (L.take (strOf m).size) = y at *
          generalize strOf m = z at *
          clear hM' hpt he hge hml hms
          go_wp2_with fail
          refine ws_region2 (by kernel_rfl) (by kernel_rfl) W2 HW2.out ?_
          iterate 27 (refine ws_step (fun K hK => ?_); go_simp; refine hK _ ?_; clear hK K)
          refine ws_nil ?_
          go_wp2
          go_roundw
          case rel => exact ⟨j + 1, by omega, by go_num, HD, HN⟩
          case measure => simp [intOf]; omega
      · have g2 : decide (((strOf m).size : Int) ≤ (s.size : Int) - (a : Int)) = false := decide_eq_false (by have := HF.out; omega)
        rw [decide_eq_false (fun h => hge h.1)] at hpt
        rw [hpt, if_neg Bool.false_ne_true] at hM'
        have HN := Lib.hid hM'
        generalize strOf m = z at *
        clear hM' hpt hge hml hms
        go_wp2_with fail
        refine ws_region2 (by kernel_rfl) (by kernel_rfl) W2 HW2.out ?_
        iterate 11 (refine ws_step (fun K hK => ?_); go_simp; refine hK _ ?_; clear hK K)
        iterate 15 (refine ws_skip (by kernel_rfl) ?_)
        refine ws_step (fun K hK => ?_)
        go_simp
        refine hK _ ?_
        clear hK K
        refine ws_nil ?_
        go_wp2
        go_roundw
        case rel => exact ⟨j + 1, by omega, by go_num, HD, HN⟩
        case measure => simp [intOf]; omega
    · obtain rfl : j = 20 := by omega
      have HN : Hid (markN L = 0) := Lib.hid (by rw [hM.out]; rfl)
      clear hM
      go_wp2
      go_ret
      exact ⟨by rw [HN.out]; rfl, hI.out.1⟩

end Go.Proofs.YtemlceicmpcboaaGreatDoor.Lx
namespace Go.Proofs.YtemlceicmpcboaaGreatDoor.Lx
open Go.RowKit Dk

def lenOf : One → Int
  | .bad _ => 0
  | .tok _ _ _ len => (len : Int)
/-- What the document's one answers: the token, its length, the fault. -/
def oneR (p : Nat) (o : One) : Value := .tuple #[.agg (tkOf p o).cells.toArray, .int .i64 (lenOf o), .int .i64 (errOf o)]

theorem TB.kind {W : World} {B : Nat} {t : Tk} (h : TB W B t) (k : Int) : TB (W.setCell ⟨B, 0, none⟩ (.int .i64 k)) B ⟨k, t.text, t.n, t.place⟩ := by
  refine ⟨fun j v hv => ?_, by simpa [World.setCells] using World.there_setCells h.room B 0 [.int .i64 k], by simpa using h.lt⟩
  by_cases e : j = 0
  · subst e
    have : v = .int .i64 k := by simpa [Tk.cells] using hv.symm
    subst this
    obtain ⟨y, hy⟩ := Option.isSome_iff_exists.1 (h.room 0 (by decide)).1
    exact World.cell?_setCell_same _ _ _ hy
  · rw [World.cell?_setCell_other _ _ _ _ (by intro e'; simp at e'; first | done | omega)]
    refine h.cells j v ?_
    rw [← hv]
    match j, e with
    | j + 1, _ => rfl

theorem TW.kind {w W : World} {t : Tk} (h : TW w W t) {B : Nat} (h1 : w.heap.size < B) (k : Value) : TW w (W.setCell ⟨B, 0, none⟩ k) t := by
  have hb : Below B W (W.setCell ⟨B, 0, none⟩ k) := (Below.refl B W).setCell (Nat.le_refl _) k
  exact ⟨h.1.of_block (hb.block _ h1) hb.size, h.2.setCell (Nat.le_of_lt h1) k⟩

set_option maxHeartbeats 4000000 in
set_option maxRecDepth 100000 in
theorem rone_text (s : ByteArray) (a : Nat) (c : UInt8) (r : List UInt8) (w : World) (hl : from' s a = c :: r) (hs : s.size ≤ 2 ^ 40) (h1 : isL c = false) (h2 : isD c = false) (h3 : c.toNat = 34) :
    Calls Tryz.prog 65 #[.string s, .int .i64 (a : Int)] w fun e w' => e = .returned (oneR a (textOf r)) ∧ Below w.heap.size w w' := by
  have hlen := from_length s a
  rw [hl] at hlen
  simp at hlen
  have hix := fun W => byte_at (P := Tryz.prog) s a c r hl 9 Tryz.underlying9 W
  have CL := Lib.hid (fun W => rletter_any (c.toNat : Int) W)
  have CD := Lib.hid (fun W => rdigit_any (c.toNat : Int) W)
  rw [show rL (c.toNat : Int) = false from h1] at CL
  rw [show rD (c.toNat : Int) = false from h2] at CD
  have k3 : ((c.toNat : Int) == 34) = true := by rw [h3]; rfl
  have hT : from' s (a + 1) = r := by rw [← from_drop, hl]; rfl
  have U := Lib.hid (fun W => unquoted_any s a W (by omega) hs)
  rw [hT] at U
  have HZ := Lib.hid (tw_new w)
  unfold textOf
  clear h1 h2 h3 hl hT
  generalize (c.toNat : Int) = x at *
  cases hq : textL r with
  | none =>
    rw [hq] at U
    simp only [unqV] at U
    clear hq
    go_enter Tryz.func65, Tryz.ntmps65
    go_wp2_with (first
      | (go_at_call 121; refine (CL.out _).mono ?_; rintro e w' ⟨rfl, rfl⟩)
      | (go_at_call 124; refine (CD.out _).mono ?_; rintro e w' ⟨rfl, rfl⟩)
      | (go_at_call 126; refine (U.out _).mono ?_; rintro e W3 ⟨rfl, hb3⟩; have HW := Lib.hid (HZ.out.later hb3); clear hb3)
      | (refine wpList_store_mid rfl 72 (.tmp 4) _ rfl w.heap.size 0 (Tk.zero).cells.toArray rfl rfl HW.out.1.room (t_infoA _) (t_all _) ?_; have HR := Lib.hid (HW.out.put (Tk.zero)); generalize World.setCells _ _ _ _ = W8 at HR ⊢))
    refine bodyPost_ret (results_cell3 rfl _ _ rfl HR.out.1.cells Tryz.underlying72 rfl (t_info _)) rfl ?_
    exact ⟨rfl, HR.out.2⟩
  | some q =>
    rw [hq] at U
    simp only [unqV] at U
    obtain ⟨m, hm⟩ : ∃ m : Int, m = ((q.2 + 1 : Nat) : Int) := ⟨_, rfl⟩
    have k4 : (m == 0) = false := by simp; omega
    rw [← hm] at U
    have HM := Lib.hid hm
    clear hq hm
    go_enter Tryz.func65, Tryz.ntmps65
    go_wp2_with (first
      | (go_at_call 121; refine (CL.out _).mono ?_; rintro e w' ⟨rfl, rfl⟩)
      | (go_at_call 124; refine (CD.out _).mono ?_; rintro e w' ⟨rfl, rfl⟩)
      | (go_at_call 126; refine (U.out _).mono ?_; rintro e W3 ⟨rfl, hb3⟩; have HW := Lib.hid (HZ.out.later hb3); clear hb3)
      | (refine wpList_store_mid rfl 72 (.tmp 4) _ rfl w.heap.size 0 (Tk.mk 3 q.1 0 a).cells.toArray rfl rfl HW.out.1.room (t_infoA _) (t_all _) ?_; have HR := Lib.hid (HW.out.put (Tk.mk 3 q.1 0 a)); generalize World.setCells _ _ _ _ = W8 at HR ⊢))
    refine bodyPost_ret (results_cell3 rfl _ _ rfl HR.out.1.cells Tryz.underlying72 rfl (t_info _)) rfl ?_
    refine ⟨?_, HR.out.2⟩
    rw [HM.out]
    rfl

set_option maxHeartbeats 4000000 in
set_option maxRecDepth 100000 in
theorem rone_mark (s : ByteArray) (a : Nat) (c : UInt8) (r : List UInt8) (w : World) (hl : from' s a = c :: r) (hs : s.size ≤ 2 ^ 40) (h1 : isL c = false) (h2 : isD c = false) (h3 : ¬c.toNat = 34) :
    Calls Tryz.prog 65 #[.string s, .int .i64 (a : Int)] w fun e w' => e = .returned (oneR a (markOne (from' s a))) ∧ Below w.heap.size w w' := by
  have hlen := from_length s a
  rw [hl] at hlen
  simp at hlen
  have hix := fun W => byte_at (P := Tryz.prog) s a c r hl 9 Tryz.underlying9 W
  have CL := Lib.hid (fun W => rletter_any (c.toNat : Int) W)
  have CD := Lib.hid (fun W => rdigit_any (c.toNat : Int) W)
  rw [show rL (c.toNat : Int) = false from h1] at CL
  rw [show rD (c.toNat : Int) = false from h2] at CD
  have k3 : ((c.toNat : Int) == 34) = false := by simp; omega
  have M := Lib.hid (fun W => mark_any s a W (by omega) hs)
  have hle := markN_le (from' s a)
  have hfl := from_length s a
  have hmid := fun W => run_mid (P := Tryz.prog) s a (markN (from' s a)) (by omega) 9 Tryz.underlying9 W
  have e1 : IntKind.i64.wrap ((a : Int) + ((markN (from' s a) : Nat) : Int)) = (a : Int) + ((markN (from' s a) : Nat) : Int) := IntWalk.i64_in _ (by omega)
  have HZ := Lib.hid (tw_new w)
  unfold markOne
  clear h1 h2 h3 hl
  generalize (c.toNat : Int) = x at *
  generalize hT : (from' s a).take (markN (from' s a)) = T at *
  generalize markN (from' s a) = n at *
  clear hT hfl
  by_cases h0 : n = 0
  · have k4 : (((n : Nat) : Int) == 0) = true := by subst h0; rfl
    rw [if_pos h0]
    clear h0 hmid
    go_enter Tryz.func65, Tryz.ntmps65
    go_wp2_with (first
      | (go_at_call 121; refine (CL.out _).mono ?_; rintro e w' ⟨rfl, rfl⟩)
      | (go_at_call 124; refine (CD.out _).mono ?_; rintro e w' ⟨rfl, rfl⟩)
      | (go_at_call 127; refine (M.out _).mono ?_; rintro e W3 ⟨rfl, hb3⟩; have HW := Lib.hid (HZ.out.later hb3); clear hb3)
      | (refine wpList_store_mid rfl 72 (.tmp 4) _ rfl w.heap.size 0 (Tk.zero).cells.toArray rfl rfl HW.out.1.room (t_infoA _) (t_all _) ?_; have HR := Lib.hid (HW.out.put (Tk.zero)); generalize World.setCells _ _ _ _ = W8 at HR ⊢))
    refine bodyPost_ret (results_cell3 rfl _ _ rfl HR.out.1.cells Tryz.underlying72 rfl (t_info _)) rfl ?_
    exact ⟨rfl, HR.out.2⟩
  · have k4 : (((n : Nat) : Int) == 0) = false := by simp; omega
    rw [if_neg h0]
    clear h0
    go_enter Tryz.func65, Tryz.ntmps65
    go_wp2_with (first
      | (go_at_call 121; refine (CL.out _).mono ?_; rintro e w' ⟨rfl, rfl⟩)
      | (go_at_call 124; refine (CD.out _).mono ?_; rintro e w' ⟨rfl, rfl⟩)
      | (go_at_call 127; refine (M.out _).mono ?_; rintro e W3 ⟨rfl, hb3⟩; have HW := Lib.hid (HZ.out.later hb3); clear hb3)
      | (refine wpList_store_mid rfl 72 (.tmp 4) _ rfl w.heap.size 0 (Tk.mk 4 T 0 a).cells.toArray rfl rfl HW.out.1.room (t_infoA _) (t_all _) ?_; have HR := Lib.hid (HW.out.put (Tk.mk 4 T 0 a)); generalize World.setCells _ _ _ _ = W8 at HR ⊢))
    refine bodyPost_ret (results_cell3 rfl _ _ rfl HR.out.1.cells Tryz.underlying72 rfl (t_info _)) rfl ?_
    exact ⟨rfl, HR.out.2⟩

set_option maxHeartbeats 4000000 in
set_option maxRecDepth 100000 in
theorem rone_word (s : ByteArray) (a : Nat) (c : UInt8) (r : List UInt8) (w : World) (hl : from' s a = c :: r) (hs : s.size ≤ 2 ^ 40) (h1 : isL c = true) :
    Calls Tryz.prog 65 #[.string s, .int .i64 (a : Int)] w fun e w' => e = .returned (oneR a (wordOf (from' s a) (spanN isW (from' s a)))) ∧ Below w.heap.size w w' := by
  have hlen := from_length s a
  rw [hl] at hlen
  simp at hlen
  have hix := fun W => byte_at (P := Tryz.prog) s a c r hl 9 Tryz.underlying9 W
  have CL := Lib.hid (fun W => rletter_any (c.toNat : Int) W)
  have CD := Lib.hid (fun W => rdigit_any (c.toNat : Int) W)
  rw [show rL (c.toNat : Int) = true from h1] at CL
  have hwn : wordN (from' s a) = spanN isW (from' s a) := by
    rw [hl]
    show (if isL c = true then spanN isW (c :: r) else 0) = _
    rw [if_pos h1]
  have CW := Lib.hid (fun W => word_any s a W (by omega) hs)
  rw [hwn] at CW
  have hle := spanN_le isW (from' s a)
  have hfl := from_length s a
  have hmid := fun W => run_mid (P := Tryz.prog) s a (spanN isW (from' s a)) (by omega) 9 Tryz.underlying9 W
  have e1 : IntKind.i64.wrap ((a : Int) + ((spanN isW (from' s a) : Nat) : Int)) = (a : Int) + ((spanN isW (from' s a) : Nat) : Int) := IntWalk.i64_in _ (by omega)
  have K := Lib.hid (fun W => rkey_any ((from' s a).take (spanN isW (from' s a))) W)
  have HZ := Lib.hid (tw_new w)
  unfold wordOf
  clear h1 hl hwn CD
  generalize (c.toNat : Int) = x at *
  generalize hT : (from' s a).take (spanN isW (from' s a)) = T at *
  generalize spanN isW (from' s a) = n at *
  clear hT hfl
  cases hk : isKey T with
  | true =>
    rw [hk] at K
    rw [if_pos rfl]
    clear hk
    go_enter Tryz.func65, Tryz.ntmps65
    go_wp2_with fail
    generalize w.alloc _ = W1 at HZ ⊢
    have HZ2 := Lib.hid (tb_zero W1)
    have HP := Lib.hid (tb_put W1 (Tk.mk 1 T 0 a))
    have HLT := Lib.hid HZ.out.1.lt
    refine (CL.out _).mono ?_
    rintro e w' ⟨rfl, rfl⟩
    go_wp2_with (first
      | (go_at_call 122; refine (CW.out _).mono ?_; rintro e w' ⟨rfl, rfl⟩)
      | (refine wpList_store_mid rfl 72 (.tmp 9) _ rfl W1.heap.size 0 (Tk.mk 1 T 0 a).cells.toArray rfl rfl HZ2.out.room (t_infoA _) (t_all _) ?_; generalize World.setCells _ _ _ _ = W3 at HP ⊢; have HY3 := Lib.hid (HZ.out.later HP.out.2); have HP3 := Lib.hid HP.out.1; have c1 : W3.cell? ⟨W1.heap.size, 1, none⟩ = some (.string (strOf T)) := HP3.out.cells 1 _ rfl; clear HP HZ2)
      | (go_at_call 123; refine (K.out _).mono ?_; rintro e W4 ⟨rfl, hb4⟩; have c0 : W4.cell? ⟨W1.heap.size, 0, none⟩ = some (.int .i64 1) := (HP3.out.later hb4).cells 0 _ rfl; have z0 : W4.frozen? ⟨W1.heap.size, 0, none⟩ = false := ((HP3.out.later hb4).room 0 (by decide)).2; have HP5 := Lib.hid ((HP3.out.later hb4).kind 5); have HY5 := Lib.hid ((HY3.out.later hb4).kind HLT.out (.int .i64 5)); clear hb4 c1 HP3 HY3)
      | (refine wpList_load_mid rfl 72 (.tmp 9) rfl W1.heap.size 0 rfl (Tk.mk 5 T 0 a).cells _ HP5.out.cells Tryz.underlying72 rfl (t_info _) ?_)
      | (refine wpList_store_mid rfl 72 (.tmp 4) _ rfl w.heap.size 0 (Tk.mk 5 T 0 a).cells.toArray rfl rfl HY5.out.1.room (t_infoA _) (t_all _) ?_; have HR := Lib.hid (HY5.out.put (Tk.mk 5 T 0 a)); generalize World.setCells _ _ _ _ = W8 at HR ⊢))
    refine bodyPost_ret (results_cell3 rfl _ _ rfl HR.out.1.cells Tryz.underlying72 rfl (t_info _)) rfl ?_
    exact ⟨rfl, HR.out.2⟩
  | false =>
    rw [hk] at K
    rw [if_neg Bool.false_ne_true]
    clear hk
    by_cases h16 : 16 < n
    · have k5 : (n : Int) > 16 := by omega
      rw [if_pos h16]
      clear h16
      go_enter Tryz.func65, Tryz.ntmps65
      go_wp2_with fail
      generalize w.alloc _ = W1 at HZ ⊢
      have HZ2 := Lib.hid (tb_zero W1)
      have HP := Lib.hid (tb_put W1 (Tk.mk 1 T 0 a))
      have HLT := Lib.hid HZ.out.1.lt
      refine (CL.out _).mono ?_
      rintro e w' ⟨rfl, rfl⟩
      go_wp2_with (first
        | (go_at_call 122; refine (CW.out _).mono ?_; rintro e w' ⟨rfl, rfl⟩)
        | (refine wpList_store_mid rfl 72 (.tmp 9) _ rfl W1.heap.size 0 (Tk.mk 1 T 0 a).cells.toArray rfl rfl HZ2.out.room (t_infoA _) (t_all _) ?_; generalize World.setCells _ _ _ _ = W3 at HP ⊢; have HY3 := Lib.hid (HZ.out.later HP.out.2); have HP3 := Lib.hid HP.out.1; have c1 : W3.cell? ⟨W1.heap.size, 1, none⟩ = some (.string (strOf T)) := HP3.out.cells 1 _ rfl; clear HP HZ2)
        | (go_at_call 123; refine (K.out _).mono ?_; rintro e W4 ⟨rfl, hb4⟩; have HP5 := Lib.hid (HP3.out.later hb4); have HY5 := Lib.hid (HY3.out.later hb4); clear hb4 c1 HP3 HY3)
        | (refine wpList_store_mid rfl 72 (.tmp 4) _ rfl w.heap.size 0 (Tk.zero).cells.toArray rfl rfl HY5.out.1.room (t_infoA _) (t_all _) ?_; have HR := Lib.hid (HY5.out.put (Tk.zero)); generalize World.setCells _ _ _ _ = W8 at HR ⊢))
      refine bodyPost_ret (results_cell3 rfl _ _ rfl HR.out.1.cells Tryz.underlying72 rfl (t_info _)) rfl ?_
      exact ⟨rfl, HR.out.2⟩
    · have k5 : ¬(n : Int) > 16 := by omega
      rw [if_neg h16]
      clear h16
      go_enter Tryz.func65, Tryz.ntmps65
      go_wp2_with fail
      generalize w.alloc _ = W1 at HZ ⊢
      have HZ2 := Lib.hid (tb_zero W1)
      have HP := Lib.hid (tb_put W1 (Tk.mk 1 T 0 a))
      have HLT := Lib.hid HZ.out.1.lt
      refine (CL.out _).mono ?_
      rintro e w' ⟨rfl, rfl⟩
      go_wp2_with (first
        | (go_at_call 122; refine (CW.out _).mono ?_; rintro e w' ⟨rfl, rfl⟩)
        | (refine wpList_store_mid rfl 72 (.tmp 9) _ rfl W1.heap.size 0 (Tk.mk 1 T 0 a).cells.toArray rfl rfl HZ2.out.room (t_infoA _) (t_all _) ?_; generalize World.setCells _ _ _ _ = W3 at HP ⊢; have HY3 := Lib.hid (HZ.out.later HP.out.2); have HP3 := Lib.hid HP.out.1; have c1 : W3.cell? ⟨W1.heap.size, 1, none⟩ = some (.string (strOf T)) := HP3.out.cells 1 _ rfl; clear HP HZ2)
        | (go_at_call 123; refine (K.out _).mono ?_; rintro e W4 ⟨rfl, hb4⟩; have HP5 := Lib.hid (HP3.out.later hb4); have HY5 := Lib.hid (HY3.out.later hb4); clear hb4 c1 HP3 HY3)
        | (refine wpList_load_mid rfl 72 (.tmp 9) rfl W1.heap.size 0 rfl (Tk.mk 1 T 0 a).cells _ HP5.out.cells Tryz.underlying72 rfl (t_info _) ?_)
        | (refine wpList_store_mid rfl 72 (.tmp 4) _ rfl w.heap.size 0 (Tk.mk 1 T 0 a).cells.toArray rfl rfl HY5.out.1.room (t_infoA _) (t_all _) ?_; have HR := Lib.hid (HY5.out.put (Tk.mk 1 T 0 a)); generalize World.setCells _ _ _ _ = W8 at HR ⊢))
      refine bodyPost_ret (results_cell3 rfl _ _ rfl HR.out.1.cells Tryz.underlying72 rfl (t_info _)) rfl ?_
      exact ⟨rfl, HR.out.2⟩

set_option maxHeartbeats 4000000 in
set_option maxRecDepth 100000 in
theorem rone_int (s : ByteArray) (a : Nat) (c : UInt8) (r : List UInt8) (w : World) (hl : from' s a = c :: r) (hs : s.size ≤ 2 ^ 40) (h2 : isD c = true) :
    Calls Tryz.prog 65 #[.string s, .int .i64 (a : Int)] w fun e w' => e = .returned (oneR a (intOf' (from' s a) (spanN isD (from' s a)))) ∧ Below w.heap.size w w' := by
  have hlen := from_length s a
  rw [hl] at hlen
  simp at hlen
  have hix0 := fun W => byte_at (P := Tryz.prog) s a c r hl 9 Tryz.underlying9 W
  have h1 : isL c = false := by
    unfold isD rD at h2
    unfold isL rL
    simp at h2 ⊢
    omega
  have CL := Lib.hid (fun W => rletter_any (c.toNat : Int) W)
  have CD0 := Lib.hid (fun W => rdigit_any (c.toNat : Int) W)
  rw [show rL (c.toNat : Int) = false from h1] at CL
  rw [show rD (c.toNat : Int) = true from h2] at CD0
  have HFIRST : Hid (0 < spanN isD (from' s a)) := Lib.hid (by rw [hl, spanN, if_pos h2]; omega)
  have HMID := Lib.hid (fun n h W => run_mid (P := Tryz.prog) s a n h 9 Tryz.underlying9 W)
  have HZ := Lib.hid (tw_new w)
  have HSPL := Lib.hid (fun n h => from_split s a n h)
  have HLEN := Lib.hid (from_length s a)
  have HLL := Lib.hid hl
  have HRL : Hid (r.length ≤ 2 ^ 40) := Lib.hid (by omega)
  have ha : a ≤ s.size := by omega
  obtain ⟨R, hR⟩ : ∃ R, R = oneR a (intOf' (from' s a) (spanN isD (from' s a))) := ⟨_, rfl⟩
  rw [← hR]
  have HRR := Lib.hid hR
  clear hR h1 h2 hl hlen
  generalize hL : from' s a = L at *
  go_enter Tryz.func65, Tryz.ntmps65
  go_wp2_with (first
    | (go_at_call 121; refine (CL.out _).mono ?_; rintro e w' ⟨rfl, rfl⟩)
    | (go_at_call 124; refine (CD0.out _).mono ?_; rintro e w' ⟨rfl, rfl⟩))
  generalize w.alloc _ = W1 at HZ ⊢
  clear hix0 CL CD0
  go_loopw [10] (fun vi wr => ∃ n : Nat, a + n ≤ s.size ∧ vi = .int .i64 (n : Int) ∧ W1 = wr ∧ Hid (spanN isD L = n + spanN isD (L.drop n))) (fun vi _ => s.size - (intOf vi).toNat)
  case atStart => exact ⟨0, ha, rfl, rfl, Lib.hid (by rw [List.drop_zero, Nat.zero_add])⟩
  case round =>
    obtain ⟨n, hn, rfl, rfl, hS⟩ := hrel
    have e1 : IntKind.i64.wrap ((a : Int) + (n : Int)) = (a : Int) + (n : Int) := IntWalk.i64_in _ (by omega)
    by_cases hlt : a + n < s.size
    · obtain ⟨d, r2, q1, q2, q3⟩ := HSPL.out n hlt
      have hix := fun W => byte_sum (P := Tryz.prog) s a n d r2 q2 9 Tryz.underlying9 W
      have hlt' : (a : Int) + (n : Int) < (s.size : Int) := by omega
      have CD := Lib.hid (fun W => rdigit_any (d.toNat : Int) W)
      have hS' := hS.out
      rw [q1, spanN] at hS'
      cases hd : isD d with
      | true =>
        rw [hd, if_pos rfl, ← q3] at hS'
        rw [show rD (d.toNat : Int) = true from hd] at CD
        have HS : Hid (spanN isD L = (n + 1) + spanN isD (L.drop (n + 1))) := Lib.hid (by rw [hS']; omega)
        clear hS' hS q1 q2 q3 hd
        go_wp2_with (go_at_call 124; refine (CD.out _).mono ?_; rintro e w' ⟨rfl, rfl⟩)
        go_roundw
        case rel => exact ⟨n + 1, by omega, by go_num, by trivial, HS⟩
        case measure => simp [intOf]; omega
      | false =>
        rw [hd, if_neg Bool.false_ne_true] at hS'
        rw [show rD (d.toNat : Int) = false from hd] at CD
        have HS : Hid (spanN isD L = n) := Lib.hid hS'
        clear hS' hS q1 q2 q3 hd
        obtain ⟨m, hm⟩ : ∃ m, n = m + 1 := ⟨n - 1, by have := HFIRST.out; have := HS.out; omega⟩
        have hTn : L.take n = c :: r.take m := by rw [HLL.out, hm]; rfl
        have hmid := fun W => HMID.out n hn W
        have NB := Lib.hid (fun W => number_any c (r.take m) W (by rw [← hTn, ← HS.out]; exact spanN_all isD L) (by have := HRL.out; rw [List.length_cons, List.length_take]; omega))
        rw [← hTn] at NB
        generalize hT : L.take n = T at *
        have HT := Lib.hid hT
        clear hTn hm hT
        cases hq : numL T with
        | none =>
          have HQ := Lib.hid hq
          clear hq
          go_wp2_with (first
            | (go_at_call 124; refine (CD.out _).mono ?_; rintro e w' ⟨rfl, rfl⟩)
            | (go_at_call 125; refine (NB.out _).mono ?_; rintro e w' ⟨hN, rfl⟩; obtain ⟨z, rfl⟩ := hN.no HQ.out)
            | (refine wpList_store_mid rfl 72 (.tmp 4) _ rfl w.heap.size 0 (Tk.zero).cells.toArray rfl rfl HZ.out.1.room (t_infoA _) (t_all _) ?_; have HR := Lib.hid (HZ.out.put (Tk.zero)); generalize World.setCells _ _ _ _ = W8 at HR ⊢))
          refine bodyPost_ret (results_cell3 rfl _ _ rfl HR.out.1.cells Tryz.underlying72 rfl (t_info _)) rfl ?_
          refine ⟨?_, HR.out.2⟩
          rw [HRR.out, HS.out]
          unfold intOf'
          rw [HT.out, HQ.out]
          rfl
        | some v =>
          have HQ := Lib.hid hq
          clear hq
          go_wp2_with (first
            | (go_at_call 124; refine (CD.out _).mono ?_; rintro e w' ⟨rfl, rfl⟩)
            | (go_at_call 125; refine (NB.out _).mono ?_; rintro e w' ⟨hN, rfl⟩; obtain rfl := hN.yes _ HQ.out)
            | (refine wpList_store_mid rfl 72 (.tmp 4) _ rfl w.heap.size 0 (Tk.mk 2 T v a).cells.toArray rfl rfl HZ.out.1.room (t_infoA _) (t_all _) ?_; have HR := Lib.hid (HZ.out.put (Tk.mk 2 T v a)); generalize World.setCells _ _ _ _ = W8 at HR ⊢))
          refine bodyPost_ret (results_cell3 rfl _ _ rfl HR.out.1.cells Tryz.underlying72 rfl (t_info _)) rfl ?_
          refine ⟨?_, HR.out.2⟩
          rw [HRR.out, HS.out]
          unfold intOf'
          rw [HT.out, HQ.out]
          rfl
    · have hn' : a + n = s.size := by omega
      have hS' := hS.out
      have hnil : L.drop n = [] := List.eq_nil_of_length_eq_zero (by rw [List.length_drop, HLEN.out]; omega)
      rw [hnil] at hS'
      have HS : Hid (spanN isD L = n) := Lib.hid hS'
      have hlt' : ¬(a : Int) + (n : Int) < (s.size : Int) := by omega
      have CD := Lib.hid (fun W => rdigit_any (c.toNat : Int) W)
      clear hS' hS hnil hn'
      obtain ⟨m, hm⟩ : ∃ m, n = m + 1 := ⟨n - 1, by have := HFIRST.out; have := HS.out; omega⟩
      have hTn : L.take n = c :: r.take m := by rw [HLL.out, hm]; rfl
      have hmid := fun W => HMID.out n hn W
      have NB := Lib.hid (fun W => number_any c (r.take m) W (by rw [← hTn, ← HS.out]; exact spanN_all isD L) (by have := HRL.out; rw [List.length_cons, List.length_take]; omega))
      rw [← hTn] at NB
      generalize hT : L.take n = T at *
      have HT := Lib.hid hT
      clear hTn hm hT
      cases hq : numL T with
      | none =>
        have HQ := Lib.hid hq
        clear hq
        go_wp2_with (first
          | (go_at_call 124; refine (CD.out _).mono ?_; rintro e w' ⟨rfl, rfl⟩)
          | (go_at_call 125; refine (NB.out _).mono ?_; rintro e w' ⟨hN, rfl⟩; obtain ⟨z, rfl⟩ := hN.no HQ.out)
          | (refine wpList_store_mid rfl 72 (.tmp 4) _ rfl w.heap.size 0 (Tk.zero).cells.toArray rfl rfl HZ.out.1.room (t_infoA _) (t_all _) ?_; have HR := Lib.hid (HZ.out.put (Tk.zero)); generalize World.setCells _ _ _ _ = W8 at HR ⊢))
        refine bodyPost_ret (results_cell3 rfl _ _ rfl HR.out.1.cells Tryz.underlying72 rfl (t_info _)) rfl ?_
        refine ⟨?_, HR.out.2⟩
        rw [HRR.out, HS.out]
        unfold intOf'
        rw [HT.out, HQ.out]
        rfl
      | some v =>
        have HQ := Lib.hid hq
        clear hq
        go_wp2_with (first
          | (go_at_call 124; refine (CD.out _).mono ?_; rintro e w' ⟨rfl, rfl⟩)
          | (go_at_call 125; refine (NB.out _).mono ?_; rintro e w' ⟨hN, rfl⟩; obtain rfl := hN.yes _ HQ.out)
          | (refine wpList_store_mid rfl 72 (.tmp 4) _ rfl w.heap.size 0 (Tk.mk 2 T v a).cells.toArray rfl rfl HZ.out.1.room (t_infoA _) (t_all _) ?_; have HR := Lib.hid (HZ.out.put (Tk.mk 2 T v a)); generalize World.setCells _ _ _ _ = W8 at HR ⊢))
        refine bodyPost_ret (results_cell3 rfl _ _ rfl HR.out.1.cells Tryz.underlying72 rfl (t_info _)) rfl ?_
        refine ⟨?_, HR.out.2⟩
        rw [HRR.out, HS.out]
        unfold intOf'
        rw [HT.out, HQ.out]
        rfl

theorem rone_any (s : ByteArray) (a : Nat) (c : UInt8) (r : List UInt8) (w : World) (hl : from' s a = c :: r) (hs : s.size ≤ 2 ^ 40) :
    Calls Tryz.prog 65 #[.string s, .int .i64 (a : Int)] w fun e w' => e = .returned (oneR a (oneL (c :: r))) ∧ Below w.heap.size w w' := by
  have hW := rone_word s a c r w hl hs
  have hI := rone_int s a c r w hl hs
  have hM := rone_mark s a c r w hl hs
  rw [hl] at hW hI hM
  rw [oneL]
  cases h1 : isL c with
  | true => rw [if_pos rfl]; exact hW h1
  | false =>
    rw [if_neg Bool.false_ne_true]
    cases h2 : isD c with
    | true => rw [if_pos rfl]; exact hI h2
    | false =>
      rw [if_neg Bool.false_ne_true]
      by_cases h3 : c.toNat = 34
      · rw [if_pos h3]; exact rone_text s a c r w hl hs h1 h2 h3
      · rw [if_neg h3]; exact hM h1 h2 h3

end Go.Proofs.YtemlceicmpcboaaGreatDoor.Lx
namespace Go.Proofs.YtemlceicmpcboaaGreatDoor.Lx
open Go.RowKit Dk

set_option maxHeartbeats 4000000 in
set_option maxRecDepth 100000 in
theorem rscan_small (s : ByteArray) (w : World) (hs : s.size ≤ 8192) :
    Calls Tryz.prog 37 #[.string s] w fun x w' => ScanOk w w' x s.data.toList := by
  have hsl : s.data.toList.length = s.size := by simp
  have HSL := Lib.hid hsl
  have SK : Hid (∀ (a : Nat) W, a ≤ s.size → Calls Tryz.prog 64 #[.string s, .int .i64 (a : Int)] W fun e w' => e = .returned (.int .i64 ((a + skipN false (from' s a) : Nat) : Int)) ∧ W = w') := Lib.hid (fun a W ha => rskip_any s a W ha (by omega))
  have HT1 := Lib.hid (TR.first w)
  have hk0 := skipN_le false (from' s 0)
  rw [from_length] at hk0
  have HS0 : Hid (scanL 0 s.data.toList = (scanAt (0 + skipN false (from' s 0)) (from' s (0 + skipN false (from' s 0)))).pre []) := Lib.hid (by
    rw [pre_nil, scanL_at]; simp [from'])
  have C0 := Lib.hid (fun W => SK.out 0 W (Nat.zero_le _))
  obtain ⟨a0, ha0⟩ : ∃ a0, a0 = 0 + skipN false (from' s 0) := ⟨_, rfl⟩
  rw [← ha0] at HS0 C0
  have hle0 : a0 ≤ s.size := by omega
  obtain ⟨i0, hi0, hy0, hy1, hy2⟩ := info_parts t_info3
  clear hsl ha0 hk0
  go_enter Tryz.func37, Tryz.ntmps37
  go_wp2_with (go_at_call 64; refine (C0.out _).mono ?_; rintro e w' ⟨rfl, rfl⟩)
  go_loopw [5, 6] (fun vl vat wr => ∃ (ts : List Tk) (a : Nat), a ≤ s.size ∧ ts.length ≤ a ∧ vat = .int .i64 (a : Int) ∧ Hid (TR w wr vl ts) ∧ Hid (scanL 0 s.data.toList = (scanAt a (from' s a)).pre ts)) (fun _ vat _ => s.size - (intOf vat).toNat)
  case atStart => exact ⟨[], a0, hle0, Nat.zero_le _, rfl, HT1, HS0⟩
  case round =>
    clear HT1 HS0 C0 hle0
    obtain ⟨ts, a, ha, hts, rfl, hT, hS⟩ := hrel
    by_cases hlt : a < s.size
    · obtain ⟨c, r, hl⟩ : ∃ c r, from' s a = c :: r := by
        cases h : from' s a with
        | nil => have := from_length s a; rw [h] at this; simp at this; omega
        | cons c r => exact ⟨c, r, rfl⟩
      have hS' := hS.out
      rw [hl] at hS'
      have NX := Lib.hid (rone_any s a c r wr hl (by omega))
      cases ho : oneL (c :: r) with
      | bad e =>
        rw [ho] at NX
        simp only [oneR, tkOf, lenOf, errOf] at NX
        rw [scanAt_bad ho] at hS'
        have HS := Lib.hid hS'
        have he := oneL_bad _ _ ho
        have hz : ((e : Int) != 0) = true := by rw [bne_iff_ne]; omega
        clear ho hS hS' hl he
        go_wp2_with fail
        refine NX.out.mono ?_
        rintro x W2 ⟨rfl, hb2⟩
        have HT2 := Lib.hid (hT.out.later hb2)
        have HZ := Lib.hid (tb_zero W2)
        have HP := Lib.hid (tb_put W2 Tk.zero)
        clear hb2 hT NX
        go_wp2_with (refine wpList_store_mid rfl 72 (.tmp 7) (.tmp 23) rfl W2.heap.size 0 Tk.zero.cells.toArray rfl rfl HZ.out.room (t_infoA _) (t_all _) ?_; generalize World.setCells _ _ _ _ = W3 at HP ⊢; have HT3 := Lib.hid (HT2.out.later HP.out.2); have HP3 := Lib.hid HP.out; clear HP)
        refine bodyPost_ret (results_tmp3' rfl _ _) rfl ?_
        refine ⟨fun ts' _ h => ?_, fun e' a' _ h => ?_, fun h => absurd (by rw [HSL.out]; exact hs) h, HT3.out.below⟩
        · rw [HS.out] at h; cases h
        · rw [HS.out] at h; cases h; rfl
      | tok k t n len =>
        have hlen := oneL_len _ _ _ _ _ ho
        have hfl := from_length s a
        rw [hl] at hfl
        have hfd := from_drop s a len
        rw [hl] at hfd
        have hk1 := skipN_le false (from' s (a + len))
        rw [from_length] at hk1
        rw [scanAt_tok ho, pre_cons, hfd, scanL_at (a + len), from_drop] at hS'
        rw [ho] at NX
        simp only [oneR, tkOf, lenOf, errOf] at NX
        have e1 : IntKind.i64.wrap ((a : Int) + (len : Int)) = (a : Int) + (len : Int) := IntWalk.i64_in _ (by omega)
        obtain ⟨b, hb⟩ : ∃ b, b = a + len + skipN false (from' s (a + len)) := ⟨_, rfl⟩
        have C1 := Lib.hid (fun W => SK.out (a + len) W (by omega))
        rw [← hb] at hS' C1
        rw [Int.natCast_add a len] at C1
        have HS := Lib.hid hS'
        have hbl : b ≤ s.size ∧ a < b := by omega
        obtain ⟨hbl, hab⟩ := hbl
        clear hfd hk1 hfl hlen hS hS' ho hb hl
        generalize hE : Tk.mk k t n a = E at *
        clear hE
        have HONE := Lib.hid (t_one E)
        have HX : Hid (tcells (ts ++ [E]) = tcells ts ++ E.cells) := Lib.hid (by rw [tcells_app]; simp [tcells])
        have hbs : ∀ W, (Instr.buildSlice 31 1 #[(0, .agg E.cells.toArray)]).run Tryz.prog W = .ok (.slice (some ⟨W.heap.size, 0, none⟩) 1 1) (W.alloc (.cells E.cells.toArray 72)) :=
          fun W => run_buildSlice_one 31 72 _ 40 4 E.cells W Tryz.underlying31 t_info3 rfl rfl (by decide) (by decide)
        have HNEW : Hid (∀ (W : World) (j : Nat) (u : Value), E.cells[j]? = some u → (W.alloc (.cells E.cells.toArray 72)).cell? ((⟨W.heap.size, 0, none⟩ : Addr).add j) = some u) := Lib.hid (fun W j u hu => news_at W E.cells.toArray _ j u (by simpa using hu))
        generalize hm : ts.length = m at *
        have HM := Lib.hid hm
        clear hm
        have HI := Lib.hid (t_info E)
        have hl4 : E.cells.length = 4 := rfl
        go_wp2_with fail
        refine NX.out.mono ?_
        rintro e W2 ⟨rfl, hb2⟩
        have HT2 := Lib.hid (hT.out.later hb2)
        have HZ := Lib.hid (tb_zero W2)
        have HP := Lib.hid (tb_put W2 E)
        clear hb2 hT NX
        go_wp2_with (first
          | (refine wpList_store_mid rfl 72 (.tmp 7) (.tmp 23) rfl W2.heap.size 0 E.cells.toArray rfl rfl HZ.out.room (t_infoA E) (t_all E) ?_; generalize World.setCells _ _ _ _ = W3 at HP ⊢; have HT3 := Lib.hid (HT2.out.later HP.out.2); have HP3 := Lib.hid HP.out; clear HP)
          | (refine wpList_load_mid rfl 72 (.tmp 7) rfl W2.heap.size 0 rfl E.cells _ HP3.out.1.cells Tryz.underlying72 rfl HI.out ?_)
          | (refine wpList_append_lies _ rfl (.tmp 30) (.tmp 32) 31 rfl w.heap.size 72 i0 _ 4 40 Tryz.underlying31 hi0 hy0 hy1 hy2 rfl (by decide) _ m (tcells ts) rfl (by have := HT3.out.row.alloc (.cells E.cells.toArray 72); rw [HM.out] at this; exact this) ⟨W3.heap.size, 0, none⟩ 1 1 E.cells rfl rfl (HNEW.out W3) HONE.out (by decide) (by unfold maxLen; omega) (by omega) (by have := HT3.out.below.size; simp; omega) (W3.heap.size + 1) (by simp) ?_; intro g' cap W7 hrow hgr hgl hlt7; have HT7 := Lib.hid (HT3.out.push (e := E) (g' := g') (cap := cap) (by rw [HM.out]; exact hrow) hgr); rw [HM.out] at HT7; clear HT3 hrow hgr hgl hlt7)
          | (go_at_call 64; refine (C1.out _).mono ?_; rintro e w' ⟨rfl, rfl⟩))
        go_roundw
        case rel => exact ⟨ts ++ [E], b, hbl, by rw [List.length_append, HM.out, List.length_singleton]; omega, rfl, HT7, HS⟩
        case measure => simp [intOf]; omega
    · obtain rfl : a = s.size := by omega
      have hS' := hS.out
      rw [show from' s s.size = [] from List.eq_nil_of_length_eq_zero (by rw [from_length]; omega)] at hS'
      have HS : Hid (scanL 0 s.data.toList = .toks ts) := Lib.hid (by rw [hS']; show SR.toks (ts ++ []) = _; rw [List.append_nil])
      clear hS hS'
      go_wp2
      refine bodyPost_ret (results_tmp3' rfl _ _) rfl ?_
      refine ⟨fun ts' _ h => ?_, fun e' a' _ h => ?_, fun h => absurd (by rw [HSL.out]; exact hs) h, hT.out.below⟩
      · rw [HS.out] at h; cases h; exact ⟨_, rfl, hT.out⟩
      · rw [HS.out] at h; cases h

set_option maxHeartbeats 400000 in
theorem rscan_big (s : ByteArray) (w : World) (hs : ¬s.size ≤ 8192) : Calls Tryz.prog 37 #[.string s] w fun x w' => ScanOk w w' x s.data.toList := by
  have hsl : s.data.toList.length = s.size := by simp
  have hn : ¬s.data.toList.length ≤ 8192 := by omega
  have h1 : (s.size : Int) > 8192 := by omega
  have HN := Lib.hid hn
  clear hsl hn hs
  go_enter Tryz.func37, Tryz.ntmps37
  go_wp2
  refine bodyPost_ret (results_tmp3' rfl _ _) rfl ?_
  exact ⟨fun _ h _ => absurd h HN.out, fun _ _ h _ => absurd h HN.out, fun _ => rfl, Below.refl _ _⟩

theorem rscan_any (s : ByteArray) (w : World) : Calls Tryz.prog 37 #[.string s] w fun x w' => ScanOk w w' x s.data.toList := by
  by_cases h : s.size ≤ 8192
  · exact rscan_small s w h
  · exact rscan_big s w h

end Go.Proofs.YtemlceicmpcboaaGreatDoor.Lx
