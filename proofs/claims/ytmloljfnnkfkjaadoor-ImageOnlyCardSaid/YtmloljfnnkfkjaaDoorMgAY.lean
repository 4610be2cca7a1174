/- Rows of plain elements that grow beside a reader, in a round of a loop: what is kept. The walk of the document's reader of protos: its contract. Rows of protos that grow beside the document's reader; steps of a drawn region whose runs are known. A byte at a place. The walks of chrysalisref08's letter, digit, blank, Key, word, Name: their contracts. The walks of chrysalisref08's word and Name: their contracts. No condition but those that each states. -/
import Derived.Test.YtmloljfnnkfkjaaDoorMgAR
import Derived.Test.YtmloljfnnkfkjaaDoorMgAX
import Derived.Test.YtmloljfnnkfkjaaDoorMgAH
namespace Go.Proofs.YtmloljfnnkfkjaaDoor.Im
open Go.RowKit Dk In

/-- Since w a reader reads; since wM a row v of elements l grows; the blocks of D, older than wM, are the call's own, and so are those of L. -/
structure LP {α : Type} (c : α → List Value) (E : TypeId) (Z : Nat) (Q : Rdr) (s : List UInt8) (w wM W : World) (D : List Nat) (L : List (Nat × List Value)) (v : Value) (l : List α) (k : Nat) (b : Bool) : Prop where
  rw : RW Q s w W L k b
  gr : GR wM.heap.size E Z W v (l.map c)
  kp : Keeps (fun g => w.heap.size ≤ g ∧ g < wM.heap.size ∧ g ∉ D) wM W
  hw : w.heap.size ≤ wM.heap.size
  dl : ∀ g ∈ D, g < wM.heap.size
  pl : ∀ x ∈ L, x.1 ∈ D ∨ (wM.heap.size ≤ x.1 ∧ v.ownBlock ≠ some x.1)
section
variable {α : Type} {c : α → List Value} {E : TypeId} {Z : Nat} {Q : Rdr} {s : List UInt8} {w wM W W' : World} {D : List Nat} {L : List (Nat × List Value)} {v : Value} {l : List α} {k k' : Nat} {b b' : Bool}
end

section
variable {s : List UInt8} {r N : Nat} (hN : r < N)
end
end Go.Proofs.YtmloljfnnkfkjaaDoor.Im

namespace Go.Proofs.YtmloljfnnkfkjaaDoor.Lx
open Go.RowKit Dk
theorem byte_at {P : Program} (s : ByteArray) (a : Nat) (c : UInt8) (r : List UInt8) (hl : from' s a = c :: r) (t : TypeId) (ht : P.underlying t = some .string) (W : World) : (Instr.index t (.string s) (.int .i64 (a : Int))).run P W = .ok (.int .u8 (c.toNat : Int)) W := by
  have hlen := from_length s a
  rw [hl] at hlen
  simp at hlen
  have ha : a < s.size := by omega
  have h1 : s[a]'ha = c := by
    have h2 : s.data.toList[a]'(by simpa using ha) = c := by
      have := List.drop_eq_getElem_cons (i := a) (l := s.data.toList) (by simpa using ha)
      unfold from' at hl
      rw [hl] at this
      exact ((List.cons.inj this).1).symm
    rw [← h2]; rfl
  have g1 : (0 : Int) ≤ (a : Int) := by omega
  have g2 : (a : Int) < (s.size : Int) := by omega
  rw [← h1]
  go_simp
end Go.Proofs.YtmloljfnnkfkjaaDoor.Lx

namespace Go.Proofs.YtmloljfnnkfkjaaDoor.Lx
open Go.RowKit Dk
set_option maxHeartbeats 400000 in
theorem rletter_any (r : Int) (w : World) : Calls Tryd.prog 91 #[.int .u8 r] w fun e w' => e = .returned (.bool (rL r)) ∧ w = w' := by
  rcases (show r < 97 ∨ (97 ≤ r ∧ r ≤ 122) ∨ 122 < r by omega) with h | ⟨h, h'⟩ | h
  all_goals
    go_enter Tryd.func91, Tryd.ntmps91
    go_wp2
    go_ret
    refine ⟨?_, rfl⟩
    congr 2
    unfold rL
    simp
    omega
set_option maxHeartbeats 400000 in
theorem rdigit_any (r : Int) (w : World) : Calls Tryd.prog 92 #[.int .u8 r] w fun e w' => e = .returned (.bool (rD r)) ∧ w = w' := by
  rcases (show r < 48 ∨ (48 ≤ r ∧ r ≤ 57) ∨ 57 < r by omega) with h | ⟨h, h'⟩ | h
  all_goals
    go_enter Tryd.func92, Tryd.ntmps92
    go_wp2
    go_ret
    refine ⟨?_, rfl⟩
    congr 2
    unfold rD
    simp
    omega
theorem row_strings (w : World) (ks : List (List UInt8)) (t : TypeId) (j : Nat) (k : List UInt8) (h : ks[j]? = some k) : (w.alloc (.cells (ks.map fun l => Value.string (strOf l)).toArray t)).cell? ⟨w.heap.size, j, none⟩ = some (.string (strOf k)) := by
  rw [World.cell?_alloc_mark]
  simp [h]
set_option maxHeartbeats 1000000 in
theorem rkey_any (l : List UInt8) (w : World) : Calls Tryd.prog 66 #[.string (strOf l)] w fun e w' => e = .returned (.bool (isKey l)) ∧ Below w.heap.size w w' := by
  have HB : Hid (Below w.heap.size w (w.alloc (.cells (keyList.map fun l => Value.string (strOf l)).toArray 9))) := Lib.hid ((Below.refl _ _).alloc (Nat.le_refl _) _)
  have HC := Lib.hid (fun j k h => row_strings w keyList 9 j k h)
  have HK := Lib.hid (isKey_iff l)
  go_enter Tryd.func66, Tryd.ntmps66
  go_wp2
  obtain ⟨W1, hW⟩ : ∃ W1, W1 = w.alloc (.cells (keyList.map fun l => Value.string (strOf l)).toArray 9) := ⟨_, rfl⟩
  rw [← hW] at HB HC
  go_loopw [4] (fun vi wr => ∃ j : Nat, j ≤ 20 ∧ vi = .int .i64 (j : Int) ∧ wr = W1 ∧ Hid (l ∉ keyList.take j)) (fun vi _ => 20 - (intOf vi).toNat)
  case atStart => exact ⟨0, Nat.zero_le _, rfl, hW.symm, Lib.hid (by simp)⟩
  case round =>
    obtain ⟨j, hj, rfl, rfl, hn⟩ := hrel
    by_cases hlt : j < 20
    · obtain ⟨k, hk⟩ : ∃ k, keyList[j]? = some k := ⟨_, List.getElem?_eq_getElem (by show j < 20; exact hlt)⟩
      have c := HC.out j k hk
      have hb := str_beq k l
      have z0 : (0 : Int) ≤ (j : Int) := by omega
      have z1 : (j : Int) < 20 := by omega
      by_cases he : k = l
      · have HT : Hid (isKey l = true) := Lib.hid (HK.out.2 (by rw [← he]; exact List.mem_of_getElem? hk))
        rw [decide_eq_true he] at hb
        generalize strOf k = y at *
        generalize strOf l = z at *
        clear he hk hW
        go_wp2
        go_ret
        exact ⟨by rw [HT.out]; rfl, HB.out⟩
      · have HN : Hid (l ∉ keyList.take (j + 1)) := Lib.hid (by
          have e := List.getElem?_eq_some_iff.1 hk
          obtain ⟨h1, h2⟩ := e
          rw [List.take_succ_eq_append_getElem h1, List.mem_append]
          rintro (h | h)
          · exact hn.out h
          · rw [List.mem_singleton, h2] at h; exact he h.symm)
        rw [decide_eq_false he] at hb
        generalize strOf k = y at *
        generalize strOf l = z at *
        clear he hk hW hn
        go_wp2
        go_roundw
        case rel => exact ⟨j + 1, by omega, by go_num, by trivial, HN⟩
        case measure => simp [intOf]; omega
    · obtain rfl : j = 20 := by omega
      have HF : Hid (isKey l = false) := Lib.hid (by
        cases h : isKey l with
        | false => rfl
        | true => exact absurd (HK.out.1 h) hn.out)
      clear hW hn
      go_wp2
      go_ret
      exact ⟨by rw [HF.out]; rfl, HB.out⟩
/-- How many bytes of a word stand there. -/
def wordN (L : List UInt8) : Nat := match L with
  | [] => 0
  | c :: r => if isL c then spanN isW (c :: r) else 0
end Go.Proofs.YtmloljfnnkfkjaaDoor.Lx

namespace Go.Proofs.YtmloljfnnkfkjaaDoor.Lx
open Go.RowKit Dk
/-- A byte at a place, and the rest. -/
theorem from_split (s : ByteArray) (a n : Nat) (h : a + n < s.size) : ∃ c r, (from' s a).drop n = c :: r ∧ from' s (a + n) = c :: r ∧ (from' s a).drop (n + 1) = r := by
  cases hd : (from' s a).drop n with
  | nil =>
    have := congrArg List.length hd
    rw [List.length_drop, from_length] at this
    simp at this
    omega
  | cons c r =>
    refine ⟨c, r, rfl, by rw [← from_drop, hd], ?_⟩
    rw [show n + 1 = n + 1 from rfl, ← List.drop_drop, hd]; rfl
theorem byte_sum {P : Program} (s : ByteArray) (a n : Nat) (c : UInt8) (r : List UInt8) (hl : from' s (a + n) = c :: r) (t : TypeId) (ht : P.underlying t = some .string) (W : World) : (Instr.index t (.string s) (.int .i64 ((a : Int) + (n : Int)))).run P W = .ok (.int .u8 (c.toNat : Int)) W := by
  have := byte_at (P := P) s (a + n) c r hl t ht W
  rwa [Int.natCast_add] at this
theorem rW_parts (x : Int) : rW x = (rL x || (rD x || decide (x = 95))) := by unfold rW; rw [Bool.or_assoc]
set_option maxHeartbeats 2000000 in
theorem word_any (s : ByteArray) (a : Nat) (w : World) (ha : a ≤ s.size) (hs : s.size ≤ 2 ^ 40) :
    Calls Tryd.prog 65 #[.string s, .int .i64 (a : Int)] w fun e w' => e = .returned (.int .i64 ((wordN (from' s a) : Nat) : Int)) ∧ w = w' := by
  have hlen := from_length s a
  go_enter Tryd.func65, Tryd.ntmps65
  go_wp2
  go_loopw [5] (fun vi wr => ∃ n : Nat, a + n ≤ s.size ∧ vi = .int .i64 (n : Int) ∧ wr = w ∧ Hid (n = 0 ∨ wordN (from' s a) = n + spanN isW ((from' s a).drop n))) (fun vi _ => s.size - (intOf vi).toNat)
  case atStart => exact ⟨0, ha, rfl, rfl, Lib.hid (.inl rfl)⟩
  case round =>
    obtain ⟨n, hn, rfl, rfl, hS⟩ := hrel
    have e1 : IntKind.i64.wrap ((a : Int) + (n : Int)) = (a : Int) + (n : Int) := IntWalk.i64_in _ (by omega)
    by_cases hlt : a + n < s.size
    · obtain ⟨c, r, h1, h2, h3⟩ := from_split s a n hlt
      have hix := fun W => byte_sum (P := Tryd.prog) s a n c r h2 9 Tryd.underlying9 W
      have CL := Lib.hid (fun W => rletter_any (c.toNat : Int) W)
      have CD := Lib.hid (fun W => rdigit_any (c.toNat : Int) W)
      have hlt' : (a : Int) + (n : Int) < (s.size : Int) := by omega
      have HW : Hid (∀ m : Nat, isW c = true → (n = 0 → isL c = true) → (n + 1 = 0 ∨ wordN (from' s a) = (n + 1 : Nat) + spanN isW ((from' s a).drop (n + 1)))) := Lib.hid (fun _ hw hz => by
        refine .inr ?_
        have hsp : spanN isW (c :: r) = spanN isW r + 1 := by rw [spanN, if_pos hw]
        rcases hS.out with h0 | h0
        · subst h0
          rw [List.drop_zero] at h1
          rw [h3, h1]
          show (if isL c = true then spanN isW (c :: r) else 0) = _
          rw [if_pos (hz rfl), hsp]; omega
        · rw [h0, h1, h3, hsp]; omega)
      have HE0 : Hid (n = 0 → isL c = false → wordN (from' s a) = 0) := Lib.hid (fun h0 hl => by
        subst h0
        rw [List.drop_zero] at h1
        rw [h1]
        show (if isL c = true then _ else 0) = _
        rw [if_neg (by rw [hl]; exact Bool.false_ne_true)])
      have HE1 : Hid (n ≠ 0 → isW c = false → wordN (from' s a) = n) := Lib.hid (fun h0 hl => by
        rcases hS.out with h4 | h4
        · exact absurd h4 h0
        · rw [h4, h1, spanN, if_neg (by rw [hl]; exact Bool.false_ne_true)]; rfl)
      clear h1 h2 h3 hS
      have ARM : True := trivial
      cases hl : rL (c.toNat : Int) with
      | true =>
        have HN := Lib.hid (HW.out 0 (isL_W hl) (fun _ => hl))
        rw [hl] at CL
        clear hl
        go_wp2_with (go_at_call 91; refine (CL.out _).mono ?_; rintro e w' ⟨rfl, rfl⟩)
        go_roundw
        case rel => exact ⟨n + 1, by omega, by go_num, by trivial, HN⟩
        case measure => simp [intOf]; omega
      | false =>
        have HL : Hid (isL c = false) := Lib.hid hl
        have hwp := rW_parts (c.toNat : Int)
        rw [hl, Bool.false_or] at hwp
        rw [hl] at CL
        clear hl
        by_cases h0 : n = 0
        · have HF := Lib.hid (HE0.out h0 HL.out)
          have h0' : ¬(n : Int) > 0 := by omega
          clear hwp h0
          go_wp2_with (go_at_call 91; refine (CL.out _).mono ?_; rintro e w' ⟨rfl, rfl⟩)
          go_ret
          exact ⟨by rw [HF.out]; have : n = 0 := by omega
                    subst this; rfl, rfl⟩
        · have h0' : (n : Int) > 0 := by omega
          cases hd : rD (c.toNat : Int) with
          | true =>
            rw [hd, Bool.true_or] at hwp
            have HN := Lib.hid (HW.out 0 hwp (fun h => absurd h h0))
            rw [hd] at CD
            clear hd hwp
            go_wp2_with (first
              | (go_at_call 91; refine (CL.out _).mono ?_; rintro e w' ⟨rfl, rfl⟩)
              | (go_at_call 92; refine (CD.out _).mono ?_; rintro e w' ⟨rfl, rfl⟩))
            go_roundw
            case rel => exact ⟨n + 1, by omega, by go_num, by trivial, HN⟩
            case measure => simp [intOf]; omega
          | false =>
            rw [hd, Bool.false_or] at hwp
            rw [hd] at CD
            clear hd
            by_cases h95 : (c.toNat : Int) = 95
            · rw [decide_eq_true h95] at hwp
              have HN := Lib.hid (HW.out 0 hwp (fun h => absurd h h0))
              have v1 : ((c.toNat : Int) == 95) = true := by simpa using h95
              generalize (c.toNat : Int) = x at *
              clear hwp h95
              go_wp2_with (first
                | (go_at_call 91; refine (CL.out _).mono ?_; rintro e w' ⟨rfl, rfl⟩)
                | (go_at_call 92; refine (CD.out _).mono ?_; rintro e w' ⟨rfl, rfl⟩))
              go_roundw
              case rel => exact ⟨n + 1, by omega, by go_num, by trivial, HN⟩
              case measure => simp [intOf]; omega
            · rw [decide_eq_false h95] at hwp
              have HF := Lib.hid (HE1.out h0 hwp)
              have v1 : ((c.toNat : Int) == 95) = false := by simpa using h95
              generalize (c.toNat : Int) = x at *
              clear hwp h95
              go_wp2_with (first
                | (go_at_call 91; refine (CL.out _).mono ?_; rintro e w' ⟨rfl, rfl⟩)
                | (go_at_call 92; refine (CD.out _).mono ?_; rintro e w' ⟨rfl, rfl⟩))
              go_ret
              exact ⟨by rw [HF.out]; rfl, rfl⟩
    · have hge : ¬(a : Int) + (n : Int) < (s.size : Int) := by omega
      have HF : Hid (wordN (from' s a) = n) := Lib.hid (by
        have hd : (from' s a).drop n = [] := List.drop_eq_nil_of_le (by omega)
        rcases hS.out with h0 | h0
        · subst h0
          rw [List.drop_zero] at hd
          rw [hd]; rfl
        · rw [h0, hd]; rfl)
      clear hS
      go_wp2
      go_ret
      exact ⟨by rw [HF.out]; rfl, rfl⟩
theorem isName_word (l : List UInt8) : isName l = (decide (0 < l.length) && decide (l.length ≤ 16) && decide (wordN l = l.length) && !isKey l) := by
  cases l with
  | nil => rfl
  | cons c r =>
    rw [isName_cons]
    cases h : isL c with
    | true =>
      have e : wordN (c :: r) = spanN isW (c :: r) := if_pos h
      rw [e]
      simp
    | false =>
      have e : wordN (c :: r) = 0 := if_neg (by rw [h]; exact Bool.false_ne_true)
      rw [e]
      simp
set_option maxHeartbeats 1000000 in
theorem rname_any (l : List UInt8) (w : World) (hs : l.length ≤ 2 ^ 40) : Calls Tryd.prog 35 #[.string (strOf l)] w fun e w' => e = .returned (.bool (isName l)) ∧ Below w.heap.size w w' := by
  have hsz := strOf_size l
  have CW : Hid (∀ W, Calls Tryd.prog 65 #[.string (strOf l), .int .i64 0] W fun e w' => e = .returned (.int .i64 ((wordN l : Nat) : Int)) ∧ W = w') := Lib.hid (fun W => by
    have := word_any (strOf l) 0 W (Nat.zero_le _) (by omega)
    rw [show from' (strOf l) 0 = l by simp [from', strOf]] at this
    exact this)
  have CK := Lib.hid (fun W => rkey_any l W)
  have HN := Lib.hid (isName_word l)
  generalize isName l = N at *
  generalize l.length = m at *
  generalize wordN l = n at *
  generalize isKey l = K at *
  generalize strOf l = s at *
  by_cases h0 : 0 < m
  · by_cases h16 : m ≤ 16
    · by_cases hn : n = m
      · have HF : Hid (N = !K) := Lib.hid (by rw [HN.out]; simp [h0, h16, hn])
        subst hn
        cases K
        all_goals
          go_enter Tryd.func35, Tryd.ntmps35
          go_wp2_with (first
            | (go_at_call 65; refine (CW.out _).mono ?_; rintro e w' ⟨rfl, rfl⟩)
            | (go_at_call 66; refine (CK.out _).mono ?_; rintro e w' ⟨rfl, hb⟩; have HB := Lib.hid hb; clear hb))
          go_ret
          exact ⟨by rw [HF.out]; rfl, HB.out⟩
      · have HF : Hid (N = false) := Lib.hid (by rw [HN.out]; simp [hn])
        have hnm : ((n : Int) == (m : Int)) = false := by simp; omega
        go_enter Tryd.func35, Tryd.ntmps35
        go_wp2_with (go_at_call 65; refine (CW.out _).mono ?_; rintro e w' ⟨rfl, rfl⟩)
        go_ret
        exact ⟨by rw [HF.out]; rfl, Below.refl _ _⟩
    · have HF : Hid (N = false) := Lib.hid (by rw [HN.out]; simp [h16])
      go_enter Tryd.func35, Tryd.ntmps35
      go_wp2
      go_ret
      exact ⟨by rw [HF.out]; rfl, Below.refl _ _⟩
  · have HF : Hid (N = false) := Lib.hid (by rw [HN.out]; simp [h0])
    go_enter Tryd.func35, Tryd.ntmps35
    go_wp2
    go_ret
    exact ⟨by rw [HF.out]; rfl, Below.refl _ _⟩
end Go.Proofs.YtmloljfnnkfkjaaDoor.Lx

