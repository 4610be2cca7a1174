/- The walks of chrysalisref08's word and Name; The walk of chrysalisref08; What is written of a right tree. No condition but those that each states. -/
import Derived.Test.YtmljjpdodcpohaaGreatDoorMgAO
namespace Go.Proofs.YtmljjpdodcpohaaGreatDoor.Lx
open Lib (hid)
set_option maxHeartbeats 2000000
open Go.RowKit Dk
theorem from_split (s : ByteArray) (a n : Nat) (h : a + n < s.size) : ∃ c r, (from' s a).drop n = c :: r ∧ from' s (a + n) = c :: r ∧ (from' s a).drop (n + 1) = r := by
  cases hd : (from' s a).drop n with
  | nil =>
    have := congrArg List.length hd; rw [List.length_drop, from_length] at this; simp at this
    omega
  | cons c r =>
    refine ⟨c, r, rfl, by rw [← from_drop, hd], ?_⟩; rw [show n + 1 = n + 1 from rfl, ← List.drop_drop, hd]; rfl
theorem byte_sum {P : Program} (s : ByteArray) (a n : Nat) (c : UInt8) (r : List UInt8) (hl : from' s (a + n) = c :: r) (t : TypeId) (ht : P.underlying t = some .string) (W : World) : (Instr.index t (.string s) (.int .i64 ((a : Int) + (n : Int)))).run P W = .ok (.int .u8 (c.toNat : Int)) W := by
  have := byte_at (P := P) s (a + n) c r hl t ht W; rwa [Int.natCast_add] at this
theorem rW_parts (x : Int) : rW x = (rL x || (rD x || decide (x = 95))) := by unfold rW; rw [Bool.or_assoc]
theorem word_any (s : ByteArray) (a : Nat) (w : World) (ha : a ≤ s.size) (hs : s.size ≤ 2 ^ 40) :
    Calls Tryz.prog 127 #[.string s, .int .i64 (a : Int)] w fun e w' => e = .returned (.int .i64 ((wordN (from' s a) : Nat) : Int)) ∧ w = w' := by
  have hlen := from_length s a; go_enter Tryz.func127, Tryz.ntmps127
  go_wp2; go_loopw [5] (fun vi wr => ∃ n : Nat, a + n ≤ s.size ∧ vi = .int .i64 (n : Int) ∧ wr = w ∧ Hid (n = 0 ∨ wordN (from' s a) = n + spanN isW ((from' s a).drop n))) (fun vi _ => s.size - (intOf vi).toNat)
  case atStart => exact ⟨0, ha, rfl, rfl, hid (.inl rfl)⟩
  case round =>
    obtain ⟨n, hn, rfl, rfl, hS⟩ := hrel; have e1 : IntKind.i64.wrap ((a : Int) + (n : Int)) = (a : Int) + (n : Int) := IntWalk.i64_in _ (by omega); by_cases hlt : a + n < s.size
    · obtain ⟨c, r, h1, h2, h3⟩ := from_split s a n hlt
      have hix := fun W => byte_sum (P := Tryz.prog) s a n c r h2 9 Tryz.underlying9 W
      have CL := hid (fun W => rletter_any (c.toNat : Int) W); have CD := hid (fun W => rdigit_any (c.toNat : Int) W); have hlt' : (a : Int) + (n : Int) < (s.size : Int) := by omega
      have HW : Hid (∀ m : Nat, isW c = true → (n = 0 → isL c = true) → (n + 1 = 0 ∨ wordN (from' s a) = (n + 1 : Nat) + spanN isW ((from' s a).drop (n + 1)))) := hid (fun _ hw hz => by
        refine .inr ?_; have hsp : spanN isW (c :: r) = spanN isW r + 1 := by rw [spanN, if_pos hw]
        rcases hS.out with h0 | h0
        · subst h0
          rw [List.drop_zero] at h1; rw [h3, h1]; show (if isL c = true then spanN isW (c :: r) else 0) = _
          rw [if_pos (hz rfl), hsp]; omega
        · rw [h0, h1, h3, hsp]; omega)
      have HE0 : Hid (n = 0 → isL c = false → wordN (from' s a) = 0) := hid (fun h0 hl => by
        subst h0; rw [List.drop_zero] at h1; rw [h1]; show (if isL c = true then _ else 0) = _
        rw [if_neg (by rw [hl]; exact Bool.false_ne_true)])
      have HE1 : Hid (n ≠ 0 → isW c = false → wordN (from' s a) = n) := hid (fun h0 hl => by
        rcases hS.out with h4 | h4
        · exact absurd h4 h0
        · rw [h4, h1, spanN, if_neg (by rw [hl]; exact Bool.false_ne_true)]; rfl)
      clear h1 h2 h3 hS; have ARM : True := trivial; cases hl : rL (c.toNat : Int) with
      | true =>
        have HN := hid (HW.out 0 (isL_W hl) (fun _ => hl)); rw [hl] at CL; clear hl; go_wp2_with (go_at_call 126; refine (CL.out _).mono ?_; rintro e w' ⟨rfl, rfl⟩)
        go_roundw
        case rel => exact ⟨n + 1, by omega, by go_num, by trivial, HN⟩
        case measure => simp [intOf]; omega
      | false =>
        have HL : Hid (isL c = false) := hid hl; have hwp := rW_parts (c.toNat : Int); rw [hl, Bool.false_or] at hwp; rw [hl] at CL; clear hl; by_cases h0 : n = 0
        · have HF := hid (HE0.out h0 HL.out)
          have h0' : ¬(n : Int) > 0 := by omega
          clear hwp h0; go_wp2_with (go_at_call 126; refine (CL.out _).mono ?_; rintro e w' ⟨rfl, rfl⟩)
          go_ret
          exact ⟨by rw [HF.out]; have : n = 0 := by omega
                    subst this; rfl, rfl⟩
        · have h0' : (n : Int) > 0 := by omega
          cases hd : rD (c.toNat : Int) with
          | true =>
            rw [hd, Bool.true_or] at hwp; have HN := hid (HW.out 0 hwp (fun h => absurd h h0)); rw [hd] at CD; clear hd hwp
            go_wp2_with (first
              | (go_at_call 126; refine (CL.out _).mono ?_; rintro e w' ⟨rfl, rfl⟩)
              | (go_at_call 128; refine (CD.out _).mono ?_; rintro e w' ⟨rfl, rfl⟩))
            go_roundw
            case rel => exact ⟨n + 1, by omega, by go_num, by trivial, HN⟩
            case measure => simp [intOf]; omega
          | false =>
            rw [hd, Bool.false_or] at hwp; rw [hd] at CD; clear hd; by_cases h95 : (c.toNat : Int) = 95
            · rw [decide_eq_true h95] at hwp
              have HN := hid (HW.out 0 hwp (fun h => absurd h h0)); have v1 : ((c.toNat : Int) == 95) = true := by simpa using h95
              generalize (c.toNat : Int) = x at *; clear hwp h95
              go_wp2_with (first
                | (go_at_call 126; refine (CL.out _).mono ?_; rintro e w' ⟨rfl, rfl⟩)
                | (go_at_call 128; refine (CD.out _).mono ?_; rintro e w' ⟨rfl, rfl⟩))
              go_roundw
              case rel => exact ⟨n + 1, by omega, by go_num, by trivial, HN⟩
              case measure => simp [intOf]; omega
            · rw [decide_eq_false h95] at hwp
              have HF := hid (HE1.out h0 hwp); have v1 : ((c.toNat : Int) == 95) = false := by simpa using h95
              generalize (c.toNat : Int) = x at *; clear hwp h95
              go_wp2_with (first
                | (go_at_call 126; refine (CL.out _).mono ?_; rintro e w' ⟨rfl, rfl⟩)
                | (go_at_call 128; refine (CD.out _).mono ?_; rintro e w' ⟨rfl, rfl⟩))
              go_ret; exact ⟨by rw [HF.out]; rfl, rfl⟩
    · have hge : ¬(a : Int) + (n : Int) < (s.size : Int) := by omega
      have HF : Hid (wordN (from' s a) = n) := hid (by
        have hd : (from' s a).drop n = [] := List.drop_eq_nil_of_le (by omega); rcases hS.out with h0 | h0
        · subst h0
          rw [List.drop_zero] at hd; rw [hd]; rfl
        · rw [h0, hd]; rfl)
      clear hS; go_wp2; go_ret; exact ⟨by rw [HF.out]; rfl, rfl⟩
theorem isName_word (l : List UInt8) : isName l = (decide (0 < l.length) && decide (l.length ≤ 16) && decide (wordN l = l.length) && !isKey l) := by
  cases l with
  | nil => rfl
  | cons c r =>
    rw [isName_cons]; cases h : isL c with
    | true =>
      have e : wordN (c :: r) = spanN isW (c :: r) := if_pos h; rw [e]; simp
    | false =>
      have e : wordN (c :: r) = 0 := if_neg (by rw [h]; exact Bool.false_ne_true)
      rw [e]; simp
theorem rname_any (l : List UInt8) (w : World) (hs : l.length ≤ 2 ^ 40) : Calls Tryz.prog 101 #[.string (strOf l)] w fun e w' => e = .returned (.bool (isName l)) ∧ Below w.heap.size w w' := by
  have hsz := strOf_size l
  have CW : Hid (∀ W, Calls Tryz.prog 127 #[.string (strOf l), .int .i64 0] W fun e w' => e = .returned (.int .i64 ((wordN l : Nat) : Int)) ∧ W = w') := hid (fun W => by
    have := word_any (strOf l) 0 W (Nat.zero_le _) (by omega); rw [show from' (strOf l) 0 = l by simp [from', strOf]] at this
    exact this)
  have CK := hid (fun W => rkey_any l W); have HN := hid (isName_word l); generalize isName l = N at *; generalize l.length = m at *; generalize wordN l = n at *; generalize isKey l = K at *; generalize strOf l = s at *; by_cases h0 : 0 < m
  · by_cases h16 : m ≤ 16
    · by_cases hn : n = m
      · have HF : Hid (N = !K) := hid (by rw [HN.out]; simp [h0, h16, hn])
        subst hn; cases K
        all_goals
          go_enter Tryz.func101, Tryz.ntmps101
          go_wp2_with (first
            | (go_at_call 127; refine (CW.out _).mono ?_; rintro e w' ⟨rfl, rfl⟩)
            | (go_at_call 109; refine (CK.out _).mono ?_; rintro e w' ⟨rfl, hb⟩; have HB := hid hb; clear hb))
          go_ret; exact ⟨by rw [HF.out]; rfl, HB.out⟩
      · have HF : Hid (N = false) := hid (by rw [HN.out]; simp [hn])
        have hnm : ((n : Int) == (m : Int)) = false := by simp; omega
        go_enter Tryz.func101, Tryz.ntmps101
        go_wp2_with (go_at_call 127; refine (CW.out _).mono ?_; rintro e w' ⟨rfl, rfl⟩)
        go_ret; exact ⟨by rw [HF.out]; rfl, Below.refl _ _⟩
    · have HF : Hid (N = false) := hid (by rw [HN.out]; simp [h16])
      go_enter Tryz.func101, Tryz.ntmps101
      go_wp2; go_ret; exact ⟨by rw [HF.out]; rfl, Below.refl _ _⟩
  · have HF : Hid (N = false) := hid (by rw [HN.out]; simp [h0])
    go_enter Tryz.func101, Tryz.ntmps101
    go_wp2; go_ret; exact ⟨by rw [HF.out]; rfl, Below.refl _ _⟩
end Go.Proofs.YtmljjpdodcpohaaGreatDoor.Lx

namespace Go.Proofs.YtmljjpdodcpohaaGreatDoor.Lx
open Go.RowKit Dk
theorem dig {c : UInt8} (h : isD c = true) : 48 ≤ c.toNat ∧ c.toNat ≤ 57 := by unfold isD rD at h; simp at h; omega
end Go.Proofs.YtmljjpdodcpohaaGreatDoor.Lx

namespace Go.Proofs.YtmljjpdodcpohaaGreatDoor.Sw
open Lx Tr Pa
def TokOk (t : Tk) : Prop := Lx.Good t ∧ (Lx.written t).length ≤ 3000
theorem dig_of {u : Nat} (h : u < 10) : (UInt8.ofNat (48 + u)).toNat = 48 + u := by
  rw [UInt8.toNat_ofNat']; exact Nat.mod_eq_of_lt (by omega)
theorem digs_all : ∀ (f u : Nat), u < f → (∀ c ∈ Lib.decDigits u, isD c = true) ∧ numV (Lib.decDigits u) = u ∧ Lib.decDigits u ≠ [] ∧ (0 < u → (Lib.decDigits u).head? ≠ some 48)
  | 0, u, h => absurd h (Nat.not_lt_zero u)
  | f + 1, u, h => by
    by_cases hu : u < 10
    · have h1 := dig_of hu
      have hd : isD (UInt8.ofNat (48 + u)) = true := by unfold isD rD; rw [h1]; simp; omega
      rw [Lib.decDigits_one hu]; refine ⟨fun c hc => by rw [List.mem_singleton.1 hc]; exact hd, ?_, by simp, fun h0 he => ?_⟩
      · show 0 * 10 + ((UInt8.ofNat (48 + u)).toNat - 48) = u
        rw [h1]; omega
      · have he' : UInt8.ofNat (48 + u) = 48 := Option.some.inj he
        rw [he'] at h1; have : (48 : UInt8).toNat = 48 := rfl; omega
    · obtain ⟨a1, a2, a3, a4⟩ := digs_all f (u / 10) (by omega)
      have h1 := dig_of (u := u % 10) (by omega); have hd : isD (UInt8.ofNat (48 + u % 10)) = true := by unfold isD rD; rw [h1]; simp; omega
      rw [Lib.decDigits, dif_neg hu]; refine ⟨fun c hc => ?_, ?_, by simp, fun _ he => ?_⟩
      · rcases List.mem_append.1 hc with hc | hc
        · exact a1 c hc
        · rw [List.mem_singleton.1 hc]; exact hd
      · unfold numV at a2 ⊢
        rw [List.foldl_append, a2]; show u / 10 * 10 + ((UInt8.ofNat (48 + u % 10)).toNat - 48) = u
        rw [h1]; omega
      · refine a4 (by omega) ?_
        cases hl : Lib.decDigits (u / 10) with
        | nil => exact absurd hl a3
        | cons c r => rw [hl] at he; exact he
theorem int_ok {n : Int} (h0 : 0 ≤ n) (h1 : n < 9223372036854775808) : TokOk (inT n) := by
  obtain ⟨m, rfl⟩ : ∃ m : Nat, n = (m : Int) := ⟨n.toNat, by omega⟩; have e : Lib.itoa (m : Int) = Lib.decDigits m := by unfold Lib.itoa; rw [if_neg (by omega), Int.toNat_natCast]
  obtain ⟨a1, a2, a3, a4⟩ := digs_all (m + 1) m (Nat.lt_succ_self m)
  have hlen : (Lib.decDigits m).length ≤ 20 := by
    rw [Lib.decDigits_length]
    have : Lib.nDigits m ≤ 19 := by
      rcases Nat.eq_zero_or_pos m with h | h
      · subst h; rw [Lib.nDigits_small (by decide)]; decide
      · have h2 := (Lib.numDigits_eq m h (by omega))
        have h3 := Lib.lt_pow_nDigits m; by_cases hle : Lib.nDigits m ≤ 19
        · exact hle
        · exfalso
          have h4 : 10 ^ 19 ≤ m := by
            have h5 := h2.2; have h6 := h2.1; have h7 : Lib.l10 (Lib.bitLen m) = 19 := by split at h6 <;> omega
            rw [h7] at h6; split at h6
            · rename_i h8; exact h8
            · omega
          omega
    omega
  unfold inT; rw [e]; cases hl : Lib.decDigits m with
  | nil => exact absurd hl a3
  | cons c r =>
    rw [hl] at a1 a2 a4 hlen; have hc := a1 c (by simp); have hspan : spanN isD (c :: r) = (c :: r).length := (spanN_full isD _).2 (by rw [List.all_eq_true]; exact a1)
    have hisL : isL c = false := by
      have := dig hc; unfold isL rL; simp; omega
    have hnum : numL (c :: r) = some m := by
      unfold numL
      have hno : ¬(1 < (c :: r).length ∧ (c :: r).head? = some 48) := fun ⟨k1, k2⟩ => by
        by_cases hm : 0 < m
        · exact a4 hm k2
        · have h0 : m = 0 := by omega
          subst h0; rw [Lib.decDigits_one (by decide)] at hl; cases hl
          simp at k1
      rw [if_neg hno, a2, if_pos (by omega)]
    have hone : oneL (c :: r) = .tok 2 (c :: r) m (c :: r).length := by
      rw [oneL, if_neg (by rw [hisL]; decide), if_pos hc, hspan]
      unfold intOf'; rw [List.take_length, hnum]
    obtain ⟨g1, g2⟩ := good_of (skip_letter (.inr (.inl hc)) r) hone 0; exact ⟨g1, Nat.le_trans g2 (by have : (c :: r).length ≤ 20 := hlen; omega)⟩
theorem name_ok {q : List UInt8} (h : isName q = true) : TokOk (nmT q) := by
  obtain ⟨c, r, rfl, h1, h2, h3, h4⟩ := isName_parts h
  have hone : oneL (c :: r) = .tok 1 (c :: r) 0 (c :: r).length := by
    rw [oneL, if_pos h2, h3]; unfold wordOf; rw [List.take_length, if_neg (by rw [h4]; decide), if_neg (by omega)]
  obtain ⟨g1, g2⟩ := good_of (skip_letter (.inl h2) r) hone 0; exact ⟨g1, Nat.le_trans g2 (by omega)⟩
theorem text_ok {q : List UInt8} (h : q.length ≤ 1024) : TokOk (txT q) := by
  have hone := oneL_quote q []; rw [List.append_nil] at hone; have hq : quoteL q = 34 :: (q.flatMap escL ++ [34]) := rfl
  have hlen : (quoteL q).length ≤ 3000 := by
    rw [quoteL_length]
    have : ∀ l : List UInt8, (l.flatMap escL).length ≤ 2 * l.length := by
      intro l; induction l with
      | nil => exact Nat.le_refl _
      | cons c l ih =>
        rw [List.flatMap_cons, List.length_append, List.length_cons]; have := esc_len c; omega
    have := this q; omega
  rw [hq] at hone; obtain ⟨g1, g2⟩ := good_of (skip_letter (.inr (.inr rfl)) _) hone 0; exact ⟨g1, by rw [← hq] at g2; exact Nat.le_trans g2 hlen⟩
def okS (q : List UInt8) : Bool := match q with
  | [] => false
  | c :: r => skipN false (c :: r) == 0 && decide (q.length ≤ 100) && (match oneL (c :: r) with
    | .tok k t n _ => (k : Int) == (if isKey q then 5 else 4) && t == q && n == 0 && k != 3
    | _ => false)
theorem sgn_ok {q : List UInt8} (h : okS q = true) : TokOk (sgn q) := by
  unfold okS at h; cases q with
  | nil => cases h
  | cons c r =>
    simp only [Bool.and_eq_true, beq_iff_eq, decide_eq_true_eq] at h; obtain ⟨⟨h1, h2⟩, h3⟩ := h; cases ho : oneL (c :: r) with
    | bad e => rw [ho] at h3; cases h3
    | tok k t n len =>
      rw [ho] at h3; simp only [Bool.and_eq_true, beq_iff_eq, bne_iff_ne] at h3; obtain ⟨⟨⟨h4, h5⟩, h6⟩, h7⟩ := h3; subst h5; subst h6; obtain ⟨g1, g2⟩ := good_of h1 ho 0; have e : (⟨(k : Int), c :: r, ((0 : Nat) : Int), 0⟩ : Tk) = sgn (c :: r) := by unfold sgn; rw [h4]; rfl
      rw [e] at g1; refine ⟨g1, ?_⟩
      have hw : Lx.written (sgn (c :: r)) = c :: r := by
        unfold Lx.written; refine if_neg ?_; unfold sgn; simp only
        split <;> decide
      rw [hw]; have : (c :: r).length ≤ 100 := h2; omega
def sgAll : List (List UInt8) := [[109, 111, 100, 117, 108, 101], [59], [117, 115, 101], [46], [47], [102, 110], [123], [125], [108, 101, 116], [61], [91], [93], [105, 102], [101, 108, 115, 101], [119, 104, 105, 108, 101], [98, 114, 101, 97, 107], [99, 111, 110, 116, 105, 110, 117, 101], [114, 101, 116, 117, 114, 110], [112, 117, 116], [101, 109, 105, 116], [121, 105, 101, 108, 100], [110, 105, 108], [40], [41], [44], [115, 116, 97, 116, 101], [115, 112, 97, 119, 110]]
theorem sg_all_ok : (sgAll.all okS && binList.all okS && unList.all okS) = true := by decide +kernel
theorem sg_one {q : List UInt8} (h : q ∈ sgAll) : TokOk (sgn q) := by
  have := sg_all_ok; rw [Bool.and_eq_true, Bool.and_eq_true] at this; exact sgn_ok (List.all_eq_true.1 this.1.1 q h)
theorem bin_ok {q : List UInt8} (h : isBin q = true) : TokOk (sgn q) := by
  have := sg_all_ok; rw [Bool.and_eq_true, Bool.and_eq_true] at this; exact sgn_ok (List.all_eq_true.1 this.1.2 q ((isBin_iff q).1 h))
theorem un_ok {q : List UInt8} (h : isUn q = true) : TokOk (sgn q) := by
  have := sg_all_ok; rw [Bool.and_eq_true, Bool.and_eq_true] at this; exact sgn_ok (List.all_eq_true.1 this.2 q ((isUn_iff q).1 h))
def AllOk : List PSy → Prop
  | [] => True
  | .tok t :: A => TokOk t ∧ AllOk A
  | .nd _ :: A => AllOk A
theorem AllOk.app : ∀ {A B : List PSy}, AllOk A → AllOk B → AllOk (A ++ B)
  | [], _, _, h => h
  | .tok _ :: _, _, h, k => ⟨h.1, AllOk.app h.2 k⟩
  | .nd _ :: A, _, h, k => AllOk.app (A := A) h k
theorem ok_rep (c : Cat) : ∀ n, AllOk (List.replicate n (.nd c))
  | 0 => trivial
  | n + 1 => by rw [List.replicate_succ]; exact ok_rep c n
theorem ok_sep (c : Cat) : ∀ n, AllOk (sepX c n)
  | 0 => trivial
  | n + 1 => ⟨sg_one (by decide), ok_sep c n⟩
theorem ok_lst (c : Cat) : ∀ n, AllOk (lstX c n)
  | 0 => ⟨sg_one (by decide), sg_one (by decide), trivial⟩
  | n + 1 => ⟨sg_one (by decide), AllOk.app (ok_sep c n) ⟨sg_one (by decide), trivial⟩⟩
theorem ok_fnX (n : Nat) : AllOk (fnX n) := AllOk.app (ok_lst _ _) trivial
def tokN : List PSy → Nat
  | [] => 0
  | .tok _ :: A => tokN A + 1
  | .nd _ :: A => tokN A
theorem tokN_app : ∀ A B : List PSy, tokN (A ++ B) = tokN A + tokN B
  | [], _ => (Nat.zero_add _).symm
  | .tok _ :: A, B => by show tokN (A ++ B) + 1 = tokN A + 1 + tokN B; rw [tokN_app A B]; omega
  | .nd _ :: A, B => tokN_app A B
theorem tokN_rep (c : Cat) : ∀ n, tokN (List.replicate n (.nd c)) = 0
  | 0 => rfl
  | n + 1 => by rw [List.replicate_succ]; exact tokN_rep c n
theorem tokN_sep (c : Cat) : ∀ n, tokN (sepX c n) = n
  | 0 => rfl
  | n + 1 => by show tokN (sepX c n) + 1 = n + 1; rw [tokN_sep c n]
theorem tokN_lst (c : Cat) : ∀ n, tokN (lstX c n) ≤ n + 2
  | 0 => Nat.le_refl _
  | n + 1 => by
    show tokN (sepX c n ++ [sg [41]]) + 1 ≤ _
    rw [tokN_app, tokN_sep]; show n + 1 + 1 ≤ _
    omega
theorem tokN_fn (k : Nat) : tokN (fnX k) ≤ (k - 1) + 2 := by
  unfold fnX; rw [tokN_app]; exact tokN_lst _ _
set_option maxHeartbeats 2000000 in
theorem exp_ok (x : Nd) (hf : fieldsP x = true) (hn : x.n < 9223372036854775808) (h1 : 1 ≤ x.kind) (h2 : x.kind ≤ 30) : AllOk (expX x) ∧ tokN (expX x) ≤ 7 + (cats (expX x)).length := by
  obtain ⟨k, d, q, z, s⟩ := x; simp only at h1 h2 hn; have hk : ∃ m : Nat, m < 31 ∧ k = (m : Int) := ⟨k.toNat, by omega, by omega⟩; obtain ⟨m, hm31, rfl⟩ := hk; rcases (show m = 1 ∨ m = 2 ∨ m = 3 ∨ m = 4 ∨ m = 5 ∨ m = 6 ∨ m = 7 ∨ m = 8 ∨ m = 9 ∨ m = 10 ∨ m = 11 ∨ m = 12 ∨ m = 13 ∨ m = 14 ∨ m = 15 ∨ m = 16 ∨ m = 17 ∨ m = 18 ∨ m = 19 ∨ m = 20 ∨ m = 21 ∨ m = 22 ∨ m = 23 ∨ m = 24 ∨ m = 25 ∨ m = 26 ∨ m = 27 ∨ m = 28 ∨ m = 29 ∨ m = 30 by omega) with rfl | rfl | rfl | rfl | rfl | rfl | rfl | rfl | rfl | rfl | rfl | rfl | rfl | rfl | rfl | rfl | rfl | rfl | rfl | rfl | rfl | rfl | rfl | rfl | rfl | rfl | rfl | rfl | rfl | rfl
  · obtain ⟨⟨⟨a, hz⟩, hz2⟩, rfl⟩ : ((isName q = true ∧ 1 ≤ z) ∧ z ≤ 2147483647) ∧ s = [] := by simpa [fieldsP] using hf
    refine ⟨AllOk.app (A := [_, _, _, _]) ⟨sg_one (by decide), name_ok a, int_ok (by show 0 ≤ z; omega) hn, sg_one (by decide), trivial⟩ (ok_rep _ _), ?_⟩
    show tokN ([_, _, _, _] ++ List.replicate _ _) ≤ _
    rw [tokN_app, tokN_rep]; show 4 + 0 ≤ _
    omega
  · obtain ⟨⟨⟨a, hz⟩, hz2⟩, b⟩ : ((isName q = true ∧ 0 ≤ z) ∧ z ≤ 8) ∧ isName s = true := by simpa [fieldsP] using hf
    exact ⟨⟨sg_one (by decide), name_ok a, sg_one (by decide), name_ok b, sg_one (by decide), int_ok hz hn, sg_one (by decide), trivial⟩, by show 7 ≤ 7 + 0; omega⟩
  · obtain ⟨⟨a, rfl⟩, rfl⟩ : (isName q = true ∧ z = 0) ∧ s = [] := by simpa [fieldsP] using hf
    refine ⟨AllOk.app (A := [_, _]) ⟨sg_one (by decide), name_ok a, trivial⟩ (ok_fnX _), ?_⟩; show tokN ([_, _] ++ fnX d.toNat) ≤ 7 + (cats ([_, _] ++ fnX d.toNat)).length
    rw [tokN_app, cats_app, cats_fn]; have := tokN_fn d.toNat; simp [tokN, cats]
    omega
  · obtain ⟨⟨a, rfl⟩, rfl⟩ : (isName q = true ∧ z = 0) ∧ s = [] := by simpa [fieldsP] using hf
    exact ⟨⟨name_ok a, trivial⟩, by show 1 ≤ 7 + 0; omega⟩
  · refine ⟨AllOk.app (A := [_]) ⟨sg_one (by decide), trivial⟩ (AllOk.app (ok_rep _ _) ⟨sg_one (by decide), trivial⟩), ?_⟩
    show tokN (List.replicate _ _ ++ [_]) + 1 ≤ _
    rw [tokN_app, tokN_rep]; show 0 + 1 + 1 ≤ _
    omega
  · obtain ⟨⟨a, rfl⟩, rfl⟩ : (isName q = true ∧ z = 0) ∧ s = [] := by simpa [fieldsP] using hf
    exact ⟨⟨sg_one (by decide), name_ok a, sg_one (by decide), sg_one (by decide), trivial⟩, by show 4 ≤ 7 + 1; omega⟩
  · obtain ⟨⟨a, rfl⟩, rfl⟩ : (isName q = true ∧ z = 0) ∧ s = [] := by simpa [fieldsP] using hf
    exact ⟨⟨name_ok a, sg_one (by decide), sg_one (by decide), trivial⟩, by show 3 ≤ 7 + 1; omega⟩
  · exact ⟨⟨sg_one (by decide), sg_one (by decide), sg_one (by decide), sg_one (by decide), trivial⟩, by show 4 ≤ 7 + 3; omega⟩
  · refine ⟨AllOk.app (A := [_, _, _]) ⟨sg_one (by decide), trivial⟩ ?_, ?_⟩
    · by_cases h : 2 < d
      · rw [if_pos h]; exact ⟨sg_one (by decide), trivial⟩
      · rw [if_neg h]; trivial
    · show tokN ([_, _, _] ++ (if 2 < d then [sg [101, 108, 115, 101], PSy.nd .blk] else [])) ≤ _
      rw [tokN_app]; by_cases h : 2 < d
      · rw [if_pos h]; show 1 + 1 ≤ _; omega
      · rw [if_neg h]; show 1 + 0 ≤ _; omega
  · exact ⟨⟨sg_one (by decide), trivial⟩, by show 1 ≤ 7 + 2; omega⟩
  · exact ⟨⟨sg_one (by decide), sg_one (by decide), trivial⟩, by show 2 ≤ 7 + 0; omega⟩
  · exact ⟨⟨sg_one (by decide), sg_one (by decide), trivial⟩, by show 2 ≤ 7 + 0; omega⟩
  · exact ⟨⟨sg_one (by decide), sg_one (by decide), trivial⟩, by show 2 ≤ 7 + 1; omega⟩
  · exact ⟨⟨sg_one (by decide), sg_one (by decide), trivial⟩, by show 2 ≤ 7 + 1; omega⟩
  · exact ⟨⟨sg_one (by decide), sg_one (by decide), trivial⟩, by show 2 ≤ 7 + 1; omega⟩
  · exact ⟨⟨sg_one (by decide), sg_one (by decide), trivial⟩, by show 2 ≤ 7 + 0; omega⟩
  · exact ⟨⟨sg_one (by decide), trivial⟩, by show 1 ≤ 7 + 1; omega⟩
  · exact ⟨⟨sg_one (by decide), trivial⟩, by show 1 ≤ 7 + 0; omega⟩
  · obtain ⟨⟨rfl, hz⟩, rfl⟩ : (q = [] ∧ 0 ≤ z) ∧ s = [] := by simpa [fieldsP] using hf
    exact ⟨⟨int_ok hz hn, trivial⟩, by show 1 ≤ 7 + 0; omega⟩
  · obtain ⟨⟨rfl, rfl⟩, hz⟩ : (q = [] ∧ z = 0) ∧ (s.length : Int) ≤ 1024 := by simpa [fieldsP] using hf
    exact ⟨⟨text_ok (by show s.length ≤ 1024; omega), trivial⟩, by show 1 ≤ 7 + 0; omega⟩
  · obtain ⟨⟨a, rfl⟩, rfl⟩ : (isName q = true ∧ z = 0) ∧ s = [] := by simpa [fieldsP] using hf
    exact ⟨⟨name_ok a, trivial⟩, by show 1 ≤ 7 + 0; omega⟩
  · refine ⟨ok_lst .ex (d.toNat - 1), ?_⟩
    show tokN (lstX .ex (d.toNat - 1)) ≤ 7 + ((cats (lstX .ex (d.toNat - 1))).length + 1)
    rw [cats_lst, List.length_replicate]; have := tokN_lst .ex (d.toNat - 1); omega
  · obtain ⟨⟨a, rfl⟩, b⟩ : (isName q = true ∧ z = 0) ∧ isName s = true := by simpa [fieldsP] using hf
    refine ⟨AllOk.app (A := [_, _, _]) ⟨name_ok a, sg_one (by decide), name_ok b, trivial⟩ (ok_lst _ _), ?_⟩; show tokN ([_, _, _] ++ lstX .ex d.toNat) ≤ 7 + (cats ([_, _, _] ++ lstX .ex d.toNat)).length
    rw [tokN_app, cats_app, cats_lst]; have := tokN_lst .ex d.toNat; simp [tokN, cats]
    omega
  · refine ⟨AllOk.app (A := [_]) ⟨sg_one (by decide), trivial⟩ (ok_fnX _), ?_⟩
    show tokN (fnX d.toNat) + 1 ≤ 7 + (cats (fnX d.toNat)).length
    rw [cats_fn]; have := tokN_fn d.toNat; simp
    omega
  · exact ⟨⟨sg_one (by decide), sg_one (by decide), trivial⟩, by show 2 ≤ 7 + 0; omega⟩
  · exact ⟨⟨sg_one (by decide), sg_one (by decide), trivial⟩, by show 2 ≤ 7 + 2; omega⟩
  · obtain ⟨⟨rfl, rfl⟩, hb⟩ : (q = [] ∧ z = 0) ∧ isBin s = true := by simpa [fieldsP] using hf
    exact ⟨⟨sg_one (by decide), bin_ok hb, sg_one (by decide), trivial⟩, by show 3 ≤ 7 + 2; omega⟩
  · obtain ⟨⟨rfl, rfl⟩, hb⟩ : (q = [] ∧ z = 0) ∧ isUn s = true := by simpa [fieldsP] using hf
    exact ⟨⟨sg_one (by decide), un_ok hb, sg_one (by decide), trivial⟩, by show 3 ≤ 7 + 1; omega⟩
  · exact ⟨⟨sg_one (by decide), trivial⟩, by show 1 ≤ 7 + 0; omega⟩
  · exact ⟨⟨sg_one (by decide), sg_one (by decide), sg_one (by decide), trivial⟩, by show 3 ≤ 7 + 1; omega⟩
def FitN (l : List Nd) : Prop := ∀ x ∈ l, -9223372036854775808 ≤ x.n ∧ x.n < 9223372036854775808
theorem prn_ok {A : List PSy} {l l' : List Nd} {ts : List Tk} (h : Prn A l ts l') : FitN l → AllOk A → (∀ t ∈ ts, TokOk t) ∧ ts.length + 8 * l'.length + (cats A).length ≤ tokN A + 8 * l.length := by
  induction h with
  | nil l => exact fun _ _ => ⟨(fun t ht => by cases ht), by show 0 + 8 * l.length + 0 ≤ 0 + 8 * l.length; omega⟩
  | @tok A l ts l' t h ih =>
    intro hn ha; obtain ⟨i1, i2⟩ := ih hn ha.2; refine ⟨fun u hu => ?_, ?_⟩
    · rcases List.mem_cons.1 hu with rfl | hu
      · exact ha.1
      · exact i1 u hu
    · have e1 : (cats (PSy.tok t :: A)).length = (cats A).length := rfl
      have e2 : tokN (PSy.tok t :: A) = tokN A + 1 := rfl; rw [List.length_cons, e2, e1]; omega
  | @nd A l ts l' c x hc hk hf h ih =>
    intro hn ha; obtain ⟨a1, a2⟩ := kind_in hc; obtain ⟨e1, e2⟩ := exp_ok x hf (hn x (by simp)).2 a1 a2; obtain ⟨i1, i2⟩ := ih (fun y hy => hn y (by simp [hy])) (AllOk.app e1 ha); refine ⟨i1, ?_⟩; rw [cats_app, tokN_app, List.length_append] at i2; show _ + _ + ((cats A).length + 1) ≤ tokN A + 8 * (l.length + 1)
    omega
theorem join_len : ∀ (xs : List (List UInt8)) (k : Nat), (∀ x ∈ xs, x.length ≤ k) → (joinL xs).length ≤ xs.length * (k + 1)
  | [], k, _ => Nat.zero_le _
  | [x], k, h => by
    have := h x (by simp); show x.length ≤ 1 * (k + 1)
    omega
  | x :: y :: r, k, h => by
    have h1 := h x (by simp); have h2 := join_len (y :: r) k (fun z hz => h z (by simp [hz])); show (x ++ 32 :: joinL (y :: r)).length ≤ (r.length + 1 + 1) * (k + 1)
    rw [List.length_append, List.length_cons]; have e : (y :: r).length * (k + 1) = (r.length + 1) * (k + 1) := rfl; rw [e] at h2; rw [Nat.succ_mul (r.length + 1)]; omega
theorem written_ok {t : List Nd} {ts : List Tk} (h : Prn [.nd .mod] t ts []) (hn : FitN t) (hl : t.length ≤ 2000) : (∀ x ∈ ts, Lx.Good x) ∧ ts.length ≤ 16000 ∧ (∀ x ∈ ts, (Lx.written x).length ≤ 3000) ∧ (writeL ts).length ≤ 2 ^ 30 := by
  obtain ⟨h1, h2⟩ := prn_ok h hn trivial
  have hlen : ts.length ≤ 16000 := by
    have h3 : ts.length + 8 * 0 + 1 ≤ 0 + 8 * t.length := h2; omega
  refine ⟨fun x hx => (h1 x hx).1, hlen, fun x hx => (h1 x hx).2, ?_⟩; unfold writeL
  have := join_len (ts.map Lx.written) 3000 (fun y hy => by
    obtain ⟨x, hx, rfl⟩ := List.mem_map.1 hy
    exact (h1 x hx).2)
  rw [List.length_map] at this; have h4 : ts.length * (3000 + 1) ≤ 16000 * 3001 := Nat.mul_le_mul_right _ hlen; omega
end Go.Proofs.YtmljjpdodcpohaaGreatDoor.Sw

