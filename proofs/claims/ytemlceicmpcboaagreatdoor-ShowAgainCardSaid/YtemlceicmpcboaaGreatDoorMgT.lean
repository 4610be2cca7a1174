/- What is written of a right tree: each token stands for itself, and there are not many. No walk, and no condition but those that each states. The walks of slices.Grow and slices.Concat over nodes; of show's moduleReturning: their contracts. The walk of tree.Sub where the slice's nodes are not the law's own: its contract. A slice of nodes as it came in, with what its numbers are within; the walk of the document's Light. The numbers of a tree that the machine reads are within those of its tokens. The walk of the document's Same of tokens, where they are alike: its contract. No condition but those that each states. -/
import Derived.Test.YtemlceicmpcboaaGreatDoorMgR
import Derived.Test.YtemlceicmpcboaaGreatDoorMgQ
import Derived.Test.YtemlceicmpcboaaGreatDoorMgF
import Derived.Lib.AppendZeros
import Derived.Laws.AppendOwnNone
import Derived.ChangeSlices
import Derived.Deep.Slices
import Derived.Deep.Fields
import Derived.ChangeSame
import Derived.Test.YtemlceicmpcboaaGreatDoorMgA
import Derived.Test.YtemlceicmpcboaaGreatDoorMgC
namespace Go.Proofs.YtemlceicmpcboaaGreatDoor.Sw
open Lx Tr Pa

/-- A token that stands for itself, and is not long. -/
def TokOk (t : Tk) : Prop := Lx.Good t ∧ (Lx.written t).length ≤ 3000

/-! digits -/
theorem dig_of {u : Nat} (h : u < 10) : (UInt8.ofNat (48 + u)).toNat = 48 + u := by
  rw [UInt8.toNat_ofNat']
  exact Nat.mod_eq_of_lt (by omega)
theorem digs_all : ∀ (f u : Nat), u < f → (∀ c ∈ Lib.decDigits u, isD c = true) ∧ numV (Lib.decDigits u) = u ∧ Lib.decDigits u ≠ [] ∧ (0 < u → (Lib.decDigits u).head? ≠ some 48)
  | 0, u, h => absurd h (Nat.not_lt_zero u)
  | f + 1, u, h => by
    by_cases hu : u < 10
    · have h1 := dig_of hu
      have hd : isD (UInt8.ofNat (48 + u)) = true := by unfold isD rD; rw [h1]; simp; omega
      rw [Lib.decDigits_one hu]
      refine ⟨fun c hc => by rw [List.mem_singleton.1 hc]; exact hd, ?_, by simp, fun h0 he => ?_⟩
      · show 0 * 10 + ((UInt8.ofNat (48 + u)).toNat - 48) = u
        rw [h1]; omega
      · have he' : UInt8.ofNat (48 + u) = 48 := Option.some.inj he
        rw [he'] at h1
        have : (48 : UInt8).toNat = 48 := rfl
        omega
    · obtain ⟨a1, a2, a3, a4⟩ := digs_all f (u / 10) (by omega)
      have h1 := dig_of (u := u % 10) (by omega)
      have hd : isD (UInt8.ofNat (48 + u % 10)) = true := by unfold isD rD; rw [h1]; simp; omega
      rw [Lib.decDigits, dif_neg hu]
      refine ⟨fun c hc => ?_, ?_, by simp, fun _ he => ?_⟩
      · rcases List.mem_append.1 hc with hc | hc
        · exact a1 c hc
        · rw [List.mem_singleton.1 hc]; exact hd
      · unfold numV at a2 ⊢
        rw [List.foldl_append, a2]
        show u / 10 * 10 + ((UInt8.ofNat (48 + u % 10)).toNat - 48) = u
        rw [h1]; omega
      · refine a4 (by omega) ?_
        cases hl : Lib.decDigits (u / 10) with
        | nil => exact absurd hl a3
        | cons c r => rw [hl] at he; exact he
theorem int_ok {n : Int} (h0 : 0 ≤ n) (h1 : n < 9223372036854775808) : TokOk (inT n) := by
  obtain ⟨m, rfl⟩ : ∃ m : Nat, n = (m : Int) := ⟨n.toNat, by omega⟩
  have e : Lib.itoa (m : Int) = Lib.decDigits m := by unfold Lib.itoa; rw [if_neg (by omega), Int.toNat_natCast]
  obtain ⟨a1, a2, a3, a4⟩ := digs_all (m + 1) m (Nat.lt_succ_self m)
  have hlen : (Lib.decDigits m).length ≤ 20 := by
    rw [Lib.decDigits_length]
    have : Lib.nDigits m ≤ 19 := by
      rcases Nat.eq_zero_or_pos m with h | h
      · subst h; rw [Lib.nDigits_small (by decide)]; decide
      · have h2 := (Lib.numDigits_eq m h (by omega))
        have h3 := Lib.lt_pow_nDigits m
        by_cases hle : Lib.nDigits m ≤ 19
        · exact hle
        · exfalso
          have h4 : 10 ^ 19 ≤ m := by
            have h5 := h2.2
            have h6 := h2.1
            have h7 : Lib.l10 (Lib.bitLen m) = 19 := by split at h6 <;> omega
            rw [h7] at h6
            split at h6
            · rename_i h8; exact h8
            · omega
          omega
    omega
  unfold inT
  rw [e]
  cases hl : Lib.decDigits m with
  | nil => exact absurd hl a3
  | cons c r =>
    rw [hl] at a1 a2 a4 hlen
    have hc := a1 c (by simp)
    have hspan : spanN isD (c :: r) = (c :: r).length := (spanN_full isD _).2 (by rw [List.all_eq_true]; exact a1)
    have hisL : isL c = false := by
      have := dig hc
      unfold isL rL; simp; omega
    have hnum : numL (c :: r) = some m := by
      unfold numL
      have hno : ¬(1 < (c :: r).length ∧ (c :: r).head? = some 48) := fun ⟨k1, k2⟩ => by
        by_cases hm : 0 < m
        · exact a4 hm k2
        · have h0 : m = 0 := by omega
          subst h0
          rw [Lib.decDigits_one (by decide)] at hl
          cases hl
          simp at k1
      rw [if_neg hno, a2, if_pos (by omega)]
    have hone : oneL (c :: r) = .tok 2 (c :: r) m (c :: r).length := by
      rw [oneL, if_neg (by rw [hisL]; decide), if_pos hc, hspan]
      unfold intOf'
      rw [List.take_length, hnum]
    obtain ⟨g1, g2⟩ := good_of (skip_letter (.inr (.inl hc)) r) hone 0
    exact ⟨g1, Nat.le_trans g2 (by have : (c :: r).length ≤ 20 := hlen; omega)⟩
theorem name_ok {q : List UInt8} (h : isName q = true) : TokOk (nmT q) := by
  obtain ⟨c, r, rfl, h1, h2, h3, h4⟩ := isName_parts h
  have hone : oneL (c :: r) = .tok 1 (c :: r) 0 (c :: r).length := by
    rw [oneL, if_pos h2, h3]
    unfold wordOf
    rw [List.take_length, if_neg (by rw [h4]; decide), if_neg (by omega)]
  obtain ⟨g1, g2⟩ := good_of (skip_letter (.inl h2) r) hone 0
  exact ⟨g1, Nat.le_trans g2 (by omega)⟩
theorem text_ok {q : List UInt8} (h : q.length ≤ 1024) : TokOk (txT q) := by
  have hone := oneL_quote q []
  rw [List.append_nil] at hone
  have hq : quoteL q = 34 :: (q.flatMap escL ++ [34]) := rfl
  have hlen : (quoteL q).length ≤ 3000 := by
    rw [quoteL_length]
    have : ∀ l : List UInt8, (l.flatMap escL).length ≤ 2 * l.length := by
      intro l
      induction l with
      | nil => exact Nat.le_refl _
      | cons c l ih =>
        rw [List.flatMap_cons, List.length_append, List.length_cons]
        have := esc_len c
        omega
    have := this q
    omega
  rw [hq] at hone
  obtain ⟨g1, g2⟩ := good_of (skip_letter (.inr (.inr rfl)) _) hone 0
  exact ⟨g1, by rw [← hq] at g2; exact Nat.le_trans g2 hlen⟩

/-- A sign that stands for itself. -/
def okS (q : List UInt8) : Bool := match q with
  | [] => false
  | c :: r => skipN false (c :: r) == 0 && decide (q.length ≤ 100) && (match oneL (c :: r) with
    | .tok k t n _ => (k : Int) == (if isKey q then 5 else 4) && t == q && n == 0 && k != 3
    | _ => false)
theorem sgn_ok {q : List UInt8} (h : okS q = true) : TokOk (sgn q) := by
  unfold okS at h
  cases q with
  | nil => cases h
  | cons c r =>
    simp only [Bool.and_eq_true, beq_iff_eq, decide_eq_true_eq] at h
    obtain ⟨⟨h1, h2⟩, h3⟩ := h
    cases ho : oneL (c :: r) with
    | bad e => rw [ho] at h3; cases h3
    | tok k t n len =>
      rw [ho] at h3
      simp only [Bool.and_eq_true, beq_iff_eq, bne_iff_ne] at h3
      obtain ⟨⟨⟨h4, h5⟩, h6⟩, h7⟩ := h3
      subst h5; subst h6
      obtain ⟨g1, g2⟩ := good_of h1 ho 0
      have e : (⟨(k : Int), c :: r, ((0 : Nat) : Int), 0⟩ : Tk) = sgn (c :: r) := by unfold sgn; rw [h4]; rfl
      rw [e] at g1
      refine ⟨g1, ?_⟩
      have hw : Lx.written (sgn (c :: r)) = c :: r := by
        unfold Lx.written
        refine if_neg ?_
        unfold sgn
        simp only
        split <;> decide
      rw [hw]
      have : (c :: r).length ≤ 100 := h2
      omega
def sgAll : List (List UInt8) := [[109, 111, 100, 117, 108, 101], [59], [117, 115, 101], [46], [47], [102, 110], [123], [125], [108, 101, 116], [61], [91], [93], [105, 102], [101, 108, 115, 101], [119, 104, 105, 108, 101], [98, 114, 101, 97, 107], [99, 111, 110, 116, 105, 110, 117, 101], [114, 101, 116, 117, 114, 110], [112, 117, 116], [101, 109, 105, 116], [121, 105, 101, 108, 100], [110, 105, 108], [40], [41], [44], [115, 116, 97, 116, 101], [115, 112, 97, 119, 110]]
theorem sg_all_ok : (sgAll.all okS && binList.all okS && unList.all okS) = true := by decide +kernel
theorem sg_one {q : List UInt8} (h : q ∈ sgAll) : TokOk (sgn q) := by
  have := sg_all_ok
  rw [Bool.and_eq_true, Bool.and_eq_true] at this
  exact sgn_ok (List.all_eq_true.1 this.1.1 q h)
theorem bin_ok {q : List UInt8} (h : isBin q = true) : TokOk (sgn q) := by
  have := sg_all_ok
  rw [Bool.and_eq_true, Bool.and_eq_true] at this
  exact sgn_ok (List.all_eq_true.1 this.1.2 q ((isBin_iff q).1 h))
theorem un_ok {q : List UInt8} (h : isUn q = true) : TokOk (sgn q) := by
  have := sg_all_ok
  rw [Bool.and_eq_true, Bool.and_eq_true] at this
  exact sgn_ok (List.all_eq_true.1 this.2 q ((isUn_iff q).1 h))

/-! what is to be Lx.written -/
def AllOk : List PSy → Prop
  | [] => True
  | .tok t :: A => TokOk t ∧ AllOk A
  | .nd _ :: A => AllOk A
theorem AllOk.app : ∀ {A B : List PSy}, AllOk A → AllOk B → AllOk (A ++ B)
  | [], _, _, h => h
  | .tok _ :: _, _, h, k => ⟨h.1, AllOk.app h.2 k⟩
  | .nd _ :: A, _, h, k => AllOk.app (A := A) h k
theorem ok_rep (c : Cat) : ∀ n, AllOk (List.replicate n (.nd c))
  | 0 => trivial
  | n + 1 => by rw [List.replicate_succ]; exact ok_rep c n
theorem ok_sep (c : Cat) : ∀ n, AllOk (sepX c n)
  | 0 => trivial
  | n + 1 => ⟨sg_one (by decide), ok_sep c n⟩
theorem ok_lst (c : Cat) : ∀ n, AllOk (lstX c n)
  | 0 => ⟨sg_one (by decide), sg_one (by decide), trivial⟩
  | n + 1 => ⟨sg_one (by decide), AllOk.app (ok_sep c n) ⟨sg_one (by decide), trivial⟩⟩
theorem ok_fnX (n : Nat) : AllOk (fnX n) := AllOk.app (ok_lst _ _) trivial
/-- How many tokens. -/
def tokN : List PSy → Nat
  | [] => 0
  | .tok _ :: A => tokN A + 1
  | .nd _ :: A => tokN A
theorem tokN_app : ∀ A B : List PSy, tokN (A ++ B) = tokN A + tokN B
  | [], _ => (Nat.zero_add _).symm
  | .tok _ :: A, B => by show tokN (A ++ B) + 1 = tokN A + 1 + tokN B; rw [tokN_app A B]; omega
  | .nd _ :: A, B => tokN_app A B
theorem tokN_rep (c : Cat) : ∀ n, tokN (List.replicate n (.nd c)) = 0
  | 0 => rfl
  | n + 1 => by rw [List.replicate_succ]; exact tokN_rep c n
theorem tokN_sep (c : Cat) : ∀ n, tokN (sepX c n) = n
  | 0 => rfl
  | n + 1 => by show tokN (sepX c n) + 1 = n + 1; rw [tokN_sep c n]
theorem tokN_lst (c : Cat) : ∀ n, tokN (lstX c n) ≤ n + 2
  | 0 => Nat.le_refl _
  | n + 1 => by
    show tokN (sepX c n ++ [sg [41]]) + 1 ≤ _
    rw [tokN_app, tokN_sep]
    show n + 1 + 1 ≤ _
    omega
theorem tokN_fn (k : Nat) : tokN (fnX k) ≤ (k - 1) + 2 := by
  unfold fnX
  rw [tokN_app]
  exact tokN_lst _ _

set_option maxHeartbeats 2000000 in
/-- A node's tokens. -/
theorem exp_ok (x : Nd) (hf : fieldsP x = true) (hn : x.n < 9223372036854775808) (h1 : 1 ≤ x.kind) (h2 : x.kind ≤ 30) : AllOk (expX x) ∧ tokN (expX x) ≤ 7 + (cats (expX x)).length := by
  obtain ⟨k, d, q, z, s⟩ := x
  simp only at h1 h2 hn
  have hk : ∃ m : Nat, m < 31 ∧ k = (m : Int) := ⟨k.toNat, by omega, by omega⟩
  obtain ⟨m, hm31, rfl⟩ := hk
  rcases (show m = 1 ∨ m = 2 ∨ m = 3 ∨ m = 4 ∨ m = 5 ∨ m = 6 ∨ m = 7 ∨ m = 8 ∨ m = 9 ∨ m = 10 ∨ m = 11 ∨ m = 12 ∨ m = 13 ∨ m = 14 ∨ m = 15 ∨ m = 16 ∨ m = 17 ∨ m = 18 ∨ m = 19 ∨ m = 20 ∨ m = 21 ∨ m = 22 ∨ m = 23 ∨ m = 24 ∨ m = 25 ∨ m = 26 ∨ m = 27 ∨ m = 28 ∨ m = 29 ∨ m = 30 by omega) with rfl | rfl | rfl | rfl | rfl | rfl | rfl | rfl | rfl | rfl | rfl | rfl | rfl | rfl | rfl | rfl | rfl | rfl | rfl | rfl | rfl | rfl | rfl | rfl | rfl | rfl | rfl | rfl | rfl | rfl
  · obtain ⟨⟨⟨a, hz⟩, hz2⟩, rfl⟩ : ((isName q = true ∧ 1 ≤ z) ∧ z ≤ 2147483647) ∧ s = [] := by simpa [fieldsP] using hf
    refine ⟨AllOk.app (A := [_, _, _, _]) ⟨sg_one (by decide), name_ok a, int_ok (by show 0 ≤ z; omega) hn, sg_one (by decide), trivial⟩ (ok_rep _ _), ?_⟩
    show tokN ([_, _, _, _] ++ List.replicate _ _) ≤ _
    rw [tokN_app, tokN_rep]
    show 4 + 0 ≤ _
    omega
  · obtain ⟨⟨⟨a, hz⟩, hz2⟩, b⟩ : ((isName q = true ∧ 0 ≤ z) ∧ z ≤ 8) ∧ isName s = true := by simpa [fieldsP] using hf
    exact ⟨⟨sg_one (by decide), name_ok a, sg_one (by decide), name_ok b, sg_one (by decide), int_ok hz hn, sg_one (by decide), trivial⟩, by show 7 ≤ 7 + 0; omega⟩
  · obtain ⟨⟨a, rfl⟩, rfl⟩ : (isName q = true ∧ z = 0) ∧ s = [] := by simpa [fieldsP] using hf
    refine ⟨AllOk.app (A := [_, _]) ⟨sg_one (by decide), name_ok a, trivial⟩ (ok_fnX _), ?_⟩
    show tokN ([_, _] ++ fnX d.toNat) ≤ 7 + (cats ([_, _] ++ fnX d.toNat)).length
    rw [tokN_app, cats_app, cats_fn]
    have := tokN_fn d.toNat
    simp [tokN, cats]
    omega
  · obtain ⟨⟨a, rfl⟩, rfl⟩ : (isName q = true ∧ z = 0) ∧ s = [] := by simpa [fieldsP] using hf
    exact ⟨⟨name_ok a, trivial⟩, by show 1 ≤ 7 + 0; omega⟩
  · refine ⟨AllOk.app (A := [_]) ⟨sg_one (by decide), trivial⟩ (AllOk.app (ok_rep _ _) ⟨sg_one (by decide), trivial⟩), ?_⟩
    show tokN (List.replicate _ _ ++ [_]) + 1 ≤ _
    rw [tokN_app, tokN_rep]
    show 0 + 1 + 1 ≤ _
    omega
  · obtain ⟨⟨a, rfl⟩, rfl⟩ : (isName q = true ∧ z = 0) ∧ s = [] := by simpa [fieldsP] using hf
    exact ⟨⟨sg_one (by decide), name_ok a, sg_one (by decide), sg_one (by decide), trivial⟩, by show 4 ≤ 7 + 1; omega⟩
  · obtain ⟨⟨a, rfl⟩, rfl⟩ : (isName q = true ∧ z = 0) ∧ s = [] := by simpa [fieldsP] using hf
    exact ⟨⟨name_ok a, sg_one (by decide), sg_one (by decide), trivial⟩, by show 3 ≤ 7 + 1; omega⟩
  · exact ⟨⟨sg_one (by decide), sg_one (by decide), sg_one (by decide), sg_one (by decide), trivial⟩, by show 4 ≤ 7 + 3; omega⟩
  · refine ⟨AllOk.app (A := [_, _, _]) ⟨sg_one (by decide), trivial⟩ ?_, ?_⟩
    · by_cases h : 2 < d
      · rw [if_pos h]; exact ⟨sg_one (by decide), trivial⟩
      · rw [if_neg h]; trivial
    · show tokN ([_, _, _] ++ (if 2 < d then [sg [101, 108, 115, 101], PSy.nd .blk] else [])) ≤ _
      rw [tokN_app]
      by_cases h : 2 < d
      · rw [if_pos h]; show 1 + 1 ≤ _; omega
      · rw [if_neg h]; show 1 + 0 ≤ _; omega
  · exact ⟨⟨sg_one (by decide), trivial⟩, by show 1 ≤ 7 + 2; omega⟩
  · exact ⟨⟨sg_one (by decide), sg_one (by decide), trivial⟩, by show 2 ≤ 7 + 0; omega⟩
  · exact ⟨⟨sg_one (by decide), sg_one (by decide), trivial⟩, by show 2 ≤ 7 + 0; omega⟩
  · exact ⟨⟨sg_one (by decide), sg_one (by decide), trivial⟩, by show 2 ≤ 7 + 1; omega⟩
  · exact ⟨⟨sg_one (by decide), sg_one (by decide), trivial⟩, by show 2 ≤ 7 + 1; omega⟩
  · exact ⟨⟨sg_one (by decide), sg_one (by decide), trivial⟩, by show 2 ≤ 7 + 1; omega⟩
  · exact ⟨⟨sg_one (by decide), sg_one (by decide), trivial⟩, by show 2 ≤ 7 + 0; omega⟩
  · exact ⟨⟨sg_one (by decide), trivial⟩, by show 1 ≤ 7 + 1; omega⟩
  · exact ⟨⟨sg_one (by decide), trivial⟩, by show 1 ≤ 7 + 0; omega⟩
  · obtain ⟨⟨rfl, hz⟩, rfl⟩ : (q = [] ∧ 0 ≤ z) ∧ s = [] := by simpa [fieldsP] using hf
    exact ⟨⟨int_ok hz hn, trivial⟩, by show 1 ≤ 7 + 0; omega⟩
  · obtain ⟨⟨rfl, rfl⟩, hz⟩ : (q = [] ∧ z = 0) ∧ (s.length : Int) ≤ 1024 := by simpa [fieldsP] using hf
    exact ⟨⟨text_ok (by show s.length ≤ 1024; omega), trivial⟩, by show 1 ≤ 7 + 0; omega⟩
  · obtain ⟨⟨a, rfl⟩, rfl⟩ : (isName q = true ∧ z = 0) ∧ s = [] := by simpa [fieldsP] using hf
    exact ⟨⟨name_ok a, trivial⟩, by show 1 ≤ 7 + 0; omega⟩
  · refine ⟨ok_lst .ex (d.toNat - 1), ?_⟩
    show tokN (lstX .ex (d.toNat - 1)) ≤ 7 + ((cats (lstX .ex (d.toNat - 1))).length + 1)
    rw [cats_lst, List.length_replicate]
    have := tokN_lst .ex (d.toNat - 1)
    omega
  · obtain ⟨⟨a, rfl⟩, b⟩ : (isName q = true ∧ z = 0) ∧ isName s = true := by simpa [fieldsP] using hf
    refine ⟨AllOk.app (A := [_, _, _]) ⟨name_ok a, sg_one (by decide), name_ok b, trivial⟩ (ok_lst _ _), ?_⟩
    show tokN ([_, _, _] ++ lstX .ex d.toNat) ≤ 7 + (cats ([_, _, _] ++ lstX .ex d.toNat)).length
    rw [tokN_app, cats_app, cats_lst]
    have := tokN_lst .ex d.toNat
    simp [tokN, cats]
    omega
  · refine ⟨AllOk.app (A := [_]) ⟨sg_one (by decide), trivial⟩ (ok_fnX _), ?_⟩
    show tokN (fnX d.toNat) + 1 ≤ 7 + (cats (fnX d.toNat)).length
    rw [cats_fn]
    have := tokN_fn d.toNat
    simp
    omega
  · exact ⟨⟨sg_one (by decide), sg_one (by decide), trivial⟩, by show 2 ≤ 7 + 0; omega⟩
  · exact ⟨⟨sg_one (by decide), sg_one (by decide), trivial⟩, by show 2 ≤ 7 + 2; omega⟩
  · obtain ⟨⟨rfl, rfl⟩, hb⟩ : (q = [] ∧ z = 0) ∧ isBin s = true := by simpa [fieldsP] using hf
    exact ⟨⟨sg_one (by decide), bin_ok hb, sg_one (by decide), trivial⟩, by show 3 ≤ 7 + 2; omega⟩
  · obtain ⟨⟨rfl, rfl⟩, hb⟩ : (q = [] ∧ z = 0) ∧ isUn s = true := by simpa [fieldsP] using hf
    exact ⟨⟨sg_one (by decide), un_ok hb, sg_one (by decide), trivial⟩, by show 3 ≤ 7 + 1; omega⟩
  · exact ⟨⟨sg_one (by decide), trivial⟩, by show 1 ≤ 7 + 0; omega⟩
  · exact ⟨⟨sg_one (by decide), sg_one (by decide), sg_one (by decide), trivial⟩, by show 3 ≤ 7 + 1; omega⟩

/-- Numbers that an int64 can be. -/
def FitN (l : List Nd) : Prop := ∀ x ∈ l, -9223372036854775808 ≤ x.n ∧ x.n < 9223372036854775808
theorem prn_ok {A : List PSy} {l l' : List Nd} {ts : List Tk} (h : Prn A l ts l') : FitN l → AllOk A → (∀ t ∈ ts, TokOk t) ∧ ts.length + 8 * l'.length + (cats A).length ≤ tokN A + 8 * l.length := by
  induction h with
  | nil l => exact fun _ _ => ⟨(fun t ht => by cases ht), by show 0 + 8 * l.length + 0 ≤ 0 + 8 * l.length; omega⟩
  | @tok A l ts l' t h ih =>
    intro hn ha
    obtain ⟨i1, i2⟩ := ih hn ha.2
    refine ⟨fun u hu => ?_, ?_⟩
    · rcases List.mem_cons.1 hu with rfl | hu
      · exact ha.1
      · exact i1 u hu
    · have e1 : (cats (PSy.tok t :: A)).length = (cats A).length := rfl
      have e2 : tokN (PSy.tok t :: A) = tokN A + 1 := rfl
      rw [List.length_cons, e2, e1]
      omega
  | @nd A l ts l' c x hc hk hf h ih =>
    intro hn ha
    obtain ⟨a1, a2⟩ := kind_in hc
    obtain ⟨e1, e2⟩ := exp_ok x hf (hn x (by simp)).2 a1 a2
    obtain ⟨i1, i2⟩ := ih (fun y hy => hn y (by simp [hy])) (AllOk.app e1 ha)
    refine ⟨i1, ?_⟩
    rw [cats_app, tokN_app, List.length_append] at i2
    show _ + _ + ((cats A).length + 1) ≤ tokN A + 8 * (l.length + 1)
    omega
theorem join_len : ∀ (xs : List (List UInt8)) (k : Nat), (∀ x ∈ xs, x.length ≤ k) → (joinL xs).length ≤ xs.length * (k + 1)
  | [], k, _ => Nat.zero_le _
  | [x], k, h => by
    have := h x (by simp)
    show x.length ≤ 1 * (k + 1)
    omega
  | x :: y :: r, k, h => by
    have h1 := h x (by simp)
    have h2 := join_len (y :: r) k (fun z hz => h z (by simp [hz]))
    show (x ++ 32 :: joinL (y :: r)).length ≤ (r.length + 1 + 1) * (k + 1)
    rw [List.length_append, List.length_cons]
    have e : (y :: r).length * (k + 1) = (r.length + 1) * (k + 1) := rfl
    rw [e] at h2
    rw [Nat.succ_mul (r.length + 1)]
    omega
/-- What is written of a right tree. -/
theorem written_ok {t : List Nd} {ts : List Tk} (h : Prn [.nd .mod] t ts []) (hn : FitN t) (hl : t.length ≤ 2000) : (∀ x ∈ ts, Lx.Good x) ∧ ts.length ≤ 16000 ∧ (∀ x ∈ ts, (Lx.written x).length ≤ 3000) ∧ (writeL ts).length ≤ 2 ^ 30 := by
  obtain ⟨h1, h2⟩ := prn_ok h hn trivial
  have hlen : ts.length ≤ 16000 := by
    have h3 : ts.length + 8 * 0 + 1 ≤ 0 + 8 * t.length := h2
    omega
  refine ⟨fun x hx => (h1 x hx).1, hlen, fun x hx => (h1 x hx).2, ?_⟩
  unfold writeL
  have := join_len (ts.map Lx.written) 3000 (fun y hy => by
    obtain ⟨x, hx, rfl⟩ := List.mem_map.1 hy
    exact (h1 x hx).2)
  rw [List.length_map] at this
  have h4 : ts.length * (3000 + 1) ≤ 16000 * 3001 := Nat.mul_le_mul_right _ hlen
  omega
/-- It is a text whose tree is that tree. -/
theorem show_goods {t : List Nd} {ts : List Tk} (hc : (checkL t).1 = 0) (h : Prn [.nd .mod] t ts []) (hn : FitN t) (hs : (writeL ts).length ≤ 8192) : ∃ L, scanL 0 (writeL ts) = .toks L ∧ Lx.Alike L ts ∧ To L (.run [.mod] [] 0) (.fin [t]) := by
  obtain ⟨h1, -⟩ := check_ok hc
  obtain ⟨g, -⟩ := written_ok h hn h1
  obtain ⟨L, h2, h3⟩ := write_scan ts g 0
  refine ⟨L, h2, h3, mod_read hc h (fun j u hu => ?_) ?_⟩
  · unfold Lx.Alike at h3
    have h4 := congrArg (fun l => l[j]?) h3
    simp only [List.getElem?_map, hu, Option.map_some] at h4
    rw [Nat.zero_add]
    cases hL : L[j]? with
    | none => rw [hL] at h4; cases h4
    | some v => rw [hL] at h4; exact ⟨v, hL, by simpa using h4⟩
  · have := congrArg List.length h3
    simpa using this

end Go.Proofs.YtemlceicmpcboaaGreatDoor.Sw
namespace Go.Proofs.YtemlceicmpcboaaGreatDoor.Sw
open Go.RowKit Go.Shelf Dk Lx Tr

theorem zc_size (z : Array Value) (n : Nat) : (Builtin.zeroCells z n).size = n * z.size := by simp [Builtin.zeroCells]

set_option maxHeartbeats 1000000 in
set_option maxRecDepth 100000 in
/-- A row of none with room for some. -/
theorem grow_nodes (n : Nat) (w : World) (h0 : 0 < n) (hn : n ≤ 10000) :
    Calls Tryz.prog 180 #[.slice none 0 0, .int .i64 (n : Int)] w fun e w' => ∃ g cap, e = .returned (.slice (some ⟨g, 0, none⟩) 0 cap) ∧ w'.ownsRow w.heap.size 29 5 (.slice (some ⟨g, 0, none⟩) 0 cap) 0 [] ∧ Below w.heap.size w w' := by
  obtain ⟨i0, hi0, hz0, hz1, hz2⟩ := info_parts n_info3
  have hz : i0.zero = some (.agg Nd.zero.cells.toArray) := by assumption
  have hby : i0.bytes = 56 := by assumption
  have hr := Lib.run_append_nil_zeros w 23 3 23 29 i0 _ .i64 .i64 Tryz.underlying23 Tryz.underlying3 hi0 hz n h0 (by omega) (by omega) (by rw [hby]; omega)
  have hc1 := grownCap_ge w n 0 29
  have hc2 := grownCap_le_maxLen w n 0 29 (by unfold maxLen; omega)
  have hpos : (0 : Int) < (n : Int) := by omega
  have v0 : ¬(n : Int) < 0 := by omega
  have hsz : (Builtin.zeroCells Nd.zero.cells.toArray n ++ Builtin.zeroCells Nd.zero.cells.toArray (grownCap w n 0 29 - n)).size = grownCap w n 0 29 * 5 := by
    rw [Array.size_append, zc_size, zc_size, show Nd.zero.cells.toArray.size = 5 from rfl, ← Nat.add_mul, Nat.add_sub_cancel' hc1]
  have HB : Hid (∀ cs : Array Value, Below w.heap.size w (w.drew.alloc (.cells cs 29))) := Lib.hid (fun cs => (Below.refl _ _).drew.alloc (Nat.le_refl _) _)
  have hs : (Value.agg Nd.zero.cells.toArray).cells = Nd.zero.cells.toArray := rfl
  rw [hs] at hr
  generalize Builtin.zeroCells Nd.zero.cells.toArray n ++ Builtin.zeroCells Nd.zero.cells.toArray (grownCap w n 0 29 - n) = cs at *
  have HO : Hid ((w.drew.alloc (.cells cs 29)).ownsRow w.heap.size 29 5 (.slice (some ⟨w.heap.size, 0, none⟩) 0 (grownCap w n 0 29)) 0 []) := Lib.hid ⟨rfl, .inr ⟨w.heap.size, _, cs, rfl, Nat.le_refl _, (by show (w.heap.push _)[w.heap.size]? = _; simp), Nat.zero_le _, hc2, hsz, by simp⟩⟩
  generalize grownCap w n 0 29 = cap at *
  clear hc2 hi0 hz0 hz1 hz2 hz hby
  have hcap : ¬ cap = 0 := by omega
  go_enter Tryz.func180, Tryz.ntmps180
  go_wp2_with (at_builtin; refine Lib.wpList_append_run _ rfl _ _ _ _ rfl _ _ rfl rfl _ _ hr ?_)
  go_ret
  exact ⟨_, _, rfl, HO.out, HB.out cs⟩

/-- What stands in a row goes behind what a row holds. -/
theorem nr_more {w W W7 : World} {v : Value} {l m : List Nd} {g cap n k : Nat} (hn : n = l.length) (hk : k = m.length) (h : NR w W v l) (hr : W7.ownsRow w.heap.size 29 5 (.slice (some ⟨g, 0, none⟩) (n + k) cap) (n + k) (ncells l ++ ncells m)) (hgr : W.grownBy W7 v.ownBlock) :
    NR w W7 (.slice (some ⟨g, 0, none⟩) (n + k) cap) (l ++ m) := by
  subst hn hk
  exact ⟨by rw [List.length_append, ncells_app]; exact hr, Tr.below_grown hgr h.below (fun k hk => (Tr.own_lo h.row k hk).1) h.below.size (Nat.le_refl _)⟩

set_option maxHeartbeats 4000000 in
set_option maxRecDepth 100000 in
/-- Two rows one behind the other; the second may be none. -/
theorem concat_nodes (a b : List Nd) (va vb : Value) (gs : Nat) (w : World) (ha : Nds w va a) (h1 : 0 < a.length) (hb : vb = .slice none 0 0 ∧ b = [] ∨ 0 < b.length ∧ Nds w vb b) (hl : a.length + b.length ≤ 10000)
    (hg : gs < w.heap.size) (hc : w.rangeAt gs 0 [va, vb]) :
    Calls Tryz.prog 143 #[.slice (some ⟨gs, 0, none⟩) 2 2] w fun e w' => ∃ v, e = .returned v ∧ NR w w' v (a ++ b) := by
  obtain ⟨i0, hi0, hz0, hz1, hz2⟩ := info_parts n_info3
  have hz : i0.zero = some (.agg Nd.zero.cells.toArray) := by assumption
  have GR := Lib.hid (fun W => grow_nodes (a.length + b.length) W (by omega) hl)
  obtain ⟨pa, ca, rfl, -, hfa, rfl | ⟨ga, oa, rfl, hga, hra⟩⟩ := ha
  · simp at h1
  have C0 : Hid (w.cell? ⟨gs, 0, none⟩ = some (.slice (some ⟨ga, oa, none⟩) a.length ca)) := Lib.hid (hc 0 _ rfl)
  have C1 : Hid (w.cell? ⟨gs, 1, none⟩ = some vb) := Lib.hid (hc 1 _ rfl)
  obtain ⟨vn, pb, cb, rfl⟩ : ∃ vn pb cb, vb = .slice pb vn cb := by
    rcases hb with ⟨rfl, -⟩ | ⟨-, p, c, rfl, -⟩ <;> exact ⟨_, _, _, rfl⟩
  have hvn : vn = b.length := by
    rcases hb with ⟨h, rfl⟩ | ⟨-, p, c, h, -⟩ <;> cases h <;> rfl
  subst hvn
  have HBB := Lib.hid hb
  obtain ⟨na, hna⟩ : ∃ n, n = a.length := ⟨_, rfl⟩
  obtain ⟨nb, hnb⟩ : ∃ n, n = b.length := ⟨_, rfl⟩
  have HNA := Lib.hid hna
  have HNB := Lib.hid hnb
  rw [← hna] at C0 GR hl h1
  rw [← hnb] at C1 GR hl HBB
  have HRA := Lib.hid hra
  have q0 : (0 : Int) ≤ (na : Int) := by omega
  have q1 : ¬(na : Int) < 0 := by omega
  have q2 : ¬((na : Int) + (nb : Int)) < 0 := by omega
  clear hc hb hna hnb hra hfa
  go_enter Tryz.func143, Tryz.ntmps143
  go_wp2
  go_loopw [3, 11] (fun vs vi wr => ∃ i : Nat, i ≤ 2 ∧ vi = .int .i64 (i : Int) ∧ vs = .int .i64 (if i = 0 then 0 else if i = 1 then (na : Int) else (na : Int) + (nb : Int)) ∧ wr = w) (fun _ vi _ => 2 - (intOf vi).toNat)
  case atStart => exact ⟨0, by omega, rfl, rfl, rfl⟩
  case round =>
    obtain ⟨i, hi, rfl, rfl, rfl⟩ := hrel
    obtain rfl | rfl | rfl : i = 0 ∨ i = 1 ∨ i = 2 := by omega
    · have c0 := C0.out
      clear C1 GR HBB HRA
      go_wp2
      go_roundw
      case rel => exact ⟨1, by omega, by rfl, by simp, by trivial⟩
      case measure => simp [intOf]
    · have c1 := C1.out
      clear C0 GR HBB HRA
      go_wp2
      go_roundw
      case rel => exact ⟨2, by omega, by rfl, by simp, by trivial⟩
      case measure => simp [intOf]
    · obtain ⟨w0, hw0⟩ : ∃ x, x = wr := ⟨_, rfl⟩
      subst hw0
      have GR2 := Lib.hid (GR.out w0)
      rw [Int.natCast_add] at GR2
      clear GR
      go_wp2_with fail
      refine GR2.out.mono ?_
      rintro e w1 ⟨g1, cap1, rfl, hrow1, hb1⟩
      have HR1 : Hid (NR w0 w1 (.slice (some ⟨g1, 0, none⟩) 0 cap1) []) := Lib.hid ⟨hrow1, hb1⟩
      clear hrow1 hb1 GR2
      go_wp2
      go_loopw [6, 27] (fun v6 vi w2 => ∃ i : Nat, i ≤ 2 ∧ vi = .int .i64 (i : Int) ∧ Hid (NR w0 w2 v6 (if i = 0 then [] else if i = 1 then a else a ++ b))) (fun _ vi _ => 2 - (intOf vi).toNat)
      case atStart => exact ⟨0, by omega, rfl, HR1⟩
      case round =>
        obtain ⟨i, hi, rfl, HR⟩ := hrel
        obtain rfl | rfl | rfl : i = 0 ∨ i = 1 ∨ i = 2 := by omega
        · have HR0 := Lib.hid (show NR w0 wr _ [] from HR.out)
          have c0 := (World.cell?_of_block (a := ⟨gs, 0, none⟩) (HR0.out.below.block gs hg)).trans C0.out
          have HNW : Hid (∀ j u, (ncells a)[j]? = some u → wr.cell? ((⟨ga, oa, none⟩ : Addr).add j) = some u) := Lib.hid (fun j u hu => by
            have := (World.cell?_of_block (a := ⟨ga, oa + j, none⟩) (HR0.out.below.block ga hga)).trans (HRA.out j u hu)
            rwa [← WideShapes.add_plain] at this)
          have HL5 : Hid ((ncells a).length = na * 5) := Lib.hid (by rw [ncells_length, HNA.out])
          have HON := Lib.hid (ncells_ones a)
          clear HR1 HR
          go_wp2_with (first
            | (refine wpList_append_lies _ rfl _ _ 23 rfl w0.heap.size 29 i0 _ 5 56 Tryz.underlying23 hi0 hz (by assumption) (by assumption) rfl (by decide) _ 0 [] rfl HR0.out.row ⟨ga, oa, none⟩ na ca (ncells a) rfl HL5.out HNW.out HON.out h1 (by unfold maxLen; omega) (by omega) HR0.out.below.size _ rfl ?_; intro g' cap W7 hrow hgr hgl hlt7))
          have HR2 := Lib.hid (nr_more (l := []) (m := a) rfl HNA.out HR0.out hrow hgr)
          clear hrow hgr hgl hlt7 HR0 HNW HL5 c0
          go_roundw
          case rel => exact ⟨1, by omega, by rfl, Lib.hid (by have := HR2.out; rw [List.nil_append, List.length_nil, Nat.zero_add] at this; exact this)⟩
          case measure => simp [intOf]
        · have HR0 := Lib.hid (show NR w0 wr _ a from HR.out)
          have c1 := (World.cell?_of_block (a := ⟨gs, 1, none⟩) (HR0.out.below.block gs hg)).trans C1.out
          have HO : Hid (wr.ownsRow w0.heap.size 29 5 _ na (ncells a)) := Lib.hid (by have := HR0.out.row; rw [← HNA.out] at this; exact this)
          rcases HBB.out with ⟨h, hb0⟩ | ⟨hpos, p, c, h, -, -, h0 | ⟨gb, ob, hp, hgb, hrb⟩⟩
          · rw [h] at c1
            have HB0 := Lib.hid hb0
            clear h HR1 HR HBB hb0
            go_wp2_with (refine wpList_append_own_none rfl _ _ 23 rfl w0.heap.size 29 i0 5 Tryz.underlying23 hi0 _ na (ncells a) rfl HO.out rfl ?_)
            go_roundw
            case rel => exact ⟨2, by omega, by rfl, Lib.hid (by have := HR0.out; rw [HB0.out]; simpa using this)⟩
            case measure => simp [intOf]
          · have := HNB.out; rw [h0] at this; simp at this; omega
          · simp only [Value.slice.injEq] at h
            obtain ⟨h, -, rfl⟩ := h
            subst hp
            subst h
            have HRB := Lib.hid hrb
            have HNW : Hid (∀ j u, (ncells b)[j]? = some u → wr.cell? ((⟨gb, ob, none⟩ : Addr).add j) = some u) := Lib.hid (fun j u hu => by
              have := (World.cell?_of_block (a := ⟨gb, ob + j, none⟩) (HR0.out.below.block gb hgb)).trans (HRB.out j u hu)
              rwa [← WideShapes.add_plain] at this)
            have HL5 : Hid ((ncells b).length = nb * 5) := Lib.hid (by rw [ncells_length, HNB.out])
            have HON := Lib.hid (ncells_ones b)
            clear HR1 HR HBB hrb
            go_wp2_with (first
              | (refine wpList_append_lies _ rfl _ _ 23 rfl w0.heap.size 29 i0 _ 5 56 Tryz.underlying23 hi0 hz (by assumption) (by assumption) rfl (by decide) _ na (ncells a) rfl HO.out ⟨gb, ob, none⟩ nb cb (ncells b) rfl HL5.out HNW.out HON.out hpos (by unfold maxLen; omega) (by omega) HR0.out.below.size _ rfl ?_; intro g' cap W7 hrow hgr hgl hlt7))
            have HR2 := Lib.hid (nr_more (l := a) (m := b) HNA.out HNB.out HR0.out hrow hgr)
            clear hrow hgr hgl hlt7 HR0 HNW HL5 c1
            go_roundw
            case rel => exact ⟨2, by omega, by rfl, HR2⟩
            case measure => simp [intOf]
        · have HR0 := Lib.hid (show NR w0 wr _ (a ++ b) from HR.out)
          clear HR HR1
          go_wp2
          go_ret
          exact ⟨_, rfl, HR0.out⟩

end Go.Proofs.YtemlceicmpcboaaGreatDoor.Sw
namespace Go.Proofs.YtemlceicmpcboaaGreatDoor.Sw
open Go.RowKit Dk Lx Tr

set_option maxHeartbeats 1000000 in
set_option maxRecDepth 100000 in
theorem clone_nodes (g o n c : Nat) (l : List Nd) (w : World) (hn : 0 < n) (hl : n = l.length) (hn2 : n ≤ 4000) (hr : w.rangeAt g o (ncells l)) (hg : g < w.heap.size) :
    Calls Tryz.prog 142 #[.slice (some ⟨g, o, none⟩) n c] w fun e w' => ∃ v, e = .returned v ∧ NR w w' v l := by
  have he := fun W => eql_slice_nil (P := Tryz.prog) 23 _ (some ⟨g, o, none⟩) n c Tryz.underlying23 W
  have hb := build_none 23 29 _ 5 56 Tryz.underlying23 n_info3 rfl (by decide) (by decide)
  obtain ⟨i0, hi0, hz0, hz1, hz2⟩ := info_parts n_info3
  have HL : Hid ((ncells l).length = n * 5) := Lib.hid (by rw [ncells_length, hl])
  have H1 := Lib.hid (ncells_ones l)
  have HOWN : Hid ((w.alloc (.cells #[] 29)).ownsRow w.heap.size 29 5 (.slice (some ⟨w.heap.size, 0, none⟩) 0 0) 0 []) := Lib.hid (World.ownsRow_lit w #[] 0 (Nat.le_refl _) (Nat.zero_le _) rfl)
  have HNW : Hid (∀ j u, (ncells l)[j]? = some u → (w.alloc (.cells #[] 29)).cell? ((⟨g, o, none⟩ : Addr).add j) = some u) := Lib.hid (fun j u hu => by
    rw [WideShapes.add_plain]
    exact (World.cell?_of_block (a := ⟨g, o + j, none⟩) (Below.heap_alloc w _ g hg)).trans (hr j u hu))
  have HLN := Lib.hid hl
  clear hr hl
  go_enter Tryz.func142, Tryz.ntmps142
  go_wp2_with (first
    | (refine wpList_append_lies _ rfl _ _ 23 rfl w.heap.size 29 i0 _ 5 56 Tryz.underlying23 hi0 hz0 hz1 hz2 rfl (by decide) _ 0 [] rfl HOWN.out ⟨g, o, none⟩ n c (ncells l) rfl HL.out HNW.out H1.out hn (by unfold maxLen; omega) (by omega) (by simp) (w.heap.size + 1) (by simp) ?_; intro g' cap W7 hrow hgr hgl hlt7))
  have hgr' : (w.alloc (.cells #[] 29)).grownBy W7 (some w.heap.size) := hgr
  have hbel : Below w.heap.size w W7 := Tr.below_grown hgr' ((Below.refl _ _).alloc (Nat.le_refl _) _) (fun k e => by cases e; exact Nat.le_refl _) (by simp) (Nat.le_refl _)
  rw [Nat.zero_add, List.nil_append] at hrow
  have HF : Hid (NR w W7 (.slice (some ⟨g', 0, none⟩) n cap) l) := Lib.hid ⟨by rw [← HLN.out]; exact hrow, hbel⟩
  clear hrow hgr hgl hgr' hlt7 hbel
  go_ret
  exact ⟨_, rfl, HF.out⟩

set_option maxHeartbeats 1000000 in
theorem sub_some (ts : List Nd) (p : Option Addr) (m c i n : Nat) (w : World) (hm : m = ts.length) (h : Nds w (.slice p m c) ts) (hl : ts.length ≤ 4000) (hn : endW 1 ((kidsOf ts).drop i) = some n) :
    Calls Tryz.prog 84 #[.slice p m c, .int .i64 (i : Int)] w fun e w' => SubOk ts (i : Int) w e w' := by
  have hle := endW_le _ _ _ hn
  rw [List.length_drop, kidsOf_len] at hle
  obtain ⟨p', c', e, hc, -, h0 | ⟨g, o, hp, hg, hr⟩⟩ := id h
  · subst h0; simp at hle; omega
  · simp only [Value.slice.injEq] at e
    obtain ⟨rfl, -, rfl⟩ := e
    subst hp
    have CE := Lib.hid (end_any ts (.slice (some ⟨g, o, none⟩) m c) (i : Int) w h (by omega))
    rw [endI_some hn] at CE
    have hsl := fun W => run_slice_mid g o m c i n (by omega) (by omega) (by omega) W
    have CC := Lib.hid (clone_nodes g (o + i * 5) n (c - i) ((ts.drop i).take n) w (by omega) (by rw [List.length_take, List.length_drop]; omega) (by omega) (ncells_part (by omega) hr) hg)
    have HR := Lib.hid (subL_some hn)
    have v0 : ¬(i : Int) + (n : Int) < 0 := by omega
    clear hn hr h hle hm
    generalize (i : Int) + (n : Int) = E at *
    go_enter Tryz.func84, Tryz.ntmps84
    go_wp2_with (first
      | (go_at_call 48; refine CE.out.mono ?_; rintro e w1 ⟨rfl, rfl⟩)
      | (go_at_call 142; refine CC.out.mono ?_; rintro e w2 ⟨v2, rfl, h2⟩; have HF := Lib.hid h2; clear h2))
    go_ret
    exact ⟨_, rfl, by rw [HR.out]; exact HF.out⟩

set_option maxHeartbeats 400000 in
theorem sub_none (ts : List Nd) (v : Value) (i : Int) (w : World) (h : Nds w v ts) (hl : ts.length ≤ 4000) (hn : endI (kidsOf ts) i = -1) :
    Calls Tryz.prog 84 #[v, .int .i64 i] w fun e w' => SubOk ts i w e w' := by
  have CE := Lib.hid (end_any ts v i w h (by omega))
  have HR := Lib.hid (subL_none hn)
  rw [hn] at CE
  clear hn h
  go_enter Tryz.func84, Tryz.ntmps84
  go_wp2_with (go_at_call 48; refine CE.out.mono ?_; rintro e w1 ⟨rfl, rfl⟩)
  go_ret
  exact ⟨_, rfl, by rw [HR.out]; exact NR.first w⟩

theorem sub_any (ts : List Nd) (v : Value) (i : Int) (w : World) (h : Nds w v ts) (hl : ts.length ≤ 4000) :
    Calls Tryz.prog 84 #[v, .int .i64 i] w fun e w' => SubOk ts i w e w' := by
  rcases endI_cases (kidsOf ts) i with h1 | ⟨k, n, rfl, h1, -, -, -⟩
  · exact sub_none ts v i w h hl h1
  · obtain ⟨p, c, rfl, -⟩ := id h
    exact sub_some ts p _ c k n w rfl h hl h1

end Go.Proofs.YtemlceicmpcboaaGreatDoor.Sw
namespace Go.Proofs.YtemlceicmpcboaaGreatDoor.Sw
open Go.RowKit Dk Lx Tr
open Go.ChangeShapes Go.WideShapes Go.Deep
section
set_option maxRecDepth 100000 in
/-- One node, as it was read. -/
theorem open_ndN {H : Type} {enc : TypeId × Value → H} {w : World} {n : Nat} {cs : List Value} {x : DataW H × List MemPlace}
    (h : DataW.trod enc Tryz.prog w 0 (fun _ => true) true n 29 cs = some x) : ∃ o : Nd, cs = o.cells ∧ o.kids ≤ 9223372036854775807 ∧ -9223372036854775808 ≤ o.n ∧ o.n < 9223372036854775808 := by
  obtain ⟨fs, hs, hsz, hone, hC, hty⟩ := nd_one
  obtain ⟨xs, m, _, _, hlen, hxl, hf⟩ := DataW.trod_struct hs h
  rw [hC] at hlen
  rw [hsz] at hxl
  have key : ∀ (i : Nat) (t : TypeId) (v : Value), (fs.map (·.type))[i]? = some t → cs[i]? = some v → i < 5 → ∃ y, DataW.trod enc Tryz.prog w 0 (fun _ => true) true m t [v] = some y := by
    intro i t v ht hv hi
    have hfi : fs[i]? = some (fs[i]'(by omega)) := Array.getElem?_eq_getElem (by omega)
    have e := hf i _ hfi
    obtain ⟨e1, e2⟩ := hone_of hone i _ hfi
    rw [Array.getElem?_map, hfi] at ht
    simp only [Option.map_some, Option.some.injEq] at ht
    have hil : i < cs.length := by omega
    have hd : (cs.drop i).take 1 = [v] := by
      rw [List.drop_eq_getElem_cons hil]
      rw [List.getElem?_eq_getElem hil] at hv
      simp only [Option.some.injEq] at hv
      rw [hv]; rfl
    rw [e1, e2, hd, ht, List.getElem?_eq_getElem (by omega)] at e
    exact ⟨_, e⟩
  rw [hty] at key
  match cs, hlen with
  | [c0, c1, c2, c3, c4], _ =>
    obtain ⟨y0, h0⟩ := key 0 _ c0 rfl rfl (by decide)
    obtain ⟨y1, h1⟩ := key 1 _ c1 rfl rfl (by decide)
    obtain ⟨y2, h2⟩ := key 2 _ c2 rfl rfl (by decide)
    obtain ⟨y3, h3⟩ := key 3 _ c3 rfl rfl (by decide)
    obtain ⟨y4, h4⟩ := key 4 _ c4 rfl rfl (by decide)
    obtain ⟨n0, e0, _, w0⟩ := DataW.trod_int Tryz.underlying3 h0
    obtain ⟨n1, e1, _, w1⟩ := DataW.trod_int Tryz.underlying3 h1
    obtain ⟨s, e2, _, w2⟩ := DataW.trod_string Tryz.underlying9 h2
    obtain ⟨n3, e3, _, w3⟩ := DataW.trod_int Tryz.underlying2 h3
    obtain ⟨s', e4, _, w4⟩ := DataW.trod_string Tryz.underlying9 h4
    cases e0; cases e1; cases e2; cases e3; cases e4
    have h5 : (decide (IntKind.i64.min ≤ n3) && decide (n3 ≤ IntKind.i64.max)) = true := w3
    rw [Bool.and_eq_true, decide_eq_true_iff, decide_eq_true_iff] at h5
    refine ⟨⟨n0, n1, s.data.toList, n3, s'.data.toList⟩, ?_, (by have := w1; simp [Lit.wf] at this; show n1 ≤ _; omega), h5.1, Int.lt_of_le_of_lt h5.2 (by decide)⟩
    unfold Nd.cells
    rw [strOf_self', strOf_self']

theorem gatherN (w : World) (b off : Nat) : ∀ n, (∀ j, j < n → ∃ o : Nd, w.rangeAt b (off + j * 5) o.cells ∧ o.kids ≤ 9223372036854775807 ∧ -9223372036854775808 ≤ o.n ∧ o.n < 9223372036854775808) → ∃ ts : List Nd, ts.length = n ∧ Fit ts ∧ FitN ts ∧ w.rangeAt b off (ncells ts)
  | 0, _ => ⟨[], rfl, (fun _ h => by cases h), (fun _ h => by cases h), fun j v hv => by simp [ncells] at hv⟩
  | n + 1, h => by
    obtain ⟨ts, hl, hf, hfn, hr⟩ := gatherN w b off n (fun j hj => h j (by omega))
    obtain ⟨o, ho, hof, hon⟩ := h n (Nat.lt_succ_self n)
    refine ⟨ts ++ [o], by rw [List.length_append, hl]; rfl, (fun x hx => by rcases List.mem_append.1 hx with h | h; exact hf x h; rw [List.mem_singleton.1 h]; exact hof), (fun x hx => by rcases List.mem_append.1 hx with h | h; exact hfn x h; rw [List.mem_singleton.1 h]; exact hon), fun j v hv => ?_⟩
    rw [ncells_app] at hv
    by_cases hj : j < (ncells ts).length
    · rw [List.getElem?_append_left hj] at hv
      exact hr j v hv
    · rw [List.getElem?_append_right (by omega)] at hv
      have := ho (j - (ncells ts).length) v (by simpa [ncells] using hv)
      rw [ncells_length, hl] at this hj
      rwa [show off + n * 5 + (j - n * 5) = off + j by omega] at this

set_option maxRecDepth 100000 in
/-- A slice of nodes, as it was read. -/
theorem open_ndsN {H : Type} {enc : TypeId × Value → H} {w : World} {b0 : Nat} {v : Value} {d : DataW H} {p : List MemPlace}
    (hv : Value.okWide Tryz.prog w .any b0 23 v) (h : DataW.Trod enc Tryz.prog w 0 (fun _ => true) true 23 v d p) : ∃ ts, Nds w v ts ∧ FitN ts := by
  have hlt : ∀ x ∈ p, x.block < w.heap.size := by obtain ⟨n, hn⟩ := h; exact DataW.trod_lt n _ _ _ hn
  obtain ⟨a0, len, cap, rfl⟩ := WideShapes.okWide_slice Tryz.underlying23 hv
  obtain ⟨fuel, hf⟩ := h
  obtain ⟨fs, hs, hsz, hone, hC, hty⟩ := nd_one
  rcases open_slice Tryz.underlying23 hf with ⟨hcs, hx⟩ | ⟨a, len', cap', m, n, D, Pl, hcs, _, hl, hmx, hm, hx, hi⟩
  · simp [Value.cells] at hcs
    obtain ⟨rfl, rfl, rfl⟩ := hcs
    exact ⟨[], ⟨_, _, rfl, Nat.zero_le _, (fun _ h => by cases h), .inl rfl⟩, fun _ h => by cases h⟩
  · simp [Value.cells] at hcs
    obtain ⟨rfl, rfl, rfl⟩ := hcs
    simp only [Prod.mk.injEq] at hx
    simp only [if_true] at hm
    by_cases hl0 : len = 0
    · subst hl0
      exact ⟨[], ⟨_, _, rfl, Nat.zero_le _, (fun _ h => by cases h), .inl rfl⟩, fun _ h => by cases h⟩
    · rw [hC] at hx hi
      obtain ⟨b, off, spot⟩ := a
      obtain ⟨cs0, hc0, _⟩ := hi 0 (by omega)
      obtain ⟨_, hlen0, hat0⟩ := World.cells?_some hc0
      have hspot : spot = none := by
        have h0 := hat0 0 (by decide)
        rw [List.getElem?_eq_getElem (by omega)] at h0
        simpa [Addr.add] using World.cell?_spot h0
      subst hspot
      have hbW : b < w.heap.size := hlt (.cell b off) (by rw [hx.2]; exact List.mem_append_left _ (MemPlace.mem_row.2 ⟨0, by omega, by simp⟩))
      obtain ⟨ts, hlen, hfit, hfn, hr⟩ := gatherN w b off len (fun j hj => by
        obtain ⟨cs, hc, ht⟩ := hi j (by omega)
        obtain ⟨o, rfl, hof, hon⟩ := open_ndN ht
        obtain ⟨_, hlen, hat⟩ := World.cells?_some hc
        refine ⟨o, fun q u hu => ?_, hof, hon⟩
        have hq : q < 5 := by have := (List.getElem?_eq_some_iff.1 hu).1; omega
        have := hat q hq
        rw [hu] at this
        rw [WideShapes.add_plain, WideShapes.add_plain] at this
        exact this)
      subst hlen
      exact ⟨ts, ⟨_, _, rfl, hl, hfit, .inr ⟨b, off, rfl, hbW, hr⟩⟩, hfn⟩


end
/-- Nodes are few enough to be gone through. -/
def LightOk (ts : List Nd) : Prop := ts.length ≤ 2100 ∧ Short ts

/-- What Light answers. -/
def LtOk (ts : List Nd) (e : Ending) : Prop := ∃ b, e = .returned (.bool b) ∧ (b = true → LightOk ts)

set_option maxHeartbeats 1000000 in
theorem light_any (ts : List Nd) (v : Value) (w : World) (h : Nds w v ts) :
    Calls Tryz.prog 20 #[v] w fun e w' => LtOk ts e ∧ w = w' := by
  obtain ⟨p, c, rfl, -⟩ := id h
  have HNd := Lib.hid h
  obtain ⟨n, hn⟩ : ∃ n, n = ts.length := ⟨_, rfl⟩
  rw [← hn] at HNd ⊢
  have HN := Lib.hid hn
  clear h hn
  by_cases g1 : n ≤ 2100
  · have v1 : ¬(n : Int) > 2100 := by omega
    go_enter Tryz.func20, Tryz.ntmps20
    go_wp2
    go_loopw [3] (fun vi wr => ∃ i : Nat, i ≤ n ∧ vi = .int .i64 (i : Int) ∧ wr = w ∧ Hid (∀ j (h : j < ts.length), j < i → ts[j].name.length ≤ 2000 ∧ ts[j].text.length ≤ 2000)) (fun vi _ => n - (intOf vi).toNat)
    case atStart => exact ⟨0, Nat.zero_le _, rfl, rfl, Lib.hid (fun j _ h => absurd h (Nat.not_lt_zero j))⟩
    case round =>
      obtain ⟨i, hi, rfl, rfl, hS⟩ := hrel
      by_cases hlt : i < n
      · have hil : i < ts.length := by rw [← HN.out]; exact hlt
        obtain ⟨g, o, rfl, -, -, -, c2, -, c4, -⟩ := HNd.out.node i hil
        have z0 : (0 : Int) ≤ (i : Int) := by omega
        have z1 : (i : Int) < (n : Int) := by omega
        have s1 := strOf_size ts[i].name
        have s2 := strOf_size ts[i].text
        have HA : Hid (ts[i].name.length ≤ 2000 → ts[i].text.length ≤ 2000 → ∀ j (h : j < ts.length), j < i + 1 → ts[j].name.length ≤ 2000 ∧ ts[j].text.length ≤ 2000) := Lib.hid (fun h1 h2 j h hj => by
          by_cases hji : j = i
          · subst hji; exact ⟨h1, h2⟩
          · exact hS.out j h (by omega))
        generalize ts[i].name.length = l1 at *
        generalize ts[i].text.length = l2 at *
        generalize strOf ts[i].name = q1 at *
        generalize strOf ts[i].text = q2 at *
        by_cases k1 : l1 ≤ 2000
        · have v2 : ¬(q1.size : Int) > 2000 := by omega
          by_cases k2 : l2 ≤ 2000
          · have v3 : ¬(q2.size : Int) > 2000 := by omega
            have HS := Lib.hid (HA.out k1 k2)
            clear s1 s2 k1 k2 hS hil
            go_wp2
            go_roundw
            case rel => exact ⟨i + 1, by omega, by go_num, by trivial, HS⟩
            case measure => simp [intOf]; omega
          · have v3 : (q2.size : Int) > 2000 := by omega
            clear s1 s2 k1 k2 hS hil
            go_wp2
            go_ret
            exact ⟨⟨_, rfl, (fun h => by cases h)⟩, rfl⟩
        · have v2 : (q1.size : Int) > 2000 := by omega
          clear s1 s2 k1 hS hil
          go_wp2
          go_ret
          exact ⟨⟨_, rfl, (fun h => by cases h)⟩, rfl⟩
      · obtain rfl : i = n := by omega
        have HL : Hid (LightOk ts) := Lib.hid ⟨by rw [← HN.out]; exact g1, fun x hx => by
          obtain ⟨j, hj, rfl⟩ := List.getElem_of_mem hx
          have := hS.out j hj (by rw [HN.out]; exact hj)
          omega⟩
        clear hS
        go_wp2
        go_ret
        exact ⟨⟨_, rfl, fun _ => HL.out⟩, rfl⟩
  · have v1 : (n : Int) > 2100 := by omega
    go_enter Tryz.func20, Tryz.ntmps20
    go_wp2
    go_ret
    exact ⟨⟨_, rfl, (fun h => by cases h)⟩, rfl⟩


end Go.Proofs.YtemlceicmpcboaaGreatDoor.Sw
namespace Go.Proofs.YtemlceicmpcboaaGreatDoor.Sw
open Lx Tr Pa

def InR (n : Int) : Prop := -9223372036854775808 ≤ n ∧ n < 9223372036854775808
theorem inR0 : InR 0 := by unfold InR; omega
/-- The numbers of tokens are within an int64. -/
def TkN (L : List Tk) : Prop := ∀ t ∈ L, InR t.n
theorem nm_in {L : List Tk} (h : TkN L) (i : Nat) : InR (Pa.nm L i) := by
  unfold Pa.nm
  split
  · rename_i t ht; exact h t (List.mem_of_getElem? ht)
  · exact inR0

/-- A tree that was read. -/
def TokN (t : List Nd) : Prop := ∀ y ∈ t, InR y.n

/-- What a front may hold. -/
def goodN : Sy → Prop
  | .mk x _ => InR x.n
  | .lF _ x _ => InR x.n
  | .lN _ x _ => InR x.n
  | .lC _ x _ => InR x.n
  | .fn x => InR x.n
  | .uses x _ => InR x.n
  | .funs x _ => InR x.n
  | _ => True

theorem tokN_join {x : Nd} {ts : List (List Nd)} (h : ∀ t ∈ ts, TokN t) (hs : InR x.n) : TokN (join x ts) := by
  intro y hy
  rcases List.mem_cons.1 hy with rfl | hy
  · exact hs
  · obtain ⟨t, ht, hyt⟩ := List.mem_flatten.1 hy
    exact h t ht y hyt

theorem stmtA_goodN {s : List UInt8} {A : List Sy} (h : stmtA s = some A) : ∀ b ∈ A, goodN b := by
  unfold stmtA at h
  repeat' split at h
  all_goals first
    | cases h; done
    | (cases h; intro b hb; simp only [List.mem_cons, List.not_mem_nil, or_false] at hb; rcases hb with rfl | rfl | rfl <;> simp [goodN, nd, inR0])
    | (cases h; intro b hb; simp only [List.mem_cons, List.not_mem_nil, or_false] at hb; rcases hb with rfl | rfl <;> simp [goodN, nd, inR0])
    | (cases h; intro b hb; simp only [List.mem_cons, List.not_mem_nil, or_false] at hb; rcases hb with rfl; simp [goodN, nd, inR0])
theorem primA_goodN {s : List UInt8} {A : List Sy} (h : primA s = some A) : ∀ b ∈ A, goodN b := by
  unfold primA at h
  repeat' split at h
  all_goals first
    | cases h; done
    | (cases h; intro b hb; simp only [List.mem_cons, List.not_mem_nil, or_false] at hb; rcases hb with rfl | rfl <;> simp [goodN, nd, inR0])
    | (cases h; intro b hb; simp only [List.mem_cons, List.not_mem_nil, or_false] at hb; rcases hb with rfl; simp [goodN, nd, inR0])

theorem one_goodN {L : List Tk} (hL : TkN L) {a : Sy} {B : List Sy} {V V' : List (List Nd)} {i j : Nat} (h : one L a V i = some (B, V', j)) (ha : goodN a) (hV : ∀ t ∈ V, TokN t) : (∀ b ∈ B, goodN b) ∧ ∀ t ∈ V', TokN t := by
  have hnm := nm_in hL i
  have h00 := inR0
  cases a with
  | prim =>
    change (if kd L i = 2 then _ else if kd L i = 3 then _ else if kd L i = 1 then _ else _) = _ at h
    split at h
    · cases h; exact ⟨by simp [goodN, nd, h00, hnm], hV⟩
    · split at h
      · cases h; exact ⟨by simp [goodN, nd, h00, hnm], hV⟩
      · split at h
        · cases h; exact ⟨by simp [goodN], hV⟩
        · cases hp : primA (Pa.sg L i) with
          | none => rw [hp] at h; cases h
          | some A => rw [hp] at h; cases h; exact ⟨primA_goodN hp, hV⟩
  | stmt =>
    change (match stmtA (Pa.sg L i) with | some A => some (A, V, i + 1) | none => _) = _ at h
    cases hp : stmtA (Pa.sg L i) with
    | none => rw [hp] at h; cases h; exact ⟨by simp [goodN], hV⟩
    | some A => rw [hp] at h; cases h; exact ⟨stmtA_goodN hp, hV⟩
  | asg =>
    change (if Pa.sg L i = [61] then _ else _) = _ at h
    split at h
    · cases V with
      | nil => cases h
      | cons t V1 =>
        cases t with
        | nil => cases h
        | cons x b =>
          change (if x.kind = 21 then _ else if x.kind = 26 then _ else none) = _ at h
          have ht := hV (x :: b) (List.mem_cons_self ..)
          split at h
          · cases h
            exact ⟨by simp [goodN, nd, h00, ht x (List.mem_cons_self ..)], fun t ht => hV t (List.mem_cons_of_mem _ ht)⟩
          · split at h
            · cases h
              rename_i hx
              have h1 : TokN (b.take (firstZ b)) := fun y hy => ht y (List.mem_cons_of_mem _ (List.mem_of_mem_take hy))
              have h2 : TokN (b.drop (firstZ b)) := fun y hy => ht y (List.mem_cons_of_mem _ (List.mem_of_mem_drop hy))
              refine ⟨by simp [goodN, nd, h00, hnm], fun t ht => ?_⟩
              rcases List.mem_cons.1 ht with rfl | ht
              · exact h2
              · rcases List.mem_cons.1 ht with rfl | ht
                · exact h1
                · exact hV t (List.mem_cons_of_mem _ ht)
            · cases h
    · cases h; exact ⟨by simp [goodN, nd, h00, hnm], hV⟩
  | mk x m =>
    change (if m ≤ V.length then some ([], join x (V.take m).reverse :: V.drop m, i) else none) = _ at h
    split at h
    · cases h
      refine ⟨by simp, fun t ht => ?_⟩
      rcases List.mem_cons.1 ht with rfl | ht
      · exact tokN_join (fun u hu => hV u (List.mem_of_mem_take (List.mem_reverse.1 hu))) ha
      · exact hV t (List.mem_of_mem_drop ht)
    · cases h
  | e n =>
    change (if n < 5 then _ else if Pa.sg L i = _ then _ else if Pa.sg L i ∈ _ then _ else _) = _ at h
    repeat' split at h
    all_goals (cases h; exact ⟨by simp [goodN, nd, h00, hnm], hV⟩)
  | row n =>
    change (if Pa.sg L i ∈ level n then _ else _) = _ at h
    split at h
    · cases h
      refine ⟨fun b hb => ?_, hV⟩
      rcases List.mem_cons.1 hb with rfl | hb
      · trivial
      · rcases List.mem_cons.1 hb with rfl | hb
        · simp [goodN, nd, h00, hnm]
        · split at hb
          · cases hb
          · rw [List.mem_singleton.1 hb]; trivial
    · cases h; exact ⟨by simp, hV⟩
  | post =>
    change (if Pa.sg L i = _ then _ else if Pa.sg L i = _ then _ else _) = _ at h
    repeat' split at h
    all_goals (cases h; exact ⟨by simp [goodN, nd, h00, hnm], hV⟩)
  | mark s =>
    change (if Pa.sg L i = s then _ else none) = _ at h
    split at h
    · cases h; exact ⟨by simp, hV⟩
    · cases h
  | outer a =>
    change (if Pa.sg L i = [46] then _ else _) = _ at h
    split at h
    · cases h; exact ⟨by simp [goodN], hV⟩
    · cases h; exact ⟨by simp [goodN, nd, h00, hnm], hV⟩
  | outN a =>
    obtain ⟨rfl, rfl, rfl⟩ := need_some h
    exact ⟨by simp [goodN, nd, h00, hnm], hV⟩
  | lF p x m =>
    have h1 : InR _ := ha
    change (if Pa.sg L i = [41] then _ else _) = _ at h
    split at h
    · cases h; exact ⟨by simp [goodN, h1], hV⟩
    · cases h; exact ⟨by cases p <;> simp [goodN, h1], hV⟩
  | lN p x m =>
    have h1 : InR _ := ha
    change (if Pa.sg L i = [44] then _ else if Pa.sg L i = [41] then _ else none) = _ at h
    split at h
    · cases h; exact ⟨by cases p <;> simp [goodN, h1], hV⟩
    · split at h
      · cases h; exact ⟨by simp [goodN, h1], hV⟩
      · cases h
  | lC p x m =>
    have h1 : InR _ := ha
    cases h
    exact ⟨by cases p <;> simp [goodN, h1], hV⟩
  | par =>
    obtain ⟨rfl, rfl, rfl⟩ := need_some h
    exact ⟨by simp [goodN, nd, h00, hnm], hV⟩
  | fn x =>
    have h1 : InR _ := ha
    cases h
    exact ⟨by simp [goodN, h1], hV⟩
  | blk => cases h; exact ⟨by simp [goodN], hV⟩
  | sts m =>
    change (if Pa.sg L i = [125] then _ else _) = _ at h
    split at h
    all_goals (cases h; exact ⟨by simp [goodN, nd, h00, hnm], hV⟩)
  | letN =>
    obtain ⟨rfl, rfl, rfl⟩ := need_some h
    exact ⟨by simp [goodN, nd, h00, hnm], hV⟩
  | els =>
    change (if Pa.sg L i = _ then _ else _) = _ at h
    split at h
    all_goals (cases h; exact ⟨by simp [goodN, nd, h00, hnm], hV⟩)
  | mod => cases h; exact ⟨by simp [goodN], hV⟩
  | modN =>
    obtain ⟨rfl, rfl, rfl⟩ := need_some h
    exact ⟨by simp [goodN], hV⟩
  | modI a =>
    obtain ⟨rfl, rfl, rfl⟩ := need_some h
    exact ⟨by simp [goodN, nd, h00, hnm], hV⟩
  | uses x m =>
    have h1 : InR _ := ha
    change (if Pa.sg L i = _ then _ else _) = _ at h
    split at h
    all_goals (cases h; exact ⟨by simp [goodN, h1], hV⟩)
  | useN =>
    obtain ⟨rfl, rfl, rfl⟩ := need_some h
    exact ⟨by simp [goodN], hV⟩
  | useM a =>
    obtain ⟨rfl, rfl, rfl⟩ := need_some h
    exact ⟨by simp [goodN], hV⟩
  | useI a b =>
    obtain ⟨rfl, rfl, rfl⟩ := need_some h
    exact ⟨by simp [goodN, nd, h00, hnm], hV⟩
  | funs x m =>
    have h1 : InR _ := ha
    change (if Pa.sg L i = _ then _ else _) = _ at h
    split at h
    all_goals (cases h; exact ⟨by simp [goodN, h1], hV⟩)
  | funN =>
    obtain ⟨rfl, rfl, rfl⟩ := need_some h
    exact ⟨by simp [goodN, nd, h00, hnm], hV⟩

/-- What is so all along. -/
def GoodN : Cfg → Prop
  | .run A V _ => (∀ a ∈ A, goodN a) ∧ ∀ t ∈ V, TokN t
  | .bad _ => True
  | .fin V => ∀ t ∈ V, TokN t
theorem step_goodN {L : List Tk} (hL : TkN L) {c : Cfg} (h : GoodN c) : GoodN (Pa.step L c) := by
  match c, h with
  | .bad i, h => exact h
  | .fin V, h => exact h
  | .run [] V i, h =>
    show GoodN (if i = L.length then .fin V else .bad i)
    split
    · exact h.2
    · trivial
  | .run (a :: A) V i, h =>
    show GoodN (match one L a V i with | some (B, V', j) => .run (B ++ A) V' j | none => .bad i)
    cases ho : one L a V i with
    | none => trivial
    | some x =>
      obtain ⟨B, V', j⟩ := x
      obtain ⟨h1, h2⟩ := one_goodN hL ho (h.1 a (List.mem_cons_self ..)) h.2
      exact ⟨fun b hb => (List.mem_append.1 hb).elim (h1 b) (fun hb => h.1 b (List.mem_cons_of_mem _ hb)), h2⟩
theorem to_goodN {L : List Tk} (hL : TkN L) {c d : Cfg} (h : To L c d) (hc : GoodN c) : GoodN d := by
  obtain ⟨n, rfl⟩ := h
  induction n generalizing c with
  | zero => exact hc
  | succ n ih => exact ih (step_goodN hL hc)
/-- The tree of a module. -/
theorem mod_tokN {L : List Tk} (hL : TkN L) {t : List Nd} (h : To L (.run [.mod] [] 0) (.fin [t])) : FitN t := by
  have := to_goodN hL h (show GoodN (.run [.mod] [] 0) from ⟨fun b hb => by rw [List.mem_singleton.1 hb]; trivial, fun t ht => by cases ht⟩)
  exact this t (List.mem_singleton.2 rfl)
theorem scan_tokN {p : Nat} {l : List UInt8} {ts : List Tk} (h : Scans p l ts) : TkN ts := by
  induction h with
  | done p l hd => exact fun t ht => by cases ht
  | more p l c r k t n len ts hd ho _ ih =>
    intro u hu
    rcases List.mem_cons.1 hu with rfl | hu
    · show InR (n : Int)
      have : n < 2 ^ 63 := by
        rw [oneL] at ho
        split at ho
        · unfold wordOf at ho
          repeat' split at ho
          all_goals (cases ho; try decide)
        · split at ho
          · rcases one_text (l := c :: r) (k := k) (t := t) (n := n) (len := len) (by rw [oneL]; rename_i h1 h2; rw [if_neg h1, if_pos h2]; exact ho) with ⟨rfl, -⟩ | ⟨-, -, h⟩
            · unfold intOf' at ho
              repeat' split at ho
              all_goals cases ho
            · exact h
          · split at ho
            · unfold textOf at ho
              split at ho
              · cases ho
              · cases ho; decide
            · unfold markOne at ho
              split at ho
              · cases ho
              · cases ho; decide
      unfold InR
      omega
    · exact ih u hu

end Go.Proofs.YtemlceicmpcboaaGreatDoor.Sw
namespace Go.Proofs.YtemlceicmpcboaaGreatDoor.Sw
open Go.RowKit Dk Lx

set_option maxHeartbeats 4000000 in
set_option maxRecDepth 100000 in
theorem same_some (b : Bool) (g1 o1 c1 g2 o2 c2 : Nat) (x y : List Tk) (w : World) (hx : w.rangeAt g1 o1 (tcells x)) (hy : w.rangeAt g2 o2 (tcells y)) (h : AlikeP b x y) (hl : x.length ≤ 2 ^ 40) :
    Calls Tryz.prog 26 #[.slice (some ⟨g1, o1, none⟩) x.length c1, .slice (some ⟨g2, o2, none⟩) y.length c2, .bool b] w fun e w' => e = .returned (.bool true) ∧ Below w.heap.size w w' := by
  have hlen := h.1
  have HX := Lib.hid (show ∀ (W : World), Below w.heap.size w W → W.heap = w.heap → W.rangeAt g1 o1 (tcells x) ∧ W.rangeAt g2 o2 (tcells y) from fun W _ hh => ⟨rangeAt_block hx (by rw [hh]), rangeAt_block hy (by rw [hh])⟩)
  have HA := Lib.hid h
  rw [← hlen]
  obtain ⟨n, hn⟩ : ∃ n, n = x.length := ⟨_, rfl⟩
  rw [← hn] at hl ⊢
  have HN := Lib.hid hn
  clear hx hy hlen h hn
  go_enter Tryz.func26, Tryz.ntmps26
  go_wp2
  go_loopw [7] (fun vi wr => ∃ i : Nat, i ≤ n ∧ vi = .int .i64 (i : Int) ∧ Hid (Below w.heap.size w wr ∧ wr.heap = w.heap)) (fun vi _ => n - (intOf vi).toNat)
  case atStart => exact ⟨0, Nat.zero_le _, rfl, Lib.hid ⟨Below.refl _ _, rfl⟩⟩
  case round =>
    obtain ⟨i, hi, rfl, hI⟩ := hrel
    by_cases hlt : i < n
    · have z0 : (0 : Int) ≤ (i : Int) := by omega
      have z1 : (i : Int) < (n : Int) := by omega
      have h1 : i < x.length := by rw [← HN.out]; exact hlt
      have h2 : i < y.length := by rw [← HA.out.1]; exact h1
      obtain ⟨q1, q2, q3, q4⟩ := HA.out.2 i h1 h2
      obtain ⟨W1, hW1⟩ : ∃ W1, wr.drew = W1 := ⟨_, rfl⟩
      have HW1 := Lib.hid hW1
      have HD : Hid (Below w.heap.size w W1 ∧ W1.heap = w.heap) := Lib.hid (by rw [← hW1]; exact ⟨hI.out.1.drew, hI.out.2⟩)
      obtain ⟨r1, r2⟩ := HX.out W1 HD.out.1 HD.out.2
      have cx : ∀ j (hj : j < 4) u, (x[i]).cells[j]? = some u → W1.cell? ⟨g1, o1 + (i * 4 + j), none⟩ = some u := fun j hj u hu => r1 (i * 4 + j) u (by rw [tcells_at h1 j hj]; exact hu)
      have cy : ∀ j (hj : j < 4) u, (y[i]).cells[j]? = some u → W1.cell? ⟨g2, o2 + (i * 4 + j), none⟩ = some u := fun j hj u hu => r2 (i * 4 + j) u (by rw [tcells_at h2 j hj]; exact hu)
      have a0 : W1.cell? ⟨g1, o1 + i * 4, none⟩ = some (.int .i64 x[i].kind) := cx 0 (by decide) _ rfl
      have a1 : W1.cell? ⟨g1, o1 + i * 4 + 1, none⟩ = some (.string (strOf x[i].text)) := cx 1 (by decide) _ rfl
      have a2 : W1.cell? ⟨g1, o1 + i * 4 + 2, none⟩ = some (.int .i64 x[i].n) := cx 2 (by decide) _ rfl
      have a3 : W1.cell? ⟨g1, o1 + i * 4 + 3, none⟩ = some (.int .i64 x[i].place) := cx 3 (by decide) _ rfl
      have b0 : W1.cell? ⟨g2, o2 + i * 4, none⟩ = some (.int .i64 y[i].kind) := cy 0 (by decide) _ rfl
      have b1 : W1.cell? ⟨g2, o2 + i * 4 + 1, none⟩ = some (.string (strOf y[i].text)) := cy 1 (by decide) _ rfl
      have b2 : W1.cell? ⟨g2, o2 + i * 4 + 2, none⟩ = some (.int .i64 y[i].n) := cy 2 (by decide) _ rfl
      have b3 : W1.cell? ⟨g2, o2 + i * 4 + 3, none⟩ = some (.int .i64 y[i].place) := cy 3 (by decide) _ rfl
      rw [← q1] at b0
      rw [← q2] at b1
      rw [← q3] at b2
      have heq : ((strOf x[i].text).toList == (strOf x[i].text).toList) = true := by simp
      generalize strOf x[i].text = tx at *
      generalize x[i].kind = kx at *
      generalize x[i].n = nx at *
      generalize x[i].place = px at *
      generalize y[i].place = py at *
      clear cx cy r1 r2 q1 q2 q3 hW1 h1 h2
      cases b with
      | false =>
        clear q4
        go_wp2_with fail
        refine ws_region (by kernel_rfl) (by kernel_rfl) W1 HW1.out ?_
        iterate 40 (refine ws_step (fun K hK => ?_); go_simp; refine hK _ ?_; clear hK K)
        iterate 11 (refine ws_skip (by kernel_rfl) ?_)
        iterate 2 (refine ws_step (fun K hK => ?_); go_simp; refine hK _ ?_; clear hK K)
        refine ws_nil ?_
        clear a0 a1 a2 a3 b0 b1 b2 b3 heq HW1
        go_wp2
        go_roundw
        case rel => exact ⟨i + 1, by omega, by go_num, HD⟩
        case measure => simp [intOf]; omega
      | true =>
        have q5 := q4 rfl
        rw [← q5] at b3
        clear q4 q5
        go_wp2_with fail
        refine ws_region (by kernel_rfl) (by kernel_rfl) W1 HW1.out ?_
        iterate 53 (refine ws_step (fun K hK => ?_); go_simp; refine hK _ ?_; clear hK K)
        refine ws_nil ?_
        clear a0 a1 a2 a3 b0 b1 b2 b3 heq HW1
        go_wp2
        go_roundw
        case rel => exact ⟨i + 1, by omega, by go_num, HD⟩
        case measure => simp [intOf]; omega
    · obtain rfl : i = n := by omega
      go_wp2
      go_ret
      exact ⟨rfl, hI.out.1⟩

set_option maxHeartbeats 400000 in
theorem same_none (b : Bool) (p1 p2 : Option Addr) (c1 c2 : Nat) (w : World) :
    Calls Tryz.prog 26 #[.slice p1 0 c1, .slice p2 0 c2, .bool b] w fun e w' => e = .returned (.bool true) ∧ Below w.heap.size w w' := by
  go_enter Tryz.func26, Tryz.ntmps26
  go_wp2
  go_loopw [7] (fun vi wr => vi = .int .i64 0 ∧ wr = w) (fun _ _ => 0)
  case atStart => exact ⟨rfl, rfl⟩
  case round =>
    obtain ⟨rfl, rfl⟩ := hrel
    go_wp2
    go_ret
    exact ⟨rfl, Below.refl _ _⟩

theorem same_any (b : Bool) (x y : List Tk) (v u : Value) (w : World) (hx : Toks w v x) (hy : Toks w u y) (h : AlikeP b x y) (hl : x.length ≤ 2 ^ 40) :
    Calls Tryz.prog 26 #[v, u, .bool b] w fun e w' => e = .returned (.bool true) ∧ Below w.heap.size w w' := by
  obtain ⟨p, c, rfl, -, hp⟩ := hx
  obtain ⟨q, d, rfl, -, hq⟩ := hy
  have hlen := h.1
  rcases hp with rfl | ⟨g1, o1, rfl, -, r1⟩
  · have : y = [] := List.eq_nil_of_length_eq_zero hlen.symm
    subst this
    exact same_none b p q c d w
  · rcases hq with rfl | ⟨g2, o2, rfl, -, r2⟩
    · have : x = [] := List.eq_nil_of_length_eq_zero hlen
      subst this
      exact same_none b _ _ c d w
    · exact same_some b g1 o1 c g2 o2 d x y w r1 r2 h hl

end Go.Proofs.YtemlceicmpcboaaGreatDoor.Sw
