/- Trees as lists of numbers of kids; The document's scanner as functions over lists of bytes, and plain facts on them; The walks of lex's isBlank, isLetter, isDigit, escape, unescape. No condition but those that each states. -/
import Derived.Lib.DecodeN
import Derived.Test.YtmljjpdodcpohaaGreatDoorChecked
import Derived.ProofKit
import Derived.WalkKit
import Derived.Below
namespace Go.Proofs.YtmljjpdodcpohaaGreatDoor.Tr
def endW : Nat → List Int → Option Nat
  | 0, _ => some 0
  | _ + 1, [] => none
  | w + 1, k :: r => if k < 0 then none else (endW (w + k.toNat) r).map (· + 1)
theorem endW_zero (l : List Int) : endW 0 l = some 0 := by cases l <;> rfl
theorem endW_cons (w : Nat) (k : Int) (r : List Int) : endW (w + 1) (k :: r) = if k < 0 then none else (endW (w + k.toNat) r).map (· + 1) := rfl
theorem endW_le : ∀ (l : List Int) (w n : Nat), endW w l = some n → w ≤ n ∧ n ≤ l.length
  | l, 0, n, h => by rw [endW_zero] at h; cases h; simp
  | [], w + 1, n, h => by cases h
  | k :: r, w + 1, n, h => by
    rw [endW_cons] at h; split at h
    · cases h
    · cases hr : endW (w + k.toNat) r with
      | none => rw [hr] at h; cases h
      | some m =>
        rw [hr] at h; cases h
        have := endW_le r _ _ hr; simp only [List.length_cons]; omega
theorem endW_add : ∀ (l : List Int) (a b : Nat), endW (a + b) l = (endW a l).bind fun n => (endW b (l.drop n)).map (n + ·)
  | l, 0, b => by
    rw [endW_zero, Nat.zero_add]; show _ = (endW b (l.drop 0)).map _
    rw [List.drop_zero]; cases endW b l <;> simp
  | [], a + 1, b => by
    rw [show a + 1 + b = (a + b) + 1 by omega]; rfl
  | k :: r, a + 1, b => by
    rw [show a + 1 + b = (a + b) + 1 by omega, endW_cons, endW_cons]; split
    · rfl
    · rw [show a + b + k.toNat = a + k.toNat + b by omega, endW_add r]
      cases endW (a + k.toNat) r with
      | none => rfl
      | some m =>
        show ((endW b (r.drop m)).map (m + ·)).map (· + 1) = (endW b ((k :: r).drop (m + 1))).map (m + 1 + ·)
        rw [List.drop_succ_cons]; cases endW b (r.drop m) with
        | none => rfl
        | some q => simp; omega
theorem endW_app : ∀ (l t : List Int) (w n : Nat), endW w l = some n → endW w (l ++ t) = some n
  | l, t, 0, n, h => by rw [endW_zero] at h ⊢; exact h
  | [], t, w + 1, n, h => by cases h
  | k :: r, t, w + 1, n, h => by
    rw [endW_cons] at h; rw [List.cons_append, endW_cons]; split at h
    · cases h
    · rename_i hk
      rw [if_neg hk]; cases hr : endW (w + k.toNat) r with
      | none => rw [hr] at h; cases h
      | some m => rw [hr] at h; rw [endW_app r t _ _ hr]; exact h
theorem endW_take {l : List Int} {w n : Nat} (h : endW w l = some n) : endW w (l.take n) = some n := by
  revert n
  induction l generalizing w with
  | nil => intro n h; cases w with
    | zero => rw [endW_zero] at h ⊢; exact h
    | succ w => cases h
  | cons k r ih =>
    intro n h; cases w with
    | zero => rw [endW_zero] at h ⊢; exact h
    | succ w =>
      rw [endW_cons] at h; split at h
      · cases h
      · rename_i hk
        cases hr : endW (w + k.toNat) r with
        | none => rw [hr] at h; cases h
        | some m =>
          rw [hr] at h; cases h
          rw [List.take_succ_cons, endW_cons, if_neg hk, ih hr]; rfl
def endI (ks : List Int) (i : Int) : Int := if i < 0 then -1 else match endW 1 (ks.drop i.toNat) with
  | some n => i + n
  | none => -1
theorem endI_none {ks : List Int} {i : Nat} (h : endW 1 (ks.drop i) = none) : endI ks (i : Int) = -1 := by
  unfold endI; rw [if_neg (by omega), Int.toNat_natCast, h]
theorem endI_some {ks : List Int} {i n : Nat} (h : endW 1 (ks.drop i) = some n) : endI ks (i : Int) = (i : Int) + n := by
  unfold endI; rw [if_neg (by omega), Int.toNat_natCast, h]
theorem endI_neg {ks : List Int} {i : Int} (h : i < 0) : endI ks i = -1 := by unfold endI; rw [if_pos h]
theorem endI_cases (ks : List Int) (i : Int) : endI ks i = -1 ∨ ∃ (k n : Nat), i = (k : Int) ∧ endW 1 (ks.drop k) = some n ∧ 1 ≤ n ∧ k + n ≤ ks.length ∧ endI ks i = (k : Int) + n := by
  by_cases h : i < 0
  · exact .inl (endI_neg h)
  · obtain ⟨k, rfl⟩ : ∃ k : Nat, i = (k : Int) := ⟨i.toNat, by omega⟩
    cases hn : endW 1 (ks.drop k) with
    | none => exact .inl (endI_none hn)
    | some n =>
      have := endW_le _ _ _ hn; rw [List.length_drop] at this; exact .inr ⟨k, n, rfl, hn, by omega, by omega, endI_some hn⟩
theorem endW_node {ks : List Int} {i n : Nat} (h : endW 1 (ks.drop i) = some n) : ∃ k, ks[i]? = some k ∧ 0 ≤ k ∧ endW k.toNat (ks.drop (i + 1)) = some (n - 1) ∧ 1 ≤ n := by
  have hlt : i < ks.length := by have := endW_le _ _ _ h; rw [List.length_drop] at this; omega
  rw [List.drop_eq_getElem_cons hlt, show (1 : Nat) = 0 + 1 from rfl, endW_cons] at h; split at h
  · cases h
  · rename_i hk
    rw [Nat.zero_add] at h; cases hr : endW (ks[i]).toNat (ks.drop (i + 1)) with
    | none => rw [hr] at h; cases h
    | some m =>
      rw [hr] at h; obtain rfl : m + 1 = n := Option.some.inj h; exact ⟨_, List.getElem?_eq_getElem hlt, by omega, by rw [hr]; rfl, by omega⟩
def sz (ks : List Int) (p : Nat) : Nat := (endW 1 (ks.drop p)).getD 0
def pos (ks : List Int) (p : Nat) : Nat → Nat
  | 0 => p
  | j + 1 => pos ks p j + sz ks (pos ks p j)
theorem pos_succ (ks : List Int) (p j : Nat) : pos ks p (j + 1) = pos ks p j + sz ks (pos ks p j) := rfl
theorem pos_at {ks : List Int} {p c n : Nat} (h : endW c (ks.drop p) = some n) : ∀ j, j ≤ c → pos ks p j ≤ p + n ∧ endW (c - j) (ks.drop (pos ks p j)) = some (p + n - pos ks p j) ∧ p + j ≤ pos ks p j
  | 0, _ => ⟨by show p ≤ _; omega, by show endW c (ks.drop p) = some (p + n - p); rw [h, Nat.add_sub_cancel_left], Nat.le_refl _⟩
  | j + 1, hj => by
    obtain ⟨h1, h2, h3⟩ := pos_at h j (by omega); rw [show c - j = 1 + (c - (j + 1)) by omega, endW_add] at h2; cases hm : endW 1 (ks.drop (pos ks p j)) with
    | none => rw [hm] at h2; cases h2
    | some m =>
      rw [hm] at h2; have hz : sz ks (pos ks p j) = m := by unfold sz; rw [hm]; rfl
      have hm1 := (endW_le _ _ _ hm).1; rw [pos_succ, hz]; simp only [Option.bind_some, List.drop_drop] at h2; cases hr : endW (c - (j + 1)) (ks.drop (pos ks p j + m)) with
      | none => rw [hr] at h2; cases h2
      | some q =>
        rw [hr] at h2; simp only [Option.map_some, Option.some.injEq] at h2; refine ⟨by omega, by congr 1; omega, by omega⟩
theorem pos_tree {ks : List Int} {p c n : Nat} (h : endW c (ks.drop p) = some n) {j : Nat} (hj : j < c) : ∃ m, endW 1 (ks.drop (pos ks p j)) = some m ∧ 1 ≤ m ∧ pos ks p (j + 1) = pos ks p j + m ∧ pos ks p j + m ≤ p + n := by
  obtain ⟨h1, h2, h3⟩ := pos_at h j (by omega); obtain ⟨g1, -, -⟩ := pos_at h (j + 1) (by omega); rw [show c - j = 1 + (c - (j + 1)) by omega, endW_add] at h2; cases hm : endW 1 (ks.drop (pos ks p j)) with
  | none => rw [hm] at h2; cases h2
  | some m =>
    have hz : sz ks (pos ks p j) = m := by unfold sz; rw [hm]; rfl
    rw [pos_succ, hz] at g1; exact ⟨m, rfl, (endW_le _ _ _ hm).1, by rw [pos_succ, hz], g1⟩
theorem pos_end {ks : List Int} {p c n : Nat} (h : endW c (ks.drop p) = some n) : pos ks p c = p + n := by
  obtain ⟨h1, h2, h3⟩ := pos_at h c (Nat.le_refl _); rw [Nat.sub_self, endW_zero] at h2; have := Option.some.inj h2; omega
theorem pos_lt {ks : List Int} {p c n : Nat} (h : endW c (ks.drop p) = some n) {j : Nat} (hj : j < c) : pos ks p j < p + n := by
  obtain ⟨m, h1, h2, h3, h4⟩ := pos_tree h hj; omega
def kidsL (ks : List Int) (i : Int) : List Nat := if endI ks i < 0 then [] else (List.range (ks.getD i.toNat 0).toNat).map (pos ks (i.toNat + 1))
theorem kidsL_none {ks : List Int} {i : Int} (h : endI ks i < 0) : kidsL ks i = [] := if_pos h
theorem kidsL_some {ks : List Int} {i n : Nat} {k : Int} (h : endW 1 (ks.drop i) = some n) (hk : ks[i]? = some k) : kidsL ks (i : Int) = (List.range k.toNat).map (pos ks (i + 1)) := by
  unfold kidsL; rw [endI_some h, if_neg (by omega), Int.toNat_natCast]; simp [hk]
def norm : List Nat → List Nat
  | [] => []
  | 0 :: o => norm o
  | (c + 1) :: o => c :: o
def depP : List Nat → Nat → List Int → Option Nat
  | o, m, [] => if o = [] then some m else none
  | o, m, k :: r => if k < 0 then none else depP (norm (k.toNat :: o)) (max m (o.length + 1)) r
theorem depP_nil (o : List Nat) (m : Nat) : depP o m [] = if o = [] then some m else none := rfl
theorem depP_cons (o : List Nat) (m : Nat) (k : Int) (r : List Int) : depP o m (k :: r) = if k < 0 then none else depP (norm (k.toNat :: o)) (max m (o.length + 1)) r := rfl
def depI (ks : List Int) : Int := match depP [] 0 ks with
  | some d => (d : Int)
  | none => -1
theorem norm_len : ∀ o : List Nat, (norm o).length ≤ o.length
  | [] => Nat.le_refl _
  | 0 :: o => by have := norm_len o; show (norm o).length ≤ o.length + 1; omega
  | (c + 1) :: o => Nat.le_refl _
def tot : List Nat → Nat
  | [] => 0
  | c :: o => 1 + (c :: o).sum
theorem tot_norm : ∀ o : List Nat, tot (norm o) = o.sum
  | [] => rfl
  | 0 :: o => by show tot (norm o) = _; rw [tot_norm o]; simp
  | (c + 1) :: o => by show 1 + (c :: o).sum = _; simp; omega
theorem endW_le_none {a b : Nat} {l : List Int} (h : endW a l = none) : endW (a + b) l = none := by rw [endW_add, h]; rfl
theorem depP_some : ∀ (l : List Int) (o : List Nat) (m d : Nat), depP o m l = some d → endW (tot o) l ≠ none ∧ ∀ j, j < l.length → endW 1 (l.drop j) ≠ none
  | [], o, m, d, h => by
    rw [depP_nil] at h; split at h
    · rename_i ho; subst ho; exact ⟨by simp [tot, endW], fun j hj => by simp at hj⟩
    · cases h
  | k :: r, o, m, d, h => by
    rw [depP_cons] at h; split at h
    · cases h
    · rename_i hk
      obtain ⟨h1, h2⟩ := depP_some r _ _ _ h; rw [tot_norm, List.sum_cons] at h1; refine ⟨?_, fun j hj => ?_⟩
      · cases o with
        | nil => simp [tot, endW_zero]
        | cons c o =>
          show endW (1 + (c :: o).sum) (k :: r) ≠ none
          rw [show 1 + (c :: o).sum = (c :: o).sum + 1 by omega, endW_cons, if_neg hk, show (c :: o).sum + k.toNat = k.toNat + (c :: o).sum by omega]; intro e; cases hq : endW (k.toNat + (c :: o).sum) r with
          | none => exact h1 hq
          | some q => rw [hq] at e; cases e
      · cases j with
        | succ j => rw [List.drop_succ_cons]; exact h2 j (by simpa using hj)
        | zero =>
          rw [List.drop_zero, show (1 : Nat) = 0 + 1 from rfl, endW_cons, if_neg hk, Nat.zero_add]; intro e; cases hq : endW k.toNat r with
          | none => exact h1 (endW_le_none hq)
          | some q => rw [hq] at e; cases e
theorem depP_none : ∀ (l : List Int) (o : List Nat) (m : Nat), depP o m l = none → endW (tot o) l = none ∨ ∃ j, j < l.length ∧ endW 1 (l.drop j) = none
  | [], o, m, h => by
    rw [depP_nil] at h; split at h
    · cases h
    · rename_i ho
      cases o with
      | nil => exact absurd rfl ho
      | cons c o => left; show endW (1 + (c :: o).sum) [] = none; rw [Nat.add_comm]; rfl
  | k :: r, o, m, h => by
    rw [depP_cons] at h; split at h
    · rename_i hk
      exact .inr ⟨0, by simp, by rw [List.drop_zero, show (1 : Nat) = 0 + 1 from rfl, endW_cons, if_pos hk]⟩
    · rename_i hk
      rcases depP_none r _ _ h with h1 | ⟨j, hj, h1⟩
      · rw [tot_norm, List.sum_cons, endW_add] at h1
        cases hq : endW k.toNat r with
        | none => exact .inr ⟨0, by simp, by rw [List.drop_zero, show (1 : Nat) = 0 + 1 from rfl, endW_cons, if_neg hk, Nat.zero_add, hq]; rfl⟩
        | some q =>
          rw [hq] at h1; cases o with
          | nil => rw [List.sum_nil] at h1; simp [endW_zero] at h1
          | cons c o =>
            left
            show endW (1 + (c :: o).sum) (k :: r) = none
            rw [show 1 + (c :: o).sum = (c :: o).sum + 1 by omega, endW_cons, if_neg hk, show (c :: o).sum + k.toNat = k.toNat + (c :: o).sum by omega, endW_add, hq]; show Option.map _ (Option.bind (some q) _) = none
            rw [h1]; rfl
      · exact .inr ⟨j + 1, by simpa using hj, by rw [List.drop_succ_cons]; exact h1⟩
def part (ks : List Int) (p n : Nat) : List Int := (ks.drop p).take n
end Go.Proofs.YtmljjpdodcpohaaGreatDoor.Tr

namespace Go.Proofs.YtmljjpdodcpohaaGreatDoor.Lx
def rL (r : Int) : Bool := decide (97 ≤ r) && decide (r ≤ 122)
def rD (r : Int) : Bool := decide (48 ≤ r) && decide (r ≤ 57)
def rW (r : Int) : Bool := rL r || rD r || decide (r = 95)
def rB (r : Int) : Bool := decide (r = 32) || decide (r = 9) || decide (r = 10) || decide (r = 13)
def isL (c : UInt8) : Bool := rL (c.toNat : Int)
def isD (c : UInt8) : Bool := rD (c.toNat : Int)
def isW (c : UInt8) : Bool := rW (c.toNat : Int)
def isB (c : UInt8) : Bool := rB (c.toNat : Int)
def skipN : Bool → List UInt8 → Nat
  | _, [] => 0
  | true, c :: r => skipN (decide (c.toNat ≠ 10)) r + 1
  | false, c :: r => if c.toNat = 35 then skipN true r + 1 else if isB c then skipN false r + 1 else 0
def spanN (p : UInt8 → Bool) : List UInt8 → Nat
  | [] => 0
  | c :: r => if p c then spanN p r + 1 else 0
def unescN (c : UInt8) : Option UInt8 := if c.toNat = 110 then some 10 else if c.toNat = 34 ∨ c.toNat = 92 then some c else none
def textL : List UInt8 → Option (List UInt8 × Nat)
  | [] => none
  | c :: r =>
    if c.toNat = 34 then some ([], 1)
    else if c.toNat = 10 then none
    else if c.toNat = 92 then
      match r with
      | [] => none
      | d :: r' => match unescN d with
        | none => none
        | some e => (textL r').map fun q => (e :: q.1, q.2 + 2)
    else (textL r).map fun q => (c :: q.1, q.2 + 1)
def markList : List (List UInt8) := [[61, 61], [33, 61], [60, 61], [46, 46], [40], [41], [123], [125], [91], [93], [44], [59], [46], [47], [61], [60], [43], [45], [42], [37]]
def markOf (l : List UInt8) : List (List UInt8) → Nat
  | [] => 0
  | m :: r => if m.isPrefixOf l then m.length else markOf l r
def markN (l : List UInt8) : Nat := markOf l markList
def keyList : List (List UInt8) := [[109, 111, 100, 117, 108, 101], [117, 115, 101], [102, 110], [108, 101, 116], [105, 102], [101, 108, 115, 101], [119, 104, 105, 108, 101], [98, 114, 101, 97, 107], [99, 111, 110, 116, 105, 110, 117, 101], [114, 101, 116, 117, 114, 110], [112, 117, 116], [101, 109, 105, 116], [121, 105, 101, 108, 100], [110, 105, 108], [115, 116, 97, 116, 101], [115, 112, 97, 119, 110], [108, 101, 110], [110, 111, 116], [97, 110, 100], [111, 114]]
def isKey (l : List UInt8) : Bool := keyList.contains l
def numV (l : List UInt8) : Nat := l.foldl (fun a c => a * 10 + (c.toNat - 48)) 0
def numL (l : List UInt8) : Option Nat := if 1 < l.length ∧ l.head? = some 48 then none else if numV l < 2 ^ 63 then some (numV l) else none
def isName (l : List UInt8) : Bool := decide (0 < l.length) && decide (l.length ≤ 16) && (l.head?.map isL).getD false && l.all isW && !isKey l
inductive One where
  | bad (e : Nat)
  | tok (k : Nat) (t : List UInt8) (n : Nat) (len : Nat)
def wordOf (l : List UInt8) (n : Nat) : One := if isKey (l.take n) then .tok 5 (l.take n) 0 n else if 16 < n then .bad 10 else .tok 1 (l.take n) 0 n
def intOf' (l : List UInt8) (n : Nat) : One := match numL (l.take n) with | none => .bad 10 | some v => .tok 2 (l.take n) v n
def textOf (r : List UInt8) : One := match textL r with | none => .bad 10 | some q => .tok 3 q.1 0 (q.2 + 1)
def markOne (l : List UInt8) : One := if markN l = 0 then .bad 9 else .tok 4 (l.take (markN l)) 0 (markN l)
def oneL : List UInt8 → One
  | [] => .bad 9
  | c :: r => if isL c then wordOf (c :: r) (spanN isW (c :: r)) else if isD c then intOf' (c :: r) (spanN isD (c :: r)) else if c.toNat = 34 then textOf r else markOne (c :: r)
structure Tk where
  kind : Int
  text : List UInt8
  n : Int
  place : Int
deriving DecidableEq
inductive SR where
  | bad (e : Nat) (a : Nat)
  | toks (l : List Tk)
deriving DecidableEq
def SR.cons (t : Tk) : SR → SR
  | .bad e a => .bad e a
  | .toks l => .toks (t :: l)
def scanF : Nat → Nat → List UInt8 → SR
  | 0, _, _ => .toks []
  | f + 1, p, l =>
    match l.drop (skipN false l) with
    | [] => .toks []
    | c :: r => match oneL (c :: r) with
      | .bad e => .bad e (p + skipN false l)
      | .tok kd t n len => (scanF f (p + skipN false l + len) ((c :: r).drop len)).cons ⟨kd, t, n, (p + skipN false l : Nat)⟩
def scanL (p : Nat) (l : List UInt8) : SR := scanF (l.length + 1) p l
def escL (c : UInt8) : List UInt8 := if c.toNat = 10 then [92, 110] else if c.toNat = 34 ∨ c.toNat = 92 then [92, c] else [c]
def quoteL (l : List UInt8) : List UInt8 := 34 :: (l.flatMap escL ++ [34])
def written (t : Tk) : List UInt8 := if t.kind = 3 then quoteL t.text else t.text
def joinL : List (List UInt8) → List UInt8
  | [] => []
  | [x] => x
  | x :: y :: r => x ++ 32 :: joinL (y :: r)
def writeL (l : List Tk) : List UInt8 := joinL (l.map written)
theorem spanN_le (p : UInt8 → Bool) : ∀ l, spanN p l ≤ l.length
  | [] => Nat.le_refl _
  | c :: r => by unfold spanN; split <;> simp; have := spanN_le p r; omega
theorem skipN_le : ∀ b l, skipN b l ≤ l.length
  | b, [] => by cases b <;> exact Nat.le_refl _
  | true, c :: r => by
    rw [skipN]; have := skipN_le (decide (c.toNat ≠ 10)) r; rw [List.length_cons]; omega
  | false, c :: r => by
    rw [skipN]; have h1 := skipN_le true r; have h2 := skipN_le false r; split
    · simp; omega
    · split
      · simp; omega
      · exact Nat.zero_le _
theorem textL_pos : ∀ (l : List UInt8) q, textL l = some q → 1 ≤ q.2 ∧ q.2 ≤ l.length
  | [], _, h => by simp [textL] at h
  | [c], q, h => by
    unfold textL at h; split at h
    · cases h; simp
    · split at h
      · cases h
      · split at h
        · cases h
        · simp [textL] at h
  | c :: d :: r, q, h => by
    unfold textL at h; split at h
    · cases h; simp
    · split at h
      · cases h
      · split at h
        · simp only at h
          split at h
          · cases h
          · rw [Option.map_eq_some_iff] at h
            obtain ⟨q', h', rfl⟩ := h; have := textL_pos r q' h'; simp; omega
        · rw [Option.map_eq_some_iff] at h
          obtain ⟨q', h', rfl⟩ := h; have := textL_pos (d :: r) q' h'; simp at this ⊢; omega
theorem markOf_le (l : List UInt8) : ∀ ms, markOf l ms ≤ l.length
  | [] => Nat.zero_le _
  | m :: r => by
    unfold markOf; split
    · rename_i h
      exact (List.isPrefixOf_iff_prefix.1 h).length_le
    · exact markOf_le l r
theorem markN_le (l : List UInt8) : markN l ≤ l.length := markOf_le l _
theorem spanN_first {p : UInt8 → Bool} {c : UInt8} {r : List UInt8} (h : p c = true) : spanN p (c :: r) = spanN p r + 1 := by rw [spanN, if_pos h]
theorem isL_W {c : UInt8} (h : isL c = true) : isW c = true := by unfold isW rW; unfold isL at h; rw [h]; rfl
theorem oneL_len : ∀ (l : List UInt8) k t n len, oneL l = .tok k t n len → 1 ≤ len ∧ len ≤ l.length
  | [], k, t, n, len, h => by simp [oneL] at h
  | c :: r, k, t, n, len, h => by
    rw [oneL] at h; split at h
    · rename_i hc
      have h1 := spanN_le isW (c :: r); have h2 := spanN_first (r := r) (isL_W hc); unfold wordOf at h; split at h
      · cases h; omega
      · split at h
        · cases h
        · cases h; omega
    · split at h
      · rename_i hc
        have h1 := spanN_le isD (c :: r); have h2 := spanN_first (r := r) hc; unfold intOf' at h; split at h
        · cases h
        · cases h; omega
      · split at h
        · unfold textOf at h
          split at h
          · cases h
          · rename_i q hq
            cases h
            have := textL_pos r q hq; simp; omega
        · unfold markOne at h
          have h1 := markN_le (c :: r); split at h
          · cases h
          · cases h; omega
theorem scanF_same : ∀ (f g p : Nat) (l : List UInt8), l.length < f → l.length < g → scanF f p l = scanF g p l
  | 0, _, _, _, h, _ => absurd h (Nat.not_lt_zero _)
  | _ + 1, 0, _, _, _, h => absurd h (Nat.not_lt_zero _)
  | f + 1, g + 1, p, l, hf, hg => by
    unfold scanF; split
    · rfl
    · rename_i c r hd
      split
      · rfl
      · rename_i kd t n len ho
        have h1 := oneL_len _ _ _ _ _ ho; have h2 : (c :: r).length ≤ l.length := by rw [← hd, List.length_drop]; omega
        rw [scanF_same f g _ ((c :: r).drop len) (by rw [List.length_drop]; omega) (by rw [List.length_drop]; omega)]
def scanAt (p : Nat) (l : List UInt8) : SR :=
  match l with
  | [] => .toks []
  | c :: r => match oneL (c :: r) with
    | .bad e => .bad e p
    | .tok kd t n len => (scanL (p + len) ((c :: r).drop len)).cons ⟨kd, t, n, (p : Nat)⟩
theorem scanL_at (p : Nat) (l : List UInt8) : scanL p l = scanAt (p + skipN false l) (l.drop (skipN false l)) := by
  show scanF (l.length + 1) p l = _
  unfold scanF scanAt; cases hd : l.drop (skipN false l) with
  | nil => rfl
  | cons c r =>
    dsimp only
    cases ho : oneL (c :: r) with
    | bad e => rfl
    | tok kd t n len =>
      have h1 := oneL_len _ _ _ _ _ ho; have h2 : (c :: r).length ≤ l.length := by rw [← hd, List.length_drop]; omega
      dsimp only
      unfold scanL; rw [scanF_same l.length (((c :: r).drop len).length + 1) _ ((c :: r).drop len) (by rw [List.length_drop]; omega) (by omega)]
def SR.pre (ts : List Tk) : SR → SR
  | .bad e a => .bad e a
  | .toks l => .toks (ts ++ l)
theorem pre_nil (r : SR) : r.pre [] = r := by cases r <;> rfl
theorem pre_cons (ts : List Tk) (t : Tk) (r : SR) : (r.cons t).pre ts = r.pre (ts ++ [t]) := by cases r <;> simp [SR.cons, SR.pre]
end Go.Proofs.YtmljjpdodcpohaaGreatDoor.Lx

namespace Go.Proofs.YtmljjpdodcpohaaGreatDoor.Lx
set_option maxHeartbeats 400000
open Go.RowKit
theorem letter_any (r : Int) (w : World) : Calls Tryz.prog 138 #[.int .i32 r] w fun e w' => e = .returned (.bool (rL r)) ∧ w = w' := by
  rcases (show r < 97 ∨ (97 ≤ r ∧ r ≤ 122) ∨ 122 < r by omega) with h | ⟨h, h'⟩ | h
  all_goals
    go_enter Tryz.func138, Tryz.ntmps138
    go_wp2; go_ret; refine ⟨?_, rfl⟩; congr 2
    unfold rL; simp
    omega
theorem digit_any (r : Int) (w : World) : Calls Tryz.prog 140 #[.int .i32 r] w fun e w' => e = .returned (.bool (rD r)) ∧ w = w' := by
  rcases (show r < 48 ∨ (48 ≤ r ∧ r ≤ 57) ∨ 57 < r by omega) with h | ⟨h, h'⟩ | h
  all_goals
    go_enter Tryz.func140, Tryz.ntmps140
    go_wp2; go_ret; refine ⟨?_, rfl⟩; congr 2
    unfold rD; simp
    omega
theorem blank_any (r : Int) (w : World) : Calls Tryz.prog 137 #[.int .i32 r] w fun e w' => e = .returned (.bool (rB r)) ∧ w = w' := by
  rcases (show r = 32 ∨ r = 9 ∨ r = 10 ∨ r = 13 ∨ (r ≠ 32 ∧ r ≠ 9 ∧ r ≠ 10 ∧ r ≠ 13) by omega) with rfl | rfl | rfl | rfl | ⟨h1, h2, h3, h4⟩
  all_goals
    go_enter Tryz.func137, Tryz.ntmps137
    go_wp2; go_ret; refine ⟨?_, rfl⟩; simp [rB, *]
def escR (r : Int) : Value := if r = 10 then .tuple #[.int .u8 110, .bool true] else if r = 34 ∨ r = 92 then .tuple #[.int .u8 r, .bool true] else .tuple #[.int .u8 0, .bool false]
def unescR (r : Int) : Value := if r = 110 then .tuple #[.int .u8 10, .bool true] else if r = 34 ∨ r = 92 then .tuple #[.int .u8 r, .bool true] else .tuple #[.int .u8 0, .bool false]
theorem escape_any (r : Int) (w : World) : Calls Tryz.prog 111 #[.int .i32 r] w fun e w' => e = .returned (escR r) ∧ w = w' := by
  rcases (show r = 10 ∨ r = 34 ∨ r = 92 ∨ (r ≠ 10 ∧ r ≠ 34 ∧ r ≠ 92) by omega) with rfl | rfl | rfl | ⟨h1, h2, h3⟩
  all_goals
    go_enter Tryz.func111, Tryz.ntmps111
    go_wp2; go_ret2; refine ⟨?_, rfl⟩; unfold escR; simp [*]
theorem unescape_any (r : Int) (w : World) : Calls Tryz.prog 178 #[.int .i32 r] w fun e w' => e = .returned (unescR r) ∧ w = w' := by
  rcases (show r = 110 ∨ r = 34 ∨ r = 92 ∨ (r ≠ 110 ∧ r ≠ 34 ∧ r ≠ 92) by omega) with rfl | rfl | rfl | ⟨h1, h2, h3⟩
  all_goals
    go_enter Tryz.func178, Tryz.ntmps178
    go_wp2; go_ret2; refine ⟨?_, rfl⟩; unfold unescR; simp [*]
theorem get_drop (s : ByteArray) (i j : Nat) (h : i + j < s.size) : (s.data.toList.drop i)[j]? = some (s.get! (i + j)) := by
  rw [List.getElem?_drop, List.getElem?_eq_getElem (by simpa using h)]; congr 1
  simp [ByteArray.get!, getElem!_pos, h]
theorem decode_bytes (s : ByteArray) (i : Nat) (h : i < s.size) (ha : 128 ≤ (s[i]'h).toNat) :
    1 ≤ (Utf8.decode s i).2 ∧ i + (Utf8.decode s i).2 ≤ s.size ∧ ∀ c ∈ (s.data.toList.drop i).take (Utf8.decode s i).2, 128 ≤ c.toNat := by
  have e0 : (s.get! i).toNat = (s[i]'h).toNat := by simp [ByteArray.get!, getElem!_pos, h]; rfl
  have key : ∀ k, 1 ≤ k → i + k ≤ s.size → (∀ j, j < k → 128 ≤ (s.get! (i + j)).toNat) → 1 ≤ k ∧ i + k ≤ s.size ∧ ∀ c ∈ (s.data.toList.drop i).take k, 128 ≤ c.toNat := by
    intro k h1 h2 h3; refine ⟨h1, h2, fun c hc => ?_⟩; obtain ⟨j, hj, rfl⟩ := List.mem_iff_getElem.1 hc; rw [List.length_take] at hj; have := get_drop s i j (by omega); rw [List.getElem_take]; rw [List.getElem?_eq_getElem (by omega)] at this; rw [Option.some.inj this]; exact h3 j (by omega)
  rw [Lib.decode_at]; unfold Lib.decodeN; rw [e0]; have a0 : ∀ j, j < 1 → 128 ≤ (s.get! (i + j)).toNat := fun j hj => by rw [show j = 0 by omega, Nat.add_zero, e0]; exact ha
  have a1 : (s.get! (i + 1)).toNat / 64 = 2 → ∀ j, j < 2 → 128 ≤ (s.get! (i + j)).toNat := fun q j hj => by
    rcases (show j < 1 ∨ j = 1 by omega) with hj | rfl
    · exact a0 j hj
    · omega
  have a2 : (s.get! (i + 1)).toNat / 64 = 2 → (s.get! (i + 2)).toNat / 64 = 2 → ∀ j, j < 3 → 128 ≤ (s.get! (i + j)).toNat := fun q q2 j hj => by
    rcases (show j < 2 ∨ j = 2 by omega) with hj | rfl
    · exact a1 q j hj
    · omega
  have a3 : (s.get! (i + 1)).toNat / 64 = 2 → (s.get! (i + 2)).toNat / 64 = 2 → (s.get! (i + 3)).toNat / 64 = 2 → ∀ j, j < 4 → 128 ≤ (s.get! (i + j)).toNat := fun q q2 q3 j hj => by
    rcases (show j < 3 ∨ j = 3 by omega) with hj | rfl
    · exact a2 q q2 j hj
    · omega
  repeat' split
  all_goals first
    | (exfalso; omega)
    | exact key 1 (by omega) (by omega) a0
    | exact key 2 (by omega) (by omega) (a1 (by omega))
    | exact key 3 (by omega) (by omega) (a2 (by omega) (by omega))
    | exact key 4 (by omega) (by omega) (a3 (by omega) (by omega) (by omega))
end Go.Proofs.YtmljjpdodcpohaaGreatDoor.Lx

